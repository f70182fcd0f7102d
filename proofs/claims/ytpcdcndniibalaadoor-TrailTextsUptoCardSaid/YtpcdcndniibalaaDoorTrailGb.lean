/- Proved here: what trail.guess answers of a text of no attribute. -/
import Derived.Test.YtpcdcndniibalaaDoorTrailGKit
namespace Go.Proofs.YtpcdcndniibalaaDoor
open Go.RowKit

set_option maxRecDepth 100000 in
set_option maxHeartbeats 4000000 in
theorem guess_bz (s : ByteArray) (w : World) (hL : TLeans w) (hs : s.size ≤ 4194304) (pa pr : ByteArray) (hc : Lib.cut s.data.toList [47, 64] = (pa.data.toList, pr.data.toList, false)) (pp : ByteArray) (hp : Lib.trimSuffix pa.data.toList [47] = pp.data.toList) (L : List ByteArray) (hLL : Lib.splitB ⟨#[47]⟩ 0 (Lib.countB pp ⟨#[47]⟩) pp = L) (N : Nat) (hN : Lib.countB pp ⟨#[47]⟩ = N) (hn : N = 0) :
    Calls Tryd.prog 22 #[.string s] w (GuessPost w ⟨(L.drop 1).map (fun x => atoiV x.data.toList), false, ⟨#[]⟩, ⟨#[]⟩⟩) := by
  have hpa : pa.size ≤ s.size := by have := (cut_len s.data.toList [47, 64]).1; rw [hc] at this; simpa [ba_size] using this
  have hpp : pp.size ≤ pa.size := by have := trim_len pa.data.toList [47]; rw [hp] at this; simpa [ba_size] using this
  have hNle : N ≤ pp.size := by rw [← hN]; exact Lib.countB_le ⟨#[47]⟩ (by decide) pp.size pp (Nat.le_refl _)
  have hLn : L.length = N + 1 := by rw [← hLL]; exact Lib.splitB_all ⟨#[47]⟩ (by decide) 0 _ pp hN ▸ (by rw [hN])
  have hLs : ∀ x ∈ L, x.size ≤ 4194304 := fun x hx => by
    rw [← hLL] at hx
    have := splitB_le _ _ _ _ x hx
    omega
  have LE := Lib.hid (fun W (y : Below w.heap.size w W) => hL.below y)
  have CUT := Lib.hid (fun W (y : Below w.heap.size w W) => cutAt s ⟨#[47, 64]⟩ pa pr false hc W (by omega) (hL.below y).max)
  have TRI := Lib.hid (fun W => trimAt pa ⟨#[47]⟩ pp hp W (by omega))
  have SPL := Lib.hid (fun W (y : Below w.heap.size w W) => splitAt pp L N hLL hN W (by omega) (hL.below y).max)
  have HN := Lib.hid (And.intro hNle (And.intro hLn hLs))
  have hN4 : N ≤ 4194304 := by omega
  clear hc hp hLL hN hL hpa hpp hNle hLn hLs
  subst hn
  have hz1 : (L.drop 1).map (fun x => atoiV x.data.toList) = [] := by
    have := HN.out.2.1
    rw [List.drop_eq_nil_of_le (by omega)]; rfl
  rw [hz1]
  go_enter Tryd.func22, Tryd.ntmps22
  go_wp2_with (fail)
  have hb0 : Below w.heap.size w ((w.alloc (.cells #[.slice none 0 0, .bool false, .string ⟨#[]⟩, .string ⟨#[]⟩] 26)).alloc (.cells #[.slice none 0 0, .bool false, .string ⟨#[]⟩, .string ⟨#[]⟩] 26)) := ((Below.refl _ _).alloc (Nat.le_refl _) _).alloc (by simp) _
  have hk1 := t_two w (.cells #[.slice none 0 0, .bool false, .string ⟨#[]⟩, .string ⟨#[]⟩] 26) (.cells #[.slice none 0 0, .bool false, .string ⟨#[]⟩, .string ⟨#[]⟩] 26)
  have hk0 := t_first w (.cells #[.slice none 0 0, .bool false, .string ⟨#[]⟩, .string ⟨#[]⟩] 26) (.cells #[.slice none 0 0, .bool false, .string ⟨#[]⟩, .string ⟨#[]⟩] 26)
  have hz0 : w.heap.size + 2 ≤ ((w.alloc (.cells #[.slice none 0 0, .bool false, .string ⟨#[]⟩, .string ⟨#[]⟩] 26)).alloc (.cells #[.slice none 0 0, .bool false, .string ⟨#[]⟩, .string ⟨#[]⟩] 26)).heap.size := by simp
  have HB0 := Lib.hid (And.intro hb0 (And.intro hk1 (And.intro hk0 hz0)))
  clear hb0 hk1 hk0 hz0
  refine (CUT.out _ HB0.out.1).mono ?_
  rintro e w1 ⟨rfl, n1, rfl⟩
  have HB1 := Lib.hid (St0.of HB0.out n1)
  clear HB0
  generalize World.drewN ((w.alloc _).alloc _) n1 = w1 at *
  go_wp2_with (fail)
  refine (TRI.out _).mono ?_
  rintro e w7 ⟨rfl, rfl⟩
  go_wp2_with (fail)
  refine (SPL.out _ HB1.out.below).mono ?_
  rintro e w8 ⟨rfl, rfl⟩
  have HS := Lib.hid (HB1.out.split L)
  have hQ : w.heap.size + 2 ≤ w7.heap.size := HB1.out.size
  have hzz := heap_alloc_size w7 (.cells ((L.map Value.string).toArray) 9)
  obtain ⟨Q, hQe⟩ : ∃ Q, w7.heap.size = Q := ⟨_, rfl⟩
  rw [hQe] at HS hQ hzz ⊢
  generalize w7.alloc (.cells ((L.map Value.string).toArray) 9) = w9 at *
  clear HB1 hQe
  go_wp2_with (fail)
  go_loopw [41] (fun v wr => v = .int .i64 0 ∧ Hid (Makes wr (Q + 1) (w.heap.size + 1) false ⟨#[]⟩ ⟨#[]⟩ []) ∧ Hid (Goes (Q + 1) (w.heap.size + 1) w9 wr)) (fun v _ => 0)
  case atStart => exact ⟨rfl, Lib.hid HS.out.makes, Lib.hid (Goes.refl _ _ _)⟩
  case round =>
    obtain ⟨rfl, HMK, HG⟩ := hrel
    have hB3 : Q + 1 ≤ wr.heap.size := by have := HG.out.2.2.2.1; rw [hzz] at this; exact this
    obtain ⟨q, c, hblk, hown⟩ := HMK.out
    have hres := (HG.out.2.2.2.2 w.heap.size (by omega) (by omega)).trans HS.out.res
    have hll : ([] : List Int).length = 0 := by rfl
    have hbl := HS.out.below.trans ((HG.out.to_below (by omega)).mono (Nat.le_succ _))
    have hP := guess_post hown hres hblk hbl (by omega) (by rw [hll]; omega)
    rw [hll] at hblk hP
    obtain ⟨⟨c0, c1, c2, c3⟩, -⟩ := t_cells hblk
    obtain ⟨-, ⟨f0, f1, f2, f3⟩⟩ := t_cells hres
    obtain ⟨hP1, d0⟩ := hP
    have HP := Lib.hid hP1
    have HR4 := Lib.hid d0
    have r0 := (t_cells hres).1.1
    have r1 := (t_cells hres).1.2.1
    have r2 := (t_cells hres).1.2.2.1
    have r3 := (t_cells hres).1.2.2.2
    clear hblk hres hP1 hown hbl hB3 hll d0
    go_wp2_with (fail)
    change bodyPost _ _ _ _ _ (setT wr w.heap.size (.slice q 0 c) (.bool false) (.string ⟨#[]⟩) (.string ⟨#[]⟩))
    refine bodyPost_ret (v := .agg #[.slice q 0 c, .bool false, .string ⟨#[]⟩, .string ⟨#[]⟩]) ?_ rfl ?_
    · exact results_cell_row rfl _ _ w.heap.size _ _ _ _ (by go_simp) HR4.out Tryd.underlying26 rfl (by kernel_rfl)
    · exact HP.out
set_option maxRecDepth 100000 in
set_option maxHeartbeats 4000000 in
theorem guess_bs (s : ByteArray) (w : World) (hL : TLeans w) (hs : s.size ≤ 4194304) (pa pr : ByteArray) (hc : Lib.cut s.data.toList [47, 64] = (pa.data.toList, pr.data.toList, false)) (pp : ByteArray) (hp : Lib.trimSuffix pa.data.toList [47] = pp.data.toList) (L : List ByteArray) (hLL : Lib.splitB ⟨#[47]⟩ 0 (Lib.countB pp ⟨#[47]⟩) pp = L) (N : Nat) (hN : Lib.countB pp ⟨#[47]⟩ = N) (hn : ¬ N = 0) :
    Calls Tryd.prog 22 #[.string s] w (GuessPost w ⟨(L.drop 1).map (fun x => atoiV x.data.toList), false, ⟨#[]⟩, ⟨#[]⟩⟩) := by
  have hpa : pa.size ≤ s.size := by have := (cut_len s.data.toList [47, 64]).1; rw [hc] at this; simpa [ba_size] using this
  have hpp : pp.size ≤ pa.size := by have := trim_len pa.data.toList [47]; rw [hp] at this; simpa [ba_size] using this
  have hNle : N ≤ pp.size := by rw [← hN]; exact Lib.countB_le ⟨#[47]⟩ (by decide) pp.size pp (Nat.le_refl _)
  have hLn : L.length = N + 1 := by rw [← hLL]; exact Lib.splitB_all ⟨#[47]⟩ (by decide) 0 _ pp hN ▸ (by rw [hN])
  have hLs : ∀ x ∈ L, x.size ≤ 4194304 := fun x hx => by
    rw [← hLL] at hx
    have := splitB_le _ _ _ _ x hx
    omega
  have LE := Lib.hid (fun W (y : Below w.heap.size w W) => hL.below y)
  have CUT := Lib.hid (fun W (y : Below w.heap.size w W) => cutAt s ⟨#[47, 64]⟩ pa pr false hc W (by omega) (hL.below y).max)
  have TRI := Lib.hid (fun W => trimAt pa ⟨#[47]⟩ pp hp W (by omega))
  have SPL := Lib.hid (fun W (y : Below w.heap.size w W) => splitAt pp L N hLL hN W (by omega) (hL.below y).max)
  have HN := Lib.hid (And.intro hNle (And.intro hLn hLs))
  have hN4 : N ≤ 4194304 := by omega
  clear hc hp hLL hN hL hpa hpp hNle hLn hLs
  go_enter Tryd.func22, Tryd.ntmps22
  go_wp2_with (fail)
  have hb0 : Below w.heap.size w ((w.alloc (.cells #[.slice none 0 0, .bool false, .string ⟨#[]⟩, .string ⟨#[]⟩] 26)).alloc (.cells #[.slice none 0 0, .bool false, .string ⟨#[]⟩, .string ⟨#[]⟩] 26)) := ((Below.refl _ _).alloc (Nat.le_refl _) _).alloc (by simp) _
  have hk1 := t_two w (.cells #[.slice none 0 0, .bool false, .string ⟨#[]⟩, .string ⟨#[]⟩] 26) (.cells #[.slice none 0 0, .bool false, .string ⟨#[]⟩, .string ⟨#[]⟩] 26)
  have hk0 := t_first w (.cells #[.slice none 0 0, .bool false, .string ⟨#[]⟩, .string ⟨#[]⟩] 26) (.cells #[.slice none 0 0, .bool false, .string ⟨#[]⟩, .string ⟨#[]⟩] 26)
  have hz0 : w.heap.size + 2 ≤ ((w.alloc (.cells #[.slice none 0 0, .bool false, .string ⟨#[]⟩, .string ⟨#[]⟩] 26)).alloc (.cells #[.slice none 0 0, .bool false, .string ⟨#[]⟩, .string ⟨#[]⟩] 26)).heap.size := by simp
  have HB0 := Lib.hid (And.intro hb0 (And.intro hk1 (And.intro hk0 hz0)))
  clear hb0 hk1 hk0 hz0
  refine (CUT.out _ HB0.out.1).mono ?_
  rintro e w1 ⟨rfl, n1, rfl⟩
  have HB1 := Lib.hid (St0.of HB0.out n1)
  clear HB0
  generalize World.drewN ((w.alloc _).alloc _) n1 = w1 at *
  go_wp2_with (fail)
  refine (TRI.out _).mono ?_
  rintro e w7 ⟨rfl, rfl⟩
  go_wp2_with (fail)
  refine (SPL.out _ HB1.out.below).mono ?_
  rintro e w8 ⟨rfl, rfl⟩
  have HS := Lib.hid (HB1.out.split L)
  have hQ : w.heap.size + 2 ≤ w7.heap.size := HB1.out.size
  have hzz := heap_alloc_size w7 (.cells ((L.map Value.string).toArray) 9)
  obtain ⟨Q, hQe⟩ : ∃ Q, w7.heap.size = Q := ⟨_, rfl⟩
  rw [hQe] at HS hQ hzz ⊢
  generalize w7.alloc (.cells ((L.map Value.string).toArray) 9) = w9 at *
  clear HB1 hQe
  have g1 : (1 : Int) ≤ (N : Int) + 1 := by omega
  have g2 : ¬ N + 1 = 1 := by omega
  have g3 : ¬ 1 = N + 1 := by omega
  have g4 : ((N + 1 : Nat) : Int) - 1 = (N : Int) := by omega
  go_wp2_with (fail)
  go_loopw [41] (fun v wr => ∃ k : Nat, v = .int .i64 (k : Int) ∧ k ≤ N ∧ Hid (Makes wr (Q + 1) (w.heap.size + 1) false ⟨#[]⟩ ⟨#[]⟩ (((L.drop 1).take k).map (fun x => atoiV x.data.toList))) ∧ Hid (Goes (Q + 1) (w.heap.size + 1) w9 wr)) (fun v _ => N - (intOf v).toNat)
  case atStart => exact ⟨0, rfl, Nat.zero_le _, Lib.hid HS.out.makes, Lib.hid (Goes.refl _ _ _)⟩
  case round =>
    obtain ⟨k, rfl, hk, HMK, HG⟩ := hrel
    by_cases hlt : k < N
    · have hlt1 : k + 1 < L.length := by rw [HN.out.2.1]; omega
      have x0 : wr.cell? ⟨Q, 1 + k, none⟩ = some (.string (L.getD (k + 1) ⟨#[]⟩)) := HG.out.cell (by simp) (by simp; omega) (by rw [Nat.add_comm]; exact HS.out.word hlt1)
      have hsz := HN.out.2.2 _ (getD_mem hlt1)
      have htk := take_one hlt1
      generalize L.getD (k + 1) ⟨#[]⟩ = z at *
      have g5 : (k : Int) < (N : Int) := by omega
      have AT := Lib.hid (atoi_any z wr (LE.out wr (HS.out.below.trans ((HG.out.to_below (by omega)).mono (by omega)))) (by omega))
      have HT := Lib.hid htk
      clear hlt1 htk hsz
      go_wp2_with (fail)
      refine AT.out.mono ?_
      rintro e w3 ⟨ev, rfl, hb3⟩
      have hB3 : Q + 1 ≤ wr.heap.size := by have := HG.out.2.2.2.1; rw [hzz] at this; exact this
      have hB4 : Q + 1 ≤ w3.heap.size := Nat.le_trans hB3 hb3.size
      have hmk := HMK.out.far hb3 (by omega)
      obtain ⟨q, c, hblk, hown⟩ := hmk
      have hll : (((L.drop 1).take k).map (fun x => atoiV x.data.toList)).length = k := by rw [List.length_map, List.length_take, List.length_drop]; have := HN.out.2.1; omega
      obtain ⟨g, cap, w4, hrun, hown4, hgrow⟩ := appendI_one (x := atoiV z.data.toList) hown hB4 (by rw [hll]; omega)
      have hblk4 := own_apart hgrow hown hblk (by omega)
      have hg3 := HG.out.below hb3 hB3
      have hg4 := hg3.grown hown hgrow hB4
      rw [hll] at hblk hrun hblk4
      obtain ⟨⟨c0, c1, c2, c3⟩, -⟩ := t_cells hblk
      obtain ⟨⟨d0, d1, d2, d3⟩, ⟨f0, f1, f2, f3⟩⟩ := t_cells hblk4
      have HR := Lib.hid hrun
      have HOW := Lib.hid (And.intro hown4 (And.intro hg4 hblk4))
      generalize atoiV z.data.toList = x at *
      clear hrun hown4 hg4 hgrow hb3 hblk hblk4 hown hll hB3 hB4 hg3 x0
      go_wp2_with (at_builtin; refine t_append_eq rfl _ _ _ rfl _ _ _ _ rfl rfl HR.out ?_)
      go_roundw
      case rel =>
        go_light
        refine ⟨k + 1, by go_num, by omega, Lib.hid ?_, Lib.hid ((HOW.out.2.1).setCell 0 _)⟩
        rw [← HT.out]
        exact Makes.next HOW.out.1 HOW.out.2.2 (by omega) (by have := HN.out.2.1; simp; omega)
      case measure => simp [intOf]; omega
    · obtain rfl : k = N := by omega
      rw [List.take_of_length_le (by rw [List.length_drop, HN.out.2.1]; omega)] at HMK
      have hB3 : Q + 1 ≤ wr.heap.size := by have := HG.out.2.2.2.1; rw [hzz] at this; exact this
      obtain ⟨q, c, hblk, hown⟩ := HMK.out
      have hres := (HG.out.2.2.2.2 w.heap.size (by omega) (by omega)).trans HS.out.res
      have hll : ((L.drop 1).map (fun x => atoiV x.data.toList)).length = k := by rw [List.length_map, List.length_drop]; have := HN.out.2.1; omega
      have hbl := HS.out.below.trans ((HG.out.to_below (by omega)).mono (Nat.le_succ _))
      have hP := guess_post hown hres hblk hbl (by omega) (by rw [hll]; omega)
      rw [hll] at hblk hP
      obtain ⟨⟨c0, c1, c2, c3⟩, -⟩ := t_cells hblk
      obtain ⟨-, ⟨f0, f1, f2, f3⟩⟩ := t_cells hres
      obtain ⟨hP1, d0⟩ := hP
      have HP := Lib.hid hP1
      have HR4 := Lib.hid d0
      have r0 := (t_cells hres).1.1
      have r1 := (t_cells hres).1.2.1
      have r2 := (t_cells hres).1.2.2.1
      have r3 := (t_cells hres).1.2.2.2
      clear hblk hres hP1 hown hbl hB3 hll d0
      go_wp2_with (fail)
      change bodyPost _ _ _ _ _ (setT wr w.heap.size (.slice q k c) (.bool false) (.string ⟨#[]⟩) (.string ⟨#[]⟩))
      refine bodyPost_ret (v := .agg #[.slice q k c, .bool false, .string ⟨#[]⟩, .string ⟨#[]⟩]) ?_ rfl ?_
      · exact results_cell_row rfl _ _ w.heap.size _ _ _ _ (by go_simp) HR4.out Tryd.underlying26 rfl (by kernel_rfl)
      · exact HP.out
end Go.Proofs.YtpcdcndniibalaaDoor
