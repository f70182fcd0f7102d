/- Proved here: a step of a script, played by the program's drum and by the document's: they answer the same, and stay of one mind. -/
import Derived.Test.YtlkffignbjpfcaaQlWrite
import Derived.Test.YtlkffignbjpfcaaDrumOps
import Derived.Test.YtlkffignbjpfcaaDrumDown
import Derived.Deep.DeepCutAuto
import Derived.Deep.RegionHeld3
import Derived.Deep.QuietTactic
import Derived.BigQuiet
import Derived.Deep.CutBlock
namespace Go.Proofs.Ytlkffignbjpfcaa
open Go.RowKit

theorem below_drewN2 {B : Nat} {a w : World} {n : Nat} (h : Below B a w) : Below B a (w.drewN n) := ⟨h.os, h.tape, h.output, h.size, h.block⟩
theorem same_nil (w : World) : Calls Try.prog 21 #[.slice none 0 0, .slice none 0 0] w fun e w' => e = .returned (.bool true) ∧ w = w' :=
  (same_any none none ⟨#[]⟩ ⟨#[]⟩ 0 0 w (fun h => absurd h (by decide)) (fun h => absurd h (by decide))).mono fun e w' ⟨h1, h2⟩ => ⟨by rw [h1]; rfl, h2⟩
theorem there_set {w : World} {g n : Nat} (h : w.there g 0 n) (o : Nat) (v : Value) : (w.setCell ⟨g, o, none⟩ v).there g 0 n := World.there_setCells h g o [v]
theorem owns_there {w : World} {B g cap : Nat} {s : ByteArray} (h : Owns w B g cap s) : w.there g 0 s.size := fun j hj => by
  obtain ⟨b, off, e, hc⟩ := h.holds (by omega)
  injection e with e
  injection e with e1 e2
  subst e1 e2
  refine ⟨by rw [hc j hj]; rfl, ?_⟩
  rw [Nat.zero_add]
  exact World.ownsRow.frozenAt h.1 j
theorem plT {F X : Nat → Prop} {R : Nat} {W a b : World} (h : Touch (Mut F R) W a) (t : Touch X a b) (hX : ∀ k, X k → F k ∨ k = R ∨ (W.heap.size ≤ k ∧ k < a.heap.size)) : Touch (Mut F R) W b :=
  h.trans t (fun k hk => by
    rcases hX k hk with h1 | h1 | h1
    · exact .inl (.inl h1)
    · exact .inl (.inr h1)
    · exact .inr h1)
def PlCutT (w W : World) (E F : Nat → Prop) (G R N b : Nat) (wx : World) : Prop := ∃ F' M', PS w wx E F' G R N M' ∧ Small M' b ∧ Touch (Mut F R) W wx ∧ ∀ k, F' k → Grow F W wx k
set_option maxRecDepth 100000 in
set_option maxHeartbeats 64000000 in
theorem plays_touch (w W : World) (E F : Nat → Prop) (G R N b : Nat) (M : DM) (kind n : Int) (pa ka : Option Addr) (s : ByteArray) (keep : List Bool) (pc kc : Nat) (h : PS w W E F G R N M) (hb : b ≤ 2000) (hs : Small M b)
    (hB : HoldsB w pa s) (hpn : pa = none → pc = 0) (hsz : s.size ≤ 140737488351232) (hK : HoldsT w ka keep) (hkn : ka = none → kc = 0) (hkz : keep.length ≤ 140737488351232) (hn : -9223372036854775808 ≤ n ∧ n ≤ 9223372036854775807) :
    Calls Try.prog 8 #[.pointer (some ⟨G, 0, none⟩), .pointer (some ⟨R, 0, none⟩), .agg #[.int .i64 kind, .int .i64 n, .slice pa s.size pc, .slice ka keep.length kc]] W fun e W' => e = .returned (.bool true) ∧ ∃ F' M', PS w W' E F' G R N M' ∧ Small M' (b + 1) ∧ Touch (Mut F R) W W' ∧ ∀ k, F' k → Grow F W W' k := by
  have H := Lib.hid (And.intro h hs)
  have HB := Lib.hid (And.intro hB (And.intro hpn hsz))
  have HK := Lib.hid (And.intro hK (And.intro hkn hkz))
  have HT := Lib.hid (hs.tame (by omega))
  have HTS := Lib.hid (hs.step.tame (by omega))
  have HBB := Lib.hid hb
  clear h hs hB hpn hsz hK hkn hkz hb
  obtain ⟨kl, hkl⟩ : ∃ kl, keep.length = kl := ⟨_, rfl⟩
  rw [hkl]
  have HKL := Lib.hid hkl
  clear hkl
  go_enter Try.func8, Try.ntmps8
  go_upto_block 0 with (fail)
  go_cut [6] (fun v6 wx => v6 = .bool false ∧ ∃ wz, wz = wx ∧ Hid (PlCutT w W E F G R N (b + 1) wz))
  case first =>
    have hHF : ¬ F W.heap.size := H.out.1.d.new (Nat.le_refl _)
    have P1 := Lib.hid (H.out.1.on ((Below.refl _ _).alloc (Nat.le_refl _) (.cells #[.int .i64 kind, .int .i64 n, .slice pa s.size pc, .slice ka kl kc] 36)))
    have TU := Lib.hid (show Touch (Mut F R) W (W.alloc (.cells #[.int .i64 kind, .int .i64 n, .slice pa s.size pc, .slice ka kl kc] 36)) from Touch.of_below ((Below.refl _ _).alloc (Nat.le_refl _) _))
    have HH := Lib.hid hHF
    clear hHF
    by_cases hk0 : kind = 0
    · subst hk0
      by_cases hnr : 0 ≤ n ∧ n < N
      · obtain ⟨n1, rfl⟩ : ∃ n1 : Nat, n = (n1 : Int) := ⟨n.toNat, by omega⟩
        have hnN : n1 < N := by omega
        by_cases hoff : M.off = true
        · have HO := Lib.hid hoff
          clear hoff
          go_wp2_with (fail)
          refine (dread_off P1.out.d HT.out HO.out n1 hnN).mono ?_
          rintro e w7 ⟨rfl, hN, ht⟩
          have hh := P1.out.half hN (ht.mono (only_F P1.out.d.drum.fG)) (fun k hk => .inl hk)
          have H7 := Lib.hid (And.intro hN hh)
          have c7 : w7.cell? ⟨W.heap.size, 1, none⟩ = some (.int .i64 (n1 : Int)) := (World.cell?_of_block (w := W.alloc (.cells #[.int .i64 0, .int .i64 (n1 : Int), .slice pa s.size pc, .slice ka kl kc] 36)) (ht.block W.heap.size (by simp) (fun e => HH.out (by have e' : W.heap.size = G := e; rw [e']; exact P1.out.d.drum.fG)))).trans (by rw [cell_of_row _ _ _ _ _ _ (heap_alloc_new W _)]; rfl)
          have T7 := Lib.hid (plT TU.out ht (by intro k hk; first | exact .inl hk | exact .inl (only_F P1.out.d.drum.fG k hk)))
          clear hN ht hh
          go_wp2_with (fail)
          refine (rread_off w7 (Mue E F R) R N M H7.out.2.1 (.inl (.inr rfl)) HO.out n1 hnN).mono ?_
          rintro e w8 ⟨rfl, hN, ht⟩
          have H8 := Lib.hid (PS.both H7.out.1 hN P1.out.nf P1.out.at_ ht)
          have T8 := Lib.hid (plT T7.out ht (fun k hk => .inr (.inl hk)))
          clear hN ht
          go_wp2_with (refine (same_nil _).mono ?_; rintro e w' ⟨rfl, rfl⟩)
          go_loop [44] (fun v => v = .int .i64 0) (fun _ => 0)
          case atStart => rfl
          case round =>
            subst hrel
            go_wp2_with (fail)
            go_meet
            exact ⟨rfl, _, rfl, Lib.hid ⟨F, M.step, H8.out, H.out.2.step, T8.out, fun k hk => .inl hk⟩⟩
        · have HO := Lib.hid (show M.off = false by simpa using hoff)
          clear hoff
          go_wp2_with (fail)
          refine (dread_ok P1.out.d HT.out HO.out n1 hnN).mono ?_
          rintro e w7 ⟨g, rfl, hN, ho, hs64, hgF, ht⟩
          obtain ⟨row, hrow⟩ : ∃ row, M.now.getD n1 ⟨#[]⟩ = row := ⟨_, rfl⟩
          rw [hrow] at ho hs64
          have hGF := P1.out.d.drum.fG
          have hRl := P1.out.r.rlt
          have hg1 := ho.2.1
          have hg2 := ho.2.2.1
          have hgR : g ≠ R := by omega
          have hr7 : RDrum w7 (fun k => Mue E F R k ∨ k = g) R N M := P1.out.r.touch (Y := Only G) ht (fun k e => .inl (.inl (by have e' : k = G := e; rw [e']; exact hGF))) (ht.block R hRl (fun e => P1.out.nf (by have e' : R = G := e; rw [e']; exact hGF))) (fun k hk => by
            rcases hk with hk | rfl
            · exact .inl hk
            · exact .inr ⟨hg1, hg2⟩) (fun k hk => by
            rcases hk with hk | rfl
            · exact Nat.lt_of_lt_of_le (P1.out.r.lt k hk) ht.size
            · exact hg2)
          have c7 : w7.cell? ⟨W.heap.size, 1, none⟩ = some (.int .i64 (n1 : Int)) := (World.cell?_of_block (w := W.alloc (.cells #[.int .i64 0, .int .i64 (n1 : Int), .slice pa s.size pc, .slice ka kl kc] 36)) (ht.block W.heap.size (by simp) (fun e => HH.out (by have e' : W.heap.size = G := e; rw [e']; exact hGF)))).trans (by rw [cell_of_row _ _ _ _ _ _ (heap_alloc_new W _)]; rfl)
          have H7 := Lib.hid (And.intro hN (And.intro hr7 (And.intro ho (And.intro hs64 (And.intro hgF (And.intro hgR hrow))))))
          have T7 := Lib.hid (plT TU.out ht (by intro k hk; first | exact .inl hk | exact .inl (only_F P1.out.d.drum.fG k hk)))
          clear hN ho hs64 hgF ht hGF hRl hg2 hgR hr7 hrow
          go_wp2_with (fail)
          refine (rread_ok w7 (fun k => Mue E F R k ∨ k = g) R N M H7.out.2.1 (.inl (.inl (.inr rfl))) HT.out HO.out n1 hnN).mono ?_
          rintro e w8 ⟨g2, cap2, rfl, hB8, hs8, hg8, hr8, ht8⟩
          rw [H7.out.2.2.2.2.2.2] at hB8 hs8
          have hgR := H7.out.2.2.2.2.2.1
          have ho8 : w8.heap[g]? = w7.heap[g]? := ht8.block g H7.out.2.2.1.2.2.1 (fun e => hgR e)
          have hb8 : HoldsB w8 (some ⟨g, 0, none⟩) row := H7.out.2.2.1.holds.touch ht8 (fun a e => by injection e with e; rw [← e]; exact fun e' => hgR e')
          have hth : w8.there g 0 64 := by
            have := owns_there H7.out.2.2.1
            rw [H7.out.2.2.2.1] at this
            exact there_block this ho8
          have SM := same_any (some ⟨g, 0, none⟩) (some ⟨g2, 0, none⟩) row row 64 cap2 w8 hb8 hB8
          rw [hs8, decide_eq_true rfl] at SM
          have SX := Lib.hid SM
          have HTH := Lib.hid hth
          have hd8 : DW w w8 F G N M.step := (PS.both H7.out.1 (hr8.touch (Y := fun _ => False) (Touch.refl _ _) (fun _ hf => hf.elim) rfl (fun k hk => .inl (.inl hk)) (fun k hk => hr8.lt k (.inl hk))) P1.out.nf P1.out.at_ ht8).d
          have HEND := Lib.hid (fun W' (t : Touch (Only g) w8 W') => PS.end_ hd8 hr8 P1.out.nf P1.out.at_ (Nat.le_trans P1.out.d.below.size hg1) H7.out.2.2.2.2.1 hgR t)
          have T8 := Lib.hid (plT T7.out ht8 (fun k hk => .inr (.inl hk)))
          have HGB := Lib.hid (show W.heap.size ≤ g ∧ g < w8.heap.size from ⟨Nat.le_trans TU.out.size hg1, Nat.lt_of_lt_of_le H7.out.2.2.1.2.2.1 ht8.size⟩)
          clear hB8 hs8 hg8 hr8 ht8 hgR ho8 hb8 hth SM hd8 hg1
          go_wp2_with (refine (SX.out).mono ?_; rintro e w' ⟨rfl, rfl⟩)
          go_loopw [44] (fun v wr => ∃ j : Nat, v = .int .i64 (j : Int) ∧ j ≤ 64 ∧ Hid (Touch (Only g) w8 wr ∧ wr.there g 0 64)) (fun v _ => 64 - (intOf v).toNat)
          case atStart => exact ⟨0, rfl, Nat.zero_le _, Lib.hid ⟨Touch.refl _ _, HTH.out⟩⟩
          case round =>
            obtain ⟨j, rfl, hj, HR⟩ := hrel
            by_cases hlt : j < 64
            · have HJ := Lib.hid hlt
              obtain ⟨u, hu⟩ := Option.isSome_iff_exists.1 (HR.out.2 j hlt).1
              have hf := (HR.out.2 j hlt).2
              rw [Nat.zero_add] at hu hf
              have hlt' : (j : Int) < (64 : Int) := by omega
              have hcap : (j : Int) < (64 : Int) := by omega
              go_wp2_with (fail)
              go_round
              case rel => exact ⟨j + 1, by go_num, by have := HJ.out; omega, Lib.hid ⟨HR.out.1.set1 _, there_set HR.out.2 j _⟩⟩
              case measure => have := HJ.out; simp [intOf]; omega
            · obtain rfl : j = 64 := by omega
              go_wp2_with (fail)
              go_meet
              exact ⟨rfl, _, rfl, Lib.hid ⟨F, M.step, HEND.out _ HR.out.1, H.out.2.step, plT T8.out HR.out.1 (fun k hk => .inr (.inr (by have e : k = g := hk; rw [e]; exact HGB.out))), fun k hk => .inl hk⟩⟩
      · go_wp2_with (fail)
        refine (read_arg _ F G N M P1.out.d.drum n (by omega)).mono ?_
        rintro e w' ⟨rfl, rfl⟩
        go_wp2_with (fail)
        refine (rread_arg _ (Mue E F R) R N M P1.out.r n (by omega)).mono ?_
        rintro e w' ⟨rfl, rfl⟩
        go_wp2_with (refine (same_nil _).mono ?_; rintro e w' ⟨rfl, rfl⟩)
        go_loop [44] (fun v => v = .int .i64 0) (fun _ => 0)
        case atStart => rfl
        case round =>
          subst hrel
          go_wp2_with (fail)
          go_meet
          exact ⟨rfl, _, rfl, Lib.hid ⟨F, M, P1.out, H.out.2.mono (by omega), TU.out, fun k hk => .inl hk⟩⟩
    · by_cases hk1 : kind = 1
      · subst hk1
        obtain ⟨cd, M2, hcd0, hcd9, hs2, hWD, hWR⟩ := writes_any w F G R N b M H.out.2 HBB.out n s
        have HS2 := Lib.hid hs2
        have HWD := Lib.hid hWD
        have HWR := Lib.hid hWR
        have HB1 := Lib.hid (show HoldsB (W.alloc (.cells #[.int .i64 1, .int .i64 n, .slice pa s.size pc, .slice ka kl kc] 36)) pa s from HB.out.1.below P1.out.d.below)
        clear hs2 hWD hWR
        go_wp2_with (fail)
        refine (spare_any pa s pc _ (by have := HB.out.2.2; omega) HB1.out HB.out.2.1).mono ?_
        rintro e w5 ⟨g, cap, rfl, ho, hb5⟩
        have d1 : w5.cell? ⟨W.heap.size, 1, none⟩ = some (.int .i64 n) := hb_cell hb5 (by rw [cell_of_row _ _ _ _ _ _ (heap_alloc_new W _)]; rfl)
        have d2 : w5.cell? ⟨W.heap.size, 2, none⟩ = some (.slice pa s.size pc) := hb_cell hb5 (by rw [cell_of_row _ _ _ _ _ _ (heap_alloc_new W _)]; rfl)
        have hgB := ho.2.1
        have hR5 : R < w5.heap.size := Nat.lt_of_lt_of_le P1.out.r.rlt hb5.size
        have hgR : g ≠ R := by have := P1.out.r.rlt; omega
        have hgF : ¬ F g := P1.out.d.new hgB
        have hHR : W.heap.size ≠ R := by have := H.out.1.r.rlt; omega
        have hwg : w.heap.size ≤ g := Nat.le_trans P1.out.d.below.size hgB
        have hr5 : RDrum w5 (fun k => Mue E F R k ∨ k = g) R N M := P1.out.r.weak hb5 (fun k hk => hk.elim .inl (fun e => .inr ⟨by rw [e]; exact ho.2.1, by rw [e]; exact ho.2.2.1⟩))
        have D5 := Lib.hid ((P1.out.on hb5).on ((Below.refl _ _).drew))
        have R5 := Lib.hid (hr5.weak ((Below.refl _ _).drew) (fun _ hk => .inl hk))
        have O5 := Lib.hid (show Owns w5.drew _ g cap (s ++ ⟨#[165]⟩) from ho.far ((Below.refl _ _).drew))
        have HG := Lib.hid (And.intro hgR (And.intro hgF (And.intro hHR hwg)))
        have KB := Lib.hid (fun (x y : World) (hs : x.cell? ⟨W.heap.size, 1, none⟩ = some (.int .i64 n) ∧ x.cell? ⟨W.heap.size, 2, none⟩ = some (.slice pa s.size pc)) (h : Below x.heap.size x y) => show y.cell? ⟨W.heap.size, 1, none⟩ = some (.int .i64 n) ∧ y.cell? ⟨W.heap.size, 2, none⟩ = some (.slice pa s.size pc) from ⟨hb_cell h hs.1, hb_cell h hs.2⟩)
        have KT := Lib.hid (fun (Y : Nat → Prop) (hY : ¬ Y W.heap.size) (x y : World) (hs : x.cell? ⟨W.heap.size, 1, none⟩ = some (.int .i64 n) ∧ x.cell? ⟨W.heap.size, 2, none⟩ = some (.slice pa s.size pc)) (h : Touch Y x y) => show y.cell? ⟨W.heap.size, 1, none⟩ = some (.int .i64 n) ∧ y.cell? ⟨W.heap.size, 2, none⟩ = some (.slice pa s.size pc) from ⟨(World.cell?_of_block (w := x) (h.block W.heap.size (World.block_lt_of_cell? x _ hs.1) hY)).trans hs.1, (World.cell?_of_block (w := x) (h.block W.heap.size (World.block_lt_of_cell? x _ hs.1) hY)).trans hs.2⟩)
        have T5 := Lib.hid (plT TU.out ((Touch.of_below (F := F) hb5).drew) (fun k hk => .inl hk))
        have HGB := Lib.hid (show W.heap.size ≤ g ∧ g < w5.heap.size from ⟨Nat.le_trans TU.out.size hgB, ho.2.2.1⟩)
        clear ho hb5 hgB hR5 hgR hgF hHR hr5 hwg
        go_wp2_with (fail)
        go_region_held3 (fun w' => w'.cell? ⟨W.heap.size, 1, none⟩ = some (.int .i64 n) ∧ w'.cell? ⟨W.heap.size, 2, none⟩ = some (.slice pa s.size pc)) (first | assumption | exact KT.out _ HH.out _ _ (by assumption) ht6 | exact KB.out _ _ (by assumption) hb7 | exact KT.out _ HG.out.2.2.1 _ _ (by assumption) ht8 | go_keep) (first | (go_at_call 23; refine (HWD.out _ g cap D5.out.d (owns_front O5.out) HG.out.2.1).mono ?_; rintro e w6 ⟨rfl, F2, hN, ht6, hG6⟩) | (go_at_call 30; refine (twin_any pa s pc _ (by have := HB.out.2.2; omega) (HB.out.1.below hN.below) HB.out.2.1).mono ?_; rintro e w7 ⟨g7, cap7, rfl, ho7, hb7⟩) | (go_at_call 29; refine (HWR.out _ (fun k => Mue E F2 R k ∨ k = g) (some ⟨g7, 0, none⟩) cap7 ((R5.out.half2 D5.out.nf hN ht6 hG6).1.weak hb7 (fun _ hk => .inl hk)) (.inl (.inl (.inr rfl))) ho7.holds (fun a e => by injection e with e; rw [← e]; exact fun e' => absurd (R5.out.half2 D5.out.nf hN ht6 hG6).1.rlt (by have h7 := ho7.2.1; have e2 : g7 = R := e'; omega))).mono ?_; rintro e w8 ⟨rfl, hr8, ht8⟩) | (go_at_call 31; refine (kept_yes _ g cap pa s pc _ (by have := HB.out.2.2; omega) (written_end D5.out R5.out O5.out HG.out.1 HG.out.2.1 HG.out.2.2.2 hN ht6 hG6 hb7 hr8 ht8).1 (HB.out.1.below (written_end D5.out R5.out O5.out HG.out.1 HG.out.2.1 HG.out.2.2.2 hN ht6 hG6 hb7 hr8 ht8).2.1)).mono ?_; rintro e w9 ⟨rfl, rfl⟩))
        obtain ⟨o8, _, th8, e8⟩ := written_end D5.out R5.out O5.out HG.out.1 HG.out.2.1 HG.out.2.2.2 hN ht6 hG6 hb7 hr8 ht8
        have hcp : s.size ≤ cap := by have h1 := o8.2.2.2; rw [size_push] at h1; omega
        have HEND := Lib.hid e8
        have HTH := Lib.hid th8
        have HCP := Lib.hid hcp
        have T6 := plT T5.out ht6 (fun k hk => .inl hk)
        have T7 := plT T6 (Touch.of_below (F := F) hb7) (fun k hk => .inl hk)
        have T8 := Lib.hid (plT T7 ht8 (fun k hk => .inr (.inl hk)))
        have HG6 := Lib.hid hG6
        have HSZ8 := Lib.hid (And.intro T5.out.size (And.intro (Nat.le_trans hb7.size ht8.size) (Nat.le_trans ht6.size (Nat.le_trans hb7.size ht8.size))))
        clear T6 T7
        clear o8 th8 e8 hN ht6 hG6 hb7 hr8 ht8 ho7 hcp hcd0 hcd9
        have hsz := HB.out.2.2
        go_wp2_with (fail)
        go_loopw [78] (fun v wr => ∃ j : Nat, v = .int .i64 (j : Int) ∧ j ≤ s.size ∧ Hid (Touch (Only g) w8 wr ∧ wr.there g 0 s.size)) (fun v _ => s.size - (intOf v).toNat)
        case atStart => exact ⟨0, rfl, Nat.zero_le _, Lib.hid ⟨Touch.refl _ _, HTH.out⟩⟩
        case round =>
          obtain ⟨j, rfl, hj, HR⟩ := hrel
          by_cases hlt : j < s.size
          · have HJ := Lib.hid hlt
            obtain ⟨u, hu⟩ := Option.isSome_iff_exists.1 (HR.out.2 j hlt).1
            have hf := (HR.out.2 j hlt).2
            rw [Nat.zero_add] at hu hf
            have hlt' : (j : Int) < (s.size : Int) := by omega
            have hcap : (j : Int) < (cap : Int) := by have := HCP.out; omega
            go_wp2_with (fail)
            go_round
            case rel => exact ⟨j + 1, by go_num, by have := HJ.out; omega, Lib.hid ⟨HR.out.1.set1 _, there_set HR.out.2 j _⟩⟩
            case measure => have := HJ.out; simp [intOf]; omega
          · obtain rfl : j = s.size := by omega
            go_wp2_with (fail)
            go_meet
            exact ⟨rfl, _, rfl, Lib.hid ⟨_, _, HEND.out _ HR.out.1, HS2.out, plT T8.out HR.out.1 (fun k hk => .inr (.inr (by
              have e : k = g := hk
              rw [e]
              exact ⟨HGB.out.1, Nat.lt_of_lt_of_le HGB.out.2 HSZ8.out.2.2⟩))), fun k hk => by
              rcases HG6.out k hk with h1 | h1
              · exact .inl h1
              · exact .inr ⟨Nat.le_trans HSZ8.out.1 h1.1, Nat.lt_of_lt_of_le h1.2 (Nat.le_trans HSZ8.out.2.1 HR.out.1.size)⟩⟩⟩
      · by_cases hk2 : kind = 2
        · subst hk2
          by_cases hoff : M.off = true
          · have HO := Lib.hid hoff
            clear hoff
            go_wp2_with (fail)
            refine (dflush_off P1.out.d HT.out HO.out).mono ?_
            rintro e w7 ⟨rfl, hN, ht⟩
            have hh := P1.out.half hN ht (fun k hk => .inl hk)
            have H7 := Lib.hid (And.intro hN hh)
            have T7 := Lib.hid (plT TU.out ht (by intro k hk; first | exact .inl hk | exact .inl (only_F P1.out.d.drum.fG k hk)))
            clear hN ht hh
            go_wp2_with (fail)
            refine (rflush_off w7 (Mue E F R) R N M H7.out.2.1 (.inl (.inr rfl)) HO.out).mono ?_
            rintro e w8 ⟨rfl, hN, ht⟩
            have H8 := Lib.hid (PS.both H7.out.1 hN P1.out.nf P1.out.at_ ht)
            have T8 := Lib.hid (plT T7.out ht (fun k hk => .inr (.inl hk)))
            clear hN ht
            go_wp2_with (fail)
            go_meet
            exact ⟨rfl, _, rfl, Lib.hid ⟨F, M.flush, H8.out, H.out.2.flush, T8.out, fun k hk => .inl hk⟩⟩
          · have HO := Lib.hid (show M.off = false by simpa using hoff)
            clear hoff
            go_wp2_with (fail)
            refine (dflush_ok P1.out.d HT.out HO.out).mono ?_
            rintro e w7 ⟨rfl, hN, ht⟩
            have hh := P1.out.half hN ht (fun k hk => .inl hk)
            have H7 := Lib.hid (And.intro hN hh)
            have T7 := Lib.hid (plT TU.out ht (by intro k hk; first | exact .inl hk | exact .inl (only_F P1.out.d.drum.fG k hk)))
            clear hN ht hh
            go_wp2_with (fail)
            refine (rflush_ok w7 (Mue E F R) R N M H7.out.2.1 (.inl (.inr rfl)) HT.out HTS.out HO.out).mono ?_
            rintro e w8 ⟨rfl, hN, ht⟩
            have H8 := Lib.hid (PS.both H7.out.1 hN P1.out.nf P1.out.at_ ht)
            have T8 := Lib.hid (plT T7.out ht (fun k hk => .inr (.inl hk)))
            clear hN ht
            go_wp2_with (fail)
            go_meet
            exact ⟨rfl, _, rfl, Lib.hid ⟨F, M.flush, H8.out, H.out.2.flush, T8.out, fun k hk => .inl hk⟩⟩
        · by_cases hk3 : kind = 3
          · subst hk3
            by_cases hneg : n < 0
            · go_wp2_with (fail)
              refine (fuse_arg _ G n hneg).mono ?_
              rintro e w' ⟨rfl, rfl⟩
              go_wp2_with (fail)
              go_meet
              exact ⟨rfl, _, rfl, Lib.hid ⟨F, M, P1.out, H.out.2.mono (by omega), TU.out, fun k hk => .inl hk⟩⟩
            · obtain ⟨n1, rfl⟩ : ∃ n1 : Nat, n = (n1 : Int) := ⟨n.toNat, by omega⟩
              have hn0 : (0 : Int) ≤ (n1 : Int) := by omega
              have hneg' : ¬ (n1 : Int) < 0 := by omega
              go_wp2_with (fail)
              refine (dfuse P1.out.d n1).mono ?_
              rintro e w7 ⟨rfl, hN, ht⟩
              have hh := P1.out.half hN (ht.mono (only_F P1.out.d.drum.fG)) (fun k hk => .inl hk)
              have c7 : w7.cell? ⟨W.heap.size, 1, none⟩ = some (.int .i64 (n1 : Int)) := (World.cell?_of_block (w := W.alloc (.cells #[.int .i64 3, .int .i64 (n1 : Int), .slice pa s.size pc, .slice ka kl kc] 36)) (ht.block W.heap.size (by simp) (fun e => HH.out (by have e' : W.heap.size = G := e; rw [e']; exact P1.out.d.drum.fG)))).trans (by rw [cell_of_row _ _ _ _ _ _ (heap_alloc_new W _)]; rfl)
              obtain ⟨s1, q, cS, cL, Vs, Ws, hr⟩ := hh.1
              have c3 := hr.cells.2.2.2.1
              have f3 := hr.cells.2.2.2.2.2 3
              have H7 := Lib.hid (And.intro hN (And.intro hr hh.2))
              have T7 := Lib.hid (plT TU.out ht (by intro k hk; first | exact .inl hk | exact .inl (only_F P1.out.d.drum.fG k hk)))
              clear hN ht hh hr
              generalize fuseZ M.fuse = z at c3
              go_wp2_with (fail)
              go_meet
              have hr8 : RDrum (w7.setCell ⟨R, 3, none⟩ (.int .i64 (n1 : Int))) (Mue E F R) R N (M.fused n1) := ⟨s1, q, cS, cL, Vs, Ws, H7.out.2.1.after (.inl (.inr rfl)) rfl rfl set_other set_size (u_row (k := 3) (.int .i64 (n1 : Int)) H7.out.2.1.blk)⟩
              exact ⟨rfl, _, rfl, Lib.hid ⟨F, M.fused n1, PS.both H7.out.1 hr8 P1.out.nf P1.out.at_ ((Touch.refl _ _).set1 _), (H.out.2.fused (by omega)).mono (by omega), Touch.set (F := Mut F R) T7.out (p := ⟨R, 3, none⟩) (.inr rfl) _, fun k hk => .inl hk⟩⟩
          · by_cases hk4 : kind = 4
            · subst hk4
              obtain ⟨g5, cap5, w5, hr5, hT5, hg5, hb5⟩ := appendT_first (w := W.alloc (.cells #[.int .i64 4, .int .i64 n, .slice pa s.size pc, .slice ka kl kc] 36)) (HK.out.1.below P1.out.d.below) HK.out.2.1 (by have := HK.out.2.2; omega)
              have CR := dcrash (P1.out.d.on hb5) HT.out (some ⟨g5, 0, none⟩) keep cap5 hT5 (by have := HK.out.2.2; omega) (fun a e => by injection e with e; rw [← e]; exact P1.out.d.new hg5)
              have P5 := Lib.hid (P1.out.on hb5)
              have c35 : w5.cell? ⟨W.heap.size, 3, none⟩ = some (.slice ka kl kc) := hb_cell hb5 (by rw [cell_of_row _ _ _ _ _ _ (heap_alloc_new W _)]; rfl)
              have c30 : ((W.alloc (.cells #[.int .i64 4, .int .i64 n, .slice pa s.size pc, .slice ka kl kc] 36)).alloc (.cells #[] 4)).cell? ⟨W.heap.size, 3, none⟩ = some (.slice ka kl kc) := by
                rw [World.cell?_alloc_past _ _ _ (by simp), cell_of_row _ _ _ _ _ _ (heap_alloc_new W _)]; rfl
              have HR5 := Lib.hid hr5
              have HC5 := Lib.hid CR
              have hlt5 : W.heap.size < w5.heap.size := World.block_lt_of_cell? w5 _ c35
              have hr5' := HR5.out
              have CR' := HC5.out
              have hz4 : (W.alloc (.cells #[.int .i64 4, .int .i64 n, .slice pa s.size pc, .slice ka kl kc] 36)).heap.size = W.heap.size + 1 := by simp
              rw [hz4] at hr5'
              clear hz4
              rw [HKL.out] at hr5' CR'
              have HR6 := Lib.hid hr5'
              have HC6 := Lib.hid CR'
              have T5 := Lib.hid (plT TU.out (Touch.of_below (F := F) hb5) (fun k hk => .inl hk))
              clear hr5 hT5 hg5 hb5 CR HR5 HC5 hr5' CR'
              go_wp2_with (at_builtin; refine wpList_append_eq rfl _ _ _ rfl _ _ _ _ rfl rfl HR6.out ?_)
              refine (HC6.out).mono ?_
              rintro e w6 ⟨rfl, hN, ht⟩
              have hh := P5.out.half hN ht (fun k hk => .inl hk)
              have c36 : w6.cell? ⟨W.heap.size, 3, none⟩ = some (.slice ka kl kc) := (World.cell?_of_block (w := w5) (ht.block W.heap.size hlt5 HH.out)).trans c35
              have RC := rcrash_any w6 (Mue E F R) R N M hh.1 (.inl (.inr rfl)) HT.out ka keep kc (HK.out.1.below hN.below) HK.out.2.2
              rw [HKL.out] at RC
              have HRC := Lib.hid RC
              have H6 := Lib.hid hN
              have T6 := Lib.hid (plT T5.out ht (fun k hk => .inl hk))
              clear hN ht hh RC
              go_wp2_with (fail)
              refine (HRC.out).mono ?_
              rintro e w7 ⟨rfl, hr7, t7⟩
              have H7 := Lib.hid (PS.both H6.out hr7 P1.out.nf P1.out.at_ t7)
              have T7 := Lib.hid (plT T6.out t7 (fun k hk => .inr (.inl hk)))
              clear hr7 t7
              go_wp2_with (fail)
              go_meet
              exact ⟨rfl, _, rfl, Lib.hid ⟨F, M.crash keep, H7.out, (H.out.2.crash keep).mono (by omega), T7.out, fun k hk => .inl hk⟩⟩
            · have k0 : (kind == 0) = false := by rw [beq_eq_false_iff_ne]; exact hk0
              have k1 : (kind == 1) = false := by rw [beq_eq_false_iff_ne]; exact hk1
              have k2 : (kind == 2) = false := by rw [beq_eq_false_iff_ne]; exact hk2
              have k3 : (kind == 3) = false := by rw [beq_eq_false_iff_ne]; exact hk3
              have k4 : (kind == 4) = false := by rw [beq_eq_false_iff_ne]; exact hk4
              go_wp2_with (fail)
              go_meet
              exact ⟨rfl, _, rfl, Lib.hid ⟨F, M, P1.out, H.out.2.mono (by omega), TU.out, fun k hk => .inl hk⟩⟩
  case rest =>
    obtain ⟨rfl, wx, rfl, HC⟩ := hcut
    obtain ⟨F', M', hp, hs', ht', hg'⟩ := HC.out
    have HTG := Lib.hid (And.intro ht' hg')
    clear ht' hg'
    obtain ⟨s1, q, cS, cL, Vs, Ws, hr⟩ := hp.r
    obtain ⟨c0, c1, c2, _, c4, _⟩ := hr.cells
    have hdn : ∀ m, Drum (wx.drewN m) F' G N M' := fun m => hp.d.drum.below (below_drewN2 (Below.refl _ _))
    have QL := Lib.hid (fun m => (loose_any (wx.drewN m) F' G N M' (hdn m)).mono (fun e W' hh => (show e = .returned (.int .i64 (M'.loose.length : Int)) ∧ W' = wx.drewN m from ⟨hh.1, hh.2.symm⟩)))
    have QS := Lib.hid (fun m => (steps_any (wx.drewN m) F' G N M' (hdn m)).mono (fun e W' hh => (show e = .returned (.int .i64 (M'.steps : Int)) ∧ W' = wx.drewN m from ⟨hh.1, hh.2.symm⟩)))
    have QD := Lib.hid (fun m => (down_any (wx.drewN m) F' G N M' (hdn m)).mono (fun e W' hh => (show e = .returned (.bool M'.down) ∧ W' = wx.drewN m from ⟨hh.1, hh.2.symm⟩)))
    have QN := Lib.hid (fun m => (sectors_any (wx.drewN m) F' G N M' (hdn m)).mono (fun e W' hh => (show e = .returned (.int .i64 (N : Int)) ∧ W' = wx.drewN m from ⟨hh.1, hh.2.symm⟩)))
    have HPS := Lib.hid (And.intro hp hs')
    generalize M'.loose.length = ll at c1 QL
    generalize M'.steps = st at c2 QS
    generalize M'.down = dn at c4 QD
    clear hdn hp hs' hr HC
    go_wp2_with (fail)
    go_quiet (first | (go_at_call 35; exact Calls.quiet_of_same (QL.out _)) | (go_at_call 26; exact Calls.quiet_of_same (QS.out _)) | (go_at_call 36; exact Calls.quiet_of_same (QD.out _)) | (go_at_call 37; exact Calls.quiet_of_same (QN.out _)))
    go_wp2_with (fail)
    go_ret
    exact ⟨ret_bool (by simp), F', M', HPS.out.1.on (below_drewN2 (Below.refl _ _)), HPS.out.2, plT HTG.out.1 (Touch.of_below (F := F) (below_drewN2 (Below.refl _ _))) (fun k hk => .inl hk), fun k hk => (HTG.out.2 k hk).imp id (fun h1 => ⟨h1.1, Nat.lt_of_lt_of_le h1.2 (Touch.of_below (F := F) (below_drewN2 (Below.refl _ _))).size⟩)⟩
end Go.Proofs.Ytlkffignbjpfcaa
