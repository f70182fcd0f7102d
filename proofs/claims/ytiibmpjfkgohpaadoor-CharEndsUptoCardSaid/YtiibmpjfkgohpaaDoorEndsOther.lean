/- Proved here: the law CharEnds answers true where the first does not end in 13; what was there stays. -/
import Derived.Test.YtiibmpjfkgohpaaDoorEndsHead
namespace Go.Proofs.YtiibmpjfkgohpaaDoor
open Go.RowKit

set_option maxHeartbeats 8000000 in
set_option maxRecDepth 100000 in
theorem charEnds_other (p q : Option Addr) (a b : ByteArray) (c d : Nat) (w : World) (hT : Tabs w) (ha : a.size ≤ 70368744177000) (hb : b.size ≤ 70368744177000) (hp : HoldsB w p a) (hq : HoldsB w q b) (hnp : p = none → c = 0) (hnq : q = none → d = 0) (hsum : linesB (a ++ b) = linesB a ++ linesB b) (ba oa x : Nat) (hz : 0 < a.size) (hzb : 0 < b.size) (hpa : p = some ⟨ba, oa, none⟩) (hca : w.cell? ⟨ba, oa + (a.size - 1), none⟩ = some (.int .u8 (x : Int))) (hx : x ≠ 13) :
    Calls Tryd.prog 11 #[.slice p a.size c, .slice q b.size d] w fun e w' => e = .returned (.bool true) ∧ Below w.heap.size w w' := by
  have A := Lib.hid (awake_any w hT)
  have HP := Lib.hid hp
  have HQ := Lib.hid hq
  have HNP := Lib.hid hnp
  have HNQ := Lib.hid hnq
  have HS := Lib.hid hsum
  clear hsum
  subst hpa
  have f1 : 0 < (a.size : Int) := by omega
  have f2 : 0 < (b.size : Int) := by omega
  have f3 : ((x : Int) == 13) = false := by rw [beq_eq_false_iff_ne]; omega
  have CA := Lib.hid (fun W (h : Below w.heap.size w W) => hb_cell h hca)
  clear hz hzb hx hca
  have HZ := Lib.hid (show (a ++ b).size ≤ 140737488355000 by rw [ByteArray.size_append]; omega)
  have HZ2 := Lib.hid (show a.size + b.size ≤ 140737488355328 by omega)
  have HZ3 := Lib.hid (show (linesB a).size + (linesB b).size ≤ 140737488355328 by have := linesB_size a; have := linesB_size b; omega)
  have HZ4 := Lib.hid (show b.size ≤ 140737488355000 by omega)
  have HZ5 := Lib.hid (show a.size ≤ 140737488355328 by omega)
  have hls := linesB_size a
  have hlh := linesB_half a
  have hlb := linesB_size b
  clear hT hp hq hnp hnq
  go_enter Tryd.func11, Tryd.ntmps11
  go_wp2_with (fail)
  refine A.out.mono ?_
  rintro e w1 ⟨rfl, hB1⟩
  go_wp2_with (fail)
  refine (lines_any _ a c w1 (by omega) (HP.out.below hB1)).mono ?_
  rintro e w2 ⟨gl, cl, rfl, hol, hb2⟩
  have hB2 := below_cat hB1 hb2
  have OL := Lib.hid hol
  have N13 := Lib.hid (fun k h => not_thirteen a k h)
  have L2 := Lib.hid (lines_any (some ⟨gl, 0, none⟩) (linesB a) cl w2 (by omega) hol.holds)
  rw [linesB_id] at L2
  have CL := Lib.hid (fun k h => owns_cell hol k h)
  have S2 := Lib.hid (fun c2 g2 W (h1 : HoldsB W (some ⟨g2, 0, none⟩) (linesB a)) (h2 : HoldsB W (some ⟨gl, 0, none⟩) (linesB a)) => same_yes (some ⟨g2, 0, none⟩) (some ⟨gl, 0, none⟩) (linesB a) c2 cl W h1 h2)
  clear hol
  obtain ⟨n, hn⟩ : ∃ n, (linesB a).size = n := ⟨_, rfl⟩
  have HNN := Lib.hid hn
  rw [hn] at hls hlh L2 N13 CL S2
  simp only [hn]
  clear hn
  go_wp2_with (fail)
  go_loop [14] (fun i => ∃ k : Nat, i = .int .i64 k ∧ k ≤ n) (fun i => n - (intOf i).toNat)
  case atStart => exact ⟨0, rfl, Nat.zero_le _⟩
  case round =>
    obtain ⟨k, rfl, hk⟩ := hrel
    by_cases hlt : k < n
    · have hlz : (k : Int) < (n : Int) := by omega
      have ck := CL.out k hlt
      have cn := N13.out k hlt
      generalize (((linesB a).get! k).toNat : Int) = x at *
      go_wp2_with (fail)
      go_round
      case rel =>
        go_light
        exact ⟨k + 1, by go_num, by omega⟩
      case measure => simp [intOf]; omega
    · go_wp2_with (fail)
      refine L2.out.mono ?_
      rintro e w3 ⟨g3, c3, rfl, ho3, hb3⟩
      have hB3 := below_cat hB2 hb3
      have OL3 := Lib.hid (OL.out.far hb3)
      have S3 := Lib.hid (S2.out c3 g3 w3 ho3.holds OL3.out.holds)
      simp only [HNN.out]
      have hn1 : ¬ (n : Int) > (a.size : Int) := by omega
      have hn2 : ¬ 2 * (n : Int) < (a.size : Int) := by omega
      have dl : w.heap.size ≤ gl := Nat.le_trans hB1.size OL.out.2.1
      have dl2 : gl < w3.heap.size := OL3.out.2.2.1
      have ca := CA.out _ hB3
      have hk1 : ((a.size - 1 : Nat) : Int) = (a.size : Int) - 1 := by omega
      have hk2 : (0 : Int) ≤ (a.size : Int) - 1 := by omega
      have hk3 : (a.size : Int) - 1 < (a.size : Int) := by omega
      have hk4 : ((a.size : Int) - 1).toNat = a.size - 1 := by omega
      obtain ⟨m, hm⟩ : ∃ m, (linesB b).size = m := ⟨_, rfl⟩
      have hz : (a ++ b).size = a.size + b.size := by simp
      have hnm : (linesB a ++ linesB b).size = n + m := by rw [ByteArray.size_append, HNN.out, hm]
      obtain ⟨g4, k4, w4, hr4, ho4, hb4, _⟩ := append_first (HP.out.below hB3) HNP.out HZ5.out
      obtain ⟨g5, k5, w5, hr5, ho5, hb5⟩ := append_next ho4 hb4 (HQ.out.below (below_cat hB3 hb4)) HNQ.out HZ2.out
      have hB5 := below_cat hB3 hb5
      have C6 := Lib.hid (lines_any (some ⟨g5, 0, none⟩) (a ++ b) k5 w5 HZ.out ho5.holds)
      rw [hz, HS.out] at C6
      have OL5 := Lib.hid (OL3.out.far hb5)
      have C7 := Lib.hid (fun W (h : Below w.heap.size w W) => lines_any _ b d W HZ4.out (HQ.out.below h))
      have HB5 := Lib.hid hB5
      have HN5 := Lib.hid (Nat.lt_of_lt_of_le dl2 hb5.size)
      have HM := Lib.hid hm
      have HNM := Lib.hid hnm
      have R4 := Lib.hid hr4
      have R5 := Lib.hid hr5
      rw [hm] at hlb
      clear hr4 ho4 hb4 hr5 ho5 hb5 hB5 hz hm hnm ho3 hb3
      go_wp2_with (fail)
      refine S3.out.mono ?_
      rintro e W3 ⟨rfl, rfl⟩
      go_wp2_with (first | (at_builtin; refine wpList_append_eq rfl (.tmp 64) (.tmp 65) 25 rfl _ _ _ _ rfl rfl R4.out ?_) | (at_builtin; refine wpList_append_eq rfl (.tmp 66) (.tmp 67) 25 rfl _ _ _ _ rfl rfl R5.out ?_))
      refine C6.out.mono ?_
      rintro e w6 ⟨g6, c6, rfl, ho6, hb6⟩
      have hB6 := below_cat HB5.out hb6
      have OL6 := Lib.hid (OL5.out.far hb6)
      have O6 := Lib.hid ho6
      clear ho6 hb6
      go_wp2_with (fail)
      refine (C7.out _ hB6).mono ?_
      rintro e w7 ⟨g7, c7, rfl, ho7, hb7⟩
      have hB7 := below_cat hB6 hb7
      have O67 := Lib.hid (O6.out.far hb7)
      obtain ⟨g8, c8, w8, hr8, ho8, hg8, hz8⟩ := append_run (OL6.out.far hb7) ho7.holds (fun e => by cases e) (Nat.le_trans (Nat.le_of_lt OL6.out.2.2.1) (Nat.le_trans hb7.size (Nat.le_refl _)) |> Nat.le_trans (Nat.le_trans OL6.out.2.1 (Nat.le_refl _))) HZ3.out
      have hB8 : Below w.heap.size w w8 := hB7.grown hg8 hB7.size (fun k e => by injection e with e; omega)
      have S8 := Lib.hid (same_yes (some ⟨g6, 0, none⟩) (some ⟨g8, 0, none⟩) (linesB a ++ linesB b) c6 c8 w8 (O67.out.besides hg8 (by have := O67.out.2.1; have := HN5.out; omega)).holds ho8.holds)
      rw [HNN.out, HM.out] at hr8
      rw [HNM.out] at S8
      simp only [HM.out, HNN.out]
      have R8 := Lib.hid hr8
      clear hr8 ho8 hg8 hz8
      go_wp2_with (at_builtin; refine wpList_append_eq rfl (.tmp 70) (.tmp 72) 25 rfl _ _ _ _ rfl rfl R8.out ?_)
      refine S8.out.mono ?_
      rintro e w9 ⟨rfl, rfl⟩
      go_wp2_with (fail)
      all_goals first | (exfalso; omega) | (go_ret; exact ⟨ret_bool (by simp), hB8⟩)
end Go.Proofs.YtiibmpjfkgohpaaDoor
