/- Proved here: the law CharEnds answers true where a line end stands across both; what was there stays. -/
import Derived.Test.YtiibmpjfkgohpaaDoorEndsHead
namespace Go.Proofs.YtiibmpjfkgohpaaDoor
open Go.RowKit

set_option maxHeartbeats 8000000 in
set_option maxRecDepth 100000 in
theorem charEnds_both (p q : Option Addr) (a b : ByteArray) (c d : Nat) (w : World) (hT : Tabs w) (ha : a.size ≤ 70368744177000) (hb : b.size ≤ 70368744177000) (hp : HoldsB w p a) (hq : HoldsB w q b) (hnp : p = none → c = 0) (hnq : q = none → d = 0) (ba oa bb ob : Nat) (hz : 0 < a.size) (hzb : 0 < b.size) (hpa : p = some ⟨ba, oa, none⟩) (hpb : q = some ⟨bb, ob, none⟩) (hca : w.cell? ⟨ba, oa + (a.size - 1), none⟩ = some (.int .u8 13)) (hcb : w.cell? ⟨bb, ob, none⟩ = some (.int .u8 10)) :
    Calls Tryd.prog 11 #[.slice p a.size c, .slice q b.size d] w fun e w' => e = .returned (.bool true) ∧ Below w.heap.size w w' := by
  have A := Lib.hid (awake_any w hT)
  have HP := Lib.hid hp
  have HQ := Lib.hid hq
  have HNP := Lib.hid hnp
  have HNQ := Lib.hid hnq
  subst hpa
  subst hpb
  have f1 : 0 < (a.size : Int) := by omega
  have f2 : 0 < (b.size : Int) := by omega
  have CA := Lib.hid (fun W (h : Below w.heap.size w W) => hb_cell h hca)
  have CB := Lib.hid (fun W (h : Below w.heap.size w W) => hb_cell h hcb)
  clear hz hzb hca hcb
  have HZ := Lib.hid (show (a ++ b).size ≤ 140737488355000 by rw [ByteArray.size_append]; omega)
  have HZ2 := Lib.hid (show a.size + b.size ≤ 140737488355328 by omega)
  have HZ3 := Lib.hid (show (linesB a).size + (linesB b).size ≤ 140737488355328 by have := linesB_size a; have := linesB_size b; omega)
  have HZ4 := Lib.hid (show b.size ≤ 140737488355000 by omega)
  have HZ5 := Lib.hid (show a.size ≤ 140737488355328 by omega)
  have hls := linesB_size a
  have hlh := linesB_half a
  have hlb := linesB_size b
  clear hT hp hq hnp hnq
  go_enter Tryd.func11, Tryd.ntmps11
  go_wp2_with (fail)
  refine A.out.mono ?_
  rintro e w1 ⟨rfl, hB1⟩
  go_wp2_with (fail)
  refine (lines_any _ a c w1 (by omega) (HP.out.below hB1)).mono ?_
  rintro e w2 ⟨gl, cl, rfl, hol, hb2⟩
  have hB2 := below_cat hB1 hb2
  have OL := Lib.hid hol
  have N13 := Lib.hid (fun k h => not_thirteen a k h)
  have L2 := Lib.hid (lines_any (some ⟨gl, 0, none⟩) (linesB a) cl w2 (by omega) hol.holds)
  rw [linesB_id] at L2
  have CL := Lib.hid (fun k h => owns_cell hol k h)
  have S2 := Lib.hid (fun c2 g2 W (h1 : HoldsB W (some ⟨g2, 0, none⟩) (linesB a)) (h2 : HoldsB W (some ⟨gl, 0, none⟩) (linesB a)) => same_yes (some ⟨g2, 0, none⟩) (some ⟨gl, 0, none⟩) (linesB a) c2 cl W h1 h2)
  clear hol
  obtain ⟨n, hn⟩ : ∃ n, (linesB a).size = n := ⟨_, rfl⟩
  have HNN := Lib.hid hn
  rw [hn] at hls hlh L2 N13 CL S2
  simp only [hn]
  clear hn
  go_wp2_with (fail)
  go_loop [14] (fun i => ∃ k : Nat, i = .int .i64 k ∧ k ≤ n) (fun i => n - (intOf i).toNat)
  case atStart => exact ⟨0, rfl, Nat.zero_le _⟩
  case round =>
    obtain ⟨k, rfl, hk⟩ := hrel
    by_cases hlt : k < n
    · have hlz : (k : Int) < (n : Int) := by omega
      have ck := CL.out k hlt
      have cn := N13.out k hlt
      generalize (((linesB a).get! k).toNat : Int) = x at *
      go_wp2_with (fail)
      go_round
      case rel =>
        go_light
        exact ⟨k + 1, by go_num, by omega⟩
      case measure => simp [intOf]; omega
    · go_wp2_with (fail)
      refine L2.out.mono ?_
      rintro e w3 ⟨g3, c3, rfl, ho3, hb3⟩
      have hB3 := below_cat hB2 hb3
      have OL3 := Lib.hid (OL.out.far hb3)
      have S3 := Lib.hid (S2.out c3 g3 w3 ho3.holds OL3.out.holds)
      simp only [HNN.out]
      have hn1 : ¬ (n : Int) > (a.size : Int) := by omega
      have hn2 : ¬ 2 * (n : Int) < (a.size : Int) := by omega
      have dl : w.heap.size ≤ gl := Nat.le_trans hB1.size OL.out.2.1
      have dl2 : gl < w3.heap.size := OL3.out.2.2.1
      have ca := CA.out _ hB3
      have hk1 : ((a.size - 1 : Nat) : Int) = (a.size : Int) - 1 := by omega
      have hk2 : (0 : Int) ≤ (a.size : Int) - 1 := by omega
      have hk3 : (a.size : Int) - 1 < (a.size : Int) := by omega
      have hk4 : ((a.size : Int) - 1).toNat = a.size - 1 := by omega
      have cb := CB.out _ hB3
      clear ho3 hb3
      go_wp2_with (fail)
      refine S3.out.mono ?_
      rintro e W3 ⟨rfl, rfl⟩
      go_wp2_with (fail)
      all_goals first | (exfalso; omega) | (go_ret; exact ⟨ret_bool (by simp), hB3⟩)
end Go.Proofs.YtiibmpjfkgohpaaDoor
