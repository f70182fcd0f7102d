/- Proved here: the statement SheetLays, walked: it answers true of every number, every stamp and all bytes, in every world. -/
import Derived.Test.YtbbfbgccikeciaaTakes
import Derived.Test.YtbbfbgccikeciaaSheetAwake
namespace Go.Proofs.Ytbbfbgccikeciaa
open Go.RowKit

theorem layI_small (n : Int) (st : Nat) (l : List UInt8) : (layI n st l).1.length ≤ 512 := by
  unfold layI
  by_cases h : outN n
  · rw [if_pos h]; exact Nat.zero_le _
  · rw [if_neg h]
    by_cases h1 : 496 < l.length
    · rw [if_pos h1]; exact Nat.zero_le _
    · rw [if_neg h1]
      show (pageL n.toNat st l).length ≤ 512
      rw [pageL_length (by omega)]
      exact Nat.le_refl _
set_option maxRecDepth 100000 in
set_option maxHeartbeats 4000000 in
theorem lays_walk (n : Int) (st : Nat) (p q : Option Addr) (s t : ByteArray) (c d : Nat) (w : World) (hst : st < 18446744073709551616) (hs : s.size ≤ 140737488355000) (hc : s.size ≤ c) (hp : HoldsB w p s) (hpn : p = none → c = 0)
    (ht : t.size ≤ 140737488355000) (hd : t.size ≤ d) (hq : HoldsB w q t) (hqn : q = none → d = 0) :
    Calls Try.prog 4 #[.int .i64 n, .int .u64 (st : Int), .slice p s.size c, .slice q t.size d] w fun e w' => e = .returned (.bool true) ∧ Below w.heap.size w w' := by
  have AW := Lib.hid (awake15_any w)
  have HH := Lib.hid (And.intro hst (And.intro hs (And.intro hc (And.intro hp hpn))))
  have HT := Lib.hid (And.intro ht (And.intro hd (And.intro hq hqn)))
  obtain ⟨m, hm⟩ : ∃ m, s.size = m := ⟨_, rfl⟩
  obtain ⟨k, hk⟩ : ∃ k, t.size = k := ⟨_, rfl⟩
  have HM := Lib.hid hm
  have HK := Lib.hid hk
  rw [hm, hk]
  obtain ⟨X, hX⟩ : ∃ X, layI n st (bl s) = X := ⟨_, rfl⟩
  have HX := Lib.hid hX
  clear hst hs hc hp hpn ht hd hq hqn hm hk hX
  go_enter Try.func4, Try.ntmps4
  go_wp2_with (fail)
  refine AW.out.mono ?_
  rintro e W0 ⟨rfl, hb⟩
  have SP := spare_any p s c W0 HH.out.2.1 (HH.out.2.2.2.1.below hb) HH.out.2.2.2.2
  rw [HM.out] at SP
  have S0 := Lib.hid SP
  have B0 := Lib.hid hb
  clear hb SP AW
  go_wp2_with (fail)
  refine S0.out.mono ?_
  rintro e W1 ⟨g, cap, rfl, ho, hb⟩
  have LY := lay_any n st (some ⟨g, 0, none⟩) s s.size cap W1 HH.out.1 rfl (owns_front ho) (fun e => by cases e)
  rw [HX.out, HM.out] at LY
  rw [HM.out]
  have L1 := Lib.hid LY
  have H1 := Lib.hid (And.intro ho (And.intro hb (below_cat B0.out hb)))
  clear ho hb LY S0
  go_wp2_with (fail)
  refine L1.out.mono ?_
  rintro e W2 ⟨r, rfl, hr⟩
  have RL := rlay_any n st p s s.size c W2 HH.out.1 rfl (HH.out.2.2.2.1.below (below_cat H1.out.2.2 hr.below))
  rw [HX.out, HM.out] at RL
  have R1 := Lib.hid RL
  obtain ⟨q1, d1, rfl, hq1, hq1n⟩ := hr.holds
  have H2 := Lib.hid (And.intro hq1 hr.below)
  clear hr hq1 RL L1 hq1n
  go_wp2_with (fail)
  refine R1.out.mono ?_
  rintro e W3 ⟨r, rfl, hr⟩
  obtain ⟨q2, d2, rfl, hq2, hq2n, hd2⟩ := hr.room
  have hb3 := hr.below
  have hb13 := below_cat H2.out.2 hb3
  have hbw := below_cat H1.out.2.2 hb13
  have SM := same_told (p := q1) (q := q2) (c := d1) (d := d2) (H2.out.1.below hb3) hq2
  have KP := kept_yes W0.heap.size g cap p s c W3 HH.out.2.1 (H1.out.1.far hb13) (HH.out.2.2.2.1.below hbw)
  rw [HM.out] at KP
  have S3 := Lib.hid SM
  have K3 := Lib.hid KP
  have hsm := layI_small n st (bl s)
  rw [HX.out] at hsm
  have B3 := Lib.hid (And.intro hbw (And.intro hq2 (And.intro hq2n (And.intro hsm hd2))))
  clear hr hb3 hb13 hbw hq2 hq2n hd2 SM KP R1 hsm
  obtain ⟨L, hL⟩ : ∃ L, X.1.length = L := ⟨_, rfl⟩
  have HL := Lib.hid hL
  rw [hL] at S3 ⊢
  clear hL
  go_wp2_with (fail)
  refine S3.out.mono ?_
  rintro e w' ⟨rfl, rfl⟩
  go_wp2_with (fail)
  refine K3.out.mono ?_
  rintro e w' ⟨rfl, rfl⟩
  have T1 := takes_any n q t t.size d W3 rfl HT.out.1 HT.out.2.1 (HT.out.2.2.1.below B3.out.1) HT.out.2.2.2
  rw [HK.out] at T1
  have TA := Lib.hid T1
  clear T1 S3 K3
  go_wp2_with (fail)
  refine TA.out.mono ?_
  rintro e W4 ⟨rfl, hb⟩
  have B4 := Lib.hid hb
  clear hb TA
  have TB' := takes_any n q2 (ofL X.1) (ofL X.1).size d2 W4 rfl (by rw [ofL_size]; have := B3.out.2.2.2.1; omega) (by rw [ofL_size]; exact B3.out.2.2.2.2) (B3.out.2.1.below B4.out) B3.out.2.2.1
  rw [ofL_size, HL.out] at TB'
  have TB := Lib.hid TB'
  clear TB'
  go_wp2_with (fail)
  refine TB.out.mono ?_
  rintro e W5 ⟨rfl, hb⟩
  have B5 := Lib.hid (below_cat B4.out hb)
  clear hb TB
  go_wp2_with (fail)
  obtain ⟨n1, hn1⟩ : ∃ n1, wrap64 (n + 1) = n1 := ⟨_, rfl⟩
  rw [hn1]
  have TC' := takes_any n1 q2 (ofL X.1) (ofL X.1).size d2 W5 rfl (by rw [ofL_size]; have := B3.out.2.2.2.1; omega) (by rw [ofL_size]; exact B3.out.2.2.2.2) (B3.out.2.1.below B5.out) B3.out.2.2.1
  rw [ofL_size, HL.out] at TC'
  refine TC'.mono ?_
  rintro e W6 ⟨rfl, hb⟩
  have B6 := Lib.hid (below_cat B3.out.1 (below_cat B5.out hb))
  clear hb TC'
  go_wp2_with (fail)
  go_ret
  exact ⟨rfl, B6.out⟩
end Go.Proofs.Ytbbfbgccikeciaa
