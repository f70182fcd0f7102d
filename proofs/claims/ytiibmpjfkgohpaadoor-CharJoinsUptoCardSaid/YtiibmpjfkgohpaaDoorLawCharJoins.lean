/- Proved here: the law CharJoins answers true at every two slices of bytes of at most 2^46 bytes, in every world that holds the library's two tables; what was there stays. -/
import Derived.Test.YtiibmpjfkgohpaaDoorAwake
import Derived.Test.YtiibmpjfkgohpaaDoorFault
import Derived.Test.YtiibmpjfkgohpaaDoorOwns
import Derived.Test.YtiibmpjfkgohpaaDoorJoinPlain
import Derived.BigGuardPart
namespace Go.Proofs.YtiibmpjfkgohpaaDoor
open Go.RowKit

set_option maxHeartbeats 4000000 in
set_option maxRecDepth 100000 in
theorem charJoins_char (p q : Option Addr) (a b : ByteArray) (c d : Nat) (w : World) (hT : Tabs w) (ha : a.size ≤ 70368744177664) (hb : b.size ≤ 70368744177664) (hc : a.size ≤ c) (hd : b.size ≤ d) (hp : HoldsB w p a) (hq : HoldsB w q b) (hnp : p = none → c = 0) (hnq : q = none → d = 0) (i : Nat) (j f : Nat) (hfa : faultF a = (i, 21)) (hfb : faultF b = (j, f)) (hfc : faultF (a ++ b) = (i, 21)) :
    Calls Tryd.prog 9 #[.slice p a.size c, .slice q b.size d] w fun e w' => e = .returned (.bool true) ∧ Below w.heap.size w w' := by
  have A := Lib.hid (awake_any w hT)
  have C1 := Lib.hid (fun W (h : Below w.heap.size w W) => fault_any p a c W (hT.below h) (by omega) hc (hp.below h))
  have C2 := Lib.hid (fun W (h : Below w.heap.size w W) => fault_any q b d W (hT.below h) (by omega) hd (hq.below h))
  rw [hfa] at C1
  rw [hfb] at C2
  have HT := Lib.hid hT
  have HP := Lib.hid hp
  have HQ := Lib.hid hq
  have HNP := Lib.hid hnp
  have HNQ := Lib.hid hnq
  have HC := Lib.hid hfc
  clear hT hp hq hnp hnq hfa hfb hfc
  go_enter Tryd.func9, Tryd.ntmps9
  go_wp2_with (fail)
  refine A.out.mono ?_
  rintro e w1 ⟨rfl, hb1⟩
  go_wp2_with (fail)
  refine (C1.out _ hb1).mono ?_
  rintro e w2 ⟨rfl, hb2⟩
  have hB2 := below_cat hb1 hb2
  clear hb1 hb2
  go_wp2_with (fail)
  refine (C2.out _ hB2).mono ?_
  rintro e w3 ⟨rfl, hb3⟩
  have hB3 := below_cat hB2 hb3
  clear hb3 hB2
  obtain ⟨g1, k1, w4, hr1, ho1, hb4, _⟩ := append_first (HP.out.below hB3) HNP.out (by omega)
  obtain ⟨g2, k2, w5, hr2, ho2, hb5⟩ := append_next ho1 hb4 (HQ.out.below (below_cat hB3 hb4)) HNQ.out (by omega)
  have hB5 := below_cat hB3 hb5
  have hz : (a ++ b).size = a.size + b.size := by simp
  have C3 := Lib.hid (fault_any (some ⟨g2, 0, none⟩) (a ++ b) k2 w5 (HT.out.below hB5) (by rw [hz]; omega) ho2.2.2.2 ho2.holds)
  rw [hz, HC.out] at C3
  have R1 := Lib.hid hr1
  have R2 := Lib.hid hr2
  clear hr1 ho1 hb4 hr2 ho2 hb5 hz
  go_wp2_with (first | (at_builtin; refine wpList_append_eq rfl (.tmp 24) (.tmp 25) 25 rfl _ _ _ _ rfl rfl R1.out ?_) | (at_builtin; refine wpList_append_eq rfl (.tmp 26) (.tmp 27) 25 rfl _ _ _ _ rfl rfl R2.out ?_))
  refine C3.out.mono ?_
  rintro e w6 ⟨rfl, hb6⟩
  have hB6 := below_cat hB5 hb6
  clear hb6 hB5
  go_wp2_with (fail)
  all_goals first | (exfalso; omega) | (go_ret; exact ⟨ret_bool (by simp), hB6⟩)

set_option maxHeartbeats 4000000 in
set_option maxRecDepth 100000 in
theorem charJoins_utf (p q : Option Addr) (a b : ByteArray) (c d : Nat) (w : World) (hT : Tabs w) (ha : a.size ≤ 70368744177664) (hb : b.size ≤ 70368744177664) (hc : a.size ≤ c) (hd : b.size ≤ d) (hp : HoldsB w p a) (hq : HoldsB w q b) (hnp : p = none → c = 0) (hnq : q = none → d = 0) (i k g : Nat) (j f : Nat) (hfa : faultF a = (i, 20)) (hfb : faultF b = (j, f)) (hfc : faultF (a ++ b) = (k, g)) (hik : g = 0 ∨ i ≤ k) :
    Calls Tryd.prog 9 #[.slice p a.size c, .slice q b.size d] w fun e w' => e = .returned (.bool true) ∧ Below w.heap.size w w' := by
  have A := Lib.hid (awake_any w hT)
  have C1 := Lib.hid (fun W (h : Below w.heap.size w W) => fault_any p a c W (hT.below h) (by omega) hc (hp.below h))
  have C2 := Lib.hid (fun W (h : Below w.heap.size w W) => fault_any q b d W (hT.below h) (by omega) hd (hq.below h))
  rw [hfa] at C1
  rw [hfb] at C2
  have HT := Lib.hid hT
  have HP := Lib.hid hp
  have HQ := Lib.hid hq
  have HNP := Lib.hid hnp
  have HNQ := Lib.hid hnq
  have HC := Lib.hid hfc
  have hik' : ((g : Int) == 0) = true ∨ (((g : Int) == 0) = false ∧ (i : Int) ≤ (k : Int)) := by
    by_cases h : g = 0
    · left; simp [h]
    · right; exact ⟨by simp [h], by omega⟩
  have HI := Lib.hid hik'
  clear hik hik'
  clear hT hp hq hnp hnq hfa hfb hfc
  go_enter Tryd.func9, Tryd.ntmps9
  go_wp2_with (fail)
  refine A.out.mono ?_
  rintro e w1 ⟨rfl, hb1⟩
  go_wp2_with (fail)
  refine (C1.out _ hb1).mono ?_
  rintro e w2 ⟨rfl, hb2⟩
  have hB2 := below_cat hb1 hb2
  clear hb1 hb2
  go_wp2_with (fail)
  refine (C2.out _ hB2).mono ?_
  rintro e w3 ⟨rfl, hb3⟩
  have hB3 := below_cat hB2 hb3
  clear hb3 hB2
  obtain ⟨g1, k1, w4, hr1, ho1, hb4, _⟩ := append_first (HP.out.below hB3) HNP.out (by omega)
  obtain ⟨g2, k2, w5, hr2, ho2, hb5⟩ := append_next ho1 hb4 (HQ.out.below (below_cat hB3 hb4)) HNQ.out (by omega)
  have hB5 := below_cat hB3 hb5
  have hz : (a ++ b).size = a.size + b.size := by simp
  have C3 := Lib.hid (fault_any (some ⟨g2, 0, none⟩) (a ++ b) k2 w5 (HT.out.below hB5) (by rw [hz]; omega) ho2.2.2.2 ho2.holds)
  rw [hz, HC.out] at C3
  have R1 := Lib.hid hr1
  have R2 := Lib.hid hr2
  clear hr1 ho1 hb4 hr2 ho2 hb5 hz
  go_wp2_with (first | (at_builtin; refine wpList_append_eq rfl (.tmp 24) (.tmp 25) 25 rfl _ _ _ _ rfl rfl R1.out ?_) | (at_builtin; refine wpList_append_eq rfl (.tmp 26) (.tmp 27) 25 rfl _ _ _ _ rfl rfl R2.out ?_))
  refine C3.out.mono ?_
  rintro e w6 ⟨rfl, hb6⟩
  have hB6 := below_cat hB5 hb6
  clear hb6 hB5
  rcases HI.out with g0 | ⟨g0, g1'⟩
  · go_wp2_with (fail)
    all_goals first | (exfalso; omega) | (go_ret; exact ⟨ret_bool (by simp), hB6⟩)
  · go_wp2_with (fail)
    all_goals first | (exfalso; omega) | (go_ret; exact ⟨ret_bool (by simp), hB6⟩)

set_option maxHeartbeats 4000000 in
set_option maxRecDepth 100000 in
theorem charJoins_right (p q : Option Addr) (a b : ByteArray) (c d : Nat) (w : World) (hT : Tabs w) (ha : a.size ≤ 70368744177664) (hb : b.size ≤ 70368744177664) (hc : a.size ≤ c) (hd : b.size ≤ d) (hp : HoldsB w p a) (hq : HoldsB w q b) (hnp : p = none → c = 0) (hnq : q = none → d = 0) (i j f : Nat) (hfa : faultF a = (i, 0)) (hfb : faultF b = (j, f)) (hfc : faultF (a ++ b) = (a.size + j, f)) (hf : f ≠ 0) (hj : j ≤ b.size) :
    Calls Tryd.prog 9 #[.slice p a.size c, .slice q b.size d] w fun e w' => e = .returned (.bool true) ∧ Below w.heap.size w w' := by
  have A := Lib.hid (awake_any w hT)
  have C1 := Lib.hid (fun W (h : Below w.heap.size w W) => fault_any p a c W (hT.below h) (by omega) hc (hp.below h))
  have C2 := Lib.hid (fun W (h : Below w.heap.size w W) => fault_any q b d W (hT.below h) (by omega) hd (hq.below h))
  rw [hfa] at C1
  rw [hfb] at C2
  have HT := Lib.hid hT
  have HP := Lib.hid hp
  have HQ := Lib.hid hq
  have HNP := Lib.hid hnp
  have HNQ := Lib.hid hnq
  have HC := Lib.hid hfc
  have hf1 : ((f : Int) == 0) = false := by simp [hf]
  have hf2 : ((f : Int) != 0) = true := by simp [hf]
  clear hf
  clear hT hp hq hnp hnq hfa hfb hfc
  go_enter Tryd.func9, Tryd.ntmps9
  go_wp2_with (fail)
  refine A.out.mono ?_
  rintro e w1 ⟨rfl, hb1⟩
  go_wp2_with (fail)
  refine (C1.out _ hb1).mono ?_
  rintro e w2 ⟨rfl, hb2⟩
  have hB2 := below_cat hb1 hb2
  clear hb1 hb2
  go_wp2_with (fail)
  refine (C2.out _ hB2).mono ?_
  rintro e w3 ⟨rfl, hb3⟩
  have hB3 := below_cat hB2 hb3
  clear hb3 hB2
  obtain ⟨g1, k1, w4, hr1, ho1, hb4, _⟩ := append_first (HP.out.below hB3) HNP.out (by omega)
  obtain ⟨g2, k2, w5, hr2, ho2, hb5⟩ := append_next ho1 hb4 (HQ.out.below (below_cat hB3 hb4)) HNQ.out (by omega)
  have hB5 := below_cat hB3 hb5
  have hz : (a ++ b).size = a.size + b.size := by simp
  have C3 := Lib.hid (fault_any (some ⟨g2, 0, none⟩) (a ++ b) k2 w5 (HT.out.below hB5) (by rw [hz]; omega) ho2.2.2.2 ho2.holds)
  rw [hz, HC.out] at C3
  have R1 := Lib.hid hr1
  have R2 := Lib.hid hr2
  clear hr1 ho1 hb4 hr2 ho2 hb5 hz
  go_wp2_with (first | (at_builtin; refine wpList_append_eq rfl (.tmp 24) (.tmp 25) 25 rfl _ _ _ _ rfl rfl R1.out ?_) | (at_builtin; refine wpList_append_eq rfl (.tmp 26) (.tmp 27) 25 rfl _ _ _ _ rfl rfl R2.out ?_))
  refine C3.out.mono ?_
  rintro e w6 ⟨rfl, hb6⟩
  have hB6 := below_cat hB5 hb6
  clear hb6 hB5
  go_wp2_with (fail)
  all_goals first | (exfalso; omega) | (go_ret; exact ⟨ret_bool (by simp), hB6⟩)

set_option maxHeartbeats 4000000 in
set_option maxRecDepth 100000 in
theorem charJoins_none (p q : Option Addr) (a b : ByteArray) (c d : Nat) (w : World) (hT : Tabs w) (ha : a.size ≤ 70368744177664) (hb : b.size ≤ 70368744177664) (hc : a.size ≤ c) (hd : b.size ≤ d) (hp : HoldsB w p a) (hq : HoldsB w q b) (hnp : p = none → c = 0) (hnq : q = none → d = 0) (i j : Nat) (hfa : faultF a = (i, 0)) (hfb : faultF b = (j, 0)) (hfc : faultF (a ++ b) = (0, 0)) :
    Calls Tryd.prog 9 #[.slice p a.size c, .slice q b.size d] w fun e w' => e = .returned (.bool true) ∧ Below w.heap.size w w' := by
  have A := Lib.hid (awake_any w hT)
  have C1 := Lib.hid (fun W (h : Below w.heap.size w W) => fault_any p a c W (hT.below h) (by omega) hc (hp.below h))
  have C2 := Lib.hid (fun W (h : Below w.heap.size w W) => fault_any q b d W (hT.below h) (by omega) hd (hq.below h))
  rw [hfa] at C1
  rw [hfb] at C2
  have HT := Lib.hid hT
  have HP := Lib.hid hp
  have HQ := Lib.hid hq
  have HNP := Lib.hid hnp
  have HNQ := Lib.hid hnq
  have HC := Lib.hid hfc
  clear hT hp hq hnp hnq hfa hfb hfc
  go_enter Tryd.func9, Tryd.ntmps9
  go_wp2_with (fail)
  refine A.out.mono ?_
  rintro e w1 ⟨rfl, hb1⟩
  go_wp2_with (fail)
  refine (C1.out _ hb1).mono ?_
  rintro e w2 ⟨rfl, hb2⟩
  have hB2 := below_cat hb1 hb2
  clear hb1 hb2
  go_wp2_with (fail)
  refine (C2.out _ hB2).mono ?_
  rintro e w3 ⟨rfl, hb3⟩
  have hB3 := below_cat hB2 hb3
  clear hb3 hB2
  obtain ⟨g1, k1, w4, hr1, ho1, hb4, _⟩ := append_first (HP.out.below hB3) HNP.out (by omega)
  obtain ⟨g2, k2, w5, hr2, ho2, hb5⟩ := append_next ho1 hb4 (HQ.out.below (below_cat hB3 hb4)) HNQ.out (by omega)
  have hB5 := below_cat hB3 hb5
  have hz : (a ++ b).size = a.size + b.size := by simp
  have C3 := Lib.hid (fault_any (some ⟨g2, 0, none⟩) (a ++ b) k2 w5 (HT.out.below hB5) (by rw [hz]; omega) ho2.2.2.2 ho2.holds)
  rw [hz, HC.out] at C3
  have R1 := Lib.hid hr1
  have R2 := Lib.hid hr2
  clear hr1 ho1 hb4 hr2 ho2 hb5 hz
  go_wp2_with (first | (at_builtin; refine wpList_append_eq rfl (.tmp 24) (.tmp 25) 25 rfl _ _ _ _ rfl rfl R1.out ?_) | (at_builtin; refine wpList_append_eq rfl (.tmp 26) (.tmp 27) 25 rfl _ _ _ _ rfl rfl R2.out ?_))
  refine C3.out.mono ?_
  rintro e w6 ⟨rfl, hb6⟩
  have hB6 := below_cat hB5 hb6
  clear hb6 hB5
  go_wp2_with (fail)
  all_goals first | (exfalso; omega) | (go_ret; exact ⟨ret_bool (by simp), hB6⟩)

theorem charJoins_walk (p q : Option Addr) (a b : ByteArray) (c d : Nat) (w : World) (hT : Tabs w) (ha : a.size ≤ 70368744177664) (hb : b.size ≤ 70368744177664) (hc : a.size ≤ c) (hd : b.size ≤ d) (hp : HoldsB w p a) (hq : HoldsB w q b) (hnp : p = none → c = 0) (hnq : q = none → d = 0) :
    Calls Tryd.prog 9 #[.slice p a.size c, .slice q b.size d] w fun e w' => e = .returned (.bool true) ∧ Below w.heap.size w w' := by
  have hj : (faultF b).1 ≤ b.size := faultF_le b
  have J := fault_join a b
  obtain ⟨⟨i, e⟩, hfa⟩ : ∃ z : Nat × Nat, faultF a = z := ⟨_, rfl⟩
  obtain ⟨⟨j, f⟩, hfb⟩ : ∃ z : Nat × Nat, faultF b = z := ⟨_, rfl⟩
  obtain ⟨⟨k, g⟩, hfc⟩ : ∃ z : Nat × Nat, faultF (a ++ b) = z := ⟨_, rfl⟩
  rw [hfa, hfb, hfc] at J
  rw [hfb] at hj
  simp only [Prod.mk.injEq] at J
  rcases J with ⟨rfl, rfl, rfl⟩ | ⟨rfl, h⟩ | ⟨rfl, h1, rfl, rfl⟩ | ⟨rfl, rfl, rfl, rfl⟩
  · exact charJoins_char p q a b c d w hT ha hb hc hd hp hq hnp hnq _ _ _ hfa hfb hfc
  · exact charJoins_utf p q a b c d w hT ha hb hc hd hp hq hnp hnq _ _ _ _ _ hfa hfb hfc h
  · exact charJoins_right p q a b c d w hT ha hb hc hd hp hq hnp hnq _ _ _ hfa hfb hfc h1 hj
  · exact charJoins_none p q a b c d w hT ha hb hc hd hp hq hnp hnq _ _ hfa hfb hfc
end Go.Proofs.YtiibmpjfkgohpaaDoor
