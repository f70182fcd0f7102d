/- Proved here: the law CharSpells answers true at every number and every two slices of bytes of at most 2^45 bytes, in every world that holds the library's two tables; what was there stays. -/
import Derived.Test.YtiibmpjfkgohpaaDoorAwake
import Derived.Test.YtiibmpjfkgohpaaDoorRefName
import Derived.Test.YtiibmpjfkgohpaaDoorOwns
import Derived.Test.YtiibmpjfkgohpaaDoorSpellPlain
import Derived.BigGuardPart
namespace Go.Proofs.YtiibmpjfkgohpaaDoor
open Go.RowKit

set_option maxHeartbeats 4000000 in
set_option maxRecDepth 100000 in
theorem charSpells_char (p q : Option Addr) (a b : ByteArray) (c d : Nat) (r : Int) (w : World) (hT : Tabs w) (ha : a.size ≤ 35184372088832) (hb : b.size ≤ 35184372088832) (hp : HoldsB w p a) (hq : HoldsB w q b) (hnp : p = none → c = 0) (hnq : q = none → d = 0) (hch : charB r = true) (hr0 : 0 ≤ r) :
    Calls Tryd.prog 8 #[.int .i32 r, .slice p a.size c, .slice q b.size d] w fun e w' => e = .returned (.bool true) ∧ Below w.heap.size w w' := by
  have A := Lib.hid (awake_any w hT)
  have hkz := encode_size r
  have hrd := rd_amid a b r
  have hnx : nextF (a ++ Utf8.encode r ++ b) a.size = (r.toNat, a.size + (Utf8.encode r).size, 0) := by
    obtain ⟨e1, _⟩ := char_valid hch
    have h2 : ¬ (rd (a ++ Utf8.encode r ++ b) a.size).2 = 0 := by rw [hrd]; simp only; omega
    unfold nextF
    rw [if_neg h2, hrd]
    show (if charB ((encC r : Nat) : Int) then (encC r, a.size + (Utf8.encode r).size, 0) else (0, 0, 21)) = _
    rw [e1, Int.toNat_of_nonneg hr0, hch]; rfl
  have K : ∀ W, Calls Tryd.prog 13 #[.int .i32 r] W fun e w' => e = .returned (.bool true) ∧ W = w' := fun W => by rw [← hch]; exact isChar r W
  have HT := Lib.hid hT
  have HP := Lib.hid hp
  have HQ := Lib.hid hq
  have HNP := Lib.hid hnp
  have HNQ := Lib.hid hnq
  have HN := Lib.hid hnx
  have HK := Lib.hid K
  obtain ⟨s, hs⟩ : ∃ s, Utf8.encode r = s := ⟨_, rfl⟩
  rw [hs] at hkz HN
  clear hT hp hq hnp hnq hnx hrd K hch
  go_enter Tryd.func8, Tryd.ntmps8
  go_wp2_with (fail)
  refine A.out.mono ?_
  rintro e w1 ⟨rfl, hB1⟩
  obtain ⟨kc, w2, hcv, hkc, hb2, hz2, hc2⟩ := bytes_of w1 s
  have hB2 := below_cat hB1 hb2
  have hS2 : HoldsB w2 (some ⟨w1.heap.size, 0, none⟩) s := fun _ => ⟨_, _, rfl, hc2⟩
  obtain ⟨g1, k1, w4, hr1, ho1, hb4, _⟩ := append_first (HP.out.below hB2) HNP.out (by omega)
  obtain ⟨g2, k2, w5, hr2, ho2, hb5⟩ := append_next (c := kc) ho1 hb4 (hS2.below hb4) (fun e => by cases e) (by omega)
  have hz : (a ++ s).size = a.size + s.size := by simp
  obtain ⟨g3, k3, w6, hr3, ho3, hb6⟩ := append_next ho2 hb5 ((HQ.out.below hB2).below hb5) HNQ.out (by rw [hz]; omega)
  have hB6 := below_cat hB2 hb6
  have hz3 : (a ++ s ++ b).size = a.size + s.size + b.size := by simp
  have C := Lib.hid (next_in (a ++ s ++ b) g3 0 k3 a.size w6 (HT.out.below hB6) (by omega) ho3.2.2.2 (by omega) (fun j hj => by
    obtain ⟨b0, off0, e0, hc0⟩ := ho3.holds (by omega)
    cases e0
    exact hc0 j hj))
  rw [hz3, HN.out] at C
  rw [hz] at hr3
  have R1 := Lib.hid hr1
  have R2 := Lib.hid hr2
  have R3 := Lib.hid hr3
  clear hr1 ho1 hb4 hr2 ho2 hb5 hr3 ho3 hb6 hz hz3 hB2 hS2 hc2 hb2 hkc hz2
  go_wp2_with (first | (at_builtin; refine wpList_append_eq rfl (.tmp 17) (.tmp 18) 25 rfl _ _ _ _ rfl rfl R1.out ?_) | (at_builtin; refine wpList_append_eq rfl (.tmp 19) (.tmp 20) 25 rfl _ _ _ _ rfl rfl R2.out ?_) | (at_builtin; refine wpList_append_eq rfl (.tmp 21) (.tmp 22) 25 rfl _ _ _ _ rfl rfl R3.out ?_))
  refine C.out.mono ?_
  rintro e w7 ⟨rfl, hb7⟩
  have hB7 := below_cat hB6 hb7
  clear hb7 hB6
  go_wp2_with (fail)
  refine (HK.out _).mono ?_
  rintro e w8 ⟨rfl, rfl⟩
  go_wp2_with (fail)
  all_goals first | (exfalso; omega) | (go_ret; exact ⟨ret_bool (by simp), hB7⟩)

set_option maxHeartbeats 4000000 in
set_option maxRecDepth 100000 in
theorem charSpells_none (p q : Option Addr) (a b : ByteArray) (c d : Nat) (r : Int) (w : World) (hT : Tabs w) (ha : a.size ≤ 35184372088832) (hb : b.size ≤ 35184372088832) (hp : HoldsB w p a) (hq : HoldsB w q b) (hnp : p = none → c = 0) (hnq : q = none → d = 0) (hch : charB r = false) (hv : r < 0 ∨ 1114111 < r ∨ (55296 ≤ r ∧ r ≤ 57343)) :
    Calls Tryd.prog 8 #[.int .i32 r, .slice p a.size c, .slice q b.size d] w fun e w' => e = .returned (.bool true) ∧ Below w.heap.size w w' := by
  have A := Lib.hid (awake_any w hT)
  have hkz := encode_size r
  have hrd := rd_amid a b r
  have hnx : nextF (a ++ Utf8.encode r ++ b) a.size = (65533, a.size + (Utf8.encode r).size, 0) := by
    have e1 : encC r = 65533 := by
      unfold encC
      rw [if_neg (by simp [Utf8.valid]; omega)]
    have h2 : ¬ (rd (a ++ Utf8.encode r ++ b) a.size).2 = 0 := by rw [hrd]; simp only; omega
    unfold nextF
    rw [if_neg h2, hrd]
    show (if charB ((encC r : Nat) : Int) then (encC r, a.size + (Utf8.encode r).size, 0) else (0, 0, 21)) = _
    rw [e1]; rfl
  have K : ∀ W, Calls Tryd.prog 13 #[.int .i32 r] W fun e w' => e = .returned (.bool false) ∧ W = w' := fun W => by rw [← hch]; exact isChar r W
  have HT := Lib.hid hT
  have HP := Lib.hid hp
  have HQ := Lib.hid hq
  have HNP := Lib.hid hnp
  have HNQ := Lib.hid hnq
  have HN := Lib.hid hnx
  have HK := Lib.hid K
  obtain ⟨s, hs⟩ : ∃ s, Utf8.encode r = s := ⟨_, rfl⟩
  rw [hs] at hkz HN
  clear hT hp hq hnp hnq hnx hrd K hch
  go_enter Tryd.func8, Tryd.ntmps8
  go_wp2_with (fail)
  refine A.out.mono ?_
  rintro e w1 ⟨rfl, hB1⟩
  obtain ⟨kc, w2, hcv, hkc, hb2, hz2, hc2⟩ := bytes_of w1 s
  have hB2 := below_cat hB1 hb2
  have hS2 : HoldsB w2 (some ⟨w1.heap.size, 0, none⟩) s := fun _ => ⟨_, _, rfl, hc2⟩
  obtain ⟨g1, k1, w4, hr1, ho1, hb4, _⟩ := append_first (HP.out.below hB2) HNP.out (by omega)
  obtain ⟨g2, k2, w5, hr2, ho2, hb5⟩ := append_next (c := kc) ho1 hb4 (hS2.below hb4) (fun e => by cases e) (by omega)
  have hz : (a ++ s).size = a.size + s.size := by simp
  obtain ⟨g3, k3, w6, hr3, ho3, hb6⟩ := append_next ho2 hb5 ((HQ.out.below hB2).below hb5) HNQ.out (by rw [hz]; omega)
  have hB6 := below_cat hB2 hb6
  have hz3 : (a ++ s ++ b).size = a.size + s.size + b.size := by simp
  have C := Lib.hid (next_in (a ++ s ++ b) g3 0 k3 a.size w6 (HT.out.below hB6) (by omega) ho3.2.2.2 (by omega) (fun j hj => by
    obtain ⟨b0, off0, e0, hc0⟩ := ho3.holds (by omega)
    cases e0
    exact hc0 j hj))
  rw [hz3, HN.out] at C
  rw [hz] at hr3
  have R1 := Lib.hid hr1
  have R2 := Lib.hid hr2
  have R3 := Lib.hid hr3
  clear hr1 ho1 hb4 hr2 ho2 hb5 hr3 ho3 hb6 hz hz3 hB2 hS2 hc2 hb2 hkc hz2
  go_wp2_with (first | (at_builtin; refine wpList_append_eq rfl (.tmp 17) (.tmp 18) 25 rfl _ _ _ _ rfl rfl R1.out ?_) | (at_builtin; refine wpList_append_eq rfl (.tmp 19) (.tmp 20) 25 rfl _ _ _ _ rfl rfl R2.out ?_) | (at_builtin; refine wpList_append_eq rfl (.tmp 21) (.tmp 22) 25 rfl _ _ _ _ rfl rfl R3.out ?_))
  refine C.out.mono ?_
  rintro e w7 ⟨rfl, hb7⟩
  have hB7 := below_cat hB6 hb7
  clear hb7 hB6
  go_wp2_with (fail)
  refine (HK.out _).mono ?_
  rintro e w8 ⟨rfl, rfl⟩
  go_wp2_with (fail)
  all_goals first | (exfalso; omega) | (go_ret; exact ⟨ret_bool (by simp), hB7⟩)

set_option maxHeartbeats 4000000 in
set_option maxRecDepth 100000 in
theorem charSpells_other (p q : Option Addr) (a b : ByteArray) (c d : Nat) (r : Int) (w : World) (hT : Tabs w) (ha : a.size ≤ 35184372088832) (hb : b.size ≤ 35184372088832) (hp : HoldsB w p a) (hq : HoldsB w q b) (hnp : p = none → c = 0) (hnq : q = none → d = 0) (hch : charB r = false) (hv : 0 ≤ r ∧ r ≤ 1114111 ∧ ¬ (55296 ≤ r ∧ r ≤ 57343)) :
    Calls Tryd.prog 8 #[.int .i32 r, .slice p a.size c, .slice q b.size d] w fun e w' => e = .returned (.bool true) ∧ Below w.heap.size w w' := by
  have A := Lib.hid (awake_any w hT)
  have hkz := encode_size r
  have hrd := rd_amid a b r
  have hnx : nextF (a ++ Utf8.encode r ++ b) a.size = (0, 0, 21) := by
    have e1 : encC r = r.toNat := by
      unfold encC
      rw [if_pos (by simp [Utf8.valid]; omega)]
    have h2 : ¬ (rd (a ++ Utf8.encode r ++ b) a.size).2 = 0 := by rw [hrd]; simp only; omega
    unfold nextF
    rw [if_neg h2, hrd]
    show (if charB ((encC r : Nat) : Int) then (encC r, a.size + (Utf8.encode r).size, 0) else (0, 0, 21)) = _
    rw [e1, Int.toNat_of_nonneg hv.1, hch]; rfl
  have K : ∀ W, Calls Tryd.prog 13 #[.int .i32 r] W fun e w' => e = .returned (.bool false) ∧ W = w' := fun W => by rw [← hch]; exact isChar r W
  have HT := Lib.hid hT
  have HP := Lib.hid hp
  have HQ := Lib.hid hq
  have HNP := Lib.hid hnp
  have HNQ := Lib.hid hnq
  have HN := Lib.hid hnx
  have HK := Lib.hid K
  obtain ⟨s, hs⟩ : ∃ s, Utf8.encode r = s := ⟨_, rfl⟩
  rw [hs] at hkz HN
  clear hT hp hq hnp hnq hnx hrd K hch
  go_enter Tryd.func8, Tryd.ntmps8
  go_wp2_with (fail)
  refine A.out.mono ?_
  rintro e w1 ⟨rfl, hB1⟩
  obtain ⟨kc, w2, hcv, hkc, hb2, hz2, hc2⟩ := bytes_of w1 s
  have hB2 := below_cat hB1 hb2
  have hS2 : HoldsB w2 (some ⟨w1.heap.size, 0, none⟩) s := fun _ => ⟨_, _, rfl, hc2⟩
  obtain ⟨g1, k1, w4, hr1, ho1, hb4, _⟩ := append_first (HP.out.below hB2) HNP.out (by omega)
  obtain ⟨g2, k2, w5, hr2, ho2, hb5⟩ := append_next (c := kc) ho1 hb4 (hS2.below hb4) (fun e => by cases e) (by omega)
  have hz : (a ++ s).size = a.size + s.size := by simp
  obtain ⟨g3, k3, w6, hr3, ho3, hb6⟩ := append_next ho2 hb5 ((HQ.out.below hB2).below hb5) HNQ.out (by rw [hz]; omega)
  have hB6 := below_cat hB2 hb6
  have hz3 : (a ++ s ++ b).size = a.size + s.size + b.size := by simp
  have C := Lib.hid (next_in (a ++ s ++ b) g3 0 k3 a.size w6 (HT.out.below hB6) (by omega) ho3.2.2.2 (by omega) (fun j hj => by
    obtain ⟨b0, off0, e0, hc0⟩ := ho3.holds (by omega)
    cases e0
    exact hc0 j hj))
  rw [hz3, HN.out] at C
  rw [hz] at hr3
  have R1 := Lib.hid hr1
  have R2 := Lib.hid hr2
  have R3 := Lib.hid hr3
  clear hr1 ho1 hb4 hr2 ho2 hb5 hr3 ho3 hb6 hz hz3 hB2 hS2 hc2 hb2 hkc hz2
  go_wp2_with (first | (at_builtin; refine wpList_append_eq rfl (.tmp 17) (.tmp 18) 25 rfl _ _ _ _ rfl rfl R1.out ?_) | (at_builtin; refine wpList_append_eq rfl (.tmp 19) (.tmp 20) 25 rfl _ _ _ _ rfl rfl R2.out ?_) | (at_builtin; refine wpList_append_eq rfl (.tmp 21) (.tmp 22) 25 rfl _ _ _ _ rfl rfl R3.out ?_))
  refine C.out.mono ?_
  rintro e w7 ⟨rfl, hb7⟩
  have hB7 := below_cat hB6 hb7
  clear hb7 hB6
  go_wp2_with (fail)
  refine (HK.out _).mono ?_
  rintro e w8 ⟨rfl, rfl⟩
  go_wp2_with (fail)
  all_goals first | (exfalso; omega) | (go_ret; exact ⟨ret_bool (by simp), hB7⟩)

theorem charSpells_walk (p q : Option Addr) (a b : ByteArray) (c d : Nat) (r : Int) (w : World) (hT : Tabs w) (ha : a.size ≤ 35184372088832) (hb : b.size ≤ 35184372088832) (hp : HoldsB w p a) (hq : HoldsB w q b) (hnp : p = none → c = 0) (hnq : q = none → d = 0) :
    Calls Tryd.prog 8 #[.int .i32 r, .slice p a.size c, .slice q b.size d] w fun e w' => e = .returned (.bool true) ∧ Below w.heap.size w w' := by
  cases hch : charB r
  · by_cases hv : r < 0 ∨ 1114111 < r ∨ (55296 ≤ r ∧ r ≤ 57343)
    · exact charSpells_none p q a b c d r w hT ha hb hp hq hnp hnq hch hv
    · exact charSpells_other p q a b c d r w hT ha hb hp hq hnp hnq hch (by omega)
  · exact charSpells_char p q a b c d r w hT ha hb hp hq hnp hnq hch (char_valid hch).2
end Go.Proofs.YtiibmpjfkgohpaaDoor
