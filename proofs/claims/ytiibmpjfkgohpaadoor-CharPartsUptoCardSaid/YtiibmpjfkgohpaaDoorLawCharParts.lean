/- Proved here: the law CharParts answers true at every two strings of at most 2^45 bytes and every number, in every world that holds the library's two tables; what was there stays. -/
import Derived.Test.YtiibmpjfkgohpaaDoorAwake
import Derived.Test.YtiibmpjfkgohpaaDoorSpellPlain
import Derived.BigGuardPart
namespace Go.Proofs.YtiibmpjfkgohpaaDoor
open Go.RowKit

/-- TWO TEXTS WITH A COLON BETWEEN part just if both are names. -/
theorem splitF_colon (p l : ByteArray) : splitF (p ++ ⟨#[58]⟩ ++ l) = if nameB p && nameB l then (p, l, true) else (sEmpty, sEmpty, false) := by
  have hz1 : (⟨#[58]⟩ : ByteArray).size = 1 := rfl
  have hz : (p ++ ⟨#[58]⟩ ++ l).size = p.size + 1 + l.size := by simp [hz1]
  have hc : ((p ++ ⟨#[58]⟩ ++ l).get! p.size).toNat = 58 := by
    rw [get!_left (p ++ ⟨#[58]⟩) l p.size (by simp [hz1])]
    have := get!_right p ⟨#[58]⟩ 0
    rw [Nat.add_zero] at this
    rw [this]
    rfl
  have e1 : (p ++ ⟨#[58]⟩ ++ l).extract 0 p.size = p := by
    apply ByteArray.ext
    apply Array.ext'
    simp [ByteArray.data_extract]
  have e2 : (p ++ ⟨#[58]⟩ ++ l).extract (p.size + 1) (p ++ ⟨#[58]⟩ ++ l).size = l := by
    apply ByteArray.ext
    apply Array.ext'
    simp [ByteArray.data_extract]
    rw [List.drop_eq_nil_of_le (by simp), hz1, show p.size + 1 + l.size - (p.size + 1) = l.size by omega, List.take_nil, List.nil_append]
    exact List.take_of_length_le (by simp)
  rcases index_lt (p ++ ⟨#[58]⟩ ++ l) with h | ⟨i, h, hi⟩
  · exact absurd hc (no_colon _ h p.size (by omega))
  · obtain ⟨g1, g2, g3⟩ := first_colon _ i h
    rcases Nat.lt_trichotomy i p.size with h' | h' | h'
    · have hp : nameB p = false := by
        cases g : nameB p
        · rfl
        · have := nameB_nocolon p g i h'
          rw [← get!_left p (⟨#[58]⟩ ++ l) i h', ← ByteArray.append_assoc] at this
          exact absurd g2 this
      rw [splitF_at _ i h, hp]
      have hr : nameB ((p ++ ⟨#[58]⟩ ++ l).extract (i + 1) (p ++ ⟨#[58]⟩ ++ l).size) = false := by
        cases g : nameB ((p ++ ⟨#[58]⟩ ++ l).extract (i + 1) (p ++ ⟨#[58]⟩ ++ l).size)
        · rfl
        · have := nameB_nocolon _ g (p.size - (i + 1)) (by simp [hz1]; omega)
          rw [get!_extract _ _ _ (by omega), show i + 1 + (p.size - (i + 1)) = p.size by omega] at this
          exact absurd hc this
      rw [hr]
      simp
    · subst h'
      rw [splitF_at _ _ h, e1, e2]
    · exact absurd hc (g3 p.size h')

set_option maxHeartbeats 2000000 in
set_option maxRecDepth 100000 in
theorem charParts_false_false (p l : ByteArray) (r : Int) (w : World) (hT : Tabs w) (hp : p.size ≤ 35184372088832) (hl : l.size ≤ 35184372088832) (h1 : nameB p = false) (h2 : nameB l = false) :
    Calls Tryd.prog 10 #[.string p, .string l, .int .i32 r] w fun e w' => e = .returned (.bool true) ∧ Below w.heap.size w w' := by
  have A := Lib.hid (awake_any w hT)
  have HT := Lib.hid hT
  have hz1 : (⟨#[58]⟩ : ByteArray).size = 1 := rfl
  have S := Lib.hid (fun W (h : Tabs W) => split_any (p ++ ⟨#[58]⟩ ++ l) W h (by simp [hz1]; omega))
  have hS : splitF (p ++ ⟨#[58]⟩ ++ l) = (⟨#[]⟩, ⟨#[]⟩, false) := by rw [splitF_colon, h1, h2]; rfl
  rw [hS] at S
  have N1 := Lib.hid (fun W (h : Tabs W) => name_any p W h (by omega))
  have N2 := Lib.hid (fun W (h : Tabs W) => name_any l W h (by omega))
  have hkz := encode_size r
  rw [h1] at N1
  rw [h2] at N2
  have b1 : (p.size : Int) ≤ 35184372088832 := by omega
  have b2 : (l.size : Int) ≤ 35184372088832 := by omega
  clear hT hS h1 h2 hz1
  go_enter Tryd.func10, Tryd.ntmps10
  go_wp2_with (fail)
  refine A.out.mono ?_
  rintro e w1 ⟨rfl, hB1⟩
  go_wp2_with (fail)
  refine (S.out _ (HT.out.below hB1)).mono ?_
  rintro e w2 ⟨rfl, hb2⟩
  have hB2 := below_cat hB1 hb2
  clear hb2 hB1
  go_wp2_with (fail)
  refine (N1.out _ (HT.out.below hB2)).mono ?_
  rintro e w3 ⟨rfl, hb3⟩
  have hB3 := below_cat hB2 hb3
  clear hb3 hB2
  go_wp2_with (fail)
  refine (N1.out _ (HT.out.below hB3)).mono ?_
  rintro e w5 ⟨rfl, hb5⟩
  have hB5 := below_cat hB3 hb5
  clear hb5 hB3
  go_wp2_with (fail)
  all_goals first | (exfalso; omega) | (go_ret; exact ⟨ret_bool (by first | (simp; done) | (simp; omega)), hB5⟩)

set_option maxHeartbeats 2000000 in
set_option maxRecDepth 100000 in
theorem charParts_false_true (p l : ByteArray) (r : Int) (w : World) (hT : Tabs w) (hp : p.size ≤ 35184372088832) (hl : l.size ≤ 35184372088832) (h1 : nameB p = false) (h2 : nameB l = true) :
    Calls Tryd.prog 10 #[.string p, .string l, .int .i32 r] w fun e w' => e = .returned (.bool true) ∧ Below w.heap.size w w' := by
  have A := Lib.hid (awake_any w hT)
  have HT := Lib.hid hT
  have hz1 : (⟨#[58]⟩ : ByteArray).size = 1 := rfl
  have S := Lib.hid (fun W (h : Tabs W) => split_any (p ++ ⟨#[58]⟩ ++ l) W h (by simp [hz1]; omega))
  have hS : splitF (p ++ ⟨#[58]⟩ ++ l) = (⟨#[]⟩, ⟨#[]⟩, false) := by rw [splitF_colon, h1, h2]; rfl
  rw [hS] at S
  have N1 := Lib.hid (fun W (h : Tabs W) => name_any p W h (by omega))
  have N2 := Lib.hid (fun W (h : Tabs W) => name_any l W h (by omega))
  have hkz := encode_size r
  rw [h1] at N1
  rw [h2] at N2
  have b1 : (p.size : Int) ≤ 35184372088832 := by omega
  have b2 : (l.size : Int) ≤ 35184372088832 := by omega
  clear hT hS h1 h2 hz1
  go_enter Tryd.func10, Tryd.ntmps10
  go_wp2_with (fail)
  refine A.out.mono ?_
  rintro e w1 ⟨rfl, hB1⟩
  go_wp2_with (fail)
  refine (S.out _ (HT.out.below hB1)).mono ?_
  rintro e w2 ⟨rfl, hb2⟩
  have hB2 := below_cat hB1 hb2
  clear hb2 hB1
  go_wp2_with (fail)
  refine (N1.out _ (HT.out.below hB2)).mono ?_
  rintro e w3 ⟨rfl, hb3⟩
  have hB3 := below_cat hB2 hb3
  clear hb3 hB2
  go_wp2_with (fail)
  refine (N1.out _ (HT.out.below hB3)).mono ?_
  rintro e w5 ⟨rfl, hb5⟩
  have hB5 := below_cat hB3 hb5
  clear hb5 hB3
  go_wp2_with (fail)
  all_goals first | (exfalso; omega) | (go_ret; exact ⟨ret_bool (by first | (simp; done) | (simp; omega)), hB5⟩)

set_option maxHeartbeats 2000000 in
set_option maxRecDepth 100000 in
theorem charParts_true_false_no (p l : ByteArray) (r : Int) (w : World) (hT : Tabs w) (hp : p.size ≤ 35184372088832) (hl : l.size ≤ 35184372088832) (h1 : nameB p = true) (h2 : nameB l = false) (h3 : partB r = false) :
    Calls Tryd.prog 10 #[.string p, .string l, .int .i32 r] w fun e w' => e = .returned (.bool true) ∧ Below w.heap.size w w' := by
  have A := Lib.hid (awake_any w hT)
  have HT := Lib.hid hT
  have hz1 : (⟨#[58]⟩ : ByteArray).size = 1 := rfl
  have S := Lib.hid (fun W (h : Tabs W) => split_any (p ++ ⟨#[58]⟩ ++ l) W h (by simp [hz1]; omega))
  have hS : splitF (p ++ ⟨#[58]⟩ ++ l) = (⟨#[]⟩, ⟨#[]⟩, false) := by rw [splitF_colon, h1, h2]; rfl
  rw [hS] at S
  have N1 := Lib.hid (fun W (h : Tabs W) => name_any p W h (by omega))
  have N2 := Lib.hid (fun W (h : Tabs W) => name_any l W h (by omega))
  have hkz := encode_size r
  have P := Lib.hid (fun W => isPart r W)
  rw [h3] at P
  rw [h1] at N1
  rw [h2] at N2
  have b1 : (p.size : Int) ≤ 35184372088832 := by omega
  have b2 : (l.size : Int) ≤ 35184372088832 := by omega
  clear hT hS h1 h2 hz1 h3
  go_enter Tryd.func10, Tryd.ntmps10
  go_wp2_with (fail)
  refine A.out.mono ?_
  rintro e w1 ⟨rfl, hB1⟩
  go_wp2_with (fail)
  refine (S.out _ (HT.out.below hB1)).mono ?_
  rintro e w2 ⟨rfl, hb2⟩
  have hB2 := below_cat hB1 hb2
  clear hb2 hB1
  go_wp2_with (fail)
  refine (N1.out _ (HT.out.below hB2)).mono ?_
  rintro e w3 ⟨rfl, hb3⟩
  have hB3 := below_cat hB2 hb3
  clear hb3 hB2
  go_wp2_with (fail)
  refine (N2.out _ (HT.out.below hB3)).mono ?_
  rintro e w4 ⟨rfl, hb4⟩
  have hB4 := below_cat hB3 hb4
  clear hb4 hB3
  go_wp2_with (fail)
  refine (N1.out _ (HT.out.below hB4)).mono ?_
  rintro e w5 ⟨rfl, hb5⟩
  have hB5 := below_cat hB4 hb5
  clear hb5 hB4
  go_wp2_with (fail)
  refine (P.out _).mono ?_
  rintro e w6 ⟨rfl, rfl⟩
  go_wp2_with (fail)
  all_goals first | (exfalso; omega) | (go_ret; exact ⟨ret_bool (by first | (simp; done) | (simp; omega)), hB5⟩)

set_option maxHeartbeats 2000000 in
set_option maxRecDepth 100000 in
theorem charParts_true_false_short (p l : ByteArray) (r : Int) (w : World) (hT : Tabs w) (hp : p.size ≤ 35184372088832) (hl : l.size ≤ 35184372088832) (h1 : nameB p = true) (h2 : nameB l = false) (h3 : partB r = true) (h4 : decide (p.size + (Utf8.encode r).size ≤ 100) = true) :
    Calls Tryd.prog 10 #[.string p, .string l, .int .i32 r] w fun e w' => e = .returned (.bool true) ∧ Below w.heap.size w w' := by
  have A := Lib.hid (awake_any w hT)
  have HT := Lib.hid hT
  have hz1 : (⟨#[58]⟩ : ByteArray).size = 1 := rfl
  have S := Lib.hid (fun W (h : Tabs W) => split_any (p ++ ⟨#[58]⟩ ++ l) W h (by simp [hz1]; omega))
  have hS : splitF (p ++ ⟨#[58]⟩ ++ l) = (⟨#[]⟩, ⟨#[]⟩, false) := by rw [splitF_colon, h1, h2]; rfl
  rw [hS] at S
  have N1 := Lib.hid (fun W (h : Tabs W) => name_any p W h (by omega))
  have N2 := Lib.hid (fun W (h : Tabs W) => name_any l W h (by omega))
  have hkz := encode_size r
  have N3 := Lib.hid (fun W (h : Tabs W) => name_any (p ++ Utf8.encode r) W h (by simp; omega))
  rw [name_snoc p r h1 h3, h4] at N3
  have P := Lib.hid (fun W => isPart r W)
  rw [h3] at P
  rw [h1] at N1
  rw [h2] at N2
  have b1 : (p.size : Int) ≤ 35184372088832 := by omega
  have b2 : (l.size : Int) ≤ 35184372088832 := by omega
  have h4' := of_decide_eq_true h4
  have h5 : (p.size : Int) + ((Utf8.encode r).size : Int) ≤ 100 := by omega
  clear hT hS h1 h2 hz1 h3 h4 h4'
  go_enter Tryd.func10, Tryd.ntmps10
  go_wp2_with (fail)
  refine A.out.mono ?_
  rintro e w1 ⟨rfl, hB1⟩
  go_wp2_with (fail)
  refine (S.out _ (HT.out.below hB1)).mono ?_
  rintro e w2 ⟨rfl, hb2⟩
  have hB2 := below_cat hB1 hb2
  clear hb2 hB1
  go_wp2_with (fail)
  refine (N1.out _ (HT.out.below hB2)).mono ?_
  rintro e w3 ⟨rfl, hb3⟩
  have hB3 := below_cat hB2 hb3
  clear hb3 hB2
  go_wp2_with (fail)
  refine (N2.out _ (HT.out.below hB3)).mono ?_
  rintro e w4 ⟨rfl, hb4⟩
  have hB4 := below_cat hB3 hb4
  clear hb4 hB3
  go_wp2_with (fail)
  refine (N1.out _ (HT.out.below hB4)).mono ?_
  rintro e w5 ⟨rfl, hb5⟩
  have hB5 := below_cat hB4 hb5
  clear hb5 hB4
  go_wp2_with (fail)
  refine (P.out _).mono ?_
  rintro e w6 ⟨rfl, rfl⟩
  go_wp2_with (fail)
  refine (N3.out _ (HT.out.below hB5)).mono ?_
  rintro e w7 ⟨rfl, hb7⟩
  have hB7 := below_cat hB5 hb7
  clear hb7 hB5
  go_wp2_with (fail)
  all_goals first | (exfalso; omega) | (go_ret; exact ⟨ret_bool (by first | (simp; done) | (simp; omega)), hB7⟩)

set_option maxHeartbeats 2000000 in
set_option maxRecDepth 100000 in
theorem charParts_true_false_long (p l : ByteArray) (r : Int) (w : World) (hT : Tabs w) (hp : p.size ≤ 35184372088832) (hl : l.size ≤ 35184372088832) (h1 : nameB p = true) (h2 : nameB l = false) (h3 : partB r = true) (h4 : decide (p.size + (Utf8.encode r).size ≤ 100) = false) :
    Calls Tryd.prog 10 #[.string p, .string l, .int .i32 r] w fun e w' => e = .returned (.bool true) ∧ Below w.heap.size w w' := by
  have A := Lib.hid (awake_any w hT)
  have HT := Lib.hid hT
  have hz1 : (⟨#[58]⟩ : ByteArray).size = 1 := rfl
  have S := Lib.hid (fun W (h : Tabs W) => split_any (p ++ ⟨#[58]⟩ ++ l) W h (by simp [hz1]; omega))
  have hS : splitF (p ++ ⟨#[58]⟩ ++ l) = (⟨#[]⟩, ⟨#[]⟩, false) := by rw [splitF_colon, h1, h2]; rfl
  rw [hS] at S
  have N1 := Lib.hid (fun W (h : Tabs W) => name_any p W h (by omega))
  have N2 := Lib.hid (fun W (h : Tabs W) => name_any l W h (by omega))
  have hkz := encode_size r
  have N3 := Lib.hid (fun W (h : Tabs W) => name_any (p ++ Utf8.encode r) W h (by simp; omega))
  rw [name_snoc p r h1 h3, h4] at N3
  have P := Lib.hid (fun W => isPart r W)
  rw [h3] at P
  rw [h1] at N1
  rw [h2] at N2
  have b1 : (p.size : Int) ≤ 35184372088832 := by omega
  have b2 : (l.size : Int) ≤ 35184372088832 := by omega
  have h4' := of_decide_eq_false h4
  have h5 : (100 : Int) < (p.size : Int) + ((Utf8.encode r).size : Int) := by omega
  clear hT hS h1 h2 hz1 h3 h4 h4'
  go_enter Tryd.func10, Tryd.ntmps10
  go_wp2_with (fail)
  refine A.out.mono ?_
  rintro e w1 ⟨rfl, hB1⟩
  go_wp2_with (fail)
  refine (S.out _ (HT.out.below hB1)).mono ?_
  rintro e w2 ⟨rfl, hb2⟩
  have hB2 := below_cat hB1 hb2
  clear hb2 hB1
  go_wp2_with (fail)
  refine (N1.out _ (HT.out.below hB2)).mono ?_
  rintro e w3 ⟨rfl, hb3⟩
  have hB3 := below_cat hB2 hb3
  clear hb3 hB2
  go_wp2_with (fail)
  refine (N2.out _ (HT.out.below hB3)).mono ?_
  rintro e w4 ⟨rfl, hb4⟩
  have hB4 := below_cat hB3 hb4
  clear hb4 hB3
  go_wp2_with (fail)
  refine (N1.out _ (HT.out.below hB4)).mono ?_
  rintro e w5 ⟨rfl, hb5⟩
  have hB5 := below_cat hB4 hb5
  clear hb5 hB4
  go_wp2_with (fail)
  refine (P.out _).mono ?_
  rintro e w6 ⟨rfl, rfl⟩
  go_wp2_with (fail)
  refine (N3.out _ (HT.out.below hB5)).mono ?_
  rintro e w7 ⟨rfl, hb7⟩
  have hB7 := below_cat hB5 hb7
  clear hb7 hB5
  go_wp2_with (fail)
  all_goals first | (exfalso; omega) | (go_ret; exact ⟨ret_bool (by first | (simp; done) | (simp; omega)), hB7⟩)

set_option maxHeartbeats 2000000 in
set_option maxRecDepth 100000 in
theorem charParts_true_true_no (p l : ByteArray) (r : Int) (w : World) (hT : Tabs w) (hp : p.size ≤ 35184372088832) (hl : l.size ≤ 35184372088832) (h1 : nameB p = true) (h2 : nameB l = true) (h3 : partB r = false) :
    Calls Tryd.prog 10 #[.string p, .string l, .int .i32 r] w fun e w' => e = .returned (.bool true) ∧ Below w.heap.size w w' := by
  have A := Lib.hid (awake_any w hT)
  have HT := Lib.hid hT
  have hz1 : (⟨#[58]⟩ : ByteArray).size = 1 := rfl
  have S := Lib.hid (fun W (h : Tabs W) => split_any (p ++ ⟨#[58]⟩ ++ l) W h (by simp [hz1]; omega))
  have hS : splitF (p ++ ⟨#[58]⟩ ++ l) = (p, l, true) := by rw [splitF_colon, h1, h2]; rfl
  rw [hS] at S
  have N1 := Lib.hid (fun W (h : Tabs W) => name_any p W h (by omega))
  have N2 := Lib.hid (fun W (h : Tabs W) => name_any l W h (by omega))
  have hkz := encode_size r
  have P := Lib.hid (fun W => isPart r W)
  rw [h3] at P
  rw [h1] at N1
  rw [h2] at N2
  have b1 : (p.size : Int) ≤ 35184372088832 := by omega
  have b2 : (l.size : Int) ≤ 35184372088832 := by omega
  clear hT hS h1 h2 hz1 h3
  go_enter Tryd.func10, Tryd.ntmps10
  go_wp2_with (fail)
  refine A.out.mono ?_
  rintro e w1 ⟨rfl, hB1⟩
  go_wp2_with (fail)
  refine (S.out _ (HT.out.below hB1)).mono ?_
  rintro e w2 ⟨rfl, hb2⟩
  have hB2 := below_cat hB1 hb2
  clear hb2 hB1
  go_wp2_with (fail)
  refine (N1.out _ (HT.out.below hB2)).mono ?_
  rintro e w3 ⟨rfl, hb3⟩
  have hB3 := below_cat hB2 hb3
  clear hb3 hB2
  go_wp2_with (fail)
  refine (N2.out _ (HT.out.below hB3)).mono ?_
  rintro e w4 ⟨rfl, hb4⟩
  have hB4 := below_cat hB3 hb4
  clear hb4 hB3
  go_wp2_with (fail)
  refine (N1.out _ (HT.out.below hB4)).mono ?_
  rintro e w5 ⟨rfl, hb5⟩
  have hB5 := below_cat hB4 hb5
  clear hb5 hB4
  go_wp2_with (fail)
  refine (P.out _).mono ?_
  rintro e w6 ⟨rfl, rfl⟩
  go_wp2_with (fail)
  all_goals first | (exfalso; omega) | (go_ret; exact ⟨ret_bool (by first | (simp; done) | (simp; omega)), hB5⟩)

set_option maxHeartbeats 2000000 in
set_option maxRecDepth 100000 in
theorem charParts_true_true_short (p l : ByteArray) (r : Int) (w : World) (hT : Tabs w) (hp : p.size ≤ 35184372088832) (hl : l.size ≤ 35184372088832) (h1 : nameB p = true) (h2 : nameB l = true) (h3 : partB r = true) (h4 : decide (p.size + (Utf8.encode r).size ≤ 100) = true) :
    Calls Tryd.prog 10 #[.string p, .string l, .int .i32 r] w fun e w' => e = .returned (.bool true) ∧ Below w.heap.size w w' := by
  have A := Lib.hid (awake_any w hT)
  have HT := Lib.hid hT
  have hz1 : (⟨#[58]⟩ : ByteArray).size = 1 := rfl
  have S := Lib.hid (fun W (h : Tabs W) => split_any (p ++ ⟨#[58]⟩ ++ l) W h (by simp [hz1]; omega))
  have hS : splitF (p ++ ⟨#[58]⟩ ++ l) = (p, l, true) := by rw [splitF_colon, h1, h2]; rfl
  rw [hS] at S
  have N1 := Lib.hid (fun W (h : Tabs W) => name_any p W h (by omega))
  have N2 := Lib.hid (fun W (h : Tabs W) => name_any l W h (by omega))
  have hkz := encode_size r
  have N3 := Lib.hid (fun W (h : Tabs W) => name_any (p ++ Utf8.encode r) W h (by simp; omega))
  rw [name_snoc p r h1 h3, h4] at N3
  have P := Lib.hid (fun W => isPart r W)
  rw [h3] at P
  rw [h1] at N1
  rw [h2] at N2
  have b1 : (p.size : Int) ≤ 35184372088832 := by omega
  have b2 : (l.size : Int) ≤ 35184372088832 := by omega
  have h4' := of_decide_eq_true h4
  have h5 : (p.size : Int) + ((Utf8.encode r).size : Int) ≤ 100 := by omega
  clear hT hS h1 h2 hz1 h3 h4 h4'
  go_enter Tryd.func10, Tryd.ntmps10
  go_wp2_with (fail)
  refine A.out.mono ?_
  rintro e w1 ⟨rfl, hB1⟩
  go_wp2_with (fail)
  refine (S.out _ (HT.out.below hB1)).mono ?_
  rintro e w2 ⟨rfl, hb2⟩
  have hB2 := below_cat hB1 hb2
  clear hb2 hB1
  go_wp2_with (fail)
  refine (N1.out _ (HT.out.below hB2)).mono ?_
  rintro e w3 ⟨rfl, hb3⟩
  have hB3 := below_cat hB2 hb3
  clear hb3 hB2
  go_wp2_with (fail)
  refine (N2.out _ (HT.out.below hB3)).mono ?_
  rintro e w4 ⟨rfl, hb4⟩
  have hB4 := below_cat hB3 hb4
  clear hb4 hB3
  go_wp2_with (fail)
  refine (N1.out _ (HT.out.below hB4)).mono ?_
  rintro e w5 ⟨rfl, hb5⟩
  have hB5 := below_cat hB4 hb5
  clear hb5 hB4
  go_wp2_with (fail)
  refine (P.out _).mono ?_
  rintro e w6 ⟨rfl, rfl⟩
  go_wp2_with (fail)
  refine (N3.out _ (HT.out.below hB5)).mono ?_
  rintro e w7 ⟨rfl, hb7⟩
  have hB7 := below_cat hB5 hb7
  clear hb7 hB5
  go_wp2_with (fail)
  all_goals first | (exfalso; omega) | (go_ret; exact ⟨ret_bool (by first | (simp; done) | (simp; omega)), hB7⟩)

set_option maxHeartbeats 2000000 in
set_option maxRecDepth 100000 in
theorem charParts_true_true_long (p l : ByteArray) (r : Int) (w : World) (hT : Tabs w) (hp : p.size ≤ 35184372088832) (hl : l.size ≤ 35184372088832) (h1 : nameB p = true) (h2 : nameB l = true) (h3 : partB r = true) (h4 : decide (p.size + (Utf8.encode r).size ≤ 100) = false) :
    Calls Tryd.prog 10 #[.string p, .string l, .int .i32 r] w fun e w' => e = .returned (.bool true) ∧ Below w.heap.size w w' := by
  have A := Lib.hid (awake_any w hT)
  have HT := Lib.hid hT
  have hz1 : (⟨#[58]⟩ : ByteArray).size = 1 := rfl
  have S := Lib.hid (fun W (h : Tabs W) => split_any (p ++ ⟨#[58]⟩ ++ l) W h (by simp [hz1]; omega))
  have hS : splitF (p ++ ⟨#[58]⟩ ++ l) = (p, l, true) := by rw [splitF_colon, h1, h2]; rfl
  rw [hS] at S
  have N1 := Lib.hid (fun W (h : Tabs W) => name_any p W h (by omega))
  have N2 := Lib.hid (fun W (h : Tabs W) => name_any l W h (by omega))
  have hkz := encode_size r
  have N3 := Lib.hid (fun W (h : Tabs W) => name_any (p ++ Utf8.encode r) W h (by simp; omega))
  rw [name_snoc p r h1 h3, h4] at N3
  have P := Lib.hid (fun W => isPart r W)
  rw [h3] at P
  rw [h1] at N1
  rw [h2] at N2
  have b1 : (p.size : Int) ≤ 35184372088832 := by omega
  have b2 : (l.size : Int) ≤ 35184372088832 := by omega
  have h4' := of_decide_eq_false h4
  have h5 : (100 : Int) < (p.size : Int) + ((Utf8.encode r).size : Int) := by omega
  clear hT hS h1 h2 hz1 h3 h4 h4'
  go_enter Tryd.func10, Tryd.ntmps10
  go_wp2_with (fail)
  refine A.out.mono ?_
  rintro e w1 ⟨rfl, hB1⟩
  go_wp2_with (fail)
  refine (S.out _ (HT.out.below hB1)).mono ?_
  rintro e w2 ⟨rfl, hb2⟩
  have hB2 := below_cat hB1 hb2
  clear hb2 hB1
  go_wp2_with (fail)
  refine (N1.out _ (HT.out.below hB2)).mono ?_
  rintro e w3 ⟨rfl, hb3⟩
  have hB3 := below_cat hB2 hb3
  clear hb3 hB2
  go_wp2_with (fail)
  refine (N2.out _ (HT.out.below hB3)).mono ?_
  rintro e w4 ⟨rfl, hb4⟩
  have hB4 := below_cat hB3 hb4
  clear hb4 hB3
  go_wp2_with (fail)
  refine (N1.out _ (HT.out.below hB4)).mono ?_
  rintro e w5 ⟨rfl, hb5⟩
  have hB5 := below_cat hB4 hb5
  clear hb5 hB4
  go_wp2_with (fail)
  refine (P.out _).mono ?_
  rintro e w6 ⟨rfl, rfl⟩
  go_wp2_with (fail)
  refine (N3.out _ (HT.out.below hB5)).mono ?_
  rintro e w7 ⟨rfl, hb7⟩
  have hB7 := below_cat hB5 hb7
  clear hb7 hB5
  go_wp2_with (fail)
  all_goals first | (exfalso; omega) | (go_ret; exact ⟨ret_bool (by first | (simp; done) | (simp; omega)), hB7⟩)

theorem charParts_walk (p l : ByteArray) (r : Int) (w : World) (hT : Tabs w) (hp : p.size ≤ 35184372088832) (hl : l.size ≤ 35184372088832) :
    Calls Tryd.prog 10 #[.string p, .string l, .int .i32 r] w fun e w' => e = .returned (.bool true) ∧ Below w.heap.size w w' := by
  cases h1 : nameB p
  · cases h2 : nameB l
    · exact charParts_false_false p l r w hT hp hl h1 h2
    · exact charParts_false_true p l r w hT hp hl h1 h2
  · cases h3 : partB r
    · cases h2 : nameB l
      · exact charParts_true_false_no p l r w hT hp hl h1 h2 h3
      · exact charParts_true_true_no p l r w hT hp hl h1 h2 h3
    · cases h4 : decide (p.size + (Utf8.encode r).size ≤ 100)
      · cases h2 : nameB l
        · exact charParts_true_false_long p l r w hT hp hl h1 h2 h3 h4
        · exact charParts_true_true_long p l r w hT hp hl h1 h2 h3 h4
      · cases h2 : nameB l
        · exact charParts_true_false_short p l r w hT hp hl h1 h2 h3 h4
        · exact charParts_true_true_short p l r w hT hp hl h1 h2 h3 h4
end Go.Proofs.YtiibmpjfkgohpaaDoor
