/- Proved here: what was laid of a page, or of a head, is taken; no program is named. -/
import Derived.Test.YtlkffignbjpfcaaSheetTake
namespace Go.Proofs.Ytlkffignbjpfcaa

theorem page_parts (n st : Nat) (p : List UInt8) : (pageL n st p).drop 4 = numL n 4 ++ (numL st 8 ++ fillL p 496) ∧ ((pageL n st p).drop 4).take 4 = numL n 4 ∧ ((pageL n st p).drop 8).take 8 = numL st 8 ∧ (pageL n st p).drop 16 = fillL p 496 := by
  have h4 : (pageL n st p).drop 4 = numL n 4 ++ (numL st 8 ++ fillL p 496) := List.drop_left' (numL_length _ 4)
  have h8 : (pageL n st p).drop 8 = numL st 8 ++ fillL p 496 := by
    have : (pageL n st p).drop 8 = ((pageL n st p).drop 4).drop 4 := by rw [List.drop_drop]
    rw [this, h4]
    exact List.drop_left' (numL_length _ 4)
  have h16 : (pageL n st p).drop 16 = fillL p 496 := by
    have : (pageL n st p).drop 16 = ((pageL n st p).drop 8).drop 8 := by rw [List.drop_drop]
    rw [this, h8]
    exact List.drop_left' (numL_length _ 8)
  refine ⟨h4, ?_, ?_, h16⟩
  · rw [h4]; exact List.take_left' (numL_length _ 4)
  · rw [h8]; exact List.take_left' (numL_length _ 8)
theorem blank_iff (l : List UInt8) : blankL l = true ↔ l = zL l.length := by
  unfold blankL zL
  rw [List.all_eq_true, List.eq_replicate_iff]
  simp
theorem val_zero (k : Nat) : valN (zL k) = 0 := by
  have : zL k = numL 0 k := by
    induction k with
    | zero => rfl
    | succ k ih =>
      unfold zL at *
      rw [List.replicate_succ, ih, numL, Nat.zero_div]
      rfl
  rw [this, val_num, Nat.zero_mod]
theorem zL_drop (n k : Nat) : (zL n).drop k = zL (n - k) := List.drop_replicate
theorem zL_take (n k : Nat) : (zL n).take k = zL (min k n) := List.take_replicate
/-- What was laid is taken. -/
theorem take_page (n st : Nat) (p : List UInt8) (hn : n ≤ 4294967295) (hst : st < 18446744073709551616) (hp : p.length ≤ 496) : takeR n (pageL n st p) = (fillL p 496, st, 0) := by
  obtain ⟨_, h4, h8, h16⟩ := page_parts n st p
  have hl := pageL_length (n := n) (stamp := st) hp
  have hv8 : valN (numL st 8) = st := by rw [val_num]; exact Nat.mod_eq_of_lt (by omega)
  have hv4 : valN (numL n 4) = n := by rw [val_num]; exact Nat.mod_eq_of_lt (by omega)
  unfold takeR
  rw [if_neg (by simp [hl])]
  cases hb : blankL (pageL n st p) with
  | true =>
    rw [if_pos rfl]
    rw [blank_iff, hl] at hb
    have e16 : fillL p 496 = zL 496 := by rw [← h16, hb, zL_drop]
    have e8 : numL st 8 = zL 8 := by rw [← h8, hb, zL_drop, zL_take]; rfl
    have : st = 0 := by rw [← hv8, e8, val_zero]
    rw [e16, this]
  | false =>
    rw [if_neg (by simp), if_neg (by rw [show pageL n st p = sealL _ from rfl, sealed_seal]; simp), h4, h8, h16, hv4, hv8, if_neg (by simp)]
end Go.Proofs.Ytlkffignbjpfcaa
