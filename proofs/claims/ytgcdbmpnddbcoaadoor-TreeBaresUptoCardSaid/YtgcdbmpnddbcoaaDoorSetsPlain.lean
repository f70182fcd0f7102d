/- Proved here: the document's three sets of numbers (chars, starts, parts) as plain Lean functions, and small facts on them; no program is named. -/
import Derived.WalkKit
namespace Go.Proofs.YtgcdbmpnddbcoaaDoor
open Go.RowKit

def charB (r : Int) : Bool := decide (r = 9 ∨ r = 10 ∨ r = 13 ∨ (32 ≤ r ∧ r ≤ 55295) ∨ (57344 ≤ r ∧ r ≤ 65533) ∨ (65536 ≤ r ∧ r ≤ 1114111))
def startB (r : Int) : Bool := decide ((65 ≤ r ∧ r ≤ 90) ∨ r = 95 ∨ (97 ≤ r ∧ r ≤ 122) ∨ (192 ≤ r ∧ r ≤ 214) ∨ (216 ≤ r ∧ r ≤ 246) ∨ (248 ≤ r ∧ r ≤ 767) ∨ (880 ≤ r ∧ r ≤ 893) ∨ (895 ≤ r ∧ r ≤ 8191) ∨ (8204 ≤ r ∧ r ≤ 8205) ∨ (8304 ≤ r ∧ r ≤ 8591) ∨ (11264 ≤ r ∧ r ≤ 12271) ∨ (12289 ≤ r ∧ r ≤ 55295) ∨ (63744 ≤ r ∧ r ≤ 64975) ∨ (65008 ≤ r ∧ r ≤ 65533) ∨ (65536 ≤ r ∧ r ≤ 983039))
def partB (r : Int) : Bool := startB r || decide (r = 45 ∨ r = 46 ∨ (48 ≤ r ∧ r ≤ 57) ∨ r = 183 ∨ (768 ≤ r ∧ r ≤ 879) ∨ (8255 ≤ r ∧ r ≤ 8256))
def btw (lo hi r : Int) : Bool := decide (lo ≤ r ∧ r ≤ hi)
theorem startB_eq (r : Int) : startB r = (btw 65 90 r || (r == 95) || btw 97 122 r || btw 192 214 r || btw 216 246 r || btw 248 767 r || btw 880 893 r || btw 895 8191 r || btw 8204 8205 r || btw 8304 8591 r || btw 11264 12271 r || btw 12289 55295 r || btw 63744 64975 r || btw 65008 65533 r || btw 65536 983039 r) := by
  unfold startB btw; rw [Bool.eq_iff_iff]; simp only [decide_eq_true_eq, Bool.or_eq_true, beq_iff_eq]; omega
theorem partB_eq (r : Int) : partB r = (startB r || (r == 45) || (r == 46) || btw 48 57 r || (r == 183) || btw 768 879 r || btw 8255 8256 r) := by
  unfold partB btw; generalize startB r = s; cases s <;> (rw [Bool.eq_iff_iff]; simp only [decide_eq_true_eq, Bool.or_eq_true, beq_iff_eq]; simp; try omega)
theorem partB_ref (r : Int) : partB r = (startB r || decide (r = 45 ∨ r = 46 ∨ (48 ≤ r ∧ r ≤ 57) ∨ r = 183 ∨ (768 ≤ r ∧ r ≤ 879) ∨ r = 8255 ∨ r = 8256)) := by
  unfold partB; generalize startB r = s; cases s <;> (rw [Bool.eq_iff_iff]; simp only [decide_eq_true_eq, Bool.or_eq_true]; simp; try omega)
theorem ret_bool {a b : Bool} (h : a = b) : Ending.returned (.bool a) = .returned (.bool b) := by rw [h]

end Go.Proofs.YtgcdbmpnddbcoaaDoor
