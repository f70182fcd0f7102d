/- Proved here: plain facts on the first place of any bytes that is no char (faultF); no program is named. -/
import Derived.Test.YtgcdbmpnddbcoaaDoorNamePlain
namespace Go.Proofs.YtgcdbmpnddbcoaaDoor
open Go.RowKit

/-- From pos on, in at most b steps: the first fault's place and its error; (0, 0): none. -/
def faultGo (s : ByteArray) : Nat → Nat → Nat × Nat
  | 0, _ => (0, 0)
  | b + 1, pos => if pos < s.size then (if (rd s pos).2 = 0 then (pos, 20) else if charB (rd s pos).1 = false then (pos, 21) else faultGo s b (pos + (rd s pos).2)) else (0, 0)
def faultF (s : ByteArray) : Nat × Nat := faultGo s s.size 0
theorem faultGo_end (s : ByteArray) (b pos : Nat) (h : ¬ pos < s.size) : faultGo s b pos = (0, 0) := by
  cases b with
  | zero => rfl
  | succ b => unfold faultGo; rw [if_neg h]
theorem faultGo_bad (s : ByteArray) (b pos : Nat) (h : pos < s.size) (h0 : (rd s pos).2 = 0) : faultGo s (b + 1) pos = (pos, 20) := by
  rw [faultGo, if_pos h, if_pos h0]
theorem faultGo_no (s : ByteArray) (b pos : Nat) (h : pos < s.size) (h0 : (rd s pos).2 ≠ 0) (h1 : charB (rd s pos).1 = false) : faultGo s (b + 1) pos = (pos, 21) := by
  rw [faultGo, if_pos h, if_neg h0, if_pos h1]
theorem faultGo_step (s : ByteArray) (b pos : Nat) (h : pos < s.size) (h0 : (rd s pos).2 ≠ 0) (h1 : charB (rd s pos).1 = true) : faultGo s (b + 1) pos = faultGo s b (pos + (rd s pos).2) := by
  rw [faultGo, if_pos h, if_neg h0, if_neg (by rw [h1]; simp)]
end Go.Proofs.YtgcdbmpnddbcoaaDoor
