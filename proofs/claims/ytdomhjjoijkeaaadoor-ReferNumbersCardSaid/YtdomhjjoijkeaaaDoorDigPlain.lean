/- Proved here: plain facts on digits and on numbers written in them; no program is named. -/
import Derived.Test.YtdomhjjoijkeaaaDoorFaultPlain
import Derived.Test.YtdomhjjoijkeaaaDoorSetsPlain
namespace Go.Proofs.YtdomhjjoijkeaaaDoor
open Go.RowKit

/-- A hexadecimal digit's number; 16: it is none. -/
def digZ (c : Int) : Int := if 48 ≤ c ∧ c ≤ 57 then c - 48 else if 97 ≤ c ∧ c ≤ 102 then c - 87 else if 65 ≤ c ∧ c ≤ 70 then c - 55 else 16
/-- The same, as the document has it: -1: it is none. -/
def hexZ (c : Int) : Int := if digZ c < 16 then digZ c else -1
theorem digZ_bd (c : Int) : 0 ≤ digZ c ∧ digZ c ≤ 16 := by
  unfold digZ
  repeat' split
  all_goals omega
def by_ (s : ByteArray) (k : Nat) : Int := (s.get! k).toNat
theorem by_bd (s : ByteArray) (k : Nat) : 0 ≤ by_ s k ∧ by_ s k < 256 := by
  unfold by_
  have := (s.get! k).toNat_lt
  omega

/-- The digits from pos on, n so far: the number (held at 1114112), and the place behind. -/
def numGo (s : ByteArray) (base : Nat) : Nat → Nat → Nat → Nat × Nat
  | 0, pos, n => (n, pos)
  | k + 1, pos, n => if pos < s.size ∧ digZ (by_ s pos) < base then numGo s base k (pos + 1) (min (n * base + (digZ (by_ s pos)).toNat) 1114112) else (n, pos)
theorem numGo_end (s : ByteArray) (base k pos n : Nat) (h : ¬ (pos < s.size ∧ digZ (by_ s pos) < base)) : numGo s base k pos n = (n, pos) := by
  cases k with
  | zero => rfl
  | succ k => rw [numGo, if_neg h]
theorem numGo_step (s : ByteArray) (base k pos n : Nat) (h : pos < s.size) (h2 : digZ (by_ s pos) < base) : numGo s base (k + 1) pos n = numGo s base k (pos + 1) (min (n * base + (digZ (by_ s pos)).toNat) 1114112) := by
  rw [numGo, if_pos ⟨h, h2⟩]
/-- What a number stands for that is over at a place. -/
def numOut (s : ByteArray) (first : Nat) (r : Nat × Nat) : Int × Int × Int :=
  if r.2 = first ∨ r.2 = s.size ∨ by_ s r.2 ≠ 59 then (0, 0, 22) else if charB r.1 then (r.1, r.2 + 1, 0) else (0, 0, 21)
def numF (s : ByteArray) (at_ : Nat) : Int × Int × Int :=
  if at_ < s.size ∧ by_ s at_ = 120 then numOut s (at_ + 1) (numGo s 16 s.size (at_ + 1) 0) else numOut s at_ (numGo s 10 s.size at_ 0)
end Go.Proofs.YtdomhjjoijkeaaaDoor
