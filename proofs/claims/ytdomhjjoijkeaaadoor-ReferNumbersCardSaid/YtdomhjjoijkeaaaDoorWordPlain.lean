/- Proved here: plain facts on the words of references, as the document looks for them: just those that Expand finds; no program is named. -/
import Derived.Test.YtdomhjjoijkeaaaDoorExpandPlain
import Derived.Test.YtdomhjjoijkeaaaDoorWritePlain
namespace Go.Proofs.YtdomhjjoijkeaaaDoor
open Go.RowKit

/-- The words behind an ampersand. -/
def wrdL : Nat → List UInt8
  | 0 => [108, 116, 59]
  | 1 => [103, 116, 59]
  | 2 => [97, 109, 112, 59]
  | 3 => [97, 112, 111, 115, 59]
  | _ => [113, 117, 111, 116, 59]
def wB (s : ByteArray) (a k : Nat) : Bool := decide (a + (wrdL k).length ≤ s.size) && ((s.extract a (a + (wrdL k).length)).toList == wrdL k)
def wordGo (s : ByteArray) (a : Nat) : Nat → Int × Int
  | 0 => (0, 0)
  | m + 1 => if wB s a (4 - m) then (charOf (4 - m), (a : Int) + ((wrdL (4 - m)).length : Int)) else wordGo s a m
theorem wordGo_yes (s : ByteArray) (a m : Nat) (h : wB s a (4 - m) = true) : wordGo s a (m + 1) = (charOf (4 - m), (a : Int) + ((wrdL (4 - m)).length : Int)) := by rw [wordGo, if_pos h]
theorem wordGo_no (s : ByteArray) (a m : Nat) (h : wB s a (4 - m) = false) : wordGo s a (m + 1) = wordGo s a m := by rw [wordGo, if_neg (by rw [h]; simp)]
theorem extract_list (s : ByteArray) (a n : Nat) : (s.extract a (a + n)).toList = (s.data.toList.drop a).take n := by
  rw [Lib.toList_data, ByteArray.data_extract, Array.toList_extract]
  simp [List.extract, Nat.add_sub_cancel_left]
theorem wB_eq (s : ByteArray) (a k : Nat) : wB s a k = Lib.hasPrefix (s.data.toList.drop a) (wrdL k) := by
  unfold wB Lib.hasPrefix
  rw [extract_list, Bool.eq_iff_iff, List.isPrefixOf_iff_prefix, Bool.and_eq_true, decide_eq_true_eq, beq_iff_eq]
  constructor
  · rintro ⟨_, h⟩
    rw [← h]
    exact List.take_prefix _ _
  · intro h
    have h1 := h.length_le
    have h2 := List.prefix_iff_eq_take.1 h
    refine ⟨?_, h2.symm⟩
    have h3 : 0 < (wrdL k).length := by
      match k with
      | 0 => decide
      | 1 => decide
      | 2 => decide
      | 3 => decide
      | _ + 4 => show 0 < [(113 : UInt8), 117, 111, 116, 59].length; decide
    simp at h1
    omega
theorem word_pfx (k : Nat) : (wordOf k).data.toList = 38 :: wrdL k := by
  match k with
  | 0 => rfl
  | 1 => rfl
  | 2 => rfl
  | 3 => rfl
  | _ + 4 => rfl
theorem get_of_by {s : ByteArray} {k : Nat} {n : Nat} (hn : n < 256) (h : by_ s k = (n : Int)) : s.get! k = UInt8.ofNat n := by
  apply UInt8.toNat_inj.1
  unfold by_ at h
  rw [UInt8.toNat_ofNat']
  omega
theorem pfx_word (s : ByteArray) (at_ k : Nat) (h : at_ < s.size) (h38 : by_ s at_ = 38) : pfxB s at_ k = wB s (at_ + 1) k := by
  rw [wB_eq]
  unfold pfxB Lib.hasPrefix
  rw [word_pfx, drop_at s at_ h, get_of_by (n := 38) (by decide) h38]
  simp [List.isPrefixOf]
theorem wrd_size (k : Nat) : (wordOf k).size = (wrdL k).length + 1 := by
  have h := congrArg List.length (word_pfx k)
  simpa using h
/-- What the document's words say is what the table's say. -/
theorem word_named (s : ByteArray) (at_ : Nat) (h : at_ < s.size) (h38 : by_ s at_ = 38) : ∀ m, (wordGo s (at_ + 1) m = (0, 0) ∧ namedGo s at_ m = (0, 0, 22)) ∨ (0 < (wordGo s (at_ + 1) m).2 ∧ namedGo s at_ m = ((wordGo s (at_ + 1) m).1, (wordGo s (at_ + 1) m).2, 0))
  | 0 => .inl ⟨rfl, rfl⟩
  | m + 1 => by
    rw [wordGo, namedGo, pfx_word s at_ _ h h38]
    split
    · right
      rw [wrd_size]
      refine ⟨?_, ?_⟩
      · simp only; omega
      · simp only [Prod.mk.injEq, true_and, and_true]; omega
    · exact word_named s at_ h h38 m
end Go.Proofs.YtdomhjjoijkeaaaDoor
