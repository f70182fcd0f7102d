/- Proved here: plain facts that join Go's decoder of UTF-8 with the document's reading of one character; no program is named. -/
import Derived.Test.YtgcdbmpnddbcoaaDoorReadPlain
import Derived.Shelf.Unicode.DecodeSlow
namespace Go.Proofs.YtgcdbmpnddbcoaaDoor
open Go.RowKit

/-- What begins at a place of s: the number, and how many bytes; (0, 0): nothing. -/
def rd (s : ByteArray) (at_ : Nat) : Nat × Nat := rdN (s.size - at_) (s.get! at_).toNat (s.get! (at_ + 1)).toNat (s.get! (at_ + 2)).toNat (s.get! (at_ + 3)).toNat
/-- What Next answers within s: the char, the place behind, the error. -/
def nextF (s : ByteArray) (at_ : Nat) : Nat × Nat × Nat :=
  if (rd s at_).2 = 0 then (0, 0, 20) else if charB (rd s at_).1 then ((rd s at_).1, at_ + (rd s at_).2, 0) else (0, 0, 21)

theorem get!_extract (s : ByteArray) (at_ j : Nat) (h : at_ ≤ s.size) : (s.extract at_ s.size).get! j = s.get! (at_ + j) := by
  by_cases hj : at_ + j < s.size
  · have h1 : j < (s.extract at_ s.size).size := by simp; omega
    have e1 : (s.extract at_ s.size).get! j = (s.extract at_ s.size)[j] := by
      show (s.extract at_ s.size).data[j]! = _
      rw [getElem!_pos _ _ (by simpa using h1)]; rfl
    have e2 : s.get! (at_ + j) = s[at_ + j] := by
      show s.data[at_ + j]! = _
      rw [getElem!_pos _ _ (by simpa using hj)]; rfl
    rw [e1, e2, ByteArray.getElem_extract]
  · have e1 : (s.extract at_ s.size).get! j = default := by
      show (s.extract at_ s.size).data[j]! = _
      exact getElem!_neg _ _ (by simp; omega)
    have e2 : s.get! (at_ + j) = default := by
      show s.data[at_ + j]! = _
      exact getElem!_neg _ _ (by simp; omega)
    rw [e1, e2]

theorem decodeN_bd (n x0 x1 x2 x3 : Nat) (h0 : x0 < 256) : 1 ≤ (Lib.decodeN n x0 x1 x2 x3).2 ∧ (Lib.decodeN n x0 x1 x2 x3).2 ≤ 4 ∧ (Lib.decodeN n x0 x1 x2 x3).1 ≤ 1114111 := by
  unfold Lib.decodeN
  repeat' split
  all_goals (simp only; omega)
theorem decodeN_fits (n x0 x1 x2 x3 : Nat) (h : 0 < n) : (Lib.decodeN n x0 x1 x2 x3).2 ≤ n := by
  unfold Lib.decodeN
  repeat' split
  all_goals (simp only; omega)
theorem decodeN_one (n x0 x1 x2 x3 : Nat) (h : 128 ≤ x0) (h1 : (Lib.decodeN n x0 x1 x2 x3).2 = 1) : (Lib.decodeN n x0 x1 x2 x3).1 = 65533 := by
  revert h1
  unfold Lib.decodeN
  repeat' split
  all_goals first | (intro _; rfl) | (intro h1; exfalso; simp only at h1; omega) | omega

theorem decodeGo_at (s : ByteArray) (at_ : Nat) (h : at_ < s.size) : Lib.decodeGo (s.extract at_ s.size) = Lib.decodeN (s.size - at_) (s.get! at_).toNat (s.get! (at_ + 1)).toNat (s.get! (at_ + 2)).toNat (s.get! (at_ + 3)).toNat := by
  have hz : (s.extract at_ s.size).size = s.size - at_ := by simp
  unfold Lib.decodeGo
  rw [if_neg (by rw [hz]; omega), Lib.decode_at, hz, get!_extract _ _ _ (by omega), get!_extract _ _ _ (by omega), get!_extract _ _ _ (by omega), get!_extract _ _ _ (by omega)]
  rfl
theorem decode_rd (s : ByteArray) (at_ : Nat) : Utf8.decode s at_ = Lib.decodeN (s.size - at_) (s.get! at_).toNat (s.get! (at_ + 1)).toNat (s.get! (at_ + 2)).toNat (s.get! (at_ + 3)).toNat := Lib.decode_at s at_

/-- WHAT Go's DECODER SAYS, in the document's terms: the character, or fffd of one byte just where none begins. -/
theorem rd_of_decode (n x0 x1 x2 x3 : Nat) (h0 : x0 < 256) :
    ((Lib.decodeN n x0 x1 x2 x3) = (65533, 1) ∧ rdN n x0 x1 x2 x3 = (0, 0)) ∨
    (rdN n x0 x1 x2 x3 = Lib.decodeN n x0 x1 x2 x3 ∧ ¬ ((Lib.decodeN n x0 x1 x2 x3).1 = 65533 ∧ (Lib.decodeN n x0 x1 x2 x3).2 = 1)) := by
  unfold rdN
  by_cases h : x0 < 128
  · right
    have e : Lib.decodeN n x0 x1 x2 x3 = (x0, 1) := by unfold Lib.decodeN; rw [if_pos h]
    rw [if_pos h, e]
    exact ⟨rfl, fun g => by simp only at g; omega⟩
  · by_cases h1 : (Lib.decodeN n x0 x1 x2 x3).2 = 1
    · left
      rw [if_neg h, if_pos h1]
      exact ⟨Prod.ext (decodeN_one n x0 x1 x2 x3 (by omega) h1) h1, rfl⟩
    · right
      rw [if_neg h, if_neg h1]
      exact ⟨rfl, fun g => h1 g.2⟩
end Go.Proofs.YtgcdbmpnddbcoaaDoor
