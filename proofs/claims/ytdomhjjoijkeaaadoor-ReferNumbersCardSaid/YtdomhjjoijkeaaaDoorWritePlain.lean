/- Proved here: plain facts on how texts and values are written; no program is named. -/
import Derived.Test.YtdomhjjoijkeaaaDoorDigPlain
import Derived.Test.YtdomhjjoijkeaaaDoorColonPlain
import Derived.Lib.UnsafeStr
import Derived.Lib.AppendStr
import Derived.Lib.Strings
namespace Go.Proofs.YtdomhjjoijkeaaaDoor
open Go.RowKit

/-- How a byte of a text is written that can't stand for itself; and one of a value. -/
def escT (c : Int) : ByteArray := if c == 38 then ⟨#[38, 97, 109, 112, 59]⟩ else if c == 60 then ⟨#[38, 108, 116, 59]⟩ else if c == 62 then ⟨#[38, 103, 116, 59]⟩ else if c == 13 then ⟨#[38, 35, 49, 51, 59]⟩ else ⟨#[]⟩
def escV (c : Int) : ByteArray := if c == 38 then ⟨#[38, 97, 109, 112, 59]⟩ else if c == 60 then ⟨#[38, 108, 116, 59]⟩ else if c == 34 then ⟨#[38, 113, 117, 111, 116, 59]⟩ else if c == 9 then ⟨#[38, 35, 57, 59]⟩ else if c == 10 then ⟨#[38, 35, 49, 48, 59]⟩ else if c == 13 then ⟨#[38, 35, 49, 51, 59]⟩ else ⟨#[]⟩

/-- The bytes that are written for one; and for all. -/
def oneL (esc : Int → ByteArray) (x : UInt8) : List UInt8 := if esc x.toNat = ⟨#[]⟩ then [x] else (esc x.toNat).data.toList
def writtenL (esc : Int → ByteArray) (l : List UInt8) : List UInt8 := l.flatMap (oneL esc)
def writtenB (esc : Int → ByteArray) (s : ByteArray) : ByteArray := ⟨(writtenL esc s.data.toList).toArray⟩
theorem escT_size (c : Int) : (escT c).size ≤ 6 := by
  unfold escT
  repeat' split
  all_goals decide
theorem escV_size (c : Int) : (escV c).size ≤ 6 := by
  unfold escV
  repeat' split
  all_goals decide
/-- What is written behind k bytes. -/
def WAcc (esc : Int → ByteArray) (s : ByteArray) (k : Nat) (out : List UInt8) : Prop := out ++ writtenL esc (s.data.toList.drop k) = writtenL esc s.data.toList
theorem wacc_zero (esc : Int → ByteArray) (s : ByteArray) : WAcc esc s 0 [] := by unfold WAcc; simp
theorem drop_at (s : ByteArray) (k : Nat) (h : k < s.size) : s.data.toList.drop k = s.get! k :: s.data.toList.drop (k + 1) := by
  have h1 := get!_of s k h
  obtain ⟨h2, h3⟩ := List.getElem?_eq_some_iff.1 h1
  rw [List.drop_eq_getElem_cons h2, h3]
theorem wacc_end (esc : Int → ByteArray) (s : ByteArray) (k : Nat) (out : List UInt8) (h : ¬ k < s.size) (ha : WAcc esc s k out) : out = writtenL esc s.data.toList := by
  unfold WAcc at ha
  rw [List.drop_eq_nil_of_le (by simp; omega)] at ha
  rw [← ha]
  simp [writtenL]
theorem wacc_self (esc : Int → ByteArray) (s : ByteArray) (k : Nat) (out : List UInt8) (h : k < s.size) (he : esc (by_ s k) = ⟨#[]⟩) (ha : WAcc esc s k out) : WAcc esc s (k + 1) (out ++ [s.get! k]) := by
  unfold WAcc at ha ⊢
  rw [drop_at s k h] at ha
  unfold writtenL at ha ⊢
  rw [List.flatMap_cons] at ha
  have e : oneL esc (s.get! k) = [s.get! k] := by unfold oneL; exact if_pos he
  rw [e] at ha
  rw [List.append_assoc]
  exact ha
theorem wacc_esc (esc : Int → ByteArray) (s : ByteArray) (k : Nat) (out : List UInt8) (h : k < s.size) (he : ¬ esc (by_ s k) = ⟨#[]⟩) (ha : WAcc esc s k out) : WAcc esc s (k + 1) (out ++ (esc (by_ s k)).data.toList) := by
  unfold WAcc at ha ⊢
  rw [drop_at s k h] at ha
  unfold writtenL at ha ⊢
  rw [List.flatMap_cons] at ha
  have e : oneL esc (s.get! k) = (esc (by_ s k)).data.toList := by unfold oneL; exact if_neg he
  rw [e] at ha
  rw [List.append_assoc]
  exact ha
theorem by_get (s : ByteArray) (k : Nat) (h : k < s.size) : by_ s k = ((s[k]).toNat : Int) := by
  unfold by_
  show ((s.data[k]!).toNat : Int) = _
  rw [getElem!_pos s.data k h]
  rfl
theorem str_some {t : ByteArray} (h : ¬ t = ⟨#[]⟩) : t.toList.isEmpty = false := by
  rw [Lib.toList_data]
  cases he : t.data.toList with
  | nil =>
    exfalso
    apply h
    apply ByteArray.ext
    exact Array.toList_eq_nil_iff.1 he
  | cons _ _ => rfl
theorem byteCells_append (a b : List UInt8) : Lib.byteCells (a ++ b) = Lib.byteCells a ++ Lib.byteCells b := by simp [Lib.byteCells]
theorem byteCells_str (t : ByteArray) : Lib.strCells t = Lib.byteCells t.data.toList := rfl
theorem byteCells_length (a : List UInt8) : (Lib.byteCells a).length = a.length := by simp [Lib.byteCells]
end Go.Proofs.YtdomhjjoijkeaaaDoor
