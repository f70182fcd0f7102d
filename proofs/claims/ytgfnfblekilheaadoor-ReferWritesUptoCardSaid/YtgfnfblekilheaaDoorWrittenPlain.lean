/- Proved here: plain facts on how the document writes texts and values: byte for byte as refer does; no program is named. -/
import Derived.Test.YtgfnfblekilheaaDoorWritePlain
import Derived.Test.YtgfnfblekilheaaDoorWordPlain
namespace Go.Proofs.YtgfnfblekilheaaDoor
open Go.RowKit

def txtB : ByteArray := ⟨#[38, 60, 62, 13]⟩
def valB : ByteArray := ⟨#[38, 60, 34, 9, 10, 13]⟩
def refT : Nat → ByteArray
  | 0 => ⟨#[38, 97, 109, 112, 59]⟩
  | 1 => ⟨#[38, 108, 116, 59]⟩
  | 2 => ⟨#[38, 103, 116, 59]⟩
  | 3 => ⟨#[38, 35, 49, 51, 59]⟩
  | 4 => ⟨#[]⟩
  | _ => ⟨#[]⟩
def refV : Nat → ByteArray
  | 0 => ⟨#[38, 97, 109, 112, 59]⟩
  | 1 => ⟨#[38, 108, 116, 59]⟩
  | 2 => ⟨#[38, 113, 117, 111, 116, 59]⟩
  | 3 => ⟨#[38, 35, 57, 59]⟩
  | 4 => ⟨#[38, 35, 49, 48, 59]⟩
  | _ => ⟨#[38, 35, 49, 51, 59]⟩
/-- What stands for c behind k looks. -/
def tGo (bs : ByteArray) (refs : Nat → ByteArray) (c : Int) (x : ByteArray) : Nat → ByteArray
  | 0 => x
  | k + 1 => if c = by_ bs k then refs k else tGo bs refs c x k
theorem tGo_yes {bs : ByteArray} {refs : Nat → ByteArray} {c : Int} {x : ByteArray} {k : Nat} (h : c = by_ bs k) : tGo bs refs c x (k + 1) = refs k := by rw [tGo, if_pos h]
theorem tGo_no {bs : ByteArray} {refs : Nat → ByteArray} {c : Int} {x : ByteArray} {k : Nat} (h : ¬ c = by_ bs k) : tGo bs refs c x (k + 1) = tGo bs refs c x k := by rw [tGo, if_neg h]
def oneB (esc : Int → ByteArray) (c : Int) (x : ByteArray) : ByteArray := if esc c = ⟨#[]⟩ then x else esc c
theorem tGo_text (c : Int) (x : ByteArray) : tGo txtB refT c x txtB.size = oneB escT c x := by
  show tGo txtB refT c x 4 = _
  have b0 : by_ txtB 0 = 38 := rfl
  have b1 : by_ txtB 1 = 60 := rfl
  have b2 : by_ txtB 2 = 62 := rfl
  have b3 : by_ txtB 3 = 13 := rfl
  simp only [tGo, b0, b1, b2, b3]
  unfold oneB escT
  by_cases h0 : c = 38
  · subst h0; rfl
  by_cases h1 : c = 60
  · subst h1; rfl
  by_cases h2 : c = 62
  · subst h2; rfl
  by_cases h3 : c = 13
  · subst h3; rfl
  simp [h0, h1, h2, h3]
theorem tGo_value (c : Int) (x : ByteArray) : tGo valB refV c x valB.size = oneB escV c x := by
  show tGo valB refV c x 6 = _
  have b0 : by_ valB 0 = 38 := rfl
  have b1 : by_ valB 1 = 60 := rfl
  have b2 : by_ valB 2 = 34 := rfl
  have b3 : by_ valB 3 = 9 := rfl
  have b4 : by_ valB 4 = 10 := rfl
  have b5 : by_ valB 5 = 13 := rfl
  simp only [tGo, b0, b1, b2, b3, b4, b5]
  unfold oneB escV
  by_cases h0 : c = 38
  · subst h0; rfl
  by_cases h1 : c = 60
  · subst h1; rfl
  by_cases h2 : c = 34
  · subst h2; rfl
  by_cases h3 : c = 9
  · subst h3; rfl
  by_cases h4 : c = 10
  · subst h4; rfl
  by_cases h5 : c = 13
  · subst h5; rfl
  simp [h0, h1, h2, h3, h4, h5]
theorem wacc_one (esc : Int → ByteArray) (s : ByteArray) (k : Nat) (o : ByteArray) (h : k < s.size) (ha : WAcc esc s k o.data.toList) : WAcc esc s (k + 1) (o ++ oneB esc (by_ s k) (s.extract k (k + 1))).data.toList := by
  have e : (o ++ oneB esc (by_ s k) (s.extract k (k + 1))).data.toList = o.data.toList ++ (oneB esc (by_ s k) (s.extract k (k + 1))).data.toList := by simp
  rw [e]
  unfold oneB
  by_cases he : esc (by_ s k) = ⟨#[]⟩
  · rw [if_pos he]
    have h1 : (s.extract k (k + 1)).data.toList = [s.get! k] := by
      have := extract_list s k 1
      rw [Lib.toList_data] at this
      rw [this, drop_at s k h]
      rfl
    rw [h1]
    exact wacc_self esc s k _ h he ha
  · rw [if_neg he]
    exact wacc_esc esc s k _ h he ha
theorem oneB_size (esc : Int → ByteArray) (s : ByteArray) (k : Nat) (h : k < s.size) (he : ∀ c, (esc c).size ≤ 6) : (oneB esc (by_ s k) (s.extract k (k + 1))).size ≤ 6 := by
  unfold oneB
  split
  · simp; omega
  · exact he _
end Go.Proofs.YtgfnfblekilheaaDoor
