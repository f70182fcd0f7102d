/- Proved here: plain facts on what texts and values say from place to place; no program is named. -/
import Derived.Test.YtdomhjjoijkeaaaDoorExpandPlain
import Derived.Lib.RuneBytes
namespace Go.Proofs.YtdomhjjoijkeaaaDoor
open Go.RowKit

def bothF (s : ByteArray) (at_ : Nat) : Int × Int × Int := if by_ s at_ = 60 then (0, 0, 23) else if by_ s at_ = 38 then expF s at_ else ((nextF s at_).1, (nextF s at_).2.1, (nextF s at_).2.2)
/-- Do ]]> stand at this place? -/
def closeB (s : ByteArray) (at_ : Nat) : Bool := Lib.hasPrefix (s.data.toList.drop at_) [93, 93, 62]
def stepT (s : ByteArray) (at_ : Nat) : Int × Int × Int := if closeB s at_ then (0, 0, 23) else bothF s at_
def stepV (s : ByteArray) (at_ : Nat) : Int × Int × Int := if by_ s at_ = 9 ∨ by_ s at_ = 10 ∨ by_ s at_ = 13 then (32, at_ + 1, 0) else bothF s at_
def readGo (step : Nat → Int × Int × Int) (n : Nat) : Nat → Nat → List UInt8 → List UInt8 × Nat × Int
  | 0, _, out => (out, 0, 0)
  | k + 1, pos, out => if pos < n then (if (step pos).2.2 = 0 then readGo step n k (step pos).2.1.toNat (out ++ Lib.encodeRune (step pos).1) else ([], pos, (step pos).2.2)) else (out, 0, 0)
def readF (step : Nat → Int × Int × Int) (n : Nat) : List UInt8 × Nat × Int := readGo step n n 0 []
theorem readGo_end (step : Nat → Int × Int × Int) (n k pos : Nat) (out : List UInt8) (h : ¬ pos < n) : readGo step n k pos out = (out, 0, 0) := by
  cases k with
  | zero => rfl
  | succ k => rw [readGo, if_neg h]
theorem readGo_bad (step : Nat → Int × Int × Int) (n k pos : Nat) (out : List UInt8) (h : pos < n) (he : ¬ (step pos).2.2 = 0) : readGo step n (k + 1) pos out = ([], pos, (step pos).2.2) := by rw [readGo, if_pos h, if_neg he]
theorem readGo_step (step : Nat → Int × Int × Int) (n k pos : Nat) (out : List UInt8) (h : pos < n) (he : (step pos).2.2 = 0) : readGo step n (k + 1) pos out = readGo step n k (step pos).2.1.toNat (out ++ Lib.encodeRune (step pos).1) := by rw [readGo, if_pos h, if_pos he]

/-- A right step goes on, stays within, and says no more than it takes. -/
def StepOk (n pos : Nat) (r : Int × Int × Int) : Prop := r.2.2 = 0 → (pos : Int) < r.2.1 ∧ r.2.1 ≤ n ∧ 0 ≤ r.1 ∧ r.1 ≤ 1114111 ∧ (pos : Int) + (Lib.encodeRune r.1).length ≤ r.2.1
theorem encode_len (r : Int) : (Lib.encodeRune r).length = (Lib.encodeRuneZ r).length := by simp [Lib.encodeRune]
theorem encode_len4 (r : Int) : (Lib.encodeRune r).length ≤ 4 := by
  rw [encode_len]
  exact (Lib.encodeRuneZ_length r).2
theorem encode_len1 (r : Int) (h0 : 0 ≤ r) (h1 : r ≤ 127) : (Lib.encodeRune r).length = 1 := by rw [encode_len, Lib.encodeRuneZ_one h0 h1]; rfl
theorem encode_len2 (r : Int) (h0 : 0 ≤ r) (h1 : r ≤ 2047) : (Lib.encodeRune r).length ≤ 2 := by
  by_cases h : r ≤ 127
  · rw [encode_len1 r h0 h]; omega
  · rw [encode_len, Lib.encodeRuneZ_two (by omega) h1]; simp
theorem encode_len3 (r : Int) (h0 : 0 ≤ r) (h1 : r ≤ 65535) : (Lib.encodeRune r).length ≤ 3 := by
  by_cases h : r ≤ 2047
  · have := encode_len2 r h0 h; omega
  · by_cases g : 55296 ≤ r ∧ r ≤ 57343
    · rw [encode_len, Lib.encodeRuneZ_bad (.inr (.inl g))]; simp
    · rw [encode_len, Lib.encodeRuneZ_three (by omega)]; simp
theorem rd_value (n x0 x1 x2 x3 : Nat) (h0 : x0 < 256) : ((rdN n x0 x1 x2 x3).2 ≤ 1 → (rdN n x0 x1 x2 x3).1 ≤ 127) ∧ ((rdN n x0 x1 x2 x3).2 ≤ 2 → (rdN n x0 x1 x2 x3).1 ≤ 2047) ∧ ((rdN n x0 x1 x2 x3).2 ≤ 3 → (rdN n x0 x1 x2 x3).1 ≤ 65535) := by
  by_cases a : x0 < 128
  · rw [rd_ascii a]
    simp only
    omega
  by_cases a2 : x0 < 192 ∨ 248 ≤ x0
  · rw [rd_none (by omega) h0]
    simp
  by_cases a3 : x0 < 224
  · by_cases g : n < 2 ∨ x1 < 128 ∨ 191 < x1 ∨ 64 * (x0 - 192) + (x1 - 128) < 128
    · rw [rd2_no (by omega) g]; simp
    · rw [rd2_yes (by omega) (by omega) (by omega) (by omega) (by omega)]
      simp only
      omega
  by_cases a4 : x0 < 240
  · by_cases g : n < 3 ∨ x1 < 128 ∨ 191 < x1 ∨ x2 < 128 ∨ 191 < x2 ∨ v3 x0 x1 x2 < 2048 ∨ (55296 ≤ v3 x0 x1 x2 ∧ v3 x0 x1 x2 ≤ 57343)
    · rw [rd3_no (by omega) g]; simp
    · rw [rd3_yes (by omega) (by omega) (by omega) (by omega) (by omega) (by omega) (by omega) (by omega)]
      unfold v3
      simp only
      omega
  · by_cases g : n < 4 ∨ x1 < 128 ∨ 191 < x1 ∨ x2 < 128 ∨ 191 < x2 ∨ x3 < 128 ∨ 191 < x3 ∨ v4 x0 x1 x2 x3 < 65536 ∨ 1114111 < v4 x0 x1 x2 x3
    · rw [rd4_no (by omega) g]; simp
    · rw [rd4_yes (by omega) (by omega) (by omega) (by omega) (by omega) (by omega) (by omega) (by omega) (by omega) (by omega)]
      simp only
      omega
theorem rd_encode_le (s : ByteArray) (pos : Nat) (h0 : (rd s pos).2 ≠ 0) : (Lib.encodeRune ((rd s pos).1 : Int)).length ≤ (rd s pos).2 := by
  have h := rd_value (s.size - pos) (s.get! pos).toNat (s.get! (pos + 1)).toNat (s.get! (pos + 2)).toNat (s.get! (pos + 3)).toNat (s.get! pos).toNat_lt
  obtain ⟨h1, h2, h3⟩ := h
  change ((rd s pos).2 ≤ 1 → (rd s pos).1 ≤ 127) at h1
  change ((rd s pos).2 ≤ 2 → (rd s pos).1 ≤ 2047) at h2
  change ((rd s pos).2 ≤ 3 → (rd s pos).1 ≤ 65535) at h3
  generalize rd s pos = d at *
  have h4 := encode_len4 (d.1 : Int)
  by_cases c1 : d.2 ≤ 1
  · rw [encode_len1 _ (by omega) (by have := h1 c1; omega)]; omega
  · by_cases c2 : d.2 ≤ 2
    · have := encode_len2 (d.1 : Int) (by omega) (by have := h2 c2; omega); omega
    · by_cases c3 : d.2 ≤ 3
      · have := encode_len3 (d.1 : Int) (by omega) (by have := h3 c3; omega); omega
      · omega
theorem numGo_bd (s : ByteArray) (base : Nat) : ∀ (k pos n : Nat), pos ≤ s.size → pos ≤ (numGo s base k pos n).2 ∧ (numGo s base k pos n).2 ≤ s.size
  | 0, pos, n, h => ⟨Nat.le_refl _, h⟩
  | k + 1, pos, n, h => by
    rw [numGo]
    split
    · rename_i g
      have := numGo_bd s base k (pos + 1) (min (n * base + (digZ (by_ s pos)).toNat) 1114112) (by omega)
      omega
    · exact ⟨Nat.le_refl _, h⟩
theorem charB_bd {n : Nat} (h : charB (n : Int) = true) : n ≤ 1114111 := by
  unfold charB at h
  have := of_decide_eq_true h
  omega
theorem numOut_ok' (s : ByteArray) (at_ first base : Nat) (ha : at_ + 2 ≤ first) (hf : first ≤ s.size) : StepOk s.size at_ (numOut s first (numGo s base s.size first 0)) := by
  have hb := numGo_bd s base s.size first 0 hf
  generalize numGo s base s.size first 0 = A at *
  obtain ⟨n, p⟩ := A
  simp only at hb
  intro he
  unfold numOut at he ⊢
  split at he
  · exact absurd he (by decide)
  · rename_i h1
    rw [if_neg h1]
    split at he
    · rename_i h2
      rw [if_pos h2]
      simp only [not_or] at h1
      have := charB_bd h2
      have := encode_len4 (n : Int)
      simp only
      omega
    · exact absurd he (by decide)
theorem numF_ok (s : ByteArray) (at_ : Nat) (h : at_ + 1 < s.size) : StepOk s.size at_ (numF s (at_ + 2)) := by
  unfold numF
  split
  · exact numOut_ok' s at_ (at_ + 2 + 1) 16 (by omega) (by omega)
  · exact numOut_ok' s at_ (at_ + 2) 10 (by omega) (by omega)
theorem pfx_le {s : ByteArray} {at_ : Nat} {p : List UInt8} (h : Lib.hasPrefix (s.data.toList.drop at_) p = true) : p.length ≤ s.size - at_ := by
  have h1 := (List.isPrefixOf_iff_prefix.1 h).length_le
  simpa using h1
theorem wordOf_len (k : Nat) : 4 ≤ (wordOf k).data.toList.length := by
  match k with
  | 0 => decide
  | 1 => decide
  | 2 => decide
  | 3 => decide
  | _ + 4 => show 4 ≤ (⟨#[38, 113, 117, 111, 116, 59]⟩ : ByteArray).data.toList.length; decide
theorem charOf_bd (k : Nat) : 0 ≤ charOf k ∧ charOf k ≤ 127 := by
  match k with
  | 0 => decide
  | 1 => decide
  | 2 => decide
  | 3 => decide
  | _ + 4 => show 0 ≤ (34 : Int) ∧ (34 : Int) ≤ 127; decide
theorem namedGo_ok (s : ByteArray) (at_ : Nat) (h : at_ < s.size) : ∀ m, StepOk s.size at_ (namedGo s at_ m)
  | 0 => fun he => absurd (show (22 : Int) = 0 from he) (by decide)
  | m + 1 => by
    rw [namedGo]
    split
    · rename_i hp
      intro _
      have h1 := pfx_le hp
      have h2 := wordOf_len (4 - m)
      have h3 := charOf_bd (4 - m)
      have h4 := encode_len4 (charOf (4 - m))
      have h5 : (wordOf (4 - m)).data.toList.length = (wordOf (4 - m)).size := by simp
      simp only
      omega
    · exact namedGo_ok s at_ h m
theorem bothF_ok (s : ByteArray) (at_ : Nat) (h : at_ < s.size) : StepOk s.size at_ (bothF s at_) := by
  unfold bothF
  split
  · exact fun he => absurd he (by decide)
  · split
    · unfold expF
      split
      · rename_i g
        exact numF_ok s at_ g.1
      · exact namedGo_ok s at_ h 5
    · intro he
      have h1 := rd_encode_le s at_
      have h2 := rd_le s at_ h
      revert he
      unfold nextF
      split
      · intro he; exact absurd he (by decide)
      · rename_i g
        split
        · rename_i g2
          intro _
          have := charB_bd g2
          have := h1 g
          simp only
          omega
        · intro he; exact absurd he (by decide)
theorem stepT_ok (s : ByteArray) (at_ : Nat) (h : at_ < s.size) : StepOk s.size at_ (stepT s at_) := by
  unfold stepT
  split
  · exact fun he => absurd he (by decide)
  · exact bothF_ok s at_ h
theorem stepV_ok (s : ByteArray) (at_ : Nat) (h : at_ < s.size) : StepOk s.size at_ (stepV s at_) := by
  unfold stepV
  split
  · intro _
    have := encode_len1 32 (by omega) (by omega)
    simp only
    omega
  · exact bothF_ok s at_ h
end Go.Proofs.YtdomhjjoijkeaaaDoor
