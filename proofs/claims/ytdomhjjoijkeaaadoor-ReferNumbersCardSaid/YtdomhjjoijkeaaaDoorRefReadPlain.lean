/- Proved here: plain facts on what texts and values say at a place, told from the character that is read there; no program is named. -/
import Derived.Test.YtdomhjjoijkeaaaDoorStepPlain
import Derived.Test.YtdomhjjoijkeaaaDoorWordPlain
import Derived.Stop.FmtQuoteTie
namespace Go.Proofs.YtdomhjjoijkeaaaDoor
open Go.RowKit

theorem encode_list (r : Nat) : (Utf8.encode (r : Int)).data.toList = Lib.encodeRune r := by
  unfold Lib.encodeRune
  rw [← Go.Extern.FmtText.encode_eq r]
  unfold Go.Extern.FmtText.nums
  rw [List.map_map]
  conv => lhs; rw [← List.map_id (Utf8.encode (r : Int)).data.toList]
  apply List.map_congr_left
  intro x _
  simp
theorem rd_low (s : ByteArray) (pos : Nat) (h : by_ s pos < 128) : rd s pos = ((s.get! pos).toNat, 1) := by
  unfold rd
  exact rd_ascii (by unfold by_ at h; omega)
theorem rd_high (n x0 x1 x2 x3 : Nat) (h : 128 ≤ x0) (h0 : x0 < 256) (hn : (rdN n x0 x1 x2 x3).2 ≠ 0) : 128 ≤ (rdN n x0 x1 x2 x3).1 := by
  by_cases a2 : x0 < 192 ∨ 248 ≤ x0
  · exact absurd (by rw [rd_none (by omega) h0]) hn
  by_cases a3 : x0 < 224
  · by_cases g : n < 2 ∨ x1 < 128 ∨ 191 < x1 ∨ 64 * (x0 - 192) + (x1 - 128) < 128
    · exact absurd (by rw [rd2_no (by omega) g]) hn
    · rw [rd2_yes (by omega) (by omega) (by omega) (by omega) (by omega)]
      simp only
      omega
  by_cases a4 : x0 < 240
  · by_cases g : n < 3 ∨ x1 < 128 ∨ 191 < x1 ∨ x2 < 128 ∨ 191 < x2 ∨ v3 x0 x1 x2 < 2048 ∨ (55296 ≤ v3 x0 x1 x2 ∧ v3 x0 x1 x2 ≤ 57343)
    · exact absurd (by rw [rd3_no (by omega) g]) hn
    · rw [rd3_yes (by omega) (by omega) (by omega) (by omega) (by omega) (by omega) (by omega) (by omega)]
      simp only
      omega
  · by_cases g : n < 4 ∨ x1 < 128 ∨ 191 < x1 ∨ x2 < 128 ∨ 191 < x2 ∨ x3 < 128 ∨ 191 < x3 ∨ v4 x0 x1 x2 x3 < 65536 ∨ 1114111 < v4 x0 x1 x2 x3
    · exact absurd (by rw [rd4_no (by omega) g]) hn
    · rw [rd4_yes (by omega) (by omega) (by omega) (by omega) (by omega) (by omega) (by omega) (by omega) (by omega) (by omega)]
      simp only
      omega
theorem rd_char (s : ByteArray) (pos : Nat) (h0 : (rd s pos).2 ≠ 0) (h : (rd s pos).1 < 128) : by_ s pos = ((rd s pos).1 : Int) ∧ (rd s pos).2 = 1 := by
  by_cases g : by_ s pos < 128
  · rw [rd_low s pos g]
    exact ⟨rfl, rfl⟩
  · exfalso
    have hx : 128 ≤ (s.get! pos).toNat := by unfold by_ at g; omega
    have h2 := rd_high (s.size - pos) (s.get! pos).toNat (s.get! (pos + 1)).toNat (s.get! (pos + 2)).toNat (s.get! (pos + 3)).toNat hx (s.get! pos).toNat_lt h0
    change 128 ≤ (rd s pos).1 at h2
    omega
theorem close_iff (s : ByteArray) (pos : Nat) (h : pos < s.size) : closeB s pos = true ↔ (by_ s pos = 93 ∧ pos + 2 < s.size ∧ by_ s (pos + 1) = 93 ∧ by_ s (pos + 2) = 62) := by
  unfold closeB Lib.hasPrefix
  rw [drop_at s pos h]
  have hb : ∀ k (n : Nat), n < 256 → (s.get! k = UInt8.ofNat n ↔ by_ s k = (n : Int)) := fun k n hn => by
    constructor
    · intro e
      unfold by_
      rw [e, UInt8.toNat_ofNat']
      omega
    · exact get_of_by hn
  have b1 := hb pos 93 (by decide)
  by_cases h1 : pos + 1 < s.size
  · rw [drop_at s (pos + 1) h1]
    have b2 := hb (pos + 1) 93 (by decide)
    by_cases h2 : pos + 2 < s.size
    · rw [drop_at s (pos + 1 + 1) h2]
      have b3 := hb (pos + 2) 62 (by decide)
      simp only [List.isPrefixOf, Bool.and_true, Bool.and_eq_true, beq_iff_eq]
      constructor
      · rintro ⟨e1, e2, e3⟩
        exact ⟨b1.1 e1.symm, h2, b2.1 e2.symm, b3.1 e3.symm⟩
      · rintro ⟨e1, _, e2, e3⟩
        exact ⟨(b1.2 e1).symm, (b2.2 e2).symm, (b3.2 e3).symm⟩
    · rw [List.drop_eq_nil_of_le (by simp; omega)]
      simp only [List.isPrefixOf, Bool.and_false]
      constructor
      · intro e; cases e
      · rintro ⟨_, e, _⟩; exact absurd e h2
  · rw [List.drop_eq_nil_of_le (by simp; omega)]
    simp only [List.isPrefixOf, Bool.and_false]
    constructor
    · intro e; cases e
    · rintro ⟨_, e, _⟩; omega
theorem close_no (s : ByteArray) (pos : Nat) (h : pos < s.size) (h93 : by_ s pos ≠ 93) : closeB s pos = false := by
  rw [Bool.eq_false_iff]
  exact fun e => h93 ((close_iff s pos h).1 e).1
theorem both_next (s : ByteArray) (pos : Nat) (h60 : by_ s pos ≠ 60) (h38 : by_ s pos ≠ 38) : bothF s pos = (((nextF s pos).1 : Int), ((nextF s pos).2.1 : Int), ((nextF s pos).2.2 : Int)) := by
  unfold bothF
  rw [if_neg h60, if_neg h38]
/-- Where none of the signs stands: both say what the character says. -/
theorem steps_next (s : ByteArray) (pos : Nat) (h60 : by_ s pos ≠ 60) (h38 : by_ s pos ≠ 38) : (closeB s pos = false → stepT s pos = (((nextF s pos).1 : Int), ((nextF s pos).2.1 : Int), ((nextF s pos).2.2 : Int))) ∧ (by_ s pos ≠ 9 → by_ s pos ≠ 10 → by_ s pos ≠ 13 → stepV s pos = (((nextF s pos).1 : Int), ((nextF s pos).2.1 : Int), ((nextF s pos).2.2 : Int))) := by
  constructor
  · intro hc
    unfold stepT
    rw [if_neg (by rw [hc]; simp), both_next s pos h60 h38]
  · intro a b c
    unfold stepV
    rw [if_neg (by rintro (h | h | h); exact a h; exact b h; exact c h), both_next s pos h60 h38]
theorem step_bad (s : ByteArray) (pos : Nat) (h : pos < s.size) (h0 : (rd s pos).2 = 0) : stepT s pos = (0, 0, 20) ∧ stepV s pos = (0, 0, 20) := by
  have hb : 128 ≤ by_ s pos := by
    by_cases g : by_ s pos < 128
    · rw [rd_low s pos g] at h0; simp at h0
    · omega
  have hn : nextF s pos = (0, 0, 20) := by unfold nextF; rw [if_pos h0]
  obtain ⟨h1, h2⟩ := steps_next s pos (by omega) (by omega)
  rw [hn] at h1 h2
  exact ⟨h1 (close_no s pos h (by omega)), h2 (by omega) (by omega) (by omega)⟩
theorem charB_not {n : Nat} (h : charB (n : Int) = false) : n < 128 → n < 32 ∧ n ≠ 9 ∧ n ≠ 10 ∧ n ≠ 13 := by
  unfold charB at h
  have := of_decide_eq_false h
  omega
theorem step_no (s : ByteArray) (pos : Nat) (h : pos < s.size) (h0 : (rd s pos).2 ≠ 0) (hc : charB (rd s pos).1 = false) : stepT s pos = (0, 0, 21) ∧ stepV s pos = (0, 0, 21) := by
  have hn : nextF s pos = (0, 0, 21) := by unfold nextF; rw [if_neg h0, hc]; rfl
  have hb : by_ s pos ≠ 60 ∧ by_ s pos ≠ 38 ∧ by_ s pos ≠ 93 ∧ by_ s pos ≠ 9 ∧ by_ s pos ≠ 10 ∧ by_ s pos ≠ 13 := by
    by_cases g : by_ s pos < 128
    · have e := rd_low s pos g
      rw [e] at hc
      have := charB_not hc (by unfold by_ at g; omega)
      unfold by_
      simp only at this
      omega
    · omega
  obtain ⟨h1, h2⟩ := steps_next s pos hb.1 hb.2.1
  rw [hn] at h1 h2
  exact ⟨h1 (close_no s pos h hb.2.2.1), h2 hb.2.2.2.1 hb.2.2.2.2.1 hb.2.2.2.2.2⟩
theorem step_lt (s : ByteArray) (pos : Nat) (h : pos < s.size) (h60 : by_ s pos = 60) : stepT s pos = (0, 0, 23) ∧ stepV s pos = (0, 0, 23) := by
  have hb : bothF s pos = (0, 0, 23) := by unfold bothF; rw [if_pos h60]
  constructor
  · unfold stepT
    rw [if_neg (by rw [close_no s pos h (by omega)]; simp), hb]
  · unfold stepV
    rw [if_neg (by omega), hb]
theorem step_amp (s : ByteArray) (pos : Nat) (h : pos < s.size) (h38 : by_ s pos = 38) : stepT s pos = expF s pos ∧ stepV s pos = expF s pos := by
  have hb : bothF s pos = expF s pos := by unfold bothF; rw [if_neg (by omega), if_pos h38]
  constructor
  · unfold stepT
    rw [if_neg (by rw [close_no s pos h (by omega)]; simp), hb]
  · unfold stepV
    rw [if_neg (by omega), hb]
end Go.Proofs.YtdomhjjoijkeaaaDoor
