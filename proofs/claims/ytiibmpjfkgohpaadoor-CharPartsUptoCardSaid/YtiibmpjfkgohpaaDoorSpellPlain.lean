/- Proved here: plain facts on how Go lays a number as UTF-8: what it lays for a character is read as it; a name with a part behind it. No program is named. -/
import Derived.Test.YtiibmpjfkgohpaaDoorJoinPlain
namespace Go.Proofs.YtiibmpjfkgohpaaDoor
open Go.RowKit

/-- The character that Go lays for a number. -/
def encC (r : Int) : Nat := if Utf8.valid r then r.toNat else 65533
theorem encC_bd (r : Int) : encC r ≤ 1114111 ∧ ¬ (55296 ≤ encC r ∧ encC r ≤ 57343) := by
  unfold encC
  split
  · rename_i h
    simp [Utf8.valid] at h
    omega
  · omega
theorem encode_eq (r : Int) : Utf8.encode r = (if encC r < 128 then ⟨#[UInt8.ofNat (encC r)]⟩ else if encC r < 2048 then ⟨#[UInt8.ofNat (192 + encC r / 64), UInt8.ofNat (128 + encC r % 64)]⟩
    else if encC r < 65536 then ⟨#[UInt8.ofNat (224 + encC r / 4096), UInt8.ofNat (128 + encC r / 64 % 64), UInt8.ofNat (128 + encC r % 64)]⟩
    else ⟨#[UInt8.ofNat (240 + encC r / 262144), UInt8.ofNat (128 + encC r / 4096 % 64), UInt8.ofNat (128 + encC r / 64 % 64), UInt8.ofNat (128 + encC r % 64)]⟩) := rfl
theorem ofNat_byte {n : Nat} (h : n < 256) : (UInt8.ofNat n).toNat = n := by
  rw [UInt8.toNat_ofNat']; omega

theorem rd_encode (r : Int) : rd (Utf8.encode r) 0 = (encC r, (Utf8.encode r).size) := by
  obtain ⟨h1, h2⟩ := encC_bd r
  rw [encode_eq]
  generalize encC r = c at *
  unfold rd
  by_cases a : c < 128
  · rw [if_pos a]
    have g0 : (ByteArray.mk #[UInt8.ofNat c]).get! 0 = UInt8.ofNat c := rfl
    rw [g0, rd_ascii (by rw [ofNat_byte (by omega)]; omega), ofNat_byte (by omega)]
    rfl
  rw [if_neg a]
  by_cases a2 : c < 2048
  · rw [if_pos a2]
    have g0 : (ByteArray.mk #[UInt8.ofNat (192 + c / 64), UInt8.ofNat (128 + c % 64)]).get! 0 = UInt8.ofNat (192 + c / 64) := rfl
    have g1 : (ByteArray.mk #[UInt8.ofNat (192 + c / 64), UInt8.ofNat (128 + c % 64)]).get! (0 + 1) = UInt8.ofNat (128 + c % 64) := rfl
    have gz : (ByteArray.mk #[UInt8.ofNat (192 + c / 64), UInt8.ofNat (128 + c % 64)]).size = 2 := rfl
    rw [g0, g1, gz, ofNat_byte (by omega), ofNat_byte (by omega), rd2_yes (by omega) (by omega) (by omega) (by omega) (by omega)]
    exact Prod.ext (by simp only; omega) rfl
  rw [if_neg a2]
  by_cases a3 : c < 65536
  · rw [if_pos a3]
    have g0 : (ByteArray.mk #[UInt8.ofNat (224 + c / 4096), UInt8.ofNat (128 + c / 64 % 64), UInt8.ofNat (128 + c % 64)]).get! 0 = UInt8.ofNat (224 + c / 4096) := rfl
    have g1 : (ByteArray.mk #[UInt8.ofNat (224 + c / 4096), UInt8.ofNat (128 + c / 64 % 64), UInt8.ofNat (128 + c % 64)]).get! (0 + 1) = UInt8.ofNat (128 + c / 64 % 64) := rfl
    have g2 : (ByteArray.mk #[UInt8.ofNat (224 + c / 4096), UInt8.ofNat (128 + c / 64 % 64), UInt8.ofNat (128 + c % 64)]).get! (0 + 2) = UInt8.ofNat (128 + c % 64) := rfl
    have gz : (ByteArray.mk #[UInt8.ofNat (224 + c / 4096), UInt8.ofNat (128 + c / 64 % 64), UInt8.ofNat (128 + c % 64)]).size = 3 := rfl
    have hv : v3 (224 + c / 4096) (128 + c / 64 % 64) (128 + c % 64) = c := by unfold v3; omega
    rw [g0, g1, g2, gz, ofNat_byte (by omega), ofNat_byte (by omega), ofNat_byte (by omega), rd3_yes (by omega) (by omega) (by omega) (by omega) (by omega) (by omega) (by omega) (by omega), hv]
  rw [if_neg a3]
  have g0 : (ByteArray.mk #[UInt8.ofNat (240 + c / 262144), UInt8.ofNat (128 + c / 4096 % 64), UInt8.ofNat (128 + c / 64 % 64), UInt8.ofNat (128 + c % 64)]).get! 0 = UInt8.ofNat (240 + c / 262144) := rfl
  have g1 : (ByteArray.mk #[UInt8.ofNat (240 + c / 262144), UInt8.ofNat (128 + c / 4096 % 64), UInt8.ofNat (128 + c / 64 % 64), UInt8.ofNat (128 + c % 64)]).get! (0 + 1) = UInt8.ofNat (128 + c / 4096 % 64) := rfl
  have g2 : (ByteArray.mk #[UInt8.ofNat (240 + c / 262144), UInt8.ofNat (128 + c / 4096 % 64), UInt8.ofNat (128 + c / 64 % 64), UInt8.ofNat (128 + c % 64)]).get! (0 + 2) = UInt8.ofNat (128 + c / 64 % 64) := rfl
  have g3 : (ByteArray.mk #[UInt8.ofNat (240 + c / 262144), UInt8.ofNat (128 + c / 4096 % 64), UInt8.ofNat (128 + c / 64 % 64), UInt8.ofNat (128 + c % 64)]).get! (0 + 3) = UInt8.ofNat (128 + c % 64) := rfl
  have gz : (ByteArray.mk #[UInt8.ofNat (240 + c / 262144), UInt8.ofNat (128 + c / 4096 % 64), UInt8.ofNat (128 + c / 64 % 64), UInt8.ofNat (128 + c % 64)]).size = 4 := rfl
  have hv : v4 (240 + c / 262144) (128 + c / 4096 % 64) (128 + c / 64 % 64) (128 + c % 64) = c := by unfold v4; omega
  rw [g0, g1, g2, g3, gz, ofNat_byte (by omega), ofNat_byte (by omega), ofNat_byte (by omega), ofNat_byte (by omega), rd4_yes (by omega) (by omega) (by omega) (by omega) (by omega) (by omega) (by omega) (by omega) (by omega) (by omega), hv]

theorem encode_size (r : Int) : 1 ≤ (Utf8.encode r).size ∧ (Utf8.encode r).size ≤ 4 := by
  rw [encode_eq]
  split
  · exact ⟨Nat.le_refl 1, by show 1 ≤ 4; omega⟩
  split
  · exact ⟨by show 1 ≤ 2; omega, by show 2 ≤ 4; omega⟩
  split
  · exact ⟨by show 1 ≤ 3; omega, by show 3 ≤ 4; omega⟩
  · exact ⟨by show 1 ≤ 4; omega, by show 4 ≤ 4; omega⟩

theorem rd_amid (a t : ByteArray) (r : Int) : rd (a ++ Utf8.encode r ++ t) a.size = (encC r, (Utf8.encode r).size) := by
  have hz := encode_size r
  have e0 : rd (a ++ Utf8.encode r) a.size = (encC r, (Utf8.encode r).size) := by
    have := rd_right a (Utf8.encode r) 0
    rw [Nat.add_zero] at this
    rw [this, rd_encode]
  rw [rd_left (a ++ Utf8.encode r) t a.size (by simp; omega) (by rw [e0]; simp only; omega), e0]

theorem char_valid {r : Int} (h : charB r = true) : encC r = r.toNat ∧ 0 ≤ r := by
  unfold charB at h
  rw [decide_eq_true_iff] at h
  have hv : Utf8.valid r = true := by simp [Utf8.valid]; omega
  unfold encC
  rw [if_pos hv]
  exact ⟨rfl, by omega⟩
theorem part_valid {r : Int} (h : partB r = true) : encC r = r.toNat ∧ 0 ≤ r := by
  unfold partB startB at h
  simp only [Bool.or_eq_true, decide_eq_true_eq] at h
  have hv : Utf8.valid r = true := by simp [Utf8.valid]; omega
  unfold encC
  rw [if_pos hv]
  exact ⟨rfl, by omega⟩

theorem nameGo_fuel (s : ByteArray) : ∀ (f g pos : Nat), s.size ≤ pos + f → s.size ≤ pos + g → nameGo s f pos = nameGo s g pos
  | 0, g, pos, hf, _ => by rw [nameGo_end s g pos (by omega)]; rfl
  | f + 1, 0, pos, _, hg => by rw [nameGo_end s (f + 1) pos (by omega)]; rfl
  | f + 1, g + 1, pos, hf, hg => by
    by_cases h : pos < s.size
    · by_cases h0 : (rd s pos).2 = 0 ∨ partB (rd s pos).1 = false ∨ (pos = 0 ∧ startB (rd s pos).1 = false)
      · rw [nameGo_bad s f pos h h0, nameGo_bad s g pos h h0]
      · have h1 : (rd s pos).2 ≠ 0 := fun e => h0 (.inl e)
        have h2 : partB (rd s pos).1 = true := by
          cases e : partB (rd s pos).1
          · exact absurd (.inr (.inl e)) h0
          · rfl
        have h3 : pos = 0 → startB (rd s pos).1 = true := fun e => by
          cases e' : startB (rd s pos).1
          · exact absurd (.inr (.inr ⟨e, e'⟩)) h0
          · rfl
        rw [nameGo_step s f pos h h1 h2 h3, nameGo_step s g pos h h1 h2 h3]
        exact nameGo_fuel s f g _ (by omega) (by omega)
    · rw [nameGo_end s _ pos h, nameGo_end s _ pos h]

/-- A name's characters are read behind more bytes as they were. -/
theorem name_left (p e : ByteArray) : ∀ (f pos m : Nat), p.size ≤ pos + f → pos ≤ p.size → nameGo p f pos = true → (p ++ e).size ≤ pos + m → nameGo (p ++ e) m pos = nameGo (p ++ e) (p ++ e).size p.size
  | 0, pos, m, hf, hp, _, hm => by
    obtain rfl : pos = p.size := by omega
    exact nameGo_fuel (p ++ e) m _ _ hm (by omega)
  | f + 1, pos, m, hf, hp, h, hm => by
    by_cases hlt : pos < p.size
    · by_cases h0 : (rd p pos).2 = 0 ∨ partB (rd p pos).1 = false ∨ (pos = 0 ∧ startB (rd p pos).1 = false)
      · rw [nameGo_bad p f pos hlt h0] at h; cases h
      · have h1 : (rd p pos).2 ≠ 0 := fun e => h0 (.inl e)
        have h2 : partB (rd p pos).1 = true := by
          cases e : partB (rd p pos).1
          · exact absurd (.inr (.inl e)) h0
          · rfl
        have h3 : pos = 0 → startB (rd p pos).1 = true := fun e => by
          cases e' : startB (rd p pos).1
          · exact absurd (.inr (.inr ⟨e, e'⟩)) h0
          · rfl
        rw [nameGo_step p f pos hlt h1 h2 h3] at h
        have er := rd_left p e pos hlt h1
        have hlt' : pos < (p ++ e).size := by simp; omega
        obtain ⟨m', rfl⟩ : ∃ m', m = m' + 1 := ⟨m - 1, by omega⟩
        rw [nameGo_step (p ++ e) m' pos hlt' (by rw [er]; exact h1) (by rw [er]; exact h2) (by rw [er]; exact h3), er]
        exact name_left p e f _ m' (by omega) (rd_le p pos hlt) h (by omega)
    · obtain rfl : pos = p.size := by omega
      exact nameGo_fuel (p ++ e) m _ _ hm (by omega)

theorem name_pos {p : ByteArray} (h : nameB p = true) : 0 < p.size ∧ p.size ≤ 100 ∧ nameGo p p.size 0 = true := by
  unfold nameB at h
  split at h
  · cases h
  · rename_i g
    exact ⟨by omega, by omega, h⟩

/-- A NAME WITH A PART BEHIND IT IS ONE AS LONG AS IT IS SHORT ENOUGH. -/
theorem name_snoc (p : ByteArray) (r : Int) (h : nameB p = true) (hr : partB r = true) : nameB (p ++ Utf8.encode r) = decide (p.size + (Utf8.encode r).size ≤ 100) := by
  obtain ⟨h0, h1, h2⟩ := name_pos h
  obtain ⟨e1, e2⟩ := part_valid hr
  have hz := encode_size r
  have hs : (p ++ Utf8.encode r).size = p.size + (Utf8.encode r).size := by simp
  unfold nameB
  by_cases g : p.size + (Utf8.encode r).size ≤ 100
  · rw [if_neg (by omega), decide_eq_true g, name_left p (Utf8.encode r) p.size 0 _ (by omega) (Nat.zero_le _) h2 (by omega)]
    have e0 : rd (p ++ Utf8.encode r) p.size = (encC r, (Utf8.encode r).size) := by
      have := rd_right p (Utf8.encode r) 0
      rw [Nat.add_zero] at this
      rw [this, rd_encode]
    have ec : ((encC r : Nat) : Int) = r := by rw [e1]; omega
    obtain ⟨m, hm⟩ : ∃ m, (p ++ Utf8.encode r).size = m + 1 := ⟨(p ++ Utf8.encode r).size - 1, by omega⟩
    rw [hm, nameGo_step (p ++ Utf8.encode r) m p.size (by omega) (by rw [e0]; simp only; omega) (by rw [e0]; show partB ((encC r : Nat) : Int) = true; rw [ec]; exact hr) (fun e => by omega), e0]
    exact nameGo_end _ _ _ (by simp only; omega)
  · rw [if_pos (by omega), decide_eq_false g]
end Go.Proofs.YtiibmpjfkgohpaaDoor
