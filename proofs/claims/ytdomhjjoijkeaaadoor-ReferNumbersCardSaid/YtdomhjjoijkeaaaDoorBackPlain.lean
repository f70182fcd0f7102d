/- Proved here: plain facts: a character is read in what is written as it is read in the text itself; no program is named. -/
import Derived.Test.YtdomhjjoijkeaaaDoorRefReadPlain
namespace Go.Proofs.YtdomhjjoijkeaaaDoor
open Go.RowKit

/-- The k-th byte's number; 0 behind the end. -/
def gN (l : List UInt8) (k : Nat) : Nat := (l[k]?.getD 0).toNat
theorem gN_lt (l : List UInt8) (k : Nat) : gN l k < 256 := (l[k]?.getD 0).toNat_lt
def rdL (l : List UInt8) : Nat × Nat := rdN l.length (gN l 0) (gN l 1) (gN l 2) (gN l 3)
theorem get!_gN (s : ByteArray) (pos k : Nat) : (s.get! (pos + k)).toNat = gN (s.data.toList.drop pos) k := by
  unfold gN
  rw [List.getElem?_drop]
  by_cases h : pos + k < s.size
  · rw [get!_of s (pos + k) h]; rfl
  · rw [List.getElem?_eq_none (by simp; omega)]
    have e : s.get! (pos + k) = 0 := by
      show s.data[pos + k]! = 0
      rw [getElem!_neg _ _ (by have : s.data.size = s.size := rfl; omega)]
      rfl
    rw [e]; rfl
theorem rd_list (s : ByteArray) (pos : Nat) : rd s pos = rdL (s.data.toList.drop pos) := by
  unfold rd rdL
  have h0 := get!_gN s pos 0
  rw [Nat.add_zero] at h0
  rw [h0, get!_gN, get!_gN, get!_gN]
  simp
theorem rdN_align (n n' x0 x1 x2 x3 y1 y2 y3 : Nat) (h0 : x0 < 256) (hx : 128 ≤ x0)
    (a1 : (2 ≤ n ∧ 128 ≤ x1 ∧ x1 ≤ 191 → 2 ≤ n' ∧ y1 = x1) ∧ (¬ (2 ≤ n ∧ 128 ≤ x1 ∧ x1 ≤ 191) → ¬ (2 ≤ n' ∧ 128 ≤ y1 ∧ y1 ≤ 191)))
    (a2 : 2 ≤ n ∧ 128 ≤ x1 ∧ x1 ≤ 191 → (3 ≤ n ∧ 128 ≤ x2 ∧ x2 ≤ 191 → 3 ≤ n' ∧ y2 = x2) ∧ (¬ (3 ≤ n ∧ 128 ≤ x2 ∧ x2 ≤ 191) → ¬ (3 ≤ n' ∧ 128 ≤ y2 ∧ y2 ≤ 191)))
    (a3 : 3 ≤ n ∧ 128 ≤ x1 ∧ x1 ≤ 191 ∧ 128 ≤ x2 ∧ x2 ≤ 191 → (4 ≤ n ∧ 128 ≤ x3 ∧ x3 ≤ 191 → 4 ≤ n' ∧ y3 = x3) ∧ (¬ (4 ≤ n ∧ 128 ≤ x3 ∧ x3 ≤ 191) → ¬ (4 ≤ n' ∧ 128 ≤ y3 ∧ y3 ≤ 191))) :
    rdN n' x0 y1 y2 y3 = rdN n x0 x1 x2 x3 := by
  by_cases c0 : x0 < 192 ∨ 248 ≤ x0
  · rw [rd_none (by omega) h0, rd_none (by omega) h0]
  by_cases c1 : 2 ≤ n ∧ 128 ≤ x1 ∧ x1 ≤ 191
  · obtain ⟨m1, rfl⟩ := a1.1 c1
    have b2 := a2 c1
    by_cases d2 : x0 < 224
    · by_cases g : 64 * (x0 - 192) + (y1 - 128) < 128
      · rw [rd2_no (by omega) (by omega), rd2_no (by omega) (by omega)]
      · rw [rd2_yes (by omega) (by omega) (by omega) (by omega) (by omega), rd2_yes (by omega) (by omega) (by omega) (by omega) (by omega)]
    by_cases c2 : 3 ≤ n ∧ 128 ≤ x2 ∧ x2 ≤ 191
    · obtain ⟨m2, rfl⟩ := b2.1 c2
      have b3 := a3 ⟨c2.1, c1.2.1, c1.2.2, c2.2.1, c2.2.2⟩
      by_cases d3 : x0 < 240
      · by_cases g : v3 x0 y1 y2 < 2048 ∨ (55296 ≤ v3 x0 y1 y2 ∧ v3 x0 y1 y2 ≤ 57343)
        · rw [rd3_no (by omega) (by omega), rd3_no (by omega) (by omega)]
        · rw [rd3_yes (by omega) (by omega) (by omega) (by omega) (by omega) (by omega) (by omega) (by omega), rd3_yes (by omega) (by omega) (by omega) (by omega) (by omega) (by omega) (by omega) (by omega)]
      by_cases c3 : 4 ≤ n ∧ 128 ≤ x3 ∧ x3 ≤ 191
      · obtain ⟨m3, rfl⟩ := b3.1 c3
        by_cases g : v4 x0 y1 y2 y3 < 65536 ∨ 1114111 < v4 x0 y1 y2 y3
        · rw [rd4_no (by omega) (by omega), rd4_no (by omega) (by omega)]
        · rw [rd4_yes (by omega) (by omega) (by omega) (by omega) (by omega) (by omega) (by omega) (by omega) (by omega) (by omega), rd4_yes (by omega) (by omega) (by omega) (by omega) (by omega) (by omega) (by omega) (by omega) (by omega) (by omega)]
      · have e3 := b3.2 c3
        rw [rd4_no (by omega) (by omega), rd4_no (by omega) (by omega)]
    · have e2 := b2.2 c2
      by_cases d3 : x0 < 240
      · rw [rd3_no (by omega) (by omega), rd3_no (by omega) (by omega)]
      · rw [rd4_no (by omega) (by omega), rd4_no (by omega) (by omega)]
  · have e1 := a1.2 c1
    by_cases d2 : x0 < 224
    · rw [rd2_no (by omega) (by omega), rd2_no (by omega) (by omega)]
    by_cases d3 : x0 < 240
    · rw [rd3_no (by omega) (by omega), rd3_no (by omega) (by omega)]
    · rw [rd4_no (by omega) (by omega), rd4_no (by omega) (by omega)]

/-- What is asked of a way of writing: no byte from 128 on is touched; what is written for one begins with an ampersand. -/
structure EscOk (esc : Int → ByteArray) : Prop where
  high : ∀ c, 128 ≤ c → esc c = ⟨#[]⟩
  amp : ∀ c, esc c ≠ ⟨#[]⟩ → ∃ r, (esc c).data.toList = 38 :: r
theorem escT_ok : EscOk escT where
  high c h := by
    unfold escT
    rw [if_neg (by simp; omega), if_neg (by simp; omega), if_neg (by simp; omega), if_neg (by simp; omega)]
  amp c h := by
    revert h
    unfold escT
    repeat' split
    all_goals first | (intro _; exact ⟨_, rfl⟩) | (intro h; exact absurd rfl h)
theorem escV_ok : EscOk escV where
  high c h := by
    unfold escV
    rw [if_neg (by simp; omega), if_neg (by simp; omega), if_neg (by simp; omega), if_neg (by simp; omega), if_neg (by simp; omega), if_neg (by simp; omega)]
  amp c h := by
    revert h
    unfold escV
    repeat' split
    all_goals first | (intro _; exact ⟨_, rfl⟩) | (intro h; exact absurd rfl h)
theorem written_cons (esc : Int → ByteArray) (x : UInt8) (t : List UInt8) : writtenL esc (x :: t) = oneL esc x ++ writtenL esc t := by
  unfold writtenL
  rw [List.flatMap_cons]
theorem written_self {esc : Int → ByteArray} {x : UInt8} (h : esc x.toNat = ⟨#[]⟩) (t : List UInt8) : writtenL esc (x :: t) = x :: writtenL esc t := by
  rw [written_cons]
  unfold oneL
  rw [if_pos h]
  rfl
theorem written_esc {esc : Int → ByteArray} {x : UInt8} (h : ¬ esc x.toNat = ⟨#[]⟩) (t : List UInt8) : writtenL esc (x :: t) = (esc x.toNat).data.toList ++ writtenL esc t := by
  rw [written_cons]
  unfold oneL
  rw [if_neg h]
/-- The first byte of what is written: that of the text, if it is from 128 on; else one below 128. -/
theorem head_written {esc : Int → ByteArray} (he : EscOk esc) (t : List UInt8) : (∃ y t1, t = y :: t1 ∧ 128 ≤ y.toNat ∧ writtenL esc t = y :: writtenL esc t1) ∨ (gN t 0 < 128 ∧ gN (writtenL esc t) 0 < 128) := by
  cases t with
  | nil => right; exact ⟨by decide, show gN [] 0 < 128 by decide⟩
  | cons y t1 =>
    by_cases hy : 128 ≤ y.toNat
    · left
      exact ⟨y, t1, rfl, hy, written_self (he.high _ (by omega)) t1⟩
    · right
      refine ⟨by simp [gN]; omega, ?_⟩
      by_cases g : esc y.toNat = ⟨#[]⟩
      · rw [written_self g]; simp [gN]; omega
      · obtain ⟨r, hr⟩ := he.amp _ g
        rw [written_esc g, hr]
        simp [gN]
theorem gN_cons (y : UInt8) (t : List UInt8) (k : Nat) : gN (y :: t) (k + 1) = gN t k := by simp [gN]
theorem gN_zero (y : UInt8) (t : List UInt8) : gN (y :: t) 0 = y.toNat := by simp [gN]
theorem rd_written {esc : Int → ByteArray} (he : EscOk esc) (x : UInt8) (t : List UInt8) (hx : 128 ≤ x.toNat) : rdL (x :: writtenL esc t) = rdL (x :: t) := by
  unfold rdL
  rw [gN_zero, gN_zero, gN_cons, gN_cons, gN_cons, gN_cons, gN_cons, gN_cons]
  simp only [List.length_cons]
  have hl := x.toNat_lt
  rcases head_written he t with ⟨y, t1, rfl, hy, e⟩ | ⟨l1, l2⟩
  · rw [e, gN_zero, gN_zero, gN_cons, gN_cons, gN_cons, gN_cons]
    simp only [List.length_cons]
    rcases head_written he t1 with ⟨z, t2, rfl, hz, e2⟩ | ⟨l1, l2⟩
    · rw [e2, gN_zero, gN_zero, gN_cons, gN_cons]
      simp only [List.length_cons]
      rcases head_written he t2 with ⟨u, t3, rfl, hu, e3⟩ | ⟨l1, l2⟩
      · rw [e3, gN_zero, gN_zero]
        simp only [List.length_cons]
        apply rdN_align <;> omega
      · apply rdN_align <;> omega
    · apply rdN_align <;> omega
  · apply rdN_align <;> omega
theorem byte_back (x : UInt8) : ((x.toNat : Int)).toNat.toUInt8 = x := by simp
theorem encode_rdL (x : UInt8) (t : List UInt8) (h : (rdL (x :: t)).2 ≠ 0) : Lib.encodeRune ((rdL (x :: t)).1 : Int) = (x :: t).take (rdL (x :: t)).2 := by
  have hx := x.toNat_lt
  unfold rdL at h ⊢
  rw [gN_zero] at h ⊢
  by_cases a : x.toNat < 128
  · rw [rd_ascii a]
    unfold Lib.encodeRune
    rw [Lib.encodeRuneZ_one (by omega) (by omega)]
    simp
  by_cases a2 : x.toNat < 192 ∨ 248 ≤ x.toNat
  · exact absurd (by rw [rd_none (by omega) hx]) h
  cases t with
  | nil =>
    exfalso
    apply h
    by_cases a3 : x.toNat < 224
    · rw [rd2_no (by omega) (by simp)]
    · by_cases a4 : x.toNat < 240
      · rw [rd3_no (by omega) (by simp)]
      · rw [rd4_no (by omega) (by simp)]
  | cons y t1 =>
    have hy := y.toNat_lt
    rw [gN_cons, gN_zero, gN_cons, gN_cons] at h ⊢
    by_cases a3 : x.toNat < 224
    · by_cases g : y.toNat < 128 ∨ 191 < y.toNat ∨ 64 * (x.toNat - 192) + (y.toNat - 128) < 128
      · exact absurd (by rw [rd2_no (by omega) (by simp only [List.length_cons]; omega)]) h
      · rw [rd2_yes (by omega) (by simp only [List.length_cons]; omega) (by omega) (by omega) (by omega)]
        unfold Lib.encodeRune
        rw [Lib.encodeRuneZ_two (by omega) (by omega)]
        rw [show (192 + ((64 * (x.toNat - 192) + (y.toNat - 128) : Nat) : Int) / 64) = (x.toNat : Int) by omega, show (128 + ((64 * (x.toNat - 192) + (y.toNat - 128) : Nat) : Int) % 64) = (y.toNat : Int) by omega]
        simp
    cases t1 with
    | nil =>
      exfalso
      apply h
      by_cases a4 : x.toNat < 240
      · rw [rd3_no (by omega) (by simp)]
      · rw [rd4_no (by omega) (by simp)]
    | cons z t2 =>
      have hz := z.toNat_lt
      rw [gN_zero, gN_cons] at h ⊢
      by_cases a4 : x.toNat < 240
      · by_cases g : y.toNat < 128 ∨ 191 < y.toNat ∨ z.toNat < 128 ∨ 191 < z.toNat ∨ v3 x.toNat y.toNat z.toNat < 2048 ∨ (55296 ≤ v3 x.toNat y.toNat z.toNat ∧ v3 x.toNat y.toNat z.toNat ≤ 57343)
        · exact absurd (by rw [rd3_no (by omega) (by simp only [List.length_cons]; omega)]) h
        · rw [rd3_yes (by omega) (by simp only [List.length_cons]; omega) (by omega) (by omega) (by omega) (by omega) (by omega) (by omega)]
          unfold v3 at *
          unfold Lib.encodeRune
          rw [Lib.encodeRuneZ_three (by omega)]
          rw [show (224 + ((64 * (64 * (x.toNat - 224) + (y.toNat - 128)) + (z.toNat - 128) : Nat) : Int) / 4096) = (x.toNat : Int) by omega, show (128 + ((64 * (64 * (x.toNat - 224) + (y.toNat - 128)) + (z.toNat - 128) : Nat) : Int) / 64 % 64) = (y.toNat : Int) by omega, show (128 + ((64 * (64 * (x.toNat - 224) + (y.toNat - 128)) + (z.toNat - 128) : Nat) : Int) % 64) = (z.toNat : Int) by omega]
          simp
      cases t2 with
      | nil =>
        exfalso
        apply h
        rw [rd4_no (by omega) (by simp)]
      | cons u t3 =>
        have hu := u.toNat_lt
        rw [gN_cons, gN_cons, gN_zero] at h ⊢
        by_cases g : y.toNat < 128 ∨ 191 < y.toNat ∨ z.toNat < 128 ∨ 191 < z.toNat ∨ u.toNat < 128 ∨ 191 < u.toNat ∨ v4 x.toNat y.toNat z.toNat u.toNat < 65536 ∨ 1114111 < v4 x.toNat y.toNat z.toNat u.toNat
        · exact absurd (by rw [rd4_no (by omega) (by simp only [List.length_cons]; omega)]) h
        · rw [rd4_yes (by omega) (by simp only [List.length_cons]; omega) (by omega) (by omega) (by omega) (by omega) (by omega) (by omega) (by omega) (by omega)]
          unfold v4 at *
          unfold Lib.encodeRune
          rw [Lib.encodeRuneZ_four (by omega) (by omega)]
          rw [show (240 + ((64 * (64 * (64 * (x.toNat - 240) + (y.toNat - 128)) + (z.toNat - 128)) + (u.toNat - 128) : Nat) : Int) / 262144) = (x.toNat : Int) by omega, show (128 + ((64 * (64 * (64 * (x.toNat - 240) + (y.toNat - 128)) + (z.toNat - 128)) + (u.toNat - 128) : Nat) : Int) / 4096 % 64) = (y.toNat : Int) by omega, show (128 + ((64 * (64 * (64 * (x.toNat - 240) + (y.toNat - 128)) + (z.toNat - 128)) + (u.toNat - 128) : Nat) : Int) / 64 % 64) = (z.toNat : Int) by omega, show (128 + ((64 * (64 * (64 * (x.toNat - 240) + (y.toNat - 128)) + (z.toNat - 128)) + (u.toNat - 128) : Nat) : Int) % 64) = (u.toNat : Int) by omega]
          simp
end Go.Proofs.YtdomhjjoijkeaaaDoor
