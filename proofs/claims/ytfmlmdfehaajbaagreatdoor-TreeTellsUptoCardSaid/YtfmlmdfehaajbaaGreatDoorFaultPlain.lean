/- Proved here: plain facts on the first place of any bytes that is no char (faultF); no program is named. -/
import Derived.WalkKit
import Derived.Lib.DecodeN
import Derived.Shelf.Unicode.DecodeSlow
import Derived.Lib.ValidLaws
import Derived.Lib.ValidAsc
namespace Go.Proofs.YtfmlmdfehaajbaaGreatDoor
open Go.RowKit

def charB (r : Int) : Bool := decide (r = 9 ∨ r = 10 ∨ r = 13 ∨ (32 ≤ r ∧ r ≤ 55295) ∨ (57344 ≤ r ∧ r ≤ 65533) ∨ (65536 ≤ r ∧ r ≤ 1114111))
def startB (r : Int) : Bool := decide ((65 ≤ r ∧ r ≤ 90) ∨ r = 95 ∨ (97 ≤ r ∧ r ≤ 122) ∨ (192 ≤ r ∧ r ≤ 214) ∨ (216 ≤ r ∧ r ≤ 246) ∨ (248 ≤ r ∧ r ≤ 767) ∨ (880 ≤ r ∧ r ≤ 893) ∨ (895 ≤ r ∧ r ≤ 8191) ∨ (8204 ≤ r ∧ r ≤ 8205) ∨ (8304 ≤ r ∧ r ≤ 8591) ∨ (11264 ≤ r ∧ r ≤ 12271) ∨ (12289 ≤ r ∧ r ≤ 55295) ∨ (63744 ≤ r ∧ r ≤ 64975) ∨ (65008 ≤ r ∧ r ≤ 65533) ∨ (65536 ≤ r ∧ r ≤ 983039))
def partB (r : Int) : Bool := startB r || decide (r = 45 ∨ r = 46 ∨ (48 ≤ r ∧ r ≤ 57) ∨ r = 183 ∨ (768 ≤ r ∧ r ≤ 879) ∨ (8255 ≤ r ∧ r ≤ 8256))
def btw (lo hi r : Int) : Bool := decide (lo ≤ r ∧ r ≤ hi)
theorem startB_eq (r : Int) : startB r = (btw 65 90 r || (r == 95) || btw 97 122 r || btw 192 214 r || btw 216 246 r || btw 248 767 r || btw 880 893 r || btw 895 8191 r || btw 8204 8205 r || btw 8304 8591 r || btw 11264 12271 r || btw 12289 55295 r || btw 63744 64975 r || btw 65008 65533 r || btw 65536 983039 r) := by
  unfold startB btw; rw [Bool.eq_iff_iff]; simp only [decide_eq_true_eq, Bool.or_eq_true, beq_iff_eq]; omega
theorem partB_eq (r : Int) : partB r = (startB r || (r == 45) || (r == 46) || btw 48 57 r || (r == 183) || btw 768 879 r || btw 8255 8256 r) := by
  unfold partB btw; generalize startB r = s; cases s <;> (rw [Bool.eq_iff_iff]; simp only [decide_eq_true_eq, Bool.or_eq_true, beq_iff_eq]; simp; try omega)
theorem partB_ref (r : Int) : partB r = (startB r || decide (r = 45 ∨ r = 46 ∨ (48 ≤ r ∧ r ≤ 57) ∨ r = 183 ∨ (768 ≤ r ∧ r ≤ 879) ∨ r = 8255 ∨ r = 8256)) := by
  unfold partB; generalize startB r = s; cases s <;> (rw [Bool.eq_iff_iff]; simp only [decide_eq_true_eq, Bool.or_eq_true]; simp; try omega)
theorem ret_bool {a b : Bool} (h : a = b) : Ending.returned (.bool a) = .returned (.bool b) := by rw [h]

end Go.Proofs.YtfmlmdfehaajbaaGreatDoor
namespace Go.Proofs.YtfmlmdfehaajbaaGreatDoor
open Go.RowKit

/-- The character at a place with n bytes from it on, which begin x0, x1, x2, x3, and how many bytes it has; (0, 0): none. -/
def rdN (n x0 x1 x2 x3 : Nat) : Nat × Nat := if x0 < 128 then (x0, 1) else if (Lib.decodeN n x0 x1 x2 x3).2 = 1 then (0, 0) else Lib.decodeN n x0 x1 x2 x3
def cont (x : Nat) : Prop := 128 ≤ x ∧ x ≤ 191

theorem rd_ascii {n x0 x1 x2 x3 : Nat} (h : x0 < 128) : rdN n x0 x1 x2 x3 = (x0, 1) := by unfold rdN; rw [if_pos h]
theorem rd_none {n x0 x1 x2 x3 : Nat} (h : (128 ≤ x0 ∧ x0 < 192) ∨ 248 ≤ x0) (hx : x0 < 256) : rdN n x0 x1 x2 x3 = (0, 0) := by
  unfold rdN Lib.decodeN
  repeat' split
  all_goals first | rfl | omega
theorem rd2_no {n x0 x1 x2 x3 : Nat} (h : 192 ≤ x0 ∧ x0 < 224) (hb : n < 2 ∨ x1 < 128 ∨ 191 < x1 ∨ 64 * (x0 - 192) + (x1 - 128) < 128) : rdN n x0 x1 x2 x3 = (0, 0) := by
  unfold rdN Lib.decodeN
  repeat' split
  all_goals first | rfl | omega
theorem rd2_yes {n x0 x1 x2 x3 : Nat} (h : 192 ≤ x0 ∧ x0 < 224) (hn : 2 ≤ n) (h1 : 128 ≤ x1) (h2 : x1 ≤ 191) (hb : 128 ≤ 64 * (x0 - 192) + (x1 - 128)) : rdN n x0 x1 x2 x3 = (64 * (x0 - 192) + (x1 - 128), 2) := by
  have hd : Lib.decodeN n x0 x1 x2 x3 = (64 * (x0 - 192) + (x1 - 128), 2) := by
    unfold Lib.decodeN
    repeat' split
    all_goals first | (exfalso; omega) | (apply Prod.ext <;> simp only <;> omega)
  unfold rdN
  rw [if_neg (by omega), hd, if_neg (by simp)]
def v3 (x0 x1 x2 : Nat) : Nat := 64 * (64 * (x0 - 224) + (x1 - 128)) + (x2 - 128)
theorem rd3_no {n x0 x1 x2 x3 : Nat} (h : 224 ≤ x0 ∧ x0 < 240) (hb : n < 3 ∨ x1 < 128 ∨ 191 < x1 ∨ x2 < 128 ∨ 191 < x2 ∨ v3 x0 x1 x2 < 2048 ∨ (55296 ≤ v3 x0 x1 x2 ∧ v3 x0 x1 x2 ≤ 57343)) : rdN n x0 x1 x2 x3 = (0, 0) := by
  unfold v3 at hb
  unfold rdN Lib.decodeN
  repeat' split
  all_goals first | rfl | omega
theorem rd3_yes {n x0 x1 x2 x3 : Nat} (h : 224 ≤ x0 ∧ x0 < 240) (hn : 3 ≤ n) (h1 : 128 ≤ x1) (h2 : x1 ≤ 191) (h3 : 128 ≤ x2) (h4 : x2 ≤ 191) (hb : 2048 ≤ v3 x0 x1 x2) (hc : v3 x0 x1 x2 < 55296 ∨ 57343 < v3 x0 x1 x2) :
    rdN n x0 x1 x2 x3 = (v3 x0 x1 x2, 3) := by
  have hd : Lib.decodeN n x0 x1 x2 x3 = (v3 x0 x1 x2, 3) := by
    unfold v3 at hb hc ⊢
    unfold Lib.decodeN
    repeat' split
    all_goals first | (exfalso; omega) | (apply Prod.ext <;> simp only <;> omega)
  unfold rdN
  rw [if_neg (by omega), hd, if_neg (by simp)]
def v4 (x0 x1 x2 x3 : Nat) : Nat := 64 * (64 * (64 * (x0 - 240) + (x1 - 128)) + (x2 - 128)) + (x3 - 128)
theorem rd4_no {n x0 x1 x2 x3 : Nat} (h : 240 ≤ x0 ∧ x0 < 248) (hb : n < 4 ∨ x1 < 128 ∨ 191 < x1 ∨ x2 < 128 ∨ 191 < x2 ∨ x3 < 128 ∨ 191 < x3 ∨ v4 x0 x1 x2 x3 < 65536 ∨ 1114111 < v4 x0 x1 x2 x3) : rdN n x0 x1 x2 x3 = (0, 0) := by
  unfold v4 at hb
  unfold rdN Lib.decodeN
  repeat' split
  all_goals first | rfl | omega
theorem rd4_yes {n x0 x1 x2 x3 : Nat} (h : 240 ≤ x0 ∧ x0 < 248) (hn : 4 ≤ n) (h1 : 128 ≤ x1) (h2 : x1 ≤ 191) (h3 : 128 ≤ x2) (h4 : x2 ≤ 191) (h5 : 128 ≤ x3) (h6 : x3 ≤ 191) (hb : 65536 ≤ v4 x0 x1 x2 x3) (hc : v4 x0 x1 x2 x3 ≤ 1114111) :
    rdN n x0 x1 x2 x3 = (v4 x0 x1 x2 x3, 4) := by
  have hd : Lib.decodeN n x0 x1 x2 x3 = (v4 x0 x1 x2 x3, 4) := by
    unfold v4 at hb hc ⊢
    unfold Lib.decodeN
    repeat' split
    all_goals first | (exfalso; omega) | (apply Prod.ext <;> simp only <;> omega)
  unfold rdN
  rw [if_neg (by omega), hd, if_neg (by simp)]
theorem ret_ii {k l : IntKind} {a b c d : Int} (h : a = c) (h' : b = d) : Ending.returned (.tuple #[.int k a, .int l b]) = .returned (.tuple #[.int k c, .int l d]) := by rw [h, h']
end Go.Proofs.YtfmlmdfehaajbaaGreatDoor
namespace Go.Proofs.YtfmlmdfehaajbaaGreatDoor
open Go.RowKit

/-- What begins at a place of s: the number, and how many bytes; (0, 0): nothing. -/
def rd (s : ByteArray) (at_ : Nat) : Nat × Nat := rdN (s.size - at_) (s.get! at_).toNat (s.get! (at_ + 1)).toNat (s.get! (at_ + 2)).toNat (s.get! (at_ + 3)).toNat
/-- What Next answers within s: the char, the place behind, the error. -/
def nextF (s : ByteArray) (at_ : Nat) : Nat × Nat × Nat :=
  if (rd s at_).2 = 0 then (0, 0, 20) else if charB (rd s at_).1 then ((rd s at_).1, at_ + (rd s at_).2, 0) else (0, 0, 21)

theorem get!_extract (s : ByteArray) (at_ j : Nat) (h : at_ ≤ s.size) : (s.extract at_ s.size).get! j = s.get! (at_ + j) := by
  by_cases hj : at_ + j < s.size
  · have h1 : j < (s.extract at_ s.size).size := by simp; omega
    have e1 : (s.extract at_ s.size).get! j = (s.extract at_ s.size)[j] := by
      show (s.extract at_ s.size).data[j]! = _
      rw [getElem!_pos _ _ (by simpa using h1)]; rfl
    have e2 : s.get! (at_ + j) = s[at_ + j] := by
      show s.data[at_ + j]! = _
      rw [getElem!_pos _ _ (by simpa using hj)]; rfl
    rw [e1, e2, ByteArray.getElem_extract]
  · have e1 : (s.extract at_ s.size).get! j = default := by
      show (s.extract at_ s.size).data[j]! = _
      exact getElem!_neg _ _ (by simp; omega)
    have e2 : s.get! (at_ + j) = default := by
      show s.data[at_ + j]! = _
      exact getElem!_neg _ _ (by simp; omega)
    rw [e1, e2]

theorem decodeN_bd (n x0 x1 x2 x3 : Nat) (h0 : x0 < 256) : 1 ≤ (Lib.decodeN n x0 x1 x2 x3).2 ∧ (Lib.decodeN n x0 x1 x2 x3).2 ≤ 4 ∧ (Lib.decodeN n x0 x1 x2 x3).1 ≤ 1114111 := by
  unfold Lib.decodeN
  repeat' split
  all_goals (simp only; omega)
theorem decodeN_fits (n x0 x1 x2 x3 : Nat) (h : 0 < n) : (Lib.decodeN n x0 x1 x2 x3).2 ≤ n := by
  unfold Lib.decodeN
  repeat' split
  all_goals (simp only; omega)
theorem decodeN_one (n x0 x1 x2 x3 : Nat) (h : 128 ≤ x0) (h1 : (Lib.decodeN n x0 x1 x2 x3).2 = 1) : (Lib.decodeN n x0 x1 x2 x3).1 = 65533 := by
  revert h1
  unfold Lib.decodeN
  repeat' split
  all_goals first | (intro _; rfl) | (intro h1; exfalso; simp only at h1; omega) | omega

theorem decodeGo_at (s : ByteArray) (at_ : Nat) (h : at_ < s.size) : Lib.decodeGo (s.extract at_ s.size) = Lib.decodeN (s.size - at_) (s.get! at_).toNat (s.get! (at_ + 1)).toNat (s.get! (at_ + 2)).toNat (s.get! (at_ + 3)).toNat := by
  have hz : (s.extract at_ s.size).size = s.size - at_ := by simp
  unfold Lib.decodeGo
  rw [if_neg (by rw [hz]; omega), Lib.decode_at, hz, get!_extract _ _ _ (by omega), get!_extract _ _ _ (by omega), get!_extract _ _ _ (by omega), get!_extract _ _ _ (by omega)]
  rfl
theorem decode_rd (s : ByteArray) (at_ : Nat) : Utf8.decode s at_ = Lib.decodeN (s.size - at_) (s.get! at_).toNat (s.get! (at_ + 1)).toNat (s.get! (at_ + 2)).toNat (s.get! (at_ + 3)).toNat := Lib.decode_at s at_

/-- WHAT Go's DECODER SAYS, in the document's terms: the character, or fffd of one byte just where none begins. -/
theorem rd_of_decode (n x0 x1 x2 x3 : Nat) (h0 : x0 < 256) :
    ((Lib.decodeN n x0 x1 x2 x3) = (65533, 1) ∧ rdN n x0 x1 x2 x3 = (0, 0)) ∨
    (rdN n x0 x1 x2 x3 = Lib.decodeN n x0 x1 x2 x3 ∧ ¬ ((Lib.decodeN n x0 x1 x2 x3).1 = 65533 ∧ (Lib.decodeN n x0 x1 x2 x3).2 = 1)) := by
  unfold rdN
  by_cases h : x0 < 128
  · right
    have e : Lib.decodeN n x0 x1 x2 x3 = (x0, 1) := by unfold Lib.decodeN; rw [if_pos h]
    rw [if_pos h, e]
    exact ⟨rfl, fun g => by simp only at g; omega⟩
  · by_cases h1 : (Lib.decodeN n x0 x1 x2 x3).2 = 1
    · left
      rw [if_neg h, if_pos h1]
      exact ⟨Prod.ext (decodeN_one n x0 x1 x2 x3 (by omega) h1) h1, rfl⟩
    · right
      rw [if_neg h, if_neg h1]
      exact ⟨rfl, fun g => h1 g.2⟩
end Go.Proofs.YtfmlmdfehaajbaaGreatDoor
namespace Go.Proofs.YtfmlmdfehaajbaaGreatDoor
open Go.RowKit

/-- From pos on, in at most b steps: each character may stand in a name, and the first may begin one. -/
def nameGo (s : ByteArray) : Nat → Nat → Bool
  | 0, _ => true
  | b + 1, pos => if pos < s.size then
      (if (rd s pos).2 = 0 then false else if partB (rd s pos).1 = false then false else if pos = 0 ∧ startB (rd s pos).1 = false then false else nameGo s b (pos + (rd s pos).2)) else true
def nameB (s : ByteArray) : Bool := if s.size = 0 ∨ 100 < s.size then false else nameGo s s.size 0
def validAt (s : ByteArray) (pos : Nat) : Bool := Lib.validD (s.data.toList.drop pos)

theorem decode_drop (s : ByteArray) (pos : Nat) (h : pos ≤ s.size) : Utf8.decode s pos = Lib.decodeL (s.data.toList.drop pos) := by
  have e : (⟨(s.data.toList.drop pos).toArray⟩ : ByteArray) = s.extract pos s.size := by
    rw [← Lib.ext_list]
  unfold Lib.decodeL
  rw [e, decode_rd, decode_rd, get!_extract _ _ _ h, get!_extract _ _ _ h, get!_extract _ _ _ h, get!_extract _ _ _ h, Lib.ext_size]
  rfl

theorem decode_cases (s : ByteArray) (pos : Nat) :
    (Utf8.decode s pos = (65533, 1) ∧ rd s pos = (0, 0)) ∨ (rd s pos = Utf8.decode s pos ∧ ¬ ((Utf8.decode s pos).1 = 65533 ∧ (Utf8.decode s pos).2 = 1)) := by
  rw [decode_rd]
  exact rd_of_decode _ _ _ _ _ (s.get! pos).toNat_lt

theorem valid_step (s : ByteArray) (pos : Nat) (h : pos < s.size) : validAt s pos = if (rd s pos).2 = 0 then false else validAt s (pos + (rd s pos).2) := by
  have hne : s.data.toList.drop pos ≠ [] := by
    intro e
    have := congrArg List.length e
    have hz : s.data.toList.length = s.size := by simp
    simp [List.length_drop] at this
    omega
  unfold validAt
  rw [Lib.validD_step _ hne, ← decode_drop s pos (by omega), List.drop_drop]
  have hw : 1 ≤ (Utf8.decode s pos).2 := by rw [decode_drop s pos (by omega)]; exact Lib.decodeL_width _
  rcases decode_cases s pos with ⟨e, r⟩ | ⟨r, hn⟩
  · rw [e, r]; rfl
  · rw [if_neg hn, r, if_neg (by omega)]

theorem name_valid (s : ByteArray) : ∀ (b pos : Nat), s.size ≤ pos + b → nameGo s b pos = true → validAt s pos = true
  | 0, pos, hb, _ => by
    unfold validAt
    rw [List.drop_eq_nil_of_le (by simp; omega)]; rfl
  | b + 1, pos, hb, h => by
    by_cases hp : pos < s.size
    · unfold nameGo at h
      rw [if_pos hp] at h
      rw [valid_step s pos hp]
      split at h
      · cases h
      · rename_i hr
        rw [if_neg hr]
        split at h
        · cases h
        split at h
        · cases h
        exact name_valid s b _ (by omega) h
    · unfold validAt
      rw [List.drop_eq_nil_of_le (by simp; omega)]; rfl

theorem name_false_of_invalid (s : ByteArray) (h : Lib.validD s.data.toList = false) (b : Nat) (hb : s.size ≤ b) : nameGo s b 0 = false := by
  cases g : nameGo s b 0
  · rfl
  · have := name_valid s b 0 (by omega) g
    unfold validAt at this
    rw [List.drop_zero] at this
    rw [this] at h
    cases h

theorem nameGo_end (s : ByteArray) (b pos : Nat) (h : ¬ pos < s.size) : nameGo s b pos = true := by
  cases b with
  | zero => rfl
  | succ b => unfold nameGo; rw [if_neg h]
theorem nameGo_step (s : ByteArray) (b pos : Nat) (h : pos < s.size) (h0 : (rd s pos).2 ≠ 0) (h1 : partB (rd s pos).1 = true) (h2 : pos = 0 → startB (rd s pos).1 = true) : nameGo s (b + 1) pos = nameGo s b (pos + (rd s pos).2) := by
  rw [nameGo, if_pos h, if_neg h0, if_neg (by rw [h1]; simp), if_neg (by rintro ⟨g, g'⟩; rw [h2 g] at g'; cases g')]
theorem nameGo_bad (s : ByteArray) (b pos : Nat) (h : pos < s.size) (h0 : (rd s pos).2 = 0 ∨ partB (rd s pos).1 = false ∨ (pos = 0 ∧ startB (rd s pos).1 = false)) : nameGo s (b + 1) pos = false := by
  rw [nameGo, if_pos h]
  rcases h0 with h0 | h0 | ⟨h0, h1⟩
  · rw [if_pos h0]
  · simp [h0]
  · subst h0
    simp [h1]
theorem start_part {r : Int} (h : startB r = true) : partB r = true := by unfold partB; rw [h]; rfl
theorem rd_le (s : ByteArray) (pos : Nat) (h : pos < s.size) : pos + (rd s pos).2 ≤ s.size := by
  have hf := decodeN_fits (s.size - pos) (s.get! pos).toNat (s.get! (pos + 1)).toNat (s.get! (pos + 2)).toNat (s.get! (pos + 3)).toNat (by omega)
  rcases decode_cases s pos with ⟨_, r⟩ | ⟨r, _⟩
  · rw [r]; simp; omega
  · rw [r, decode_rd]; omega
theorem rd_bd (s : ByteArray) (pos : Nat) : (rd s pos).1 ≤ 1114111 ∧ (rd s pos).2 ≤ 4 := by
  have hb := decodeN_bd (s.size - pos) (s.get! pos).toNat (s.get! (pos + 1)).toNat (s.get! (pos + 2)).toNat (s.get! (pos + 3)).toNat (s.get! pos).toNat_lt
  rcases decode_cases s pos with ⟨_, r⟩ | ⟨r, _⟩
  · rw [r]; simp
  · rw [r, decode_rd]; exact ⟨hb.2.2, hb.2.1⟩
end Go.Proofs.YtfmlmdfehaajbaaGreatDoor
namespace Go.Proofs.YtfmlmdfehaajbaaGreatDoor
open Go.RowKit

/-- From pos on, in at most b steps: the first fault's place and its error; (0, 0): none. -/
def faultGo (s : ByteArray) : Nat → Nat → Nat × Nat
  | 0, _ => (0, 0)
  | b + 1, pos => if pos < s.size then (if (rd s pos).2 = 0 then (pos, 20) else if charB (rd s pos).1 = false then (pos, 21) else faultGo s b (pos + (rd s pos).2)) else (0, 0)
def faultF (s : ByteArray) : Nat × Nat := faultGo s s.size 0
theorem faultGo_end (s : ByteArray) (b pos : Nat) (h : ¬ pos < s.size) : faultGo s b pos = (0, 0) := by
  cases b with
  | zero => rfl
  | succ b => unfold faultGo; rw [if_neg h]
theorem faultGo_bad (s : ByteArray) (b pos : Nat) (h : pos < s.size) (h0 : (rd s pos).2 = 0) : faultGo s (b + 1) pos = (pos, 20) := by
  rw [faultGo, if_pos h, if_pos h0]
theorem faultGo_no (s : ByteArray) (b pos : Nat) (h : pos < s.size) (h0 : (rd s pos).2 ≠ 0) (h1 : charB (rd s pos).1 = false) : faultGo s (b + 1) pos = (pos, 21) := by
  rw [faultGo, if_pos h, if_neg h0, if_pos h1]
theorem faultGo_step (s : ByteArray) (b pos : Nat) (h : pos < s.size) (h0 : (rd s pos).2 ≠ 0) (h1 : charB (rd s pos).1 = true) : faultGo s (b + 1) pos = faultGo s b (pos + (rd s pos).2) := by
  rw [faultGo, if_pos h, if_neg h0, if_neg (by rw [h1]; simp)]
end Go.Proofs.YtfmlmdfehaajbaaGreatDoor
