/- Proved here: plain facts on names (nameB: is it a name?): a name is valid UTF-8, a step at a time; no program is named. -/
import Derived.Test.YtgcdbmpnddbcoaaDoorDecPlain
import Derived.Lib.ValidLaws
import Derived.Lib.ValidAsc
namespace Go.Proofs.YtgcdbmpnddbcoaaDoor
open Go.RowKit

/-- From pos on, in at most b steps: each character may stand in a name, and the first may begin one. -/
def nameGo (s : ByteArray) : Nat → Nat → Bool
  | 0, _ => true
  | b + 1, pos => if pos < s.size then
      (if (rd s pos).2 = 0 then false else if partB (rd s pos).1 = false then false else if pos = 0 ∧ startB (rd s pos).1 = false then false else nameGo s b (pos + (rd s pos).2)) else true
def nameB (s : ByteArray) : Bool := if s.size = 0 ∨ 100 < s.size then false else nameGo s s.size 0
def validAt (s : ByteArray) (pos : Nat) : Bool := Lib.validD (s.data.toList.drop pos)

theorem decode_drop (s : ByteArray) (pos : Nat) (h : pos ≤ s.size) : Utf8.decode s pos = Lib.decodeL (s.data.toList.drop pos) := by
  have e : (⟨(s.data.toList.drop pos).toArray⟩ : ByteArray) = s.extract pos s.size := by
    rw [← Lib.ext_list]
  unfold Lib.decodeL
  rw [e, decode_rd, decode_rd, get!_extract _ _ _ h, get!_extract _ _ _ h, get!_extract _ _ _ h, get!_extract _ _ _ h, Lib.ext_size]
  rfl

theorem decode_cases (s : ByteArray) (pos : Nat) :
    (Utf8.decode s pos = (65533, 1) ∧ rd s pos = (0, 0)) ∨ (rd s pos = Utf8.decode s pos ∧ ¬ ((Utf8.decode s pos).1 = 65533 ∧ (Utf8.decode s pos).2 = 1)) := by
  rw [decode_rd]
  exact rd_of_decode _ _ _ _ _ (s.get! pos).toNat_lt

theorem valid_step (s : ByteArray) (pos : Nat) (h : pos < s.size) : validAt s pos = if (rd s pos).2 = 0 then false else validAt s (pos + (rd s pos).2) := by
  have hne : s.data.toList.drop pos ≠ [] := by
    intro e
    have := congrArg List.length e
    have hz : s.data.toList.length = s.size := by simp
    simp [List.length_drop] at this
    omega
  unfold validAt
  rw [Lib.validD_step _ hne, ← decode_drop s pos (by omega), List.drop_drop]
  have hw : 1 ≤ (Utf8.decode s pos).2 := by rw [decode_drop s pos (by omega)]; exact Lib.decodeL_width _
  rcases decode_cases s pos with ⟨e, r⟩ | ⟨r, hn⟩
  · rw [e, r]; rfl
  · rw [if_neg hn, r, if_neg (by omega)]

theorem name_valid (s : ByteArray) : ∀ (b pos : Nat), s.size ≤ pos + b → nameGo s b pos = true → validAt s pos = true
  | 0, pos, hb, _ => by
    unfold validAt
    rw [List.drop_eq_nil_of_le (by simp; omega)]; rfl
  | b + 1, pos, hb, h => by
    by_cases hp : pos < s.size
    · unfold nameGo at h
      rw [if_pos hp] at h
      rw [valid_step s pos hp]
      split at h
      · cases h
      · rename_i hr
        rw [if_neg hr]
        split at h
        · cases h
        split at h
        · cases h
        exact name_valid s b _ (by omega) h
    · unfold validAt
      rw [List.drop_eq_nil_of_le (by simp; omega)]; rfl

theorem name_false_of_invalid (s : ByteArray) (h : Lib.validD s.data.toList = false) (b : Nat) (hb : s.size ≤ b) : nameGo s b 0 = false := by
  cases g : nameGo s b 0
  · rfl
  · have := name_valid s b 0 (by omega) g
    unfold validAt at this
    rw [List.drop_zero] at this
    rw [this] at h
    cases h

theorem nameGo_end (s : ByteArray) (b pos : Nat) (h : ¬ pos < s.size) : nameGo s b pos = true := by
  cases b with
  | zero => rfl
  | succ b => unfold nameGo; rw [if_neg h]
theorem nameGo_step (s : ByteArray) (b pos : Nat) (h : pos < s.size) (h0 : (rd s pos).2 ≠ 0) (h1 : partB (rd s pos).1 = true) (h2 : pos = 0 → startB (rd s pos).1 = true) : nameGo s (b + 1) pos = nameGo s b (pos + (rd s pos).2) := by
  rw [nameGo, if_pos h, if_neg h0, if_neg (by rw [h1]; simp), if_neg (by rintro ⟨g, g'⟩; rw [h2 g] at g'; cases g')]
theorem nameGo_bad (s : ByteArray) (b pos : Nat) (h : pos < s.size) (h0 : (rd s pos).2 = 0 ∨ partB (rd s pos).1 = false ∨ (pos = 0 ∧ startB (rd s pos).1 = false)) : nameGo s (b + 1) pos = false := by
  rw [nameGo, if_pos h]
  rcases h0 with h0 | h0 | ⟨h0, h1⟩
  · rw [if_pos h0]
  · simp [h0]
  · subst h0
    simp [h1]
theorem start_part {r : Int} (h : startB r = true) : partB r = true := by unfold partB; rw [h]; rfl
theorem rd_le (s : ByteArray) (pos : Nat) (h : pos < s.size) : pos + (rd s pos).2 ≤ s.size := by
  have hf := decodeN_fits (s.size - pos) (s.get! pos).toNat (s.get! (pos + 1)).toNat (s.get! (pos + 2)).toNat (s.get! (pos + 3)).toNat (by omega)
  rcases decode_cases s pos with ⟨_, r⟩ | ⟨r, _⟩
  · rw [r]; simp; omega
  · rw [r, decode_rd]; omega
theorem rd_bd (s : ByteArray) (pos : Nat) : (rd s pos).1 ≤ 1114111 ∧ (rd s pos).2 ≤ 4 := by
  have hb := decodeN_bd (s.size - pos) (s.get! pos).toNat (s.get! (pos + 1)).toNat (s.get! (pos + 2)).toNat (s.get! (pos + 3)).toNat (s.get! pos).toNat_lt
  rcases decode_cases s pos with ⟨_, r⟩ | ⟨r, _⟩
  · rw [r]; simp
  · rw [r, decode_rd]; exact ⟨hb.2.2, hb.2.1⟩
end Go.Proofs.YtgcdbmpnddbcoaaDoor
