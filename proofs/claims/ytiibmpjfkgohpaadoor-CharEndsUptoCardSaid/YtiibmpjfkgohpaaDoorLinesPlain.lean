/- Proved here: plain facts on how line ends are made one byte; no program is named. -/
import Derived.Test.YtiibmpjfkgohpaaDoorColonPlain
namespace Go.Proofs.YtiibmpjfkgohpaaDoor
open Go.RowKit

/-- All line ends made one 10: a 13 goes if a 10 stands behind it, else it becomes a 10. -/
def linesL : List UInt8 → List UInt8
  | [] => []
  | c :: t => if c ≠ 13 then c :: linesL t else if t.head? = some 10 then linesL t else 10 :: linesL t
/-- The same, told from behind: a 13 becomes a 10, and a 10 goes if a 13 stands ahead of it (prev: the byte ahead). -/
def refL : UInt8 → List UInt8 → List UInt8
  | _, [] => []
  | p, c :: t => if c = 13 then 10 :: refL 13 t else if c = 10 ∧ p = 13 then refL c t else c :: refL c t

theorem lines_ref : ∀ (l : List UInt8), (∀ p, p ≠ 13 → linesL l = refL p l) ∧ linesL (13 :: l) = 10 :: refL 13 l
  | [] => ⟨fun _ _ => rfl, rfl⟩
  | c :: t => by
    obtain ⟨h1, h2⟩ := lines_ref t
    have e : ∀ p, p ≠ 13 → linesL (c :: t) = refL p (c :: t) := by
      intro p hp
      by_cases hc : c = 13
      · subst hc
        rw [h2, refL, if_pos rfl]
      · rw [refL, if_neg hc, if_neg (by rintro ⟨_, g⟩; exact hp g), linesL, if_pos hc, h1 c hc]
    refine ⟨e, ?_⟩
    rw [linesL, if_neg (by simp)]
    by_cases hc : c = 10
    · subst hc
      rw [if_pos (show (10 :: t).head? = some 10 from rfl), e 0 (by decide), refL, if_neg (by decide), if_neg (by rintro ⟨_, g⟩; exact absurd g (by decide))]
      rw [refL, if_neg (by decide), if_pos ⟨rfl, rfl⟩]
    · rw [if_neg (by simp [hc]), e 0 (by decide)]
      congr 1
      rw [refL, refL]
      by_cases h13 : c = 13
      · rw [if_pos h13, if_pos h13]
      · rw [if_neg h13, if_neg h13, if_neg (by rintro ⟨g, _⟩; exact hc g), if_neg (by rintro ⟨g, _⟩; exact hc g)]
theorem lines_eq (l : List UInt8) : linesL l = refL 0 l := (lines_ref l).1 0 (by decide)

theorem lines_len : ∀ l : List UInt8, (linesL l).length ≤ l.length
  | [] => Nat.le_refl _
  | c :: t => by
    have := lines_len t
    rw [linesL]
    repeat' split
    all_goals simp only [List.length_cons]
    all_goals omega

theorem drop_cons (s : ByteArray) (k : Nat) (h : k < s.size) : s.data.toList.drop k = s.get! k :: s.data.toList.drop (k + 1) := by
  have h1 := get!_of s k h
  obtain ⟨h2, h3⟩ := List.getElem?_eq_some_iff.1 h1
  rw [List.drop_eq_getElem_cons h2, h3]
theorem head_drop (s : ByteArray) (k : Nat) : (s.data.toList.drop k).head? = if k < s.size then some (s.get! k) else none := by
  by_cases h : k < s.size
  · rw [if_pos h, drop_cons s k h]; rfl
  · rw [if_neg h, List.drop_eq_nil_of_le (by simp; omega)]; rfl

def linesB (s : ByteArray) : ByteArray := ⟨(linesL s.data.toList).toArray⟩
theorem linesB_list (s : ByteArray) : (linesB s).data.toList = linesL s.data.toList := by simp [linesB]
theorem linesB_size (s : ByteArray) : (linesB s).size ≤ s.size := by
  have := lines_len s.data.toList
  show ((linesL s.data.toList).toArray).size ≤ _
  simp at this ⊢
  exact this
theorem list_push (o : ByteArray) (x : UInt8) : (o ++ ⟨#[x]⟩).data.toList = o.data.toList ++ [x] := by simp
theorem eq_of_list {a b : ByteArray} (h : a.data.toList = b.data.toList) : a = b := by
  apply ByteArray.ext
  exact Array.ext' h

/-- What the search from the front holds after k bytes. -/
def LAcc (s o : ByteArray) (k : Nat) : Prop := o.data.toList ++ linesL (s.data.toList.drop k) = linesL s.data.toList
theorem lacc_zero (s : ByteArray) : LAcc s ⟨#[]⟩ 0 := by unfold LAcc; simp
theorem lacc_end (s o : ByteArray) (k : Nat) (h : ¬ k < s.size) (ha : LAcc s o k) : o = linesB s := by
  unfold LAcc at ha
  rw [List.drop_eq_nil_of_le (by simp; omega)] at ha
  apply eq_of_list
  rw [linesB_list, ← ha]
  simp [linesL]
theorem lacc_other (s o : ByteArray) (k : Nat) (h : k < s.size) (hc : s.get! k ≠ 13) (ha : LAcc s o k) : LAcc s (o ++ ⟨#[s.get! k]⟩) (k + 1) := by
  unfold LAcc at ha ⊢
  rw [drop_cons s k h, linesL, if_pos hc] at ha
  rw [list_push, List.append_assoc]
  exact ha
theorem lacc_end13 (s o : ByteArray) (k : Nat) (h : k < s.size) (hc : s.get! k = 13) (hn : ¬ (k + 1 < s.size ∧ s.get! (k + 1) = 10)) (ha : LAcc s o k) : LAcc s (o ++ ⟨#[10]⟩) (k + 1) := by
  unfold LAcc at ha ⊢
  rw [drop_cons s k h, linesL, if_neg (by rw [hc]; simp), if_neg] at ha
  · rw [list_push, List.append_assoc]
    exact ha
  · rw [head_drop]
    split
    · rename_i g
      intro e
      exact hn ⟨g, Option.some.inj e⟩
    · simp
theorem lacc_skip (s o : ByteArray) (k : Nat) (h : k < s.size) (hc : s.get! k = 13) (h1 : k + 1 < s.size) (h2 : s.get! (k + 1) = 10) (ha : LAcc s o k) : LAcc s o (k + 1) := by
  unfold LAcc at ha ⊢
  rw [drop_cons s k h, linesL, if_neg (by rw [hc]; simp), if_pos (by rw [head_drop, if_pos h1, h2])] at ha
  exact ha

/-- What the document's own way holds after k bytes (prev: the byte ahead). -/
def prevOf (s : ByteArray) (k : Nat) : UInt8 := if k = 0 then 0 else s.get! (k - 1)
def RAcc (s o : ByteArray) (k : Nat) : Prop := o.data.toList ++ refL (prevOf s k) (s.data.toList.drop k) = linesL s.data.toList
theorem racc_zero (s : ByteArray) : RAcc s ⟨#[]⟩ 0 := by
  unfold RAcc
  rw [lines_eq]
  simp [prevOf]
theorem racc_end (s o : ByteArray) (k : Nat) (h : ¬ k < s.size) (ha : RAcc s o k) : o = linesB s := by
  unfold RAcc at ha
  rw [List.drop_eq_nil_of_le (by simp; omega)] at ha
  apply eq_of_list
  rw [linesB_list, ← ha]
  simp [refL]
theorem prev_succ (s : ByteArray) (k : Nat) : prevOf s (k + 1) = s.get! k := by unfold prevOf; rw [if_neg (by omega)]; rfl
theorem racc_13 (s o : ByteArray) (k : Nat) (h : k < s.size) (hc : s.get! k = 13) (ha : RAcc s o k) : RAcc s (o ++ ⟨#[10]⟩) (k + 1) := by
  unfold RAcc at ha ⊢
  rw [drop_cons s k h, refL, if_pos hc] at ha
  rw [list_push, List.append_assoc, prev_succ, hc]
  exact ha
theorem racc_skip (s o : ByteArray) (k : Nat) (h : k < s.size) (hc : s.get! k = 10) (hp : prevOf s k = 13) (ha : RAcc s o k) : RAcc s o (k + 1) := by
  unfold RAcc at ha ⊢
  rw [drop_cons s k h, refL, if_neg (by rw [hc]; decide), if_pos ⟨hc, hp⟩] at ha
  rw [prev_succ]
  exact ha
theorem racc_other (s o : ByteArray) (k : Nat) (h : k < s.size) (hc : s.get! k ≠ 13) (hn : ¬ (s.get! k = 10 ∧ prevOf s k = 13)) (ha : RAcc s o k) : RAcc s (o ++ ⟨#[s.get! k]⟩) (k + 1) := by
  unfold RAcc at ha ⊢
  rw [drop_cons s k h, refL, if_neg hc, if_neg hn] at ha
  rw [list_push, List.append_assoc, prev_succ]
  exact ha
end Go.Proofs.YtiibmpjfkgohpaaDoor
