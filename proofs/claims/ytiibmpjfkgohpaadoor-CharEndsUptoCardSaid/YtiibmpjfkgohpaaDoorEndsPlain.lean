/- Proved here: plain facts on how line ends are made one byte, for texts that are made so already, and for two behind one another; no program is named. -/
import Derived.Test.YtiibmpjfkgohpaaDoorLinesPlain
import Derived.Test.YtiibmpjfkgohpaaDoorJoinPlain
namespace Go.Proofs.YtiibmpjfkgohpaaDoor
open Go.RowKit

theorem lines_no13 : ∀ l : List UInt8, (13 : UInt8) ∉ linesL l
  | [] => by simp [linesL]
  | c :: t => by
    have ih := lines_no13 t
    rw [linesL]
    repeat' split
    · rename_i h
      simp only [List.mem_cons, not_or]
      exact ⟨fun e => h e.symm, ih⟩
    · exact ih
    · simp only [List.mem_cons, not_or]
      exact ⟨by decide, ih⟩
theorem lines_id : ∀ l : List UInt8, (13 : UInt8) ∉ l → linesL l = l
  | [], _ => rfl
  | c :: t, h => by
    simp only [List.mem_cons, not_or] at h
    rw [linesL, if_pos (fun e => h.1 e.symm), lines_id t h.2]
theorem lines_half : ∀ (n : Nat) (l : List UInt8), l.length ≤ n → l.length ≤ 2 * (linesL l).length
  | _, [], _ => Nat.zero_le _
  | 0, _ :: _, h => by simp at h
  | n + 1, c :: t, h => by
    have h' : t.length ≤ n := by simpa using h
    have ih := lines_half n t h'
    rw [linesL]
    by_cases hc : c ≠ 13
    · rw [if_pos hc]; simp only [List.length_cons]; omega
    · rw [if_neg hc]
      by_cases h10 : t.head? = some 10
      · rw [if_pos h10]
        match t, h10, h' with
        | d :: u, h10, h' =>
          have hd : d = 10 := by simpa using h10
          subst hd
          have ih2 := lines_half n u (by simp at h'; omega)
          rw [linesL, if_pos (by decide)]
          simp only [List.length_cons]
          omega
      · rw [if_neg h10]; simp only [List.length_cons]; omega
theorem lines_append : ∀ a b : List UInt8, ¬ (a.getLast? = some 13 ∧ b.head? = some 10) → linesL (a ++ b) = linesL a ++ linesL b
  | [], b, _ => rfl
  | [c], b, h => by
    by_cases hc : c = 13
    · subst hc
      have hb : ¬ b.head? = some 10 := fun e => h ⟨rfl, e⟩
      have e1 : linesL [13] = [10] := rfl
      rw [e1]
      show linesL (13 :: b) = 10 :: linesL b
      rw [linesL, if_neg (by simp), if_neg hb]
    · have e1 : linesL [c] = [c] := by rw [linesL, if_pos hc]; rfl
      rw [e1]
      show linesL (c :: b) = c :: linesL b
      rw [linesL, if_pos hc]
  | c :: d :: t, b, h => by
    have ih := lines_append (d :: t) b (by rw [List.getLast?_cons_cons] at h; exact h)
    show linesL (c :: (d :: t ++ b)) = linesL (c :: d :: t) ++ linesL b
    rw [linesL, linesL.eq_2 c (d :: t), ih]
    have hh : (d :: t ++ b).head? = (d :: t).head? := rfl
    rw [hh]
    repeat' split
    all_goals rfl

theorem linesB_no13 (s : ByteArray) (k : Nat) (h : k < (linesB s).size) : (linesB s).get! k ≠ 13 := fun e => by
  have h1 := get!_of (linesB s) k h
  rw [e, linesB_list] at h1
  exact lines_no13 _ (List.mem_of_getElem? h1)
theorem linesB_id (s : ByteArray) : linesB (linesB s) = linesB s := by
  apply eq_of_list
  rw [linesB_list, linesB_list, lines_id _ (lines_no13 _)]
theorem linesB_half (s : ByteArray) : s.size ≤ 2 * (linesB s).size := by
  have h := lines_half _ s.data.toList (Nat.le_refl _)
  rw [← linesB_list] at h
  simpa using h
theorem linesB_append (a b : ByteArray) (h : ¬ (0 < a.size ∧ 0 < b.size ∧ a.get! (a.size - 1) = 13 ∧ b.get! 0 = 10)) : linesB (a ++ b) = linesB a ++ linesB b := by
  apply eq_of_list
  have e : (a ++ b).data.toList = a.data.toList ++ b.data.toList := by simp
  have e' : (linesB a ++ linesB b).data.toList = (linesB a).data.toList ++ (linesB b).data.toList := by simp
  rw [linesB_list, e, e', linesB_list, linesB_list]
  apply lines_append
  rintro ⟨h1, h2⟩
  apply h
  have ha : 0 < a.size := by
    rcases Nat.eq_zero_or_pos a.size with h0 | h0
    · have : a.data.toList = [] := List.eq_nil_of_length_eq_zero (by simpa using h0)
      rw [this] at h1; cases h1
    · exact h0
  have hb : 0 < b.size := by
    rcases Nat.eq_zero_or_pos b.size with h0 | h0
    · have : b.data.toList = [] := List.eq_nil_of_length_eq_zero (by simpa using h0)
      rw [this] at h2; cases h2
    · exact h0
  refine ⟨ha, hb, ?_, ?_⟩
  · have h3 := get!_of a (a.size - 1) (by omega)
    rw [List.getLast?_eq_getElem?] at h1
    have hl : a.data.toList.length = a.size := by simp
    rw [hl, h3] at h1
    exact Option.some.inj h1
  · have h3 := get!_of b 0 hb
    rw [List.head?_eq_getElem?, h3] at h2
    exact Option.some.inj h2
end Go.Proofs.YtiibmpjfkgohpaaDoor
