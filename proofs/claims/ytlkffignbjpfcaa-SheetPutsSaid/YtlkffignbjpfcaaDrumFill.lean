/- Proved here: a slice literal of one Write holds just its cells. -/
import Derived.Test.YtlkffignbjpfcaaDrumRead
import Derived.Great.BuildSlice
namespace Go.Proofs.Ytlkffignbjpfcaa
open Go.RowKit

theorem foldl_set_size : ∀ (l : List (Value × Nat)) (A : Array Value), (l.foldl (fun cs x => cs.setIfInBounds x.2 x.1) A).size = A.size
  | [], _ => rfl
  | x :: r, A => by rw [List.foldl_cons, foldl_set_size r, Array.size_setIfInBounds]
theorem foldl_set_at : ∀ (l : List Value) (k : Nat) (A : Array Value) (i : Nat), k + l.length ≤ A.size →
    ((l.zipIdx k).foldl (fun cs x => cs.setIfInBounds x.2 x.1) A)[i]? = if k ≤ i ∧ i < k + l.length then l[i - k]? else A[i]?
  | [], k, A, i, _ => by
    rw [if_neg (by rw [List.length_nil]; omega)]
    rfl
  | x :: r, k, A, i, h => by
    rw [List.length_cons] at h
    rw [List.zipIdx_cons, List.foldl_cons, foldl_set_at r (k + 1) _ i (by rw [Array.size_setIfInBounds]; omega), List.length_cons]
    by_cases h1 : k + 1 ≤ i ∧ i < k + 1 + r.length
    · rw [if_pos h1, if_pos (by omega), show i - k = i - (k + 1) + 1 by omega]
      rfl
    · rw [if_neg h1]
      by_cases h2 : i = k
      · subst h2
        rw [if_pos (by omega), Nat.sub_self]
        simp [show i < A.size by omega]
      · rw [if_neg (by omega)]
        simp [Array.getElem?_setIfInBounds, show ¬ k = i from fun e => h2 e.symm]
theorem fill_one (Z : Array Value) (cs : List Value) (hz : Z.size = cs.length) : Instr.fill (fun i => some (i * cs.length, cs.length)) Z [(0, .agg cs.toArray)] = some cs.toArray := by
  have e : (cs.zipIdx).foldl (fun A x => A.setIfInBounds x.2 x.1) Z = cs.toArray := by
    apply Array.ext_getElem?
    intro i
    rw [foldl_set_at cs 0 Z i (by omega)]
    by_cases h : i < cs.length
    · rw [if_pos (by omega), Nat.sub_zero]; simp
    · rw [if_neg (by omega), Array.getElem?_eq_none (by omega), Array.getElem?_eq_none (by simp; omega)]
  simp [Instr.fill, Value.cells, hz, e]
end Go.Proofs.Ytlkffignbjpfcaa
