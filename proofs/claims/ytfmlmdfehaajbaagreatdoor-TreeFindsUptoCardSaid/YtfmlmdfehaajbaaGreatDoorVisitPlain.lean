/- Proved here: how Copy's visit stands: a node's six cells in a row of nodes. -/
import Derived.Test.YtfmlmdfehaajbaaGreatDoorCopyA
namespace Go.Proofs.YtfmlmdfehaajbaaGreatDoor
open Go.RowKit Go.Shelf

/-- A node's six cells at (d, q) say v; the other cells of the block, and all other blocks that were there, stand. -/
structure VSt (w : World) (d q : Nat) (arr : Array Value) (v : Nat → Value) (W : World) : Prop where
  row : ∃ arr', W.heap[d]? = some (.cells arr' 27 (0, 0)) ∧ arr'.size = arr.size ∧ (∀ j, (j < q ∨ q + 6 ≤ j) → arr'[j]? = arr[j]?) ∧ ∀ j, j < 6 → arr'[q + j]? = some (v j)
  oth : ∀ k, k < w.heap.size → k ≠ d → W.heap[k]? = w.heap[k]?
  os : W.os = w.os
  tape : W.tape = w.tape
  output : W.output = w.output
  size : w.heap.size ≤ W.heap.size
theorem VSt.lt {w : World} {d q : Nat} {arr : Array Value} {v : Nat → Value} {W : World} (h : VSt w d q arr v W) : d < W.heap.size := by
  obtain ⟨_, h1, _⟩ := h.row
  exact it_lt h1
theorem VSt.cell {w : World} {d q : Nat} {arr : Array Value} {v : Nat → Value} {W : World} (h : VSt w d q arr v W) (j : Nat) (hj : j < 6) : W.cell? ⟨d, q + j, none⟩ = some (v j) := by
  obtain ⟨arr', h1, _, _, h4⟩ := h.row
  rw [cell_of_row _ _ _ _ _ _ h1]
  exact h4 j hj
theorem VSt.frozen {w : World} {d q : Nat} {arr : Array Value} {v : Nat → Value} {W : World} (h : VSt w d q arr v W) (o : Nat) : W.frozen? ⟨d, o, none⟩ = false := by
  obtain ⟨arr', h1, _⟩ := h.row
  exact frozen_of_row _ _ _ _ _ h1
theorem VSt.far {w : World} {d q : Nat} {arr : Array Value} {v : Nat → Value} {W W' : World} (h : VSt w d q arr v W) (k : Below W.heap.size W W') : VSt w d q arr v W' where
  row := by
    obtain ⟨arr', h1, h2⟩ := h.row
    exact ⟨arr', (k.block _ (it_lt h1)).trans h1, h2⟩
  oth := fun j hj hd => (k.block j (Nat.lt_of_lt_of_le hj h.size)).trans (h.oth j hj hd)
  os := k.os.trans h.os
  tape := k.tape.trans h.tape
  output := k.output.trans h.output
  size := Nat.le_trans h.size k.size
theorem VSt.set {w : World} {d q : Nat} {arr : Array Value} {v : Nat → Value} {W : World} (h : VSt w d q arr v W) (hq : q + 6 ≤ arr.size) (j : Nat) (hj : j < 6) (u : Value) : VSt w d q arr (fun i => if i = j then u else v i) (W.setCell ⟨d, q + j, none⟩ u) := by
  obtain ⟨arr', h1, h2, h3, h4⟩ := h.row
  have b := (Below.refl 0 W).setCell (p := ⟨d, q + j, none⟩) (Nat.zero_le _) u
  refine ⟨⟨_, set_row6 (k := q + j) u h1, by rw [Array.size_setIfInBounds]; exact h2, fun i hi => ?_, fun i hi => ?_⟩, fun k hk hd => (set_oth6 hd).trans (h.oth k hk hd), b.os.trans h.os, b.tape.trans h.tape, b.output.trans h.output, Nat.le_trans h.size b.size⟩
  · rw [Array.getElem?_setIfInBounds_ne (by omega)]
    exact h3 i hi
  · by_cases e : i = j
    · subst e
      rw [if_pos rfl, Array.getElem?_setIfInBounds_self_of_lt (by omega)]
    · rw [if_neg e, Array.getElem?_setIfInBounds_ne (by omega)]
      exact h4 i hi
theorem VSt.ext {w : World} {d q : Nat} {arr : Array Value} {v v' : Nat → Value} {W : World} (h : VSt w d q arr v W) (e : ∀ j, j < 6 → v j = v' j) : VSt w d q arr v' W := by
  obtain ⟨arr', h1, h2, h3, h4⟩ := h.row
  exact ⟨⟨arr', h1, h2, h3, fun j hj => by rw [← e j hj]; exact h4 j hj⟩, h.oth, h.os, h.tape, h.output, h.size⟩
theorem VSt.begin {w : World} {d q : Nat} {arr : Array Value} {v : Nat → Value} (h : w.heap[d]? = some (.cells arr 27 (0, 0))) (hv : ∀ j, j < 6 → arr[q + j]? = some (v j)) : VSt w d q arr v w :=
  ⟨⟨arr, h, rfl, fun _ _ => rfl, hv⟩, fun _ _ _ => rfl, rfl, rfl, rfl, Nat.le_refl _⟩
def zeroV : Nat → Value
  | 0 => .int .i64 0
  | 1 => .string ⟨#[]⟩
  | 2 => .string ⟨#[]⟩
  | 3 => .slice none 0 0
  | 4 => .slice none 0 0
  | _ => .string ⟨#[]⟩
def nodeF (kd : Int) (u l : ByteArray) (a k : Value) (s : ByteArray) : Nat → Value
  | 0 => .int .i64 kd
  | 1 => .string u
  | 2 => .string l
  | 3 => a
  | 4 => k
  | _ => .string s
/-- A whole node is laid. -/
theorem VSt.lay {w : World} {d q : Nat} {arr : Array Value} {v : Nat → Value} {W : World} (h : VSt w d q arr v W) (hq : q + 6 ≤ arr.size) (kd : Int) (u l : ByteArray) (a k : Value) (s : ByteArray) :
    VSt w d q arr (nodeF kd u l a k s) ((((((W.setCell ⟨d, q, none⟩ (.int .i64 kd)).setCell ⟨d, q + 1, none⟩ (.string u)).setCell ⟨d, q + 2, none⟩ (.string l)).setCell ⟨d, q + 3, none⟩ a).setCell ⟨d, q + 4, none⟩ k).setCell ⟨d, q + 5, none⟩ (.string s)) := by
  have h1 := (((((h.set hq 0 (by decide) (.int .i64 kd)).set hq 1 (by decide) (.string u)).set hq 2 (by decide) (.string l)).set hq 3 (by decide) a).set hq 4 (by decide) k).set hq 5 (by decide) (.string s)
  rw [Nat.add_zero] at h1
  refine h1.ext fun j hj => ?_
  match j, hj with
  | 0, _ => rfl
  | 1, _ => rfl
  | 2, _ => rfl
  | 3, _ => rfl
  | 4, _ => rfl
  | 5, _ => rfl
/-- A cell that is given what it has. -/
theorem set_same6 {w : World} {b k : Nat} {v : Value} (h : w.cell? ⟨b, k, none⟩ = some v) : w.setCell ⟨b, k, none⟩ v = w := by
  have hl := World.block_lt_of_cell? _ _ h
  have hl' : b < w.heap.size := hl
  obtain ⟨o, ho⟩ : ∃ o, w.heap[b]? = some o := ⟨_, Array.getElem?_eq_getElem hl'⟩
  cases o with
  | cells arr T fz =>
    rw [cell_of_row _ _ _ _ _ _ ho] at h
    have hh : (w.setCell ⟨b, k, none⟩ v).heap = w.heap := by
      apply Array.ext_getElem?
      intro i
      by_cases e : i = b
      · subst e
        show (w.heap.modify i _)[i]? = _
        rw [Array.getElem?_modify, if_pos rfl, ho]
        show some (Obj.cells (arr.setIfInBounds k v) T fz) = some (Obj.cells arr T fz)
        congr 2
        apply Array.ext_getElem?
        intro j
        by_cases ej : j = k
        · subst ej
          rw [Array.getElem?_setIfInBounds_self_of_lt (Array.getElem?_eq_some_iff.1 h).1]
          exact h.symm
        · rw [Array.getElem?_setIfInBounds_ne (fun e => ej e.symm)]
      · exact set_oth6 e
    have e : w.setCell ⟨b, k, none⟩ v = { w with heap := (w.setCell ⟨b, k, none⟩ v).heap } := rfl
    rw [e, hh]
  | _ => exact absurd h (by unfold World.cell?; rw [ho]; simp)
end Go.Proofs.YtfmlmdfehaajbaaGreatDoor
