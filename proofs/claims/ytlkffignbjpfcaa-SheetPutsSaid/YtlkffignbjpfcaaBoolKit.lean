/- Proved here: bools in new memory. -/
import Derived.Test.YtlkffignbjpfcaaDrumActs
namespace Go.Proofs.Ytlkffignbjpfcaa
open Go.RowKit

theorem HoldsT.below {W W' : World} {p : Option Addr} {s : List Bool} (h : HoldsT W p s) (hb : Below W.heap.size W W') : HoldsT W' p s := h.touch (F := fun _ => False) (Touch.of_below hb) (fun _ _ hf => hf)
theorem infoBool : (Try.prog.info? 4).map (fun i => (i.zero, i.size, i.bytes)) = some (some (.bool false), 1, 1) := by kernel_rfl
def boolV (l : List Bool) : List Value := l.map Value.bool
/-- 'append([]bool{}, keep...)'. -/
theorem appendT_first {w : World} {l : List Bool} {p : Option Addr} {c : Nat} (hp : HoldsT w p l) (hnil : p = none → c = 0) (hsz : l.length ≤ 140737488355328) :
    ∃ g cap w', (∀ ty, (Builtin.append_ #[34, 34] ty #[.slice (some ⟨w.heap.size, 0, none⟩) 0 0, .slice p l.length c]).run Try.prog (w.alloc (.cells #[] 4)) = .ok (.slice (some ⟨g, 0, none⟩) l.length cap) w') ∧
      HoldsT w' (some ⟨g, 0, none⟩) l ∧ w.heap.size ≤ g ∧ Below w.heap.size w w' := by
  obtain ⟨i0, hi, hz0, hz1, hz2⟩ := info_parts infoBool
  have hb0 : Below w.heap.size w (w.alloc (.cells #[] 4)) := (Below.refl _ _).alloc (Nat.le_refl _) _
  have hown : (w.alloc (.cells #[] 4)).ownsRow w.heap.size 4 1 (.slice (some ⟨w.heap.size, 0, none⟩) 0 0) 0 [] := World.ownsRow_lit w #[] 0 (Nat.le_refl _) (by unfold maxLen; omega) rfl
  cases p with
  | none =>
    have hl : l = [] := by
      cases l with
      | nil => rfl
      | cons x r => obtain ⟨_, _, e, _⟩ := hp (by simp); cases e
    have hc := hnil rfl
    subst hl hc
    have hrun := fun ty => run_append_owned_none (P := Try.prog) (w := w.alloc (.cells #[] 4)) w.heap.size 34 ty 4 i0 1 Try.underlying34 hi _ 0 [] hown
    exact ⟨w.heap.size, 0, _, hrun, fun h => absurd h (by decide), Nat.le_refl _, hb0⟩
  | some a =>
    have hcells : ∀ j u, (boolV l)[j]? = some u → (w.alloc (.cells #[] 4)).cell? (a.add j) = some u := by
      intro j u hu
      have hj : j < l.length := by have := (List.getElem?_eq_some_iff.1 hu).1; simpa [boolV] using this
      obtain ⟨b, off, e, hc⟩ := (hp.below hb0) (by omega)
      obtain rfl := Option.some.inj e
      rw [Addr.add_mid, hc j hj, ← hu]
      simp [boolV, List.getD_eq_getElem?_getD, hj]
    obtain ⟨v', w', hrun, hown', hgrow, hne⟩ := run_append_own (P := Try.prog) (w := w.alloc (.cells #[] 4)) w.heap.size 34 34 4 i0 (.bool false) 1 1 Try.underlying34 hi hz0 hz1 hz2 rfl (by decide) _ 0 [] hown a l.length c (boolV l) (by simp [boolV]) hcells (fun u hu => by
      simp only [boolV, List.mem_map] at hu
      obtain ⟨b, _, rfl⟩ := hu
      rfl) (by unfold maxLen; omega) (by omega) (by simp)
    have hv : v' ≠ .slice none 0 0 := fun e => by
      have := (hne.1 e).1
      cases this
    rcases hown'.2 with ⟨e, _⟩ | ⟨g, cap, cur, rfl, hb, hh, hc, h1, h2, h3⟩
    · exact absurd e hv
    · have hrun' : ∀ ty, (Builtin.append_ #[34, 34] ty #[.slice (some ⟨w.heap.size, 0, none⟩) 0 0, .slice (some a) l.length c]).run Try.prog (w.alloc (.cells #[] 4)) = .ok (.slice (some ⟨g, 0, none⟩) l.length cap) w' := fun ty => by
        rw [Nat.zero_add] at hrun
        rw [← hrun]; rfl
      refine ⟨g, cap, w', hrun', fun h0 => ⟨g, 0, rfl, fun j hj => ?_⟩, hb, hb0.grown hgrow (by simp) (fun k e => by simp [Value.ownBlock] at e; omega)⟩
      have h4 := World.ownsRow.cellAt hown' j (by omega)
      rw [Nat.zero_add, h4]
      simp [boolV, List.getD_eq_getElem?_getD, hj]
end Go.Proofs.Ytlkffignbjpfcaa
