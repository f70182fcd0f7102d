/- Proved here: 'append([]T{}, xs...)', wherever the literal lies; what the document's Twin answers. -/
import Derived.Test.YtlkffignbjpfcaaRDNew2
import Derived.Maps.AppendAt
namespace Go.Proofs.Ytlkffignbjpfcaa
open Go.RowKit

theorem copy_at (t e : TypeId) (i0 : TypeInfo) (z : Value) (size bytes : Nat) (hu : Try.prog.underlying t = some (.slice e)) (hi0 : Try.prog.info? e = some i0) (hz0 : i0.zero = some z) (hz1 : i0.size = size) (hz2 : i0.bytes = bytes) (hzs : z.cells.size = size) (hpos : 0 < size)
    {w : World} {A B : Nat} (hA : w.heap[A]? = some (.cells #[] e (0, 0))) (hB : B ≤ A) {p : Option Addr} {n cap : Nat} {xs : List Value} (ho : w.ownsRow 0 e size (.slice p n cap) n xs) (hn : p = none → cap = 0) (h1 : ∀ u ∈ xs, u.oneCell' = true) (hsz : n * bytes ≤ 140737488355328) (hnm : n ≤ 140737488355328) :
    ∃ g cap' w', (∀ ty, (Builtin.append_ #[t, t] ty #[.slice (some ⟨A, 0, none⟩) 0 0, .slice p n cap]).run Try.prog w = .ok (.slice (some ⟨g, 0, none⟩) n cap') w') ∧ w'.ownsRow B e size (.slice (some ⟨g, 0, none⟩) n cap') n xs ∧ Touch (Only A) w w' ∧ (g = A ∨ w.heap.size ≤ g) ∧ g < w'.heap.size := by
  have hlt := block_lt hA
  have hown : w.ownsRow B e size (.slice (some ⟨A, 0, none⟩) 0 0) 0 [] := ⟨by simp, .inr ⟨A, 0, #[], rfl, hB, hA, Nat.le_refl _, by unfold maxLen; omega, by simp, by simp⟩⟩
  cases p with
  | none =>
    have hc := hn rfl
    subst hc
    have hn0 : n = 0 := by
      rcases ho.2 with ⟨_, e0⟩ | ⟨g, c, cur, e', _⟩
      · exact e0
      · cases e'
    subst hn0
    have hx : xs = [] := List.eq_nil_of_length_eq_zero (by have := ho.1; omega)
    subst hx
    have hrun := fun ty => run_append_owned_none (P := Try.prog) (w := w) B t ty e i0 size hu hi0 _ 0 [] hown
    exact ⟨A, 0, _, hrun, hown, Touch.refl _ _, .inl rfl, hlt⟩
  | some a =>
    rcases ho.2 with ⟨e', _⟩ | ⟨g, c, cur, e', _, hh, hnc, _, _, ht⟩
    · cases e'
    · injection e' with e1 e2 e3
      injection e1 with e1
      subst e1
      have hcells : ∀ j u, xs[j]? = some u → w.cell? ((⟨g, 0, none⟩ : Addr).add j) = some u := fun j u hu' => ho.cells (g := g) rfl j u hu'
      obtain ⟨v', w', hrun, hown', hgrow, hne, hat⟩ := run_append_own_at (P := Try.prog) (w := w) B t t e i0 z size bytes hu hi0 hz0 hz1 hz2 hzs hpos _ 0 [] hown ⟨g, 0, none⟩ n cap xs ho.1 hcells h1 (by unfold maxLen; omega) (by rw [Nat.zero_add]; exact hsz) (by omega)
      have hv : v' ≠ .slice none 0 0 := fun e => by
        have := (hne.1 e).1
        cases this
      rw [Nat.zero_add, List.nil_append] at hown'
      have hown2 := hown'
      rcases hown'.2 with ⟨e, _⟩ | ⟨g', cap', cur', rfl, hb, hh', hc, _⟩
      · exact absurd e hv
      · refine ⟨g', cap', w', fun ty => by rw [← hrun]; rfl, hown2, ⟨hgrow.os, hgrow.tape, hgrow.output, hgrow.size, fun k hk hn => hgrow.block k hk (fun e => hn (by injection e))⟩, ?_, block_lt hh'⟩
        rcases hat with h | h
        · exact .inl (by simpa [Value.ownBlock] using h)
        · have h' : g' = w.heap.size := by simpa [Value.ownBlock] using h
          exact .inr (by omega)
theorem lit_row {w : World} {e : TypeId} : (w.alloc (.cells #[] e)).heap[w.heap.size]? = some (.cells #[] e (0, 0)) := heap_alloc_new _ _
theorem lit_keep {w : World} {e f : TypeId} {A : Nat} {C : Array Value} (h : w.heap[A]? = some (.cells C e (0, 0))) : (w.alloc (.cells #[] f)).heap[A]? = some (.cells C e (0, 0)) := (Below.heap_alloc w _ A (block_lt h)).trans h
theorem own_lit {w : World} {B : Nat} {e f : TypeId} {size g n c : Nat} {xs : List Value} (h : w.ownsRow B e size (.slice (some ⟨g, 0, none⟩) n c) n xs) (hg : g < w.heap.size) : (w.alloc (.cells #[] f)).ownsRow B e size (.slice (some ⟨g, 0, none⟩) n c) n xs :=
  owns_block h (fun k hk => by have e : g = k := by simpa [Value.ownBlock] using hk
                               subst e; exact Below.heap_alloc w _ g hg)
theorem own_touch {w w' : World} {A B : Nat} {e : TypeId} {size g n c : Nat} {xs : List Value} (h : w.ownsRow B e size (.slice (some ⟨g, 0, none⟩) n c) n xs) (ht : Touch (Only A) w w') (hg : g < w.heap.size) (hne : g ≠ A) : w'.ownsRow B e size (.slice (some ⟨g, 0, none⟩) n c) n xs :=
  owns_block h (fun k hk => by have e : g = k := by simpa [Value.ownBlock] using hk
                               subst e; exact ht.block g hg (fun h => hne h))
theorem lit_touch {w w' : World} {A : Nat} {e : TypeId} {a : Nat} (h : w.heap[a]? = some (.cells #[] e (0, 0))) (ht : Touch (Only A) w w') (hne : a ≠ A) : w'.heap[a]? = some (.cells #[] e (0, 0)) := (ht.block a (block_lt h) (fun h => hne h)).trans h
theorem own_base {w : World} {B B' : Nat} {e : TypeId} {size n : Nat} {v : Value} {xs : List Value} (h : w.ownsRow B e size v n xs) (hB : B' ≤ B) : w.ownsRow B' e size v n xs := by
  rcases h.2 with ⟨e1, e2⟩ | ⟨g, cap, cur, e1, hb, hr⟩
  · exact ⟨h.1, .inl ⟨e1, e2⟩⟩
  · exact ⟨h.1, .inr ⟨g, cap, cur, e1, Nat.le_trans hB hb, hr⟩⟩
theorem own_set5 {w w' : World} {A B : Nat} {e : TypeId} {size g n c : Nat} {xs : List Value} (h : w.ownsRow B e size (.slice (some ⟨g, 0, none⟩) n c) n xs) (hk : ∀ k, k ≠ A → w'.heap[k]? = w.heap[k]?) (hA : A < B) : w'.ownsRow B e size (.slice (some ⟨g, 0, none⟩) n c) n xs :=
  owns_block h (fun k hk' => by
    have e : g = k := by simpa [Value.ownBlock] using hk'
    subst e
    have := h.lt g hk'
    exact hk g (by omega))
/-- What Twin answers: a drum of the same mind, in rows of its own; the rows of bytes are those of the old one. -/
def TwinOut (W : World) (X : Nat → Prop) (N : Nat) (M : DM) (e : Ending) (W' : World) : Prop := ∃ g q c d Vs Ws, e = .returned (.agg #[.slice (some ⟨g, 0, none⟩) N c, .slice (some ⟨q, 0, none⟩) M.loose.length d, .int .i64 (M.steps : Int), .int .i64 (fuseZ M.fuse), .bool M.down]) ∧
  W'.ownsRow W.heap.size 33 1 (.slice (some ⟨g, 0, none⟩) N c) N Vs ∧ W'.ownsRow W.heap.size 107 2 (.slice (some ⟨q, 0, none⟩) M.loose.length d) M.loose.length (rwV (M.loose.map (·.1)) Ws) ∧
  (∀ i (h : i < M.safe.length), ∃ v, Vs[i]? = some v ∧ RowOut W X v M.safe[i]) ∧ Ws.length = M.loose.length ∧ (∀ i (h : i < M.loose.length), ∃ v, Ws[i]? = some v ∧ RowOut W X v M.loose[i].2) ∧ Below W.heap.size W W'
end Go.Proofs.Ytlkffignbjpfcaa
