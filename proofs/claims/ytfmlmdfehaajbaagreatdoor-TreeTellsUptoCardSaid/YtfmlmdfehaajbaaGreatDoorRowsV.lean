/- Proved here: a call's own row of one-celled values: made longer by one, made shorter by one. -/
import Derived.Test.YtfmlmdfehaajbaaGreatDoorPlainT
import Derived.Laws.AppendOwn
import Derived.Laws.OwnMore
import Derived.Maps.AppendAt
import Derived.Lib.SliceRun
import Derived.Lib.Hide
namespace Go.Proofs.YtfmlmdfehaajbaaGreatDoor
open Go.RowKit

def OwnV (T : TypeId) (w : World) (B : Nat) (q : Option Addr) (c : Nat) (xs : List Value) : Prop := w.ownsRow B T 1 (.slice q xs.length c) xs.length xs ∧ xs.length ≤ c ∧ (q = none → c = 0) ∧ (∀ u ∈ xs, u.oneCell' = true) ∧ c ≤ maxLen
theorem OwnV.block {T : TypeId} {w : World} {B : Nat} {q : Option Addr} {c : Nat} {xs : List Value} (h : OwnV T w B q c xs) : ∀ b off, q = some ⟨b, off, none⟩ → B ≤ b ∧ b < w.heap.size ∧ off = 0 ∧ ∃ cur, w.heap[b]? = some (.cells cur T (0, 0)) := fun b off e => by
  have hl := h.1.lt
  rcases h.1.2 with ⟨e1, _⟩ | ⟨g, cap, cur, e1, hb, hh, _⟩
  · injection e1 with e2
    rw [e] at e2
    cases e2
  · injection e1 with e2
    rw [e] at e2
    injection e2 with e2
    injection e2 with e3 e4
    subst e3 e4
    exact ⟨hb, (Array.getElem?_eq_some_iff.1 hh).1, rfl, cur, hh⟩
theorem OwnV.form {T : TypeId} {w : World} {B : Nat} {q : Option Addr} {c : Nat} {xs : List Value} (h : OwnV T w B q c xs) (h0 : 0 < xs.length) : ∃ g, q = some ⟨g, 0, none⟩ := by
  rcases h.1.2 with ⟨_, e⟩ | ⟨g, cap, cur, e1, _⟩
  · omega
  · injection e1 with e2
    exact ⟨g, e2⟩
theorem OwnV.cell {T : TypeId} {w : World} {B : Nat} {g : Nat} {c : Nat} {xs : List Value} (h : OwnV T w B (some ⟨g, 0, none⟩) c xs) {j : Nat} {v : Value} (hj : xs[j]? = some v) : w.cell? ⟨g, j, none⟩ = some v := by
  have hlt := (List.getElem?_eq_some_iff.1 hj).1
  rw [World.ownsRow.cellAt h.1 j (by omega)]
  exact hj
/-- It stands where its block stands. -/
theorem OwnV.keep {T : TypeId} {w w' : World} {B : Nat} {q : Option Addr} {c : Nat} {xs : List Value} (h : OwnV T w B q c xs) (hk : ∀ b cur, q = some ⟨b, 0, none⟩ → w.heap[b]? = some (.cells cur T (0, 0)) → w'.heap[b]? = some (.cells cur T (0, 0))) : OwnV T w' B q c xs := by
  refine ⟨⟨h.1.1, ?_⟩, h.2⟩
  rcases h.1.2 with e | ⟨g, cap, cur, e1, hb, hh, hr⟩
  · exact .inl e
  · have e2 : q = some ⟨g, 0, none⟩ := by injection e1
    exact .inr ⟨g, cap, cur, e1, hb, hk g cur e2 hh, hr⟩
theorem OwnV.below {T : TypeId} {w w' : World} {B : Nat} {q : Option Addr} {c : Nat} {xs : List Value} (h : OwnV T w B q c xs) (b : Below w.heap.size w w') : OwnV T w' B q c xs :=
  h.keep (fun _ _ _ hh => (b.block _ (Array.getElem?_eq_some_iff.1 hh).1).trans hh)
theorem OwnV.cut {T : TypeId} {w : World} {B : Nat} {q : Option Addr} {c : Nat} {xs : List Value} {x : Value} (h : OwnV T w B q c (xs ++ [x])) : OwnV T w B q c xs := by
  obtain ⟨⟨h1, h2⟩, h3, h4, h5, h6⟩ := h
  rw [List.length_append, List.length_singleton] at h2 h3
  refine ⟨⟨by simp, ?_⟩, by omega, h4, fun u hu => h5 u (by simp [hu]), h6⟩
  rcases h2 with ⟨_, e⟩ | ⟨g, cap, cur, e1, hb, hh, hn, hm, hs, ht⟩
  · omega
  · injection e1 with e2 e3 e4
    subst e2 e4
    refine .inr ⟨g, c, cur, rfl, hb, hh, by omega, hm, hs, ?_⟩
    have := congrArg (List.take xs.length) ht
    rw [List.take_take, List.take_left] at this
    rw [Nat.mul_one] at this ⊢
    rwa [Nat.min_eq_left (by omega)] at this
theorem appendV {T S : TypeId} {i0 : TypeInfo} {z : Value} (hS : Tryz.prog.underlying S = some (.slice T)) (hi : Tryz.prog.info? T = some i0) (hz0 : i0.zero = some z) (hz1 : i0.size = 1) (hz2 : i0.bytes = 8) (hzc : z.cells.size = 1)
    {w : World} {B : Nat} {q : Option Addr} {c : Nat} {xs : List Value} {x : Value} (h : OwnV T w B q c xs) (hx : x.oneCell' = true) (hB : B ≤ w.heap.size) (hsz : (xs.length + 1) * 8 ≤ 140737488355328) :
    ∃ g cap w', (∀ ty, (Builtin.append_ #[S, S] ty #[.slice q xs.length c, .slice (some ⟨w.heap.size, 0, none⟩) 1 1]).run Tryz.prog (w.alloc (.cells #[x] T)) = .ok (.slice (some ⟨g, 0, none⟩) (xs.length + 1) cap) w') ∧
      OwnV T w' B (some ⟨g, 0, none⟩) cap (xs ++ [x]) ∧ w.grownBy w' (Value.slice q xs.length c).ownBlock ∧ (q = some ⟨g, 0, none⟩ ∨ g = w.heap.size + 1) := by
  have hown := World.ownsRow.alloc h.1 (.cells #[x] T)
  have hs : (w.alloc (.cells #[x] T)).heap.size = w.heap.size + 1 := by simp
  have hcells : ∀ j u, [x][j]? = some u → (w.alloc (.cells #[x] T)).cell? ((⟨w.heap.size, 0, none⟩ : Addr).add j) = some u := by
    intro j u hu
    have hj : j = 0 := by
      have := (List.getElem?_eq_some_iff.1 hu).1
      simp at this
      omega
    subst hj
    have e : u = x := by simpa using hu.symm
    subst e
    have ha : (⟨w.heap.size, 0, none⟩ : Addr).add 0 = ⟨w.heap.size, 0, none⟩ := rfl
    rw [ha, cell_of_row _ _ 0 #[u] T (0, 0) (heap_alloc_new w _)]
    rfl
  obtain ⟨v', w', hrun, hown', hgrow, hne, hblk⟩ := run_append_own_at (P := Tryz.prog) (w := w.alloc (.cells #[x] T)) B S S T i0 z 1 8 hS hi hz0 hz1 hz2 hzc (by decide) _ xs.length xs hown ⟨w.heap.size, 0, none⟩ 1 1 [x] rfl hcells (by simp [hx]) (by unfold maxLen; omega) (by omega) (by omega)
  have hv : v' ≠ .slice none 0 0 := fun e => by
    have := (hne.1 e).2
    cases this
  have hgr : w.grownBy w' (Value.slice q xs.length c).ownBlock := ⟨hgrow.os, hgrow.tape, hgrow.output, by have := hgrow.size; omega, fun k hk hr => (hgrow.block k (by omega) hr).trans (((Below.refl _ w).alloc (Nat.le_refl _) _).block k hk)⟩
  rcases hown'.2 with ⟨e, _⟩ | ⟨g, cap, cur, rfl, hb, hh, hc, h1, h2⟩
  · exact absurd e hv
  · refine ⟨g, cap, w', fun ty => by rw [← hrun]; rfl, ⟨by rw [List.length_append]; exact hown', by rw [List.length_append]; exact hc, (fun e => by cases e), fun u hu => ?_, h1⟩, hgr, ?_⟩
    · rcases List.mem_append.1 hu with hu | hu
      · exact h.2.2.2.1 u hu
      · rw [List.mem_singleton.1 hu]; exact hx
    · rcases hblk with e | e
      · cases q with
        | none => cases e
        | some a =>
          obtain ⟨g', rfl⟩ : ∃ g', a = ⟨g', 0, none⟩ := by
            rcases h.1.2 with ⟨e1, _⟩ | ⟨g', _, _, e1, _⟩
            · cases e1
            · injection e1 with e1
              injection e1 with e1
              exact ⟨g', e1⟩
          injection e with e
          exact .inl (by rw [show g' = g from e.symm])
      · injection e with e
        exact .inr (by rw [World.size_alloc] at e; exact e)
/-- An append whose run is known, in a fence. -/
theorem appendIn_eq {F : Fence} {n : Nat} {P : Program} {w : World} {ops : Array Oper} {rest : List Oper} {o : Oper} {a : Act} {Q : Exit → Act → World → Prop} (hg : o.guard = none) (s x : Operand) (t : TypeId)
    (hop : o.op = Op.call { callee := Callee.builtin Builtin.append, args := #[s, x], argTypes := #[t, t] }) (v u v' : Value) (w' : World) (hs : a.eval s = v) (hx : a.eval x = u)
    (hrun : ∀ ty, (Builtin.append_ #[t, t] ty #[v, u]).run P w = .ok v' w') (h : wpListIn F n P ops Q rest (a.put o.dst v') w') : wpListIn F n P ops Q (o :: rest) a w := by
  refine wpListIn_plain hg fun K hK => ?_
  have hr := hrun o.type
  unfold Oper.wpIn
  refine ⟨?_, ?_⟩
  · simp [Oper.about, hop, resolve, Target.leads, Sem.run_pure]
  · rw [Oper.semAt_plain F _ _ (by rw [hop]; intro c hc'; cases hc')]
    simp [execOp, hop, resolve, invoke, builtin, hs, hx, hr, Result.andThen]
    exact hK _ _ h
theorem OwnV.nil_path {T : TypeId} {w : World} {B : Nat} {q : Option Addr} {c : Nat} {xs : List Value} (h : OwnV T w B q c xs) (hq : q = none) : xs = [] := by
  have h1 := h.2.2.1 hq
  have h2 := h.2.1
  exact List.eq_nil_of_length_eq_zero (by omega)
/-- Paths as they lie. -/
def pathV (p : List Nat) : List Value := p.map (fun (i : Nat) => Value.int .i64 (i : Int))
def HoldsN (w : World) (q : Option Addr) (p : List Nat) : Prop := 0 < p.length → ∃ b, q = some ⟨b, 0, none⟩ ∧ ∀ (j i : Nat), p[j]? = some i → w.cell? ⟨b, j, none⟩ = some (.int .i64 (i : Int))
theorem OwnV.holds {T : TypeId} {w : World} {B : Nat} {q : Option Addr} {c : Nat} {p : List Nat} (h : OwnV T w B q c (pathV p)) : HoldsN w q p := fun h0 => by
  obtain ⟨g, rfl⟩ := h.form (by simpa [pathV] using h0)
  exact ⟨g, rfl, fun j i hi => h.cell (by simp [pathV, hi])⟩
/-- The path that a slice says. -/
def pathOf (w : World) : Value → List Nat
  | .slice (some a) n _ => (List.range n).map (fun j => match w.cell? ⟨a.block, j, none⟩ with | some (.int _ z) => z.toNat | _ => 0)
  | _ => []
theorem pathOf_eq {w : World} {q : Option Addr} {c : Nat} {p : List Nat} (h : HoldsN w q p) (h0 : q = none → p = []) : pathOf w (.slice q p.length c) = p := by
  cases hq : q with
  | none => rw [h0 hq]; rfl
  | some a =>
    by_cases hp : 0 < p.length
    · obtain ⟨b, e, hc⟩ := h hp
      rw [hq] at e
      injection e with e
      subst e
      show (List.range p.length).map _ = p
      apply List.ext_getElem?
      intro j
      by_cases hj : j < p.length
      · rw [List.getElem?_map, List.getElem?_range hj, Option.map_some, hc j p[j] (List.getElem?_eq_getElem hj), List.getElem?_eq_getElem hj]
        simp
      · rw [List.getElem?_eq_none (by simp; omega), List.getElem?_eq_none (by omega)]
    · have : p = [] := List.eq_nil_of_length_eq_zero (by omega)
      rw [this]
      rfl
end Go.Proofs.YtfmlmdfehaajbaaGreatDoor
