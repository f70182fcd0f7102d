/- Proved here: a call's own row of numbers, made longer one by one (the cache's seat). -/
import Derived.Test.YtaigbplidkakhaaCNodes
import Derived.Laws.AppendOwn
import Derived.Lib.SliceRun
import Derived.OwnWalk
namespace Go.Proofs.Ytaigbplidkakhaa
open Go.RowKit

theorem t_cat {a b c : World} (h : Below a.heap.size a b) (k : Below b.heap.size b c) : Below a.heap.size a c := h.trans (k.mono h.size)
theorem t_cell {w W : World} {a : Addr} {v : Value} (h : Below w.heap.size w W) (hc : w.cell? a = some v) : W.cell? a = some v := by
  exact (h.cell (World.block_lt_of_cell? _ _ hc)).trans hc
/-- These numbers stand behind this address (nothing is asked of none). -/
def HoldsI (w : World) (p : Option Addr) (l : List Int) : Prop := 0 < l.length → ∃ b off, p = some ⟨b, off, none⟩ ∧ ∀ j, j < l.length → w.cell? ⟨b, off + j, none⟩ = some (.int .i64 (l.getD j 0))
theorem HoldsI.below {w W : World} {p : Option Addr} {l : List Int} (h : HoldsI w p l) (hb : Below w.heap.size w W) : HoldsI W p l := fun h0 => by
  obtain ⟨b, off, e, hc⟩ := h h0
  exact ⟨b, off, e, fun j hj => t_cell hb (hc j hj)⟩
def intV (l : List Int) : List Value := l.map (Value.int .i64)
theorem intV_length (l : List Int) : (intV l).length = l.length := by simp [intV]
theorem intV_get (l : List Int) (j : Nat) (h : j < l.length) : (intV l)[j]? = some (.int .i64 (l.getD j 0)) := by
  simp [intV, List.getElem?_eq_getElem h]
theorem intV_one (l : List Int) : ∀ u ∈ intV l, u.oneCell' = true := by
  intro u hu
  simp only [intV, List.mem_map] at hu
  obtain ⟨b, _, rfl⟩ := hu
  rfl
theorem infoInt : (Try.prog.info? 3).map (fun i => (i.zero, i.size, i.bytes)) = some (some (.int .i64 0), 1, 8) := by kernel_rfl
/-- The walk's step at an append whose run is known. -/
theorem t_append_eq {P : Program} {w : World} {ops : Array Oper} {rest : List Oper} {o : Oper} {a : Act} {Q : Exit → Act → World → Prop} (hgd : o.guard = none) (s x : Operand) (t : TypeId)
    (ho : o.op = .call { callee := .builtin .append, args := #[s, x], argTypes := #[t, t] }) (v u v' : Value) (w' : World) (hs : a.eval s = v) (hx : a.eval x = u)
    (hrun : ∀ ty, (Builtin.append_ #[t, t] ty #[v, u]).run P w = .ok v' w')
    (h : wpList P ops Q rest (a.put o.dst v') w') : wpList P ops Q (o :: rest) a w := by
  refine wpList_plain hgd fun K hK => ?_
  have hr := hrun o.type
  unfold Oper.wp
  simp [execOp, ho, resolve, invoke, builtin, hs, hx, hr, Result.andThen]
  exact hK _ _ h
/-- Numbers that are being made: a row of the call's own (from block B on), or none. -/
def OwnI (w : World) (B : Nat) (q : Option Addr) (c : Nat) (l : List Int) : Prop := w.ownsRow B 3 1 (.slice q l.length c) l.length (intV l) ∧ (q = none → c = 0) ∧ l.length ≤ c
theorem OwnI.nil (w : World) (B : Nat) : OwnI w B none 0 [] := ⟨World.ownsRow_nil w B _ 1, fun _ => rfl, Nat.le_refl _⟩
theorem OwnI.holds {w : World} {B : Nat} {q : Option Addr} {c : Nat} {l : List Int} (h : OwnI w B q c l) : HoldsI w q l := fun h0 => by
  have hown := h.1
  rcases hown.2 with ⟨e, h1⟩ | ⟨g, cap, cur, e, hb, hh, hc, _, _⟩
  · omega
  · injection e with e1 e2 e3
    subst e1
    refine ⟨g, 0, rfl, fun j hj => ?_⟩
    rw [Nat.zero_add, World.ownsRow.cellAt hown j (by omega), intV_get l j hj]
theorem OwnI.far {w w' : World} {B : Nat} {q : Option Addr} {c : Nat} {l : List Int} (h : OwnI w B q c l) (hb : Below w.heap.size w w') : OwnI w' B q c l :=
  ⟨h.1.kept (row := none) ⟨hb.os, hb.tape, hb.output, hb.size, fun i hi _ => hb.block i hi⟩ (by cases hv : (Value.slice q l.length c).ownBlock <;> simp), h.2⟩
theorem appendI_one {w : World} {B : Nat} {q : Option Addr} {c : Nat} {l : List Int} {x : Int} (h : OwnI w B q c l) (hB : B ≤ w.heap.size) (hsz : (l.length + 1) * 8 ≤ 140737488355328) :
    ∃ g cap w', (∀ ty, (Builtin.append_ #[36, 36] ty #[.slice q l.length c, .slice (some ⟨w.heap.size, 0, none⟩) 1 1]).run Try.prog (w.alloc (.cells #[.int .i64 x] 3)) = .ok (.slice (some ⟨g, 0, none⟩) (l.length + 1) cap) w') ∧
      OwnI w' B (some ⟨g, 0, none⟩) cap (l ++ [x]) ∧ w.grownBy w' (Value.slice q l.length c).ownBlock := by
  obtain ⟨i0, hi, hz0, hz1, hz2⟩ := info_parts infoInt
  have hown := World.ownsRow.alloc h.1 (.cells #[.int .i64 x] 3)
  have hs : (w.alloc (.cells #[.int .i64 x] 3)).heap.size = w.heap.size + 1 := by simp
  have hcells : ∀ j u, (intV [x])[j]? = some u → (w.alloc (.cells #[.int .i64 x] 3)).cell? ((⟨w.heap.size, 0, none⟩ : Addr).add j) = some u := by
    intro j u hu
    have hj : j = 0 := by
      have := (List.getElem?_eq_some_iff.1 hu).1
      simp [intV] at this
      omega
    subst hj
    have e : u = .int .i64 x := by simpa [intV] using hu.symm
    subst e
    have ha : (⟨w.heap.size, 0, none⟩ : Addr).add 0 = ⟨w.heap.size, 0, none⟩ := rfl
    rw [ha, cell_of_row _ _ 0 #[.int .i64 x] 3 (0, 0) (heap_alloc_new w _)]
    rfl
  obtain ⟨v', w', hrun, hown', hgrow, hne⟩ := run_append_own (P := Try.prog) (w := w.alloc (.cells #[.int .i64 x] 3)) B 36 36 3 i0 (.int .i64 0) 1 8 Try.underlying36 hi hz0 hz1 hz2 rfl (by decide) _ l.length (intV l) hown ⟨w.heap.size, 0, none⟩ 1 1 (intV [x]) rfl hcells (intV_one [x]) (by unfold maxLen; omega) (by omega) (by omega)
  have hv : v' ≠ .slice none 0 0 := fun e => by
    have := (hne.1 e).2
    cases this
  have hgr : w.grownBy w' (Value.slice q l.length c).ownBlock := ⟨hgrow.os, hgrow.tape, hgrow.output, by have := hgrow.size; omega, fun k hk hr => (hgrow.block k (by omega) hr).trans (((Below.refl _ w).alloc (Nat.le_refl _) _).block k hk)⟩
  have hl : (l ++ [x]).length = l.length + 1 := by simp
  rcases hown'.2 with ⟨e, _⟩ | ⟨g, cap, cur, rfl, hb, hh, hc, h1, h2⟩
  · exact absurd e hv
  · refine ⟨g, cap, w', fun ty => ?_, ⟨?_, (fun e => (by cases e)), by rw [hl]; exact hc⟩, hgr⟩
    · rw [← hrun]; rfl
    · rw [hl]
      rw [show intV l ++ intV [x] = intV (l ++ [x]) by simp [intV]] at hown'
      exact hown'
end Go.Proofs.Ytaigbplidkakhaa
