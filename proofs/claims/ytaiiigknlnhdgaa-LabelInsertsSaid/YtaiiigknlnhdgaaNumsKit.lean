/- Proved here: lists of numbers as rows; what slices.Clone answers. -/
import Derived.Test.YtaiiigknlnhdgaaTrailKit
import Derived.Laws.AppendOwn
import Derived.Lib.SliceRun
import Derived.OwnWalk
namespace Go.Proofs.Ytaiiigknlnhdgaa
open Go.RowKit

def intV (l : List Int) : List Value := l.map (Value.int .i64)
theorem intV_length (l : List Int) : (intV l).length = l.length := by simp [intV]
theorem intV_get (l : List Int) (j : Nat) (h : j < l.length) : (intV l)[j]? = some (.int .i64 (l.getD j 0)) := by
  simp [intV, List.getElem?_eq_getElem h]
theorem intV_one (l : List Int) : ∀ u ∈ intV l, u.oneCell' = true := by
  intro u hu
  simp only [intV, List.mem_map] at hu
  obtain ⟨b, _, rfl⟩ := hu
  rfl
theorem infoInt : (Try.prog.info? 3).map (fun i => (i.zero, i.size, i.bytes)) = some (some (.int .i64 0), 1, 8) := by kernel_rfl
/-- The walk's step at an append whose run is known. -/
theorem t_append_eq {P : Program} {w : World} {ops : Array Oper} {rest : List Oper} {o : Oper} {a : Act} {Q : Exit → Act → World → Prop} (hgd : o.guard = none) (s x : Operand) (t : TypeId)
    (ho : o.op = .call { callee := .builtin .append, args := #[s, x], argTypes := #[t, t] }) (v u v' : Value) (w' : World) (hs : a.eval s = v) (hx : a.eval x = u)
    (hrun : ∀ ty, (Builtin.append_ #[t, t] ty #[v, u]).run P w = .ok v' w')
    (h : wpList P ops Q rest (a.put o.dst v') w') : wpList P ops Q (o :: rest) a w := by
  refine wpList_plain hgd fun K hK => ?_
  have hr := hrun o.type
  unfold Oper.wp
  simp [execOp, ho, resolve, invoke, builtin, hs, hx, hr, Result.andThen]
  exact hK _ _ h
/-- 'append([]int{}, src...)': a new row that holds src. -/
theorem appendI_first {w : World} {l : List Int} {a : Addr} {c : Nat} (hp : HoldsI w (some a) l) (hsz : l.length * 8 ≤ 140737488355328) :
    ∃ q cap w', (∀ ty, (Builtin.append_ #[22, 22] ty #[.slice (some ⟨w.heap.size, 0, none⟩) 0 0, .slice (some a) l.length c]).run Try.prog (w.alloc (.cells #[] 3)) = .ok (.slice (some ⟨q, 0, none⟩) l.length cap) w') ∧
      HoldsI w' (some ⟨q, 0, none⟩) l ∧ l.length ≤ cap ∧ Below w.heap.size w w' ∧ w.heap.size < w'.heap.size := by
  have hb0 : Below w.heap.size w (w.alloc (.cells #[] 3)) := (Below.refl _ _).alloc (Nat.le_refl _) _
  have hp' := hp.below hb0
  obtain ⟨i0, hi, hz0, hz1, hz2⟩ := info_parts infoInt
  have hown : (w.alloc (.cells #[] 3)).ownsRow w.heap.size 3 1 (.slice (some ⟨w.heap.size, 0, none⟩) 0 0) 0 (intV []) :=
    World.ownsRow_lit w #[] 0 (Nat.le_refl _) (by unfold maxLen; omega) rfl
  have hcells : ∀ j u, (intV l)[j]? = some u → (w.alloc (.cells #[] 3)).cell? (a.add j) = some u := by
    intro j u hu
    have hj : j < l.length := by
      have := (List.getElem?_eq_some_iff.1 hu).1
      rwa [intV_length] at this
    obtain ⟨b, off, e, hc⟩ := hp' (by omega)
    obtain rfl := Option.some.inj e
    have ha : (⟨b, off, none⟩ : Addr).add j = ⟨b, off + j, none⟩ := by unfold Addr.add; split <;> simp_all
    rw [ha, hc j hj, ← hu, intV_get l j hj]
  have hs : (w.alloc (.cells #[] 3)).heap.size = w.heap.size + 1 := by simp
  obtain ⟨v', w', hrun, hown', hgrow, hne⟩ := run_append_own (P := Try.prog) (w := w.alloc (.cells #[] 3)) w.heap.size 22 22 3 i0 (.int .i64 0) 1 8 Try.underlying22 hi hz0 hz1 hz2 rfl (by decide) _ 0 (intV []) hown a l.length c (intV l) (by rw [intV_length, Nat.mul_one]) hcells (intV_one l) (by unfold maxLen; omega) (by omega) (by omega)
  have hgrow2 : (w.alloc (.cells #[] 3)).grownBy w' (some w.heap.size) := hgrow
  have hv : v' ≠ .slice none 0 0 := fun e => by
    have := hne.1 e
    cases this.1
  rw [show intV [] ++ intV l = intV l from rfl, Nat.zero_add] at hown'
  rcases hown'.2 with ⟨rfl, _⟩ | ⟨q, cap, cur, rfl, hb, hh, hc, _, _⟩
  · exact absurd rfl hv
  · refine ⟨q, cap, w', fun ty => ?_, fun _ => ⟨q, 0, rfl, fun j hj => ?_⟩, hc, hb0.grown hgrow2 (by omega) (fun k e => by injection e with e; omega), ?_⟩
    · rw [← hrun]; rfl
    · rw [Nat.zero_add, hown'.cellAt j (by omega), intV_get l j hj]
    · have := hgrow.size; omega

set_option maxRecDepth 100000 in
set_option maxHeartbeats 1000000 in
/-- slices.Clone of a list that is not nil: new memory. -/
theorem cloneI_some (a : Addr) (l : List Int) (c : Nat) (w : World) (hp : HoldsI w (some a) l) (hsz : l.length * 8 ≤ 140737488355328) :
    Calls Try.prog 43 #[.slice (some a) l.length c] w fun e w' => ∃ q cap, e = .returned (.slice (some ⟨q, 0, none⟩) l.length cap) ∧ HoldsI w' (some ⟨q, 0, none⟩) l ∧ l.length ≤ cap ∧ Below w.heap.size w w' := by
  obtain ⟨q, cap, w', hrun, h1, h2, h3, -⟩ := appendI_first (c := c) hp hsz
  have P : Hid (∃ q' cap', Ending.returned (.slice (some ⟨q, 0, none⟩) l.length cap) = .returned (.slice (some ⟨q', 0, none⟩) l.length cap') ∧ HoldsI w' (some ⟨q', 0, none⟩) l ∧ l.length ≤ cap' ∧ Below w.heap.size w w') := Lib.hid ⟨q, cap, rfl, h1, h2, h3⟩
  have HR := Lib.hid hrun
  have hnil := fun (W : World) => Lib.run_eql_slice_nil (P := Try.prog) W 22 3 (some a) l.length c 0 0 Try.underlying22
  clear hrun h1 h2 h3 hp
  go_enter Try.func43, Try.ntmps43
  go_wp2_with (at_builtin; refine t_append_eq rfl _ _ _ rfl _ _ _ _ rfl rfl HR.out ?_)
  go_ret
  exact P.out
set_option maxRecDepth 100000 in
theorem cloneI_none (w : World) : Calls Try.prog 43 #[.slice none 0 0] w fun e w' => e = .returned (.slice none 0 0) ∧ w = w' := by
  have hnil := fun (W : World) => Lib.run_eql_slice_nil (P := Try.prog) W 22 3 none 0 0 0 0 Try.underlying22
  go_enter Try.func43, Try.ntmps43
  go_wp2_with (fail)
  go_ret
  exact ⟨rfl, rfl⟩
theorem cloneI_any (p : Option Addr) (l : List Int) (c : Nat) (w : World) (hp : HoldsI w p l) (hn : p = none → c = 0) (hsz : l.length * 8 ≤ 140737488355328) :
    Calls Try.prog 43 #[.slice p l.length c] w fun e w' => ∃ q cap, e = .returned (.slice q l.length cap) ∧ HoldsI w' q l ∧ l.length ≤ cap ∧ (q = none → cap = 0) ∧ Below w.heap.size w w' := by
  cases p with
  | none =>
    have h0 : l.length = 0 := by
      rcases Nat.eq_zero_or_pos l.length with h | h
      · exact h
      · obtain ⟨_, _, e, _⟩ := hp h; cases e
    rw [hn rfl, h0]
    refine (cloneI_none w).mono ?_
    rintro e w' ⟨rfl, rfl⟩
    exact ⟨none, 0, rfl, hp, Nat.le_refl _, fun _ => rfl, Below.refl _ _⟩
  | some a =>
    refine (cloneI_some a l c w hp hsz).mono ?_
    rintro e w' ⟨q, cap, rfl, h1, h2, h3⟩
    exact ⟨_, cap, rfl, h1, h2, fun e => (by cases e), h3⟩
end Go.Proofs.Ytaiiigknlnhdgaa
