/- Proved here: copyName answers the name, slices.Clone the attributes in a row of their own. -/
import Derived.Test.YtfmlmdfehaajbaaGreatDoorTwinPlain
import Derived.Test.YtfmlmdfehaajbaaGreatDoorSpaces
import Derived.Deep.RegionWith
import Derived.Deep.RegionHeld3
import Derived.OwnWalk
import Derived.WalkSpells
namespace Go.Proofs.YtfmlmdfehaajbaaGreatDoor
open Go.RowKit Go.Shelf

/-- How copyName stands. -/
structure NmT (w : World) (u l : ByteArray) (X : World) : Prop where
  below : Below w.heap.size w X
  box : X.heap[w.heap.size]? = some (.cells #[.string u, .string l] 23 (0, 0))
  res : X.heap[w.heap.size + 1]? = some (.cells #[.string ⟨#[]⟩, .string ⟨#[]⟩] 23 (0, 0))
theorem NmT.far {w : World} {u l : ByteArray} {X Y : World} (h : NmT w u l X) (k : Below X.heap.size X Y) : NmT w u l Y :=
  ⟨h.below.trans (k.mono h.below.size), (k.block _ (it_lt h.box)).trans h.box, (k.block _ (it_lt h.res)).trans h.res⟩
theorem NmT.begin (w : World) (u l : ByteArray) : NmT w u l ((w.alloc (.cells #[.string u, .string l] 23)).alloc (.cells #[.string ⟨#[]⟩, .string ⟨#[]⟩] 23)) := by
  refine ⟨((Below.refl _ _).alloc (Nat.le_refl _) _).alloc (by simp) _, (Below.heap_alloc _ _ _ (by simp)).trans (heap_alloc_new w _), ?_⟩
  have := heap_alloc_new (w.alloc (.cells #[.string u, .string l] 23)) (.cells #[.string ⟨#[]⟩, .string ⟨#[]⟩] 23)
  rwa [World.size_alloc] at this
set_option maxRecDepth 100000 in
set_option maxHeartbeats 4000000 in
theorem copyName_any (u l : ByteArray) (w : World) (hu : u.size ≤ 140737488351232) (hl : l.size ≤ 140737488351232) :
    Calls Tryz.prog 53 #[.agg #[.string u, .string l]] w fun e w' => e = .returned (.agg #[.string u, .string l]) ∧ Below w.heap.size w w' := by
  have CU := Lib.hid (fun W => clone5 u W (by omega))
  have CL := Lib.hid (fun W => clone5 l W (by omega))
  clear hu hl
  go_enter Tryz.func53, Tryz.ntmps53
  go_upto_region 1 with (fail)
  have HS := Lib.hid (fun (W : World) (hr : NmT w u l W) => (show W.cell? ⟨w.heap.size, 0, none⟩ = some (.string u) ∧ W.cell? ⟨w.heap.size, 1, none⟩ = some (.string l) from ⟨cell_of_row _ _ 0 _ _ _ hr.box, cell_of_row _ _ 1 _ _ _ hr.box⟩))
  have I0 := (NmT.begin w u l).far (Below.refl _ _).drew
  refine wp_region_held_drew (S := fun W => W.cell? ⟨w.heap.size, 0, none⟩ = some (.string u) ∧ W.cell? ⟨w.heap.size, 1, none⟩ = some (.string l)) (by kernel_rfl) (HS.out _ I0) (fun hHeld => ?_)
  refine wpAnyH_take (i := 0) (oi := _) (v := ?v0) rfl (by kernel_rfl) (by kernel_rfl) (by kernel_rfl) (fun _ _ _ h => h) (Or.inl ⟨by rfl, ?hy0⟩) (by assumption) ?rest0
  case hy0 =>
    intro W hSw
    clear hSw
    go_simp
    try (with_reducible rfl)
  try simp only [Act.put, List.getElem_toArray, List.getElem_cons_zero, List.getElem_cons_succ, List.setIfInBounds_toArray, List.set_cons_zero, List.set_cons_succ]
  refine wpAnyH_take (i := 1) (oi := _) (v := ?v1) rfl (by kernel_rfl) (by kernel_rfl) (by kernel_rfl) (fun _ _ _ h => h) (Or.inl ⟨by rfl, ?hy1⟩) (by assumption) ?rest1
  case hy1 =>
    intro W hSw
    obtain ⟨e0, e1⟩ := hSw
    go_simp
    try (with_reducible rfl)
  try simp only [Act.put, List.getElem_toArray, List.getElem_cons_zero, List.getElem_cons_succ, List.setIfInBounds_toArray, List.set_cons_zero, List.set_cons_succ]
  refine wpAnyH_take (i := 3) (oi := _) (v := ?v3) rfl (by kernel_rfl) (by kernel_rfl) (by kernel_rfl) (fun _ _ _ h => h) (Or.inl ⟨by rfl, ?hy3⟩) (by assumption) ?rest3
  case hy3 =>
    intro W hSw
    clear hSw
    go_simp
    try (with_reducible rfl)
  try simp only [Act.put, List.getElem_toArray, List.getElem_cons_zero, List.getElem_cons_succ, List.setIfInBounds_toArray, List.set_cons_zero, List.set_cons_succ]
  refine wpAnyH_take (i := 4) (oi := _) (v := ?v4) rfl (by kernel_rfl) (by kernel_rfl) (by kernel_rfl) (fun _ _ _ h => h) (Or.inl ⟨by rfl, ?hy4⟩) (by assumption) ?rest4
  case hy4 =>
    intro W hSw
    obtain ⟨e0, e1⟩ := hSw
    go_simp
    try (with_reducible rfl)
  try simp only [Act.put, List.getElem_toArray, List.getElem_cons_zero, List.getElem_cons_succ, List.setIfInBounds_toArray, List.set_cons_zero, List.set_cons_succ]
  refine wpAnyH_ready (rs := [2]) (by kernel_rfl) (by simp) ?_
  refine AllReadyH.cons (o := _) rfl (fun K hK => ?_) AllReadyH.nil
  go_simp
  refine (CU.out _).mono ?_
  rintro e w1 ⟨rfl, hb2⟩
  have I1 := I0.far hb2
  refine hK.out _ _ (HS.out _ I1) (fun hHeld2 => ?_)
  clear hK K hHeld hb2
  have hHeld := hHeld2
  clear hHeld2
  try simp only [Act.put, List.getElem_toArray, List.getElem_cons_zero, List.getElem_cons_succ, List.setIfInBounds_toArray, List.set_cons_zero, List.set_cons_succ]
  refine wpAnyH_ready (rs := [5]) (by kernel_rfl) (by simp) ?_
  refine AllReadyH.cons (o := _) rfl (fun K hK => ?_) AllReadyH.nil
  go_simp
  refine (CL.out _).mono ?_
  rintro e w2 ⟨rfl, hb5⟩
  have I2 := I1.far hb5
  refine hK.out _ _ (HS.out _ I2) (fun hHeld5 => ?_)
  clear hK K hHeld hb5
  have hHeld := hHeld5
  clear hHeld5
  try simp only [Act.put, List.getElem_toArray, List.getElem_cons_zero, List.getElem_cons_succ, List.setIfInBounds_toArray, List.set_cons_zero, List.set_cons_succ]
  refine wpAnyH_take (i := 6) (oi := _) (v := ?v6) rfl (by kernel_rfl) (by kernel_rfl) (by kernel_rfl) (fun _ _ _ h => h) (Or.inl ⟨by rfl, ?hy6⟩) (by assumption) ?rest6
  case hy6 =>
    intro W hSw
    clear hSw
    go_simp
    try (with_reducible rfl)
  try simp only [Act.put, List.getElem_toArray, List.getElem_cons_zero, List.getElem_cons_succ, List.setIfInBounds_toArray, List.set_cons_zero, List.set_cons_succ]
  refine wpAnyH_ready (rs := [7]) (by kernel_rfl) (by simp) ?_
  refine AllReadyH.cons (o := _) rfl (fun K hK => ?_) AllReadyH.nil
  have ff0 : w2.frozen? ⟨w.heap.size + 1, 0, none⟩ = false := frozen_of_row _ _ _ _ _ I2.res
  have ff1 : w2.frozen? ⟨w.heap.size + 1, 1, none⟩ = false := frozen_of_row _ _ _ _ _ I2.res
  have cc0 : w2.cell? ⟨w.heap.size + 1, 0, none⟩ = some (.string ⟨#[]⟩) := cell_of_row _ _ 0 _ _ _ I2.res
  have cc1 : w2.cell? ⟨w.heap.size + 1, 1, none⟩ = some (.string ⟨#[]⟩) := cell_of_row _ _ 1 _ _ _ I2.res
  go_simp
  obtain ⟨Y, hY⟩ : ∃ Y, (w2.setCell ⟨w.heap.size + 1, 0, none⟩ (.string u)).setCell ⟨w.heap.size + 1, 1, none⟩ (.string l) = Y := ⟨_, rfl⟩
  rw [hY]
  have rY : Y.heap[w.heap.size + 1]? = some (.cells #[.string u, .string l] 23 (0, 0)) := by rw [← hY]; exact set_row6 (k := 1) _ (set_row6 (k := 0) _ I2.res)
  have bY : Below w.heap.size w Y := by rw [← hY]; exact (I2.below.setCell (p := ⟨w.heap.size + 1, 0, none⟩) (Nat.le_succ _) _).setCell (p := ⟨w.heap.size + 1, 1, none⟩) (Nat.le_succ _) _
  have xY : Y.heap[w.heap.size]? = some (.cells #[.string u, .string l] 23 (0, 0)) := by rw [← hY]; exact ((set_oth6 (by show w.heap.size ≠ w.heap.size + 1; omega)).trans (set_oth6 (by show w.heap.size ≠ w.heap.size + 1; omega))).trans I2.box
  refine hK.out _ _ ⟨cell_of_row _ _ 0 _ _ _ xY, cell_of_row _ _ 1 _ _ _ xY⟩ (fun _ => ?_)
  clear hK K hY ff0 ff1 cc0 cc1
  try simp only [Act.put, List.getElem_toArray, List.getElem_cons_zero, List.getElem_cons_succ, List.setIfInBounds_toArray, List.set_cons_zero, List.set_cons_succ]
  refine wpAnyH_done (by kernel_rfl) ?_ _
  go_wp2_with (fail)
  have t0 := cell_of_row _ _ 0 _ _ _ rY
  have t1 := cell_of_row _ _ 1 _ _ _ rY
  simp at t0 t1
  refine bodyPost_ret (v := .agg #[.string u, .string l]) ?_ rfl ⟨rfl, bY⟩
  simp [results, Tryz.f53, go_sem, t0, t1]

theorem wpList_append_eq6 {P : Program} {w : World} {ops : Array Oper} {rest : List Oper} {o : Oper} {a : Act} {Q : Exit → Act → World → Prop} (hgd : o.guard = none) (s x : Operand) (t : TypeId)
    (ho : o.op = .call { callee := .builtin .append, args := #[s, x], argTypes := #[t, t] }) (v u v' : Value) (w' : World) (hs : a.eval s = v) (hx : a.eval x = u)
    (hrun : ∀ ty, (Builtin.append_ #[t, t] ty #[v, u]).run P w = .ok v' w')
    (h : wpList P ops Q rest (a.put o.dst v') w') : wpList P ops Q (o :: rest) a w := by
  refine wpList_plain hgd fun K hK => ?_
  have hr := hrun o.type
  unfold Oper.wp
  simp [execOp, ho, resolve, invoke, builtin, hs, hx, hr, Result.andThen]
  exact hK _ _ h
theorem nil_eql (w : World) : (binOp .eql 24 (.slice none 0 0) (.slice none 0 0)).run Tryz.prog w = .ok (.bool true) w := by
  simp only [binOp]
  simp [Op.equal, Op.maxDepth, Lib.run_equalIn_slice_nil w 9999 24 67 none 0 0 0 0 Tryz.underlying24]
theorem some_eql (a : Addr) (n c : Nat) (w : World) : (binOp .eql 24 (.slice (some a) n c) (.slice none 0 0)).run Tryz.prog w = .ok (.bool false) w := by
  simp only [binOp]
  simp [Op.equal, Op.maxDepth, Lib.run_equalIn_slice_nil w 9999 24 67 (some a) n c 0 0 Tryz.underlying24]
/-- A copy of attributes: nil where there is nil, else in a block that wasn't there. -/
def CloneOut (w : World) (la : List AttrM) (pa : Option Addr) (e : Ending) (W : World) : Prop := ∃ qa da, e = .returned (.slice qa la.length da) ∧ AttrsAt W qa la ∧ la.length ≤ da ∧ (qa = none → da = 0) ∧ (qa = none ↔ pa = none) ∧ (∀ a, qa = some a → ∃ g, a = ⟨g, 0, none⟩ ∧ w.heap.size ≤ g ∧ ∃ cur, W.heap[g]? = some (.cells cur 67 (0, 0))) ∧ Below w.heap.size w W
set_option maxRecDepth 100000 in
set_option maxHeartbeats 4000000 in
theorem cloneAttrs_any (w : World) (la : List AttrM) (pa : Option Addr) (ca : Nat) (hl : AttrsAt w pa la) (hn : pa = none → ca = 0) (hca : la.length ≤ ca) (hsz : la.length ≤ 8388608) :
    Calls Tryz.prog 54 #[.slice pa la.length ca] w (CloneOut w la pa) := by
  cases pa with
  | none =>
    have hc0 := hn rfl
    have hl0 : la = [] := List.eq_nil_of_length_eq_zero (by omega)
    subst hc0 hl0
    clear hl hn hca hsz
    have qN := nil_eql
    go_enter Tryz.func54, Tryz.ntmps54
    go_wp2_with (fail)
    go_ret
    exact ⟨none, 0, rfl, fun h => absurd h (by decide), Nat.le_refl _, fun _ => rfl, Iff.rfl, fun a e => (by cases e), Below.refl _ _⟩
  | some a =>
    have hA := heap_alloc_new w (.cells #[] 67)
    have b0 : Below w.heap.size w (w.alloc (.cells #[] 67)) := (Below.refl _ _).alloc (Nat.le_refl _) _
    obtain ⟨g, c', W', hrun, hat, hc, hoth, o1, o2, o3, hsz', hg, lg, cur, hcur⟩ := copyA (B := w.heap.size) hA (Nat.le_refl _) (hl.stay (Stay.below b0)) hn hca hsz
    have hb : Below w.heap.size w W' := ⟨o1.trans b0.os, o2.trans b0.tape, o3.trans b0.output, Nat.le_trans b0.size hsz', fun k hk => (hoth k (by have := b0.size; omega) (by omega)).trans (b0.block k hk)⟩
    have hsa : (w.alloc (.cells #[] 67)).heap.size = w.heap.size + 1 := by simp
    have hgw : w.heap.size ≤ g := by rcases hg with e | e <;> omega
    have HO := Lib.hid (And.intro hat (And.intro hc (And.intro hb (And.intro hgw hcur))))
    obtain ⟨n, hnn⟩ : ∃ n, la.length = n := ⟨_, rfl⟩
    rw [hnn] at hrun hca
    have HN := Lib.hid hnn
    have HRUN := Lib.hid hrun
    rw [hnn]
    clear hrun hl hn hsz hA b0 hat hc hoth o1 o2 o3 hsz' hg lg hb hgw hnn hcur
    have qN := some_eql a n ca
    go_enter Tryz.func54, Tryz.ntmps54
    go_wp2_with (at_builtin; refine wpList_append_eq6 rfl (.tmp 5) (.tmp 6) 24 rfl _ _ _ _ rfl rfl HRUN.out ?_)
    go_ret
    exact ⟨some ⟨g, 0, none⟩, c', by rw [HN.out]; rfl, HO.out.1, HO.out.2.1, fun e => (by cases e), ⟨fun e => (by cases e), fun e => (by cases e)⟩, fun a e => by injection e with e; exact ⟨g, e.symm, HO.out.2.2.2.1, cur, HO.out.2.2.2.2⟩, HO.out.2.2.1⟩
end Go.Proofs.YtfmlmdfehaajbaaGreatDoor
