/- Proved here: Keys and Dirty of a cache of ints: all keys, or those of dirty entries, in order, in a row of the call's own. -/
import Derived.Test.YtaigbplidkakhaaCPut
import Derived.Test.YtaigbplidkakhaaCInts
import Derived.RangeFuncBox
import Derived.Maps.AppendAt
namespace Go.Proofs.Ytaigbplidkakhaa
open Go.RowKit Go.ChangeMaps Go.Shelf
attribute [local go_sem] Oper.semAt_some

def kI (v : Value) : Int := match v with
  | .int _ n => n
  | _ => 0
/-- What is shown of some entries. -/
def shw (sel : EntV → Bool) (B : Nat → EntV) (pre : List Nat) : List Int := (pre.filter (fun x => sel (B x))).map (fun x => kI (B x).k)
theorem shw_yes {sel : EntV → Bool} {B : Nat → EntV} (pre : List Nat) {x : Nat} {z : Int} (h : sel (B x) = true) (hz : (B x).k = .int .i64 z) : shw sel B (pre ++ [x]) = shw sel B pre ++ [z] := by
  unfold shw
  simp [List.filter_append, h, hz, kI]
theorem shw_no {sel : EntV → Bool} {B : Nat → EntV} (pre : List Nat) {x : Nat} (h : sel (B x) = false) : shw sel B (pre ++ [x]) = shw sel B pre := by
  unfold shw
  simp [List.filter_append, h]
theorem shw_length (sel : EntV → Bool) (B : Nat → EntV) (pre : List Nat) : (shw sel B pre).length ≤ pre.length := by
  unfold shw
  rw [List.length_map]
  exact List.length_filter_le _ _
theorem shw_map {sel : EntV → Bool} {B : Nat → EntV} {L : List Nat} {l : List EntI} (h : L.map B = l.map EntI.enc) : shw sel B L = (l.filter (fun e => sel e.enc)).map (·.k) := by
  have h1 : shw sel B L = ((L.map B).filter sel).map (fun y => kI y.k) := by
    unfold shw
    rw [List.filter_map, List.map_map]
    rfl
  rw [h1, h, List.filter_map, List.map_map]
  rfl
def Hid' (p : Prop) : Prop := p
theorem Hid'.out {p : Prop} (h : Hid' p) : p := h
theorem OwnI.base {W : World} {B B' : Nat} {q : Option Addr} {c : Nat} {l : List Int} (h : OwnI W B q c l) (hB : B' ≤ B) : OwnI W B' q c l := by
  refine ⟨⟨h.1.1, ?_⟩, h.2⟩
  rcases h.1.2 with ⟨e, h0⟩ | ⟨g, cap, cur, e, hb, hr⟩
  · exact .inl ⟨e, h0⟩
  · exact .inr ⟨g, cap, cur, e, Nat.le_trans hB hb, hr⟩
theorem step_append_in {F : Fence} {n : Nat} {P : Program} {ops : Array Oper} {o : Oper} {a : Act} {w : World} {K : Act → World → Prop} {Q : Exit → Act → World → Prop} {E : Prop} (hgd : o.guard = none) (s x : Operand) (t : TypeId)
    (ho : o.op = .call { callee := .builtin .append, args := #[s, x], argTypes := #[t, t] }) (v u v' : Value) (w' : World) (hs : a.eval s = v) (hx : a.eval x = u)
    (hrun : ∀ ty, (Builtin.append_ #[t, t] ty #[v, u]).run P w = .ok v' w') (h : K (a.put o.dst v') w') :
    if Region.wanted o (yielded ops a.tmps) = true then Oper.wpIn F n P o a w K Q else E := by
  rw [if_pos (by simp [Region.wanted, hgd])]
  have hr := hrun o.type
  unfold Oper.wpIn
  refine ⟨by simp [Oper.about, ho, resolve, Target.leads, Sem.run_pure], ?_⟩
  rw [Oper.semAt_plain F _ _ (by rw [ho]; intro c hc'; cases hc')]
  simp [execOp, ho, resolve, invoke, builtin, hs, hx, hr, Result.andThen]
  exact h
theorem OwnI.grown {W W' : World} {B : Nat} {q : Option Addr} {c : Nat} {l : List Int} {row : Option Nat} (h : OwnI W B q c l) (hg : W.grownBy W' row) (hr : ∀ r, row = some r → ∃ o : Obj, W.heap[r]? = some o ∧ o.isCells = false) : OwnI W' B q c l := by
  refine ⟨h.1.kept hg ?_, h.2⟩
  rcases h.1.2 with ⟨e, _⟩ | ⟨g, cap, cur, e, _, hgb, _⟩
  · rw [e]; exact .inl rfl
  · refine .inr fun e' => ?_
    rw [e] at e'
    obtain ⟨o, ho, hc⟩ := hr g (by simpa [Value.ownBlock] using e'.symm)
    rw [hgb] at ho; cases ho; cases hc
theorem OwnI.cells {W : World} {B : Nat} {q : Option Addr} {c : Nat} {l : List Int} (h : OwnI W B q c l) {k : Nat} (hk : (Value.slice q l.length c).ownBlock = some k) : B ≤ k ∧ ∃ cur, W.heap[k]? = some (.cells cur 3 (0, 0)) := by
  have hl := h.1.lt k hk
  rcases h.1.2 with ⟨e, _⟩ | ⟨g, cap, cur, e, _, hgb, _⟩
  · rw [e] at hk; cases hk
  · rw [e] at hk
    obtain rfl : g = k := by simpa [Value.ownBlock] using hk
    exact ⟨hl.1, cur, hgb⟩
theorem OwnI.drewn {W : World} {B : Nat} {q : Option Addr} {c : Nat} {l : List Int} (h : OwnI W B q c l) : OwnI W.drew B q c l := h.far (Below.refl _ W).drew
theorem OwnI.setOut {W : World} {B : Nat} {q : Option Addr} {c : Nat} {l : List Int} (h : OwnI W B q c l) {b : Nat} (hb : b < B) (v : Value) : OwnI (W.setCell ⟨b, 0, none⟩ v) B q c l := by
  refine ⟨h.1.kept (grownBy_setCell' W b v) ?_, h.2⟩
  cases ho : (Value.slice q l.length c).ownBlock with
  | none => exact .inl rfl
  | some k =>
    have := (h.cells ho).1
    refine .inr fun e => ?_
    cases e
    omega
set_option maxRecDepth 100000 in
set_option maxHeartbeats 4000000 in
theorem walkKeys (w : World) {C r m nb : Nat} {places : Int} {L : List Nat} {B : Nat → EntV} {nx pv : Nat → Nat} {f : Lit → Option Nat} (h : CAt Try.prog 74 67 3 w C r m places nb L B nx pv f) (hkv : ∀ x ∈ L, ∃ k : Int, (B x).k = .int .i64 k) (hlen : L.length ≤ 65536) :
    Calls Try.prog 10 #[PV C] w fun x W' => ∃ q c, x = .returned (.slice q (shw (fun _ => true) B L).length c) ∧ OwnI W' w.heap.size q c (shw (fun _ => true) B L) ∧ Below w.heap.size w W' := by
  have hlt := h.lt
  obtain ⟨i0, hi, hz0, hz1, hz2⟩ := info_parts infoInt
  refine (callsIn_wide (n := 4)).1 ?_
  refine callsIn_of_wp_marks Try.func10 rfl trivial ?_ rfl
  simp only [Try.ntmps10, List.size_toArray, List.length_cons, List.length_nil, Nat.reduceAdd, Nat.reduceSub, Array.replicate_succ, Array.replicate_zero, List.push_toArray, List.append_toArray, List.nil_append, List.cons_append]
  gi_wp2_with (refine ⟨trivial, ?_⟩; gi_at_call 40; refine (order_makeI Fence.wide _ trivial rfl _ _).mono ?_; rintro e w' ⟨rfl, rfl⟩)
  obtain ⟨W0, hW0⟩ : ∃ W0, (w.alloc (.cells #[.slice none 0 0] 36)).alloc (.cells #[PV C] 24) = W0 := ⟨_, rfl⟩
  have hs0 : W0.heap.size = w.heap.size + 2 := by rw [← hW0]; simp
  have hb0 : Boxed W0 w.heap.size 36 (.slice none 0 0) := by
    rw [← hW0]; exact (Boxed.new w _ _).alloc _
  have hb1 : W0.heap[w.heap.size + 1]? = some (.cells #[PV C] 24 (0, 0)) := by
    rw [← hW0]; have := World.alloc_heap_new (w.alloc (.cells #[.slice none 0 0] 36)) (.cells #[PV C] 24); rwa [World.size_alloc] at this
  have hB0 : Below w.heap.size w W0 := by
    rw [← hW0]; exact ((Below.refl _ _).alloc (Nat.le_refl _) _).alloc (by simp) _
  rw [hW0]
  refine wpIn_rangeFunc_ownG rfl (by omega) (gf := 61) (lb := #[PV (w.heap.size + 1)]) rfl trivial (enters_of Try.func61 (by kernel_rfl) rfl)
    (order_stopsI Fence.wide _ trivial rfl (by omega) (w.heap.size + 1) W0.heap.size (fun k => k = w.heap.size) W0 hb1 ⟨by omega, by omega⟩ (h.below hB0) (fun k hk => ⟨by have := hlt k hk; omega, by have := hlt k hk; omega⟩)) kx_t (kx_b (Nat.le_refl _)) (Below.refl _ _) (fun _ => rfl)
    (fun pre W => (∃ q c, Boxed W w.heap.size 36 (.slice q (shw (fun _ => true) B (pre.map (·.1))).length c) ∧ OwnI W W0.heap.size q c (shw (fun _ => true) B (pre.map (·.1)))) ∧ Below w.heap.size w W ∧ W0.heap.size ≤ W.heap.size)
    (fun _ _ _ => False)
    (fun s A B' row hs hg hr => by
      obtain ⟨⟨q, c, h1, h2⟩, h3, h4⟩ := hs
      exact ⟨⟨q, c, heap_kept h1 hg (fun r e => (hr r e).2), h2.grown hg (fun r e => (hr r e).2)⟩, h3.grown hg h3.size (fun k e => by have := (hr k e).1; omega), Nat.le_trans h4 hg.size⟩)
    (fun _ _ _ _ _ hs _ _ => hs)
    ⟨⟨none, 0, hb0, OwnI.nil _ _⟩, hB0, Nat.le_refl _⟩
    (fun x => { tmps := #[PV C, undef, .slice none 0 0, .pointer (some ⟨w.heap.size, 0, none⟩), PV x.1, PV C, .func (.func 61) #[] #[PV (w.heap.size + 1)], PV x.1, undef, undef, undef, undef, undef, undef, undef, undef], defers := [] }) ?assign ?body ?done ?stop
  case assign =>
    intro l x W K hK
    gi_wp2
    exact hK
  case body =>
    rintro l pre x W ⟨⟨q, c, hv, hrow⟩, hB, hge⟩ hlp
    obtain ⟨xx, hxL⟩ := x
    obtain ⟨z, hz⟩ := hkv xx hxL
    have hS := h.below hB
    obtain ⟨c0, _, c2, _⟩ := hS.nodes.cells (a := xx) (List.mem_cons_of_mem _ hxL)
    rw [hz] at c0
    obtain ⟨dd, hdd⟩ : ∃ dd, (B xx).d = dd := ⟨_, rfl⟩
    rw [hdd] at c2
    have hc := hv.cell
    have hpl : (shw (fun _ => true) B (pre.map (·.1))).length ≤ 65536 := Nat.le_trans (shw_length _ _ _) (by rw [List.length_map]; omega)
    have hfb := hv.frozen
    have HYES := Lib.hid (fun hd => shw_yes (sel := (fun _ => true)) (B := B) (pre.map (·.1)) (x := xx) (z := z) hd hz)
    have HNO := Lib.hid (fun hd => shw_no (sel := (fun _ => true)) (B := B) (pre.map (·.1)) (x := xx) hd)
    obtain ⟨s, hs⟩ : ∃ s, shw (fun _ => true) B (pre.map (·.1)) = s := ⟨_, rfl⟩
    rw [hs] at hrow hpl hv hc HYES HNO
    obtain ⟨g, cap, w1, hrun, hown', hgr⟩ := appendI_one (x := z) hrow.drewn hge (by omega)
    have HRUN := Lib.hid hrun
    have hv1 : Boxed w1 w.heap.size 36 (.slice q s.length c) := hv.kept (W' := w1) (row := (Value.slice q s.length c).ownBlock) ⟨hgr.os, hgr.tape, hgr.output, hgr.size, hgr.block⟩ (fun e => by have := (hrow.cells e.symm).1; omega)
    have k1 := hv1.cell
    have k3 : (W.alloc (.cells #[.int .i64 z] 3)).cell? ⟨w.heap.size, 0, none⟩ = some (.slice q s.length c) := (hv.alloc _).cell
    have k2 := hv1.frozen
    have HH := Lib.hid (And.intro hv (And.intro hrow (And.intro hB (And.intro hge (And.intro hown' (And.intro hgr (And.intro hv1 (And.intro hdd hlt))))))))
    have HSTAY : ((fun _ => true)) (B xx) = false → Hid' (KeepsFrom W0.heap.size W W ∧ KX W0.heap.size (fun k => k = w.heap.size) W W ∧
        ((∃ q c, Boxed W w.heap.size 36 (.slice q (shw (fun _ => true) B ((pre ++ [(⟨xx, hxL⟩ : {x : Nat // x ∈ L})]).map (·.1))).length c) ∧ OwnI W W0.heap.size q c (shw (fun _ => true) B ((pre ++ [(⟨xx, hxL⟩ : {x : Nat // x ∈ L})]).map (·.1)))) ∧ Below w.heap.size w W ∧ W0.heap.size ≤ W.heap.size)) := fun hd => by
      have e1 : shw (fun _ => true) B ((pre ++ [(⟨xx, hxL⟩ : {x : Nat // x ∈ L})]).map (·.1)) = s := by rw [List.map_append]; exact HNO.out hd
      exact ⟨KeepsFrom.refl _ _, fun _ _ _ => rfl, ⟨q, c, by rw [e1]; exact hv, by rw [e1]; exact hrow⟩, hB, hge⟩
    have HFIN : ((fun _ => true)) (B xx) = true → Hid' (KeepsFrom W0.heap.size W (w1.setCell ⟨w.heap.size, 0, none⟩ (.slice (some ⟨g, 0, none⟩) (s.length + 1) cap)) ∧ KX W0.heap.size (fun k => k = w.heap.size) W (w1.setCell ⟨w.heap.size, 0, none⟩ (.slice (some ⟨g, 0, none⟩) (s.length + 1) cap)) ∧
        ((∃ q c, Boxed (w1.setCell ⟨w.heap.size, 0, none⟩ (.slice (some ⟨g, 0, none⟩) (s.length + 1) cap)) w.heap.size 36 (.slice q (shw (fun _ => true) B ((pre ++ [(⟨xx, hxL⟩ : {x : Nat // x ∈ L})]).map (·.1))).length c) ∧ OwnI (w1.setCell ⟨w.heap.size, 0, none⟩ (.slice (some ⟨g, 0, none⟩) (s.length + 1) cap)) W0.heap.size q c (shw (fun _ => true) B ((pre ++ [(⟨xx, hxL⟩ : {x : Nat // x ∈ L})]).map (·.1)))) ∧ Below w.heap.size w (w1.setCell ⟨w.heap.size, 0, none⟩ (.slice (some ⟨g, 0, none⟩) (s.length + 1) cap)) ∧ W0.heap.size ≤ (w1.setCell ⟨w.heap.size, 0, none⟩ (.slice (some ⟨g, 0, none⟩) (s.length + 1) cap)).heap.size)) := fun hd => by
      have e1 : shw (fun _ => true) B ((pre ++ [(⟨xx, hxL⟩ : {x : Nat // x ∈ L})]).map (·.1)) = s ++ [z] := by rw [List.map_append]; exact HYES.out hd
      have e2 : (s ++ [z]).length = s.length + 1 := by simp
      have hblk : ∀ k, k < W.heap.size → k < W0.heap.size → k ≠ w.heap.size → (w1.setCell ⟨w.heap.size, 0, none⟩ (.slice (some ⟨g, 0, none⟩) (s.length + 1) cap)).heap[k]? = W.heap[k]? := fun k hk h0 hne => by
        refine (set_oth hne).trans (hgr.block k hk (fun e => ?_))
        have := (hrow.cells e.symm).1
        omega
      refine ⟨⟨by rw [set_sz]; exact hgr.size, fun k o hk ho hno => ?_⟩, fun k hk hx => hblk k (by omega) hk hx, ⟨some ⟨g, 0, none⟩, cap, ?_, ?_⟩, ?_, ?_⟩
      · refine (set_oth (by show k ≠ w.heap.size; omega)).trans ((hgr.block k (heap_lt ho) (fun e => ?_)).trans ho)
        obtain ⟨_, cur, hcu⟩ := hrow.cells e.symm
        rw [ho] at hcu
        cases hcu
        cases hno
      · rw [e1, e2]
        exact hv1.set _
      · rw [e1]
        exact hown'.setOut (by omega) _
      · exact (hB.drew.grown hgr hB.size (fun k e => by have := (hrow.cells e).1; omega)).setCell (p := ⟨w.heap.size, 0, none⟩) (Nat.le_refl _) _
      · rw [set_sz]
        exact Nat.le_trans hge hgr.size
    clear hS hkv hW0 h hv hrow hB hge hown' hgr hv1 hrun hb0 hb1 hB0 hz hdd hlt hs
    have HD := Lib.hid (show (fun _ : EntV => true) (B xx) = true from rfl)
    gi_wp2
    refine wpIn_region_any (by kernel_rfl) ?_
    try (change wpAnyIn _ _ _ _ _ _ _ _ _ (World.drew _))
    refine wpAnyIn_ready (rs := [0, 1]) (by kernel_rfl) (by simp) ?_
    refine AllReadyIn.cons (o := _) rfl (fun K hK => ?_) ?_
    · go_simp
      refine hK _ _ ?_
      clear hK K
      try simp only [Act.put, List.getElem_toArray, List.getElem_cons_zero, List.getElem_cons_succ, List.setIfInBounds_toArray, List.set_cons_zero, List.set_cons_succ]
      refine wpAnyIn_ready (rs := [1]) (by kernel_rfl) (by simp) ?_
      refine AllReadyIn.cons (o := _) rfl (fun K hK => ?_) ?_
      · go_simp
        refine hK _ _ ?_
        clear hK K
        try simp only [Act.put, List.getElem_toArray, List.getElem_cons_zero, List.getElem_cons_succ, List.setIfInBounds_toArray, List.set_cons_zero, List.set_cons_succ]
        refine wpAnyIn_ready (rs := [2]) (by kernel_rfl) (by simp) ?_
        refine AllReadyIn.cons (o := _) rfl (fun K hK => ?_) ?_
        · go_simp
          refine hK _ _ ?_
          clear hK K
          try simp only [Act.put, List.getElem_toArray, List.getElem_cons_zero, List.getElem_cons_succ, List.setIfInBounds_toArray, List.set_cons_zero, List.set_cons_succ]
          refine wpAnyIn_ready (rs := [3]) (by kernel_rfl) (by simp) ?_
          refine AllReadyIn.cons (o := _) rfl (fun K hK => ?_) ?_
          · go_simp
            refine hK _ _ ?_
            clear hK K
            try simp only [Act.put, List.getElem_toArray, List.getElem_cons_zero, List.getElem_cons_succ, List.setIfInBounds_toArray, List.set_cons_zero, List.set_cons_succ]
            refine wpAnyIn_ready (rs := [4]) (by kernel_rfl) (by simp) ?_
            refine AllReadyIn.cons (o := _) rfl (fun K hK => ?_) ?_
            · go_simp
              refine hK _ _ ?_
              clear hK K
              try simp only [Act.put, List.getElem_toArray, List.getElem_cons_zero, List.getElem_cons_succ, List.setIfInBounds_toArray, List.set_cons_zero, List.set_cons_succ]
              refine wpAnyIn_ready (rs := [5]) (by kernel_rfl) (by simp) ?_
              refine AllReadyIn.cons (o := _) rfl (fun K hK => ?_) ?_
              · go_simp
                refine hK _ _ ?_
                clear hK K
                try simp only [Act.put, List.getElem_toArray, List.getElem_cons_zero, List.getElem_cons_succ, List.setIfInBounds_toArray, List.set_cons_zero, List.set_cons_succ]
                refine wpAnyIn_ready (rs := [6]) (by kernel_rfl) (by simp) ?_
                refine AllReadyIn.cons (o := _) rfl (fun K hK => ?_) ?_
                · refine step_append_in rfl (.tmp 8) (.tmp 13) 36 rfl _ _ _ _ (by rfl) (by rfl) HRUN.out ?_
                  refine hK _ _ ?_
                  clear hK K
                  try simp only [Act.put, List.getElem_toArray, List.getElem_cons_zero, List.getElem_cons_succ, List.setIfInBounds_toArray, List.set_cons_zero, List.set_cons_succ]
                  refine wpAnyIn_ready (rs := [7]) (by kernel_rfl) (by simp) ?_
                  refine AllReadyIn.cons (o := _) rfl (fun K hK => ?_) ?_
                  · go_simp
                    refine hK _ _ ?_
                    clear hK K
                    try simp only [Act.put, List.getElem_toArray, List.getElem_cons_zero, List.getElem_cons_succ, List.setIfInBounds_toArray, List.set_cons_zero, List.set_cons_succ]
                    refine wpAnyIn_done (by kernel_rfl) ?_ _
                    exact (HFIN HD.out).out
                  exact AllReadyIn.nil
                exact AllReadyIn.nil
              exact AllReadyIn.nil
            exact AllReadyIn.nil
          exact AllReadyIn.nil
        exact AllReadyIn.nil
      exact AllReadyIn.nil
    refine AllReadyIn.cons (o := _) rfl (fun K hK => ?_) ?_
    · go_simp
      refine hK _ _ ?_
      clear hK K
      try simp only [Act.put, List.getElem_toArray, List.getElem_cons_zero, List.getElem_cons_succ, List.setIfInBounds_toArray, List.set_cons_zero, List.set_cons_succ]
      refine wpAnyIn_ready (rs := [0, 2]) (by kernel_rfl) (by simp) ?_
      refine AllReadyIn.cons (o := _) rfl (fun K hK => ?_) ?_
      · go_simp
        refine hK _ _ ?_
        clear hK K
        try simp only [Act.put, List.getElem_toArray, List.getElem_cons_zero, List.getElem_cons_succ, List.setIfInBounds_toArray, List.set_cons_zero, List.set_cons_succ]
        refine wpAnyIn_ready (rs := [2]) (by kernel_rfl) (by simp) ?_
        refine AllReadyIn.cons (o := _) rfl (fun K hK => ?_) ?_
        · go_simp
          refine hK _ _ ?_
          clear hK K
          try simp only [Act.put, List.getElem_toArray, List.getElem_cons_zero, List.getElem_cons_succ, List.setIfInBounds_toArray, List.set_cons_zero, List.set_cons_succ]
          refine wpAnyIn_ready (rs := [3]) (by kernel_rfl) (by simp) ?_
          refine AllReadyIn.cons (o := _) rfl (fun K hK => ?_) ?_
          · go_simp
            refine hK _ _ ?_
            clear hK K
            try simp only [Act.put, List.getElem_toArray, List.getElem_cons_zero, List.getElem_cons_succ, List.setIfInBounds_toArray, List.set_cons_zero, List.set_cons_succ]
            refine wpAnyIn_ready (rs := [4]) (by kernel_rfl) (by simp) ?_
            refine AllReadyIn.cons (o := _) rfl (fun K hK => ?_) ?_
            · go_simp
              refine hK _ _ ?_
              clear hK K
              try simp only [Act.put, List.getElem_toArray, List.getElem_cons_zero, List.getElem_cons_succ, List.setIfInBounds_toArray, List.set_cons_zero, List.set_cons_succ]
              refine wpAnyIn_ready (rs := [5]) (by kernel_rfl) (by simp) ?_
              refine AllReadyIn.cons (o := _) rfl (fun K hK => ?_) ?_
              · go_simp
                refine hK _ _ ?_
                clear hK K
                try simp only [Act.put, List.getElem_toArray, List.getElem_cons_zero, List.getElem_cons_succ, List.setIfInBounds_toArray, List.set_cons_zero, List.set_cons_succ]
                refine wpAnyIn_ready (rs := [6]) (by kernel_rfl) (by simp) ?_
                refine AllReadyIn.cons (o := _) rfl (fun K hK => ?_) ?_
                · refine step_append_in rfl (.tmp 8) (.tmp 13) 36 rfl _ _ _ _ (by rfl) (by rfl) HRUN.out ?_
                  refine hK _ _ ?_
                  clear hK K
                  try simp only [Act.put, List.getElem_toArray, List.getElem_cons_zero, List.getElem_cons_succ, List.setIfInBounds_toArray, List.set_cons_zero, List.set_cons_succ]
                  refine wpAnyIn_ready (rs := [7]) (by kernel_rfl) (by simp) ?_
                  refine AllReadyIn.cons (o := _) rfl (fun K hK => ?_) ?_
                  · go_simp
                    refine hK _ _ ?_
                    clear hK K
                    try simp only [Act.put, List.getElem_toArray, List.getElem_cons_zero, List.getElem_cons_succ, List.setIfInBounds_toArray, List.set_cons_zero, List.set_cons_succ]
                    refine wpAnyIn_done (by kernel_rfl) ?_ _
                    exact (HFIN HD.out).out
                  exact AllReadyIn.nil
                exact AllReadyIn.nil
              exact AllReadyIn.nil
            exact AllReadyIn.nil
          exact AllReadyIn.nil
        exact AllReadyIn.nil
      refine AllReadyIn.cons (o := _) rfl (fun K hK => ?_) ?_
      · go_simp
        refine hK _ _ ?_
        clear hK K
        try simp only [Act.put, List.getElem_toArray, List.getElem_cons_zero, List.getElem_cons_succ, List.setIfInBounds_toArray, List.set_cons_zero, List.set_cons_succ]
        refine wpAnyIn_ready (rs := [0, 3]) (by kernel_rfl) (by simp) ?_
        refine AllReadyIn.cons (o := _) rfl (fun K hK => ?_) ?_
        · go_simp
          refine hK _ _ ?_
          clear hK K
          try simp only [Act.put, List.getElem_toArray, List.getElem_cons_zero, List.getElem_cons_succ, List.setIfInBounds_toArray, List.set_cons_zero, List.set_cons_succ]
          refine wpAnyIn_ready (rs := [3]) (by kernel_rfl) (by simp) ?_
          refine AllReadyIn.cons (o := _) rfl (fun K hK => ?_) ?_
          · go_simp
            refine hK _ _ ?_
            clear hK K
            try simp only [Act.put, List.getElem_toArray, List.getElem_cons_zero, List.getElem_cons_succ, List.setIfInBounds_toArray, List.set_cons_zero, List.set_cons_succ]
            refine wpAnyIn_ready (rs := [4]) (by kernel_rfl) (by simp) ?_
            refine AllReadyIn.cons (o := _) rfl (fun K hK => ?_) ?_
            · go_simp
              refine hK _ _ ?_
              clear hK K
              try simp only [Act.put, List.getElem_toArray, List.getElem_cons_zero, List.getElem_cons_succ, List.setIfInBounds_toArray, List.set_cons_zero, List.set_cons_succ]
              refine wpAnyIn_ready (rs := [5]) (by kernel_rfl) (by simp) ?_
              refine AllReadyIn.cons (o := _) rfl (fun K hK => ?_) ?_
              · go_simp
                refine hK _ _ ?_
                clear hK K
                try simp only [Act.put, List.getElem_toArray, List.getElem_cons_zero, List.getElem_cons_succ, List.setIfInBounds_toArray, List.set_cons_zero, List.set_cons_succ]
                refine wpAnyIn_ready (rs := [6]) (by kernel_rfl) (by simp) ?_
                refine AllReadyIn.cons (o := _) rfl (fun K hK => ?_) ?_
                · refine step_append_in rfl (.tmp 8) (.tmp 13) 36 rfl _ _ _ _ (by rfl) (by rfl) HRUN.out ?_
                  refine hK _ _ ?_
                  clear hK K
                  try simp only [Act.put, List.getElem_toArray, List.getElem_cons_zero, List.getElem_cons_succ, List.setIfInBounds_toArray, List.set_cons_zero, List.set_cons_succ]
                  refine wpAnyIn_ready (rs := [7]) (by kernel_rfl) (by simp) ?_
                  refine AllReadyIn.cons (o := _) rfl (fun K hK => ?_) ?_
                  · go_simp
                    refine hK _ _ ?_
                    clear hK K
                    try simp only [Act.put, List.getElem_toArray, List.getElem_cons_zero, List.getElem_cons_succ, List.setIfInBounds_toArray, List.set_cons_zero, List.set_cons_succ]
                    refine wpAnyIn_done (by kernel_rfl) ?_ _
                    exact (HFIN HD.out).out
                  exact AllReadyIn.nil
                exact AllReadyIn.nil
              exact AllReadyIn.nil
            exact AllReadyIn.nil
          exact AllReadyIn.nil
        refine AllReadyIn.cons (o := _) rfl (fun K hK => ?_) ?_
        · go_simp
          refine hK _ _ ?_
          clear hK K
          try simp only [Act.put, List.getElem_toArray, List.getElem_cons_zero, List.getElem_cons_succ, List.setIfInBounds_toArray, List.set_cons_zero, List.set_cons_succ]
          refine wpAnyIn_ready (rs := [0, 4]) (by kernel_rfl) (by simp) ?_
          refine AllReadyIn.cons (o := _) rfl (fun K hK => ?_) ?_
          · go_simp
            refine hK _ _ ?_
            clear hK K
            try simp only [Act.put, List.getElem_toArray, List.getElem_cons_zero, List.getElem_cons_succ, List.setIfInBounds_toArray, List.set_cons_zero, List.set_cons_succ]
            refine wpAnyIn_ready (rs := [4]) (by kernel_rfl) (by simp) ?_
            refine AllReadyIn.cons (o := _) rfl (fun K hK => ?_) ?_
            · go_simp
              refine hK _ _ ?_
              clear hK K
              try simp only [Act.put, List.getElem_toArray, List.getElem_cons_zero, List.getElem_cons_succ, List.setIfInBounds_toArray, List.set_cons_zero, List.set_cons_succ]
              refine wpAnyIn_ready (rs := [5]) (by kernel_rfl) (by simp) ?_
              refine AllReadyIn.cons (o := _) rfl (fun K hK => ?_) ?_
              · go_simp
                refine hK _ _ ?_
                clear hK K
                try simp only [Act.put, List.getElem_toArray, List.getElem_cons_zero, List.getElem_cons_succ, List.setIfInBounds_toArray, List.set_cons_zero, List.set_cons_succ]
                refine wpAnyIn_ready (rs := [6]) (by kernel_rfl) (by simp) ?_
                refine AllReadyIn.cons (o := _) rfl (fun K hK => ?_) ?_
                · refine step_append_in rfl (.tmp 8) (.tmp 13) 36 rfl _ _ _ _ (by rfl) (by rfl) HRUN.out ?_
                  refine hK _ _ ?_
                  clear hK K
                  try simp only [Act.put, List.getElem_toArray, List.getElem_cons_zero, List.getElem_cons_succ, List.setIfInBounds_toArray, List.set_cons_zero, List.set_cons_succ]
                  refine wpAnyIn_ready (rs := [7]) (by kernel_rfl) (by simp) ?_
                  refine AllReadyIn.cons (o := _) rfl (fun K hK => ?_) ?_
                  · go_simp
                    refine hK _ _ ?_
                    clear hK K
                    try simp only [Act.put, List.getElem_toArray, List.getElem_cons_zero, List.getElem_cons_succ, List.setIfInBounds_toArray, List.set_cons_zero, List.set_cons_succ]
                    refine wpAnyIn_done (by kernel_rfl) ?_ _
                    exact (HFIN HD.out).out
                  exact AllReadyIn.nil
                exact AllReadyIn.nil
              exact AllReadyIn.nil
            exact AllReadyIn.nil
          refine AllReadyIn.cons (o := _) rfl (fun K hK => ?_) ?_
          · go_simp
            refine hK _ _ ?_
            clear hK K
            try simp only [Act.put, List.getElem_toArray, List.getElem_cons_zero, List.getElem_cons_succ, List.setIfInBounds_toArray, List.set_cons_zero, List.set_cons_succ]
            refine wpAnyIn_ready (rs := [0, 5]) (by kernel_rfl) (by simp) ?_
            refine AllReadyIn.cons (o := _) rfl (fun K hK => ?_) ?_
            · go_simp
              refine hK _ _ ?_
              clear hK K
              try simp only [Act.put, List.getElem_toArray, List.getElem_cons_zero, List.getElem_cons_succ, List.setIfInBounds_toArray, List.set_cons_zero, List.set_cons_succ]
              refine wpAnyIn_ready (rs := [5]) (by kernel_rfl) (by simp) ?_
              refine AllReadyIn.cons (o := _) rfl (fun K hK => ?_) ?_
              · go_simp
                refine hK _ _ ?_
                clear hK K
                try simp only [Act.put, List.getElem_toArray, List.getElem_cons_zero, List.getElem_cons_succ, List.setIfInBounds_toArray, List.set_cons_zero, List.set_cons_succ]
                refine wpAnyIn_ready (rs := [6]) (by kernel_rfl) (by simp) ?_
                refine AllReadyIn.cons (o := _) rfl (fun K hK => ?_) ?_
                · refine step_append_in rfl (.tmp 8) (.tmp 13) 36 rfl _ _ _ _ (by rfl) (by rfl) HRUN.out ?_
                  refine hK _ _ ?_
                  clear hK K
                  try simp only [Act.put, List.getElem_toArray, List.getElem_cons_zero, List.getElem_cons_succ, List.setIfInBounds_toArray, List.set_cons_zero, List.set_cons_succ]
                  refine wpAnyIn_ready (rs := [7]) (by kernel_rfl) (by simp) ?_
                  refine AllReadyIn.cons (o := _) rfl (fun K hK => ?_) ?_
                  · go_simp
                    refine hK _ _ ?_
                    clear hK K
                    try simp only [Act.put, List.getElem_toArray, List.getElem_cons_zero, List.getElem_cons_succ, List.setIfInBounds_toArray, List.set_cons_zero, List.set_cons_succ]
                    refine wpAnyIn_done (by kernel_rfl) ?_ _
                    exact (HFIN HD.out).out
                  exact AllReadyIn.nil
                exact AllReadyIn.nil
              exact AllReadyIn.nil
            refine AllReadyIn.cons (o := _) rfl (fun K hK => ?_) ?_
            · go_simp
              refine hK _ _ ?_
              clear hK K
              try simp only [Act.put, List.getElem_toArray, List.getElem_cons_zero, List.getElem_cons_succ, List.setIfInBounds_toArray, List.set_cons_zero, List.set_cons_succ]
              refine wpAnyIn_ready (rs := [0]) (by kernel_rfl) (by simp) ?_
              refine AllReadyIn.cons (o := _) rfl (fun K hK => ?_) ?_
              · go_simp
                refine hK _ _ ?_
                clear hK K
                try simp only [Act.put, List.getElem_toArray, List.getElem_cons_zero, List.getElem_cons_succ, List.setIfInBounds_toArray, List.set_cons_zero, List.set_cons_succ]
                refine wpAnyIn_ready (rs := [6]) (by kernel_rfl) (by simp) ?_
                refine AllReadyIn.cons (o := _) rfl (fun K hK => ?_) ?_
                · refine step_append_in rfl (.tmp 8) (.tmp 13) 36 rfl _ _ _ _ (by rfl) (by rfl) HRUN.out ?_
                  refine hK _ _ ?_
                  clear hK K
                  try simp only [Act.put, List.getElem_toArray, List.getElem_cons_zero, List.getElem_cons_succ, List.setIfInBounds_toArray, List.set_cons_zero, List.set_cons_succ]
                  refine wpAnyIn_ready (rs := [7]) (by kernel_rfl) (by simp) ?_
                  refine AllReadyIn.cons (o := _) rfl (fun K hK => ?_) ?_
                  · go_simp
                    refine hK _ _ ?_
                    clear hK K
                    try simp only [Act.put, List.getElem_toArray, List.getElem_cons_zero, List.getElem_cons_succ, List.setIfInBounds_toArray, List.set_cons_zero, List.set_cons_succ]
                    refine wpAnyIn_done (by kernel_rfl) ?_ _
                    exact (HFIN HD.out).out
                  exact AllReadyIn.nil
                exact AllReadyIn.nil
              exact AllReadyIn.nil
            exact AllReadyIn.nil
          exact AllReadyIn.nil
        exact AllReadyIn.nil
      exact AllReadyIn.nil
    exact AllReadyIn.nil
  case done =>
    rintro D xs W hD hx ⟨⟨q, c, hv, hrow⟩, hB, hge⟩ hK
    rw [hx] at hv hrow
    have hc := hv.cell
    have HH := Lib.hid (And.intro hrow (And.intro hB hge))
    clear hv hrow hB hge hW0 hb0 hb1 hB0 h hkv hlt hx
    gi_wp2
    obtain ⟨hrow, hB, hge⟩ := HH.out
    refine ⟨by simp, .inl ⟨_, _, rfl, run_takeDeferred hK, ?_⟩⟩
    refine ⟨_, results_tmp rfl _ _ _, q, c, rfl, ?_, hB.grown (grownBy_putObj' _ D (.deferred none)) hB.size (fun k e => by cases e; omega)⟩
    exact OwnI.base (hrow.grown (grownBy_putObj' _ D (.deferred none)) (fun r e => by cases e; exact ⟨_, hK, rfl⟩)) (by omega)
  case stop =>
    rintro D c pre W hD hp h hK
    exact h.elim
set_option maxRecDepth 100000 in
set_option maxHeartbeats 4000000 in
theorem walkDirty (w : World) {C r m nb : Nat} {places : Int} {L : List Nat} {B : Nat → EntV} {nx pv : Nat → Nat} {f : Lit → Option Nat} (h : CAt Try.prog 74 67 3 w C r m places nb L B nx pv f) (hkv : ∀ x ∈ L, ∃ k : Int, (B x).k = .int .i64 k) (hlen : L.length ≤ 65536) :
    Calls Try.prog 12 #[PV C] w fun x W' => ∃ q c, x = .returned (.slice q (shw EntV.d B L).length c) ∧ OwnI W' w.heap.size q c (shw EntV.d B L) ∧ Below w.heap.size w W' := by
  have hlt := h.lt
  obtain ⟨i0, hi, hz0, hz1, hz2⟩ := info_parts infoInt
  refine (callsIn_wide (n := 4)).1 ?_
  refine callsIn_of_wp_marks Try.func12 rfl trivial ?_ rfl
  simp only [Try.ntmps12, List.size_toArray, List.length_cons, List.length_nil, Nat.reduceAdd, Nat.reduceSub, Array.replicate_succ, Array.replicate_zero, List.push_toArray, List.append_toArray, List.nil_append, List.cons_append]
  gi_wp2_with (refine ⟨trivial, ?_⟩; gi_at_call 40; refine (order_makeI Fence.wide _ trivial rfl _ _).mono ?_; rintro e w' ⟨rfl, rfl⟩)
  obtain ⟨W0, hW0⟩ : ∃ W0, (w.alloc (.cells #[.slice none 0 0] 36)).alloc (.cells #[PV C] 24) = W0 := ⟨_, rfl⟩
  have hs0 : W0.heap.size = w.heap.size + 2 := by rw [← hW0]; simp
  have hb0 : Boxed W0 w.heap.size 36 (.slice none 0 0) := by
    rw [← hW0]; exact (Boxed.new w _ _).alloc _
  have hb1 : W0.heap[w.heap.size + 1]? = some (.cells #[PV C] 24 (0, 0)) := by
    rw [← hW0]; have := World.alloc_heap_new (w.alloc (.cells #[.slice none 0 0] 36)) (.cells #[PV C] 24); rwa [World.size_alloc] at this
  have hB0 : Below w.heap.size w W0 := by
    rw [← hW0]; exact ((Below.refl _ _).alloc (Nat.le_refl _) _).alloc (by simp) _
  rw [hW0]
  refine wpIn_rangeFunc_ownG rfl (by omega) (gf := 61) (lb := #[PV (w.heap.size + 1)]) rfl trivial (enters_of Try.func61 (by kernel_rfl) rfl)
    (order_stopsI Fence.wide _ trivial rfl (by omega) (w.heap.size + 1) W0.heap.size (fun k => k = w.heap.size) W0 hb1 ⟨by omega, by omega⟩ (h.below hB0) (fun k hk => ⟨by have := hlt k hk; omega, by have := hlt k hk; omega⟩)) kx_t (kx_b (Nat.le_refl _)) (Below.refl _ _) (fun _ => rfl)
    (fun pre W => (∃ q c, Boxed W w.heap.size 36 (.slice q (shw EntV.d B (pre.map (·.1))).length c) ∧ OwnI W W0.heap.size q c (shw EntV.d B (pre.map (·.1)))) ∧ Below w.heap.size w W ∧ W0.heap.size ≤ W.heap.size)
    (fun _ _ _ => False)
    (fun s A B' row hs hg hr => by
      obtain ⟨⟨q, c, h1, h2⟩, h3, h4⟩ := hs
      exact ⟨⟨q, c, heap_kept h1 hg (fun r e => (hr r e).2), h2.grown hg (fun r e => (hr r e).2)⟩, h3.grown hg h3.size (fun k e => by have := (hr k e).1; omega), Nat.le_trans h4 hg.size⟩)
    (fun _ _ _ _ _ hs _ _ => hs)
    ⟨⟨none, 0, hb0, OwnI.nil _ _⟩, hB0, Nat.le_refl _⟩
    (fun x => { tmps := #[PV C, undef, .slice none 0 0, .pointer (some ⟨w.heap.size, 0, none⟩), PV x.1, PV C, .func (.func 61) #[] #[PV (w.heap.size + 1)], PV x.1, undef, undef, undef, undef, undef, undef, undef, undef, undef, undef, undef, undef], defers := [] }) ?assign ?body ?done ?stop
  case assign =>
    intro l x W K hK
    gi_wp2
    exact hK
  case body =>
    rintro l pre x W ⟨⟨q, c, hv, hrow⟩, hB, hge⟩ hlp
    obtain ⟨xx, hxL⟩ := x
    obtain ⟨z, hz⟩ := hkv xx hxL
    have hS := h.below hB
    obtain ⟨c0, _, c2, _⟩ := hS.nodes.cells (a := xx) (List.mem_cons_of_mem _ hxL)
    rw [hz] at c0
    obtain ⟨dd, hdd⟩ : ∃ dd, (B xx).d = dd := ⟨_, rfl⟩
    rw [hdd] at c2
    have hc := hv.cell
    have hpl : (shw EntV.d B (pre.map (·.1))).length ≤ 65536 := Nat.le_trans (shw_length _ _ _) (by rw [List.length_map]; omega)
    have hfb := hv.frozen
    have HYES := Lib.hid (fun hd => shw_yes (sel := EntV.d) (B := B) (pre.map (·.1)) (x := xx) (z := z) hd hz)
    have HNO := Lib.hid (fun hd => shw_no (sel := EntV.d) (B := B) (pre.map (·.1)) (x := xx) hd)
    obtain ⟨s, hs⟩ : ∃ s, shw EntV.d B (pre.map (·.1)) = s := ⟨_, rfl⟩
    rw [hs] at hrow hpl hv hc HYES HNO
    obtain ⟨g, cap, w1, hrun, hown', hgr⟩ := appendI_one (x := z) hrow.drewn hge (by omega)
    have HRUN := Lib.hid hrun
    have hv1 : Boxed w1 w.heap.size 36 (.slice q s.length c) := hv.kept (W' := w1) (row := (Value.slice q s.length c).ownBlock) ⟨hgr.os, hgr.tape, hgr.output, hgr.size, hgr.block⟩ (fun e => by have := (hrow.cells e.symm).1; omega)
    have k1 := hv1.cell
    have k3 : (W.alloc (.cells #[.int .i64 z] 3)).cell? ⟨w.heap.size, 0, none⟩ = some (.slice q s.length c) := (hv.alloc _).cell
    have k2 := hv1.frozen
    have HH := Lib.hid (And.intro hv (And.intro hrow (And.intro hB (And.intro hge (And.intro hown' (And.intro hgr (And.intro hv1 (And.intro hdd hlt))))))))
    have HSTAY : (EntV.d) (B xx) = false → Hid' (KeepsFrom W0.heap.size W W ∧ KX W0.heap.size (fun k => k = w.heap.size) W W ∧
        ((∃ q c, Boxed W w.heap.size 36 (.slice q (shw EntV.d B ((pre ++ [(⟨xx, hxL⟩ : {x : Nat // x ∈ L})]).map (·.1))).length c) ∧ OwnI W W0.heap.size q c (shw EntV.d B ((pre ++ [(⟨xx, hxL⟩ : {x : Nat // x ∈ L})]).map (·.1)))) ∧ Below w.heap.size w W ∧ W0.heap.size ≤ W.heap.size)) := fun hd => by
      have e1 : shw EntV.d B ((pre ++ [(⟨xx, hxL⟩ : {x : Nat // x ∈ L})]).map (·.1)) = s := by rw [List.map_append]; exact HNO.out hd
      exact ⟨KeepsFrom.refl _ _, fun _ _ _ => rfl, ⟨q, c, by rw [e1]; exact hv, by rw [e1]; exact hrow⟩, hB, hge⟩
    have HFIN : (EntV.d) (B xx) = true → Hid' (KeepsFrom W0.heap.size W (w1.setCell ⟨w.heap.size, 0, none⟩ (.slice (some ⟨g, 0, none⟩) (s.length + 1) cap)) ∧ KX W0.heap.size (fun k => k = w.heap.size) W (w1.setCell ⟨w.heap.size, 0, none⟩ (.slice (some ⟨g, 0, none⟩) (s.length + 1) cap)) ∧
        ((∃ q c, Boxed (w1.setCell ⟨w.heap.size, 0, none⟩ (.slice (some ⟨g, 0, none⟩) (s.length + 1) cap)) w.heap.size 36 (.slice q (shw EntV.d B ((pre ++ [(⟨xx, hxL⟩ : {x : Nat // x ∈ L})]).map (·.1))).length c) ∧ OwnI (w1.setCell ⟨w.heap.size, 0, none⟩ (.slice (some ⟨g, 0, none⟩) (s.length + 1) cap)) W0.heap.size q c (shw EntV.d B ((pre ++ [(⟨xx, hxL⟩ : {x : Nat // x ∈ L})]).map (·.1)))) ∧ Below w.heap.size w (w1.setCell ⟨w.heap.size, 0, none⟩ (.slice (some ⟨g, 0, none⟩) (s.length + 1) cap)) ∧ W0.heap.size ≤ (w1.setCell ⟨w.heap.size, 0, none⟩ (.slice (some ⟨g, 0, none⟩) (s.length + 1) cap)).heap.size)) := fun hd => by
      have e1 : shw EntV.d B ((pre ++ [(⟨xx, hxL⟩ : {x : Nat // x ∈ L})]).map (·.1)) = s ++ [z] := by rw [List.map_append]; exact HYES.out hd
      have e2 : (s ++ [z]).length = s.length + 1 := by simp
      have hblk : ∀ k, k < W.heap.size → k < W0.heap.size → k ≠ w.heap.size → (w1.setCell ⟨w.heap.size, 0, none⟩ (.slice (some ⟨g, 0, none⟩) (s.length + 1) cap)).heap[k]? = W.heap[k]? := fun k hk h0 hne => by
        refine (set_oth hne).trans (hgr.block k hk (fun e => ?_))
        have := (hrow.cells e.symm).1
        omega
      refine ⟨⟨by rw [set_sz]; exact hgr.size, fun k o hk ho hno => ?_⟩, fun k hk hx => hblk k (by omega) hk hx, ⟨some ⟨g, 0, none⟩, cap, ?_, ?_⟩, ?_, ?_⟩
      · refine (set_oth (by show k ≠ w.heap.size; omega)).trans ((hgr.block k (heap_lt ho) (fun e => ?_)).trans ho)
        obtain ⟨_, cur, hcu⟩ := hrow.cells e.symm
        rw [ho] at hcu
        cases hcu
        cases hno
      · rw [e1, e2]
        exact hv1.set _
      · rw [e1]
        exact hown'.setOut (by omega) _
      · exact (hB.drew.grown hgr hB.size (fun k e => by have := (hrow.cells e).1; omega)).setCell (p := ⟨w.heap.size, 0, none⟩) (Nat.le_refl _) _
      · rw [set_sz]
        exact Nat.le_trans hge hgr.size
    clear hS hkv hW0 h hv hrow hB hge hown' hgr hv1 hrun hb0 hb1 hB0 hz hdd hlt hs
    cases dd with
    | false =>
      have HD := Lib.hid HH.out.2.2.2.2.2.2.2.1
      gi_wp2
      have h9 := (HSTAY HD.out).out
      simpa [hs0, ownPostG] using h9
    | true =>
      have HD := Lib.hid HH.out.2.2.2.2.2.2.2.1
      gi_wp2
      refine wpIn_region_any (by kernel_rfl) ?_
      try (change wpAnyIn _ _ _ _ _ _ _ _ _ (World.drew _))
      refine wpAnyIn_ready (rs := [0, 1]) (by kernel_rfl) (by simp) ?_
      refine AllReadyIn.cons (o := _) rfl (fun K hK => ?_) ?_
      · go_simp
        refine hK _ _ ?_
        clear hK K
        try simp only [Act.put, List.getElem_toArray, List.getElem_cons_zero, List.getElem_cons_succ, List.setIfInBounds_toArray, List.set_cons_zero, List.set_cons_succ]
        refine wpAnyIn_ready (rs := [1]) (by kernel_rfl) (by simp) ?_
        refine AllReadyIn.cons (o := _) rfl (fun K hK => ?_) ?_
        · go_simp
          refine hK _ _ ?_
          clear hK K
          try simp only [Act.put, List.getElem_toArray, List.getElem_cons_zero, List.getElem_cons_succ, List.setIfInBounds_toArray, List.set_cons_zero, List.set_cons_succ]
          refine wpAnyIn_ready (rs := [2]) (by kernel_rfl) (by simp) ?_
          refine AllReadyIn.cons (o := _) rfl (fun K hK => ?_) ?_
          · go_simp
            refine hK _ _ ?_
            clear hK K
            try simp only [Act.put, List.getElem_toArray, List.getElem_cons_zero, List.getElem_cons_succ, List.setIfInBounds_toArray, List.set_cons_zero, List.set_cons_succ]
            refine wpAnyIn_ready (rs := [3]) (by kernel_rfl) (by simp) ?_
            refine AllReadyIn.cons (o := _) rfl (fun K hK => ?_) ?_
            · go_simp
              refine hK _ _ ?_
              clear hK K
              try simp only [Act.put, List.getElem_toArray, List.getElem_cons_zero, List.getElem_cons_succ, List.setIfInBounds_toArray, List.set_cons_zero, List.set_cons_succ]
              refine wpAnyIn_ready (rs := [4]) (by kernel_rfl) (by simp) ?_
              refine AllReadyIn.cons (o := _) rfl (fun K hK => ?_) ?_
              · go_simp
                refine hK _ _ ?_
                clear hK K
                try simp only [Act.put, List.getElem_toArray, List.getElem_cons_zero, List.getElem_cons_succ, List.setIfInBounds_toArray, List.set_cons_zero, List.set_cons_succ]
                refine wpAnyIn_ready (rs := [5]) (by kernel_rfl) (by simp) ?_
                refine AllReadyIn.cons (o := _) rfl (fun K hK => ?_) ?_
                · go_simp
                  refine hK _ _ ?_
                  clear hK K
                  try simp only [Act.put, List.getElem_toArray, List.getElem_cons_zero, List.getElem_cons_succ, List.setIfInBounds_toArray, List.set_cons_zero, List.set_cons_succ]
                  refine wpAnyIn_ready (rs := [6]) (by kernel_rfl) (by simp) ?_
                  refine AllReadyIn.cons (o := _) rfl (fun K hK => ?_) ?_
                  · refine step_append_in rfl (.tmp 12) (.tmp 17) 36 rfl _ _ _ _ (by rfl) (by rfl) HRUN.out ?_
                    refine hK _ _ ?_
                    clear hK K
                    try simp only [Act.put, List.getElem_toArray, List.getElem_cons_zero, List.getElem_cons_succ, List.setIfInBounds_toArray, List.set_cons_zero, List.set_cons_succ]
                    refine wpAnyIn_ready (rs := [7]) (by kernel_rfl) (by simp) ?_
                    refine AllReadyIn.cons (o := _) rfl (fun K hK => ?_) ?_
                    · go_simp
                      refine hK _ _ ?_
                      clear hK K
                      try simp only [Act.put, List.getElem_toArray, List.getElem_cons_zero, List.getElem_cons_succ, List.setIfInBounds_toArray, List.set_cons_zero, List.set_cons_succ]
                      refine wpAnyIn_done (by kernel_rfl) ?_ _
                      exact (HFIN HD.out).out
                    exact AllReadyIn.nil
                  exact AllReadyIn.nil
                exact AllReadyIn.nil
              exact AllReadyIn.nil
            exact AllReadyIn.nil
          exact AllReadyIn.nil
        exact AllReadyIn.nil
      refine AllReadyIn.cons (o := _) rfl (fun K hK => ?_) ?_
      · go_simp
        refine hK _ _ ?_
        clear hK K
        try simp only [Act.put, List.getElem_toArray, List.getElem_cons_zero, List.getElem_cons_succ, List.setIfInBounds_toArray, List.set_cons_zero, List.set_cons_succ]
        refine wpAnyIn_ready (rs := [0, 2]) (by kernel_rfl) (by simp) ?_
        refine AllReadyIn.cons (o := _) rfl (fun K hK => ?_) ?_
        · go_simp
          refine hK _ _ ?_
          clear hK K
          try simp only [Act.put, List.getElem_toArray, List.getElem_cons_zero, List.getElem_cons_succ, List.setIfInBounds_toArray, List.set_cons_zero, List.set_cons_succ]
          refine wpAnyIn_ready (rs := [2]) (by kernel_rfl) (by simp) ?_
          refine AllReadyIn.cons (o := _) rfl (fun K hK => ?_) ?_
          · go_simp
            refine hK _ _ ?_
            clear hK K
            try simp only [Act.put, List.getElem_toArray, List.getElem_cons_zero, List.getElem_cons_succ, List.setIfInBounds_toArray, List.set_cons_zero, List.set_cons_succ]
            refine wpAnyIn_ready (rs := [3]) (by kernel_rfl) (by simp) ?_
            refine AllReadyIn.cons (o := _) rfl (fun K hK => ?_) ?_
            · go_simp
              refine hK _ _ ?_
              clear hK K
              try simp only [Act.put, List.getElem_toArray, List.getElem_cons_zero, List.getElem_cons_succ, List.setIfInBounds_toArray, List.set_cons_zero, List.set_cons_succ]
              refine wpAnyIn_ready (rs := [4]) (by kernel_rfl) (by simp) ?_
              refine AllReadyIn.cons (o := _) rfl (fun K hK => ?_) ?_
              · go_simp
                refine hK _ _ ?_
                clear hK K
                try simp only [Act.put, List.getElem_toArray, List.getElem_cons_zero, List.getElem_cons_succ, List.setIfInBounds_toArray, List.set_cons_zero, List.set_cons_succ]
                refine wpAnyIn_ready (rs := [5]) (by kernel_rfl) (by simp) ?_
                refine AllReadyIn.cons (o := _) rfl (fun K hK => ?_) ?_
                · go_simp
                  refine hK _ _ ?_
                  clear hK K
                  try simp only [Act.put, List.getElem_toArray, List.getElem_cons_zero, List.getElem_cons_succ, List.setIfInBounds_toArray, List.set_cons_zero, List.set_cons_succ]
                  refine wpAnyIn_ready (rs := [6]) (by kernel_rfl) (by simp) ?_
                  refine AllReadyIn.cons (o := _) rfl (fun K hK => ?_) ?_
                  · refine step_append_in rfl (.tmp 12) (.tmp 17) 36 rfl _ _ _ _ (by rfl) (by rfl) HRUN.out ?_
                    refine hK _ _ ?_
                    clear hK K
                    try simp only [Act.put, List.getElem_toArray, List.getElem_cons_zero, List.getElem_cons_succ, List.setIfInBounds_toArray, List.set_cons_zero, List.set_cons_succ]
                    refine wpAnyIn_ready (rs := [7]) (by kernel_rfl) (by simp) ?_
                    refine AllReadyIn.cons (o := _) rfl (fun K hK => ?_) ?_
                    · go_simp
                      refine hK _ _ ?_
                      clear hK K
                      try simp only [Act.put, List.getElem_toArray, List.getElem_cons_zero, List.getElem_cons_succ, List.setIfInBounds_toArray, List.set_cons_zero, List.set_cons_succ]
                      refine wpAnyIn_done (by kernel_rfl) ?_ _
                      exact (HFIN HD.out).out
                    exact AllReadyIn.nil
                  exact AllReadyIn.nil
                exact AllReadyIn.nil
              exact AllReadyIn.nil
            exact AllReadyIn.nil
          exact AllReadyIn.nil
        refine AllReadyIn.cons (o := _) rfl (fun K hK => ?_) ?_
        · go_simp
          refine hK _ _ ?_
          clear hK K
          try simp only [Act.put, List.getElem_toArray, List.getElem_cons_zero, List.getElem_cons_succ, List.setIfInBounds_toArray, List.set_cons_zero, List.set_cons_succ]
          refine wpAnyIn_ready (rs := [0, 3]) (by kernel_rfl) (by simp) ?_
          refine AllReadyIn.cons (o := _) rfl (fun K hK => ?_) ?_
          · go_simp
            refine hK _ _ ?_
            clear hK K
            try simp only [Act.put, List.getElem_toArray, List.getElem_cons_zero, List.getElem_cons_succ, List.setIfInBounds_toArray, List.set_cons_zero, List.set_cons_succ]
            refine wpAnyIn_ready (rs := [3]) (by kernel_rfl) (by simp) ?_
            refine AllReadyIn.cons (o := _) rfl (fun K hK => ?_) ?_
            · go_simp
              refine hK _ _ ?_
              clear hK K
              try simp only [Act.put, List.getElem_toArray, List.getElem_cons_zero, List.getElem_cons_succ, List.setIfInBounds_toArray, List.set_cons_zero, List.set_cons_succ]
              refine wpAnyIn_ready (rs := [4]) (by kernel_rfl) (by simp) ?_
              refine AllReadyIn.cons (o := _) rfl (fun K hK => ?_) ?_
              · go_simp
                refine hK _ _ ?_
                clear hK K
                try simp only [Act.put, List.getElem_toArray, List.getElem_cons_zero, List.getElem_cons_succ, List.setIfInBounds_toArray, List.set_cons_zero, List.set_cons_succ]
                refine wpAnyIn_ready (rs := [5]) (by kernel_rfl) (by simp) ?_
                refine AllReadyIn.cons (o := _) rfl (fun K hK => ?_) ?_
                · go_simp
                  refine hK _ _ ?_
                  clear hK K
                  try simp only [Act.put, List.getElem_toArray, List.getElem_cons_zero, List.getElem_cons_succ, List.setIfInBounds_toArray, List.set_cons_zero, List.set_cons_succ]
                  refine wpAnyIn_ready (rs := [6]) (by kernel_rfl) (by simp) ?_
                  refine AllReadyIn.cons (o := _) rfl (fun K hK => ?_) ?_
                  · refine step_append_in rfl (.tmp 12) (.tmp 17) 36 rfl _ _ _ _ (by rfl) (by rfl) HRUN.out ?_
                    refine hK _ _ ?_
                    clear hK K
                    try simp only [Act.put, List.getElem_toArray, List.getElem_cons_zero, List.getElem_cons_succ, List.setIfInBounds_toArray, List.set_cons_zero, List.set_cons_succ]
                    refine wpAnyIn_ready (rs := [7]) (by kernel_rfl) (by simp) ?_
                    refine AllReadyIn.cons (o := _) rfl (fun K hK => ?_) ?_
                    · go_simp
                      refine hK _ _ ?_
                      clear hK K
                      try simp only [Act.put, List.getElem_toArray, List.getElem_cons_zero, List.getElem_cons_succ, List.setIfInBounds_toArray, List.set_cons_zero, List.set_cons_succ]
                      refine wpAnyIn_done (by kernel_rfl) ?_ _
                      exact (HFIN HD.out).out
                    exact AllReadyIn.nil
                  exact AllReadyIn.nil
                exact AllReadyIn.nil
              exact AllReadyIn.nil
            exact AllReadyIn.nil
          refine AllReadyIn.cons (o := _) rfl (fun K hK => ?_) ?_
          · go_simp
            refine hK _ _ ?_
            clear hK K
            try simp only [Act.put, List.getElem_toArray, List.getElem_cons_zero, List.getElem_cons_succ, List.setIfInBounds_toArray, List.set_cons_zero, List.set_cons_succ]
            refine wpAnyIn_ready (rs := [0, 4]) (by kernel_rfl) (by simp) ?_
            refine AllReadyIn.cons (o := _) rfl (fun K hK => ?_) ?_
            · go_simp
              refine hK _ _ ?_
              clear hK K
              try simp only [Act.put, List.getElem_toArray, List.getElem_cons_zero, List.getElem_cons_succ, List.setIfInBounds_toArray, List.set_cons_zero, List.set_cons_succ]
              refine wpAnyIn_ready (rs := [4]) (by kernel_rfl) (by simp) ?_
              refine AllReadyIn.cons (o := _) rfl (fun K hK => ?_) ?_
              · go_simp
                refine hK _ _ ?_
                clear hK K
                try simp only [Act.put, List.getElem_toArray, List.getElem_cons_zero, List.getElem_cons_succ, List.setIfInBounds_toArray, List.set_cons_zero, List.set_cons_succ]
                refine wpAnyIn_ready (rs := [5]) (by kernel_rfl) (by simp) ?_
                refine AllReadyIn.cons (o := _) rfl (fun K hK => ?_) ?_
                · go_simp
                  refine hK _ _ ?_
                  clear hK K
                  try simp only [Act.put, List.getElem_toArray, List.getElem_cons_zero, List.getElem_cons_succ, List.setIfInBounds_toArray, List.set_cons_zero, List.set_cons_succ]
                  refine wpAnyIn_ready (rs := [6]) (by kernel_rfl) (by simp) ?_
                  refine AllReadyIn.cons (o := _) rfl (fun K hK => ?_) ?_
                  · refine step_append_in rfl (.tmp 12) (.tmp 17) 36 rfl _ _ _ _ (by rfl) (by rfl) HRUN.out ?_
                    refine hK _ _ ?_
                    clear hK K
                    try simp only [Act.put, List.getElem_toArray, List.getElem_cons_zero, List.getElem_cons_succ, List.setIfInBounds_toArray, List.set_cons_zero, List.set_cons_succ]
                    refine wpAnyIn_ready (rs := [7]) (by kernel_rfl) (by simp) ?_
                    refine AllReadyIn.cons (o := _) rfl (fun K hK => ?_) ?_
                    · go_simp
                      refine hK _ _ ?_
                      clear hK K
                      try simp only [Act.put, List.getElem_toArray, List.getElem_cons_zero, List.getElem_cons_succ, List.setIfInBounds_toArray, List.set_cons_zero, List.set_cons_succ]
                      refine wpAnyIn_done (by kernel_rfl) ?_ _
                      exact (HFIN HD.out).out
                    exact AllReadyIn.nil
                  exact AllReadyIn.nil
                exact AllReadyIn.nil
              exact AllReadyIn.nil
            refine AllReadyIn.cons (o := _) rfl (fun K hK => ?_) ?_
            · go_simp
              refine hK _ _ ?_
              clear hK K
              try simp only [Act.put, List.getElem_toArray, List.getElem_cons_zero, List.getElem_cons_succ, List.setIfInBounds_toArray, List.set_cons_zero, List.set_cons_succ]
              refine wpAnyIn_ready (rs := [0, 5]) (by kernel_rfl) (by simp) ?_
              refine AllReadyIn.cons (o := _) rfl (fun K hK => ?_) ?_
              · go_simp
                refine hK _ _ ?_
                clear hK K
                try simp only [Act.put, List.getElem_toArray, List.getElem_cons_zero, List.getElem_cons_succ, List.setIfInBounds_toArray, List.set_cons_zero, List.set_cons_succ]
                refine wpAnyIn_ready (rs := [5]) (by kernel_rfl) (by simp) ?_
                refine AllReadyIn.cons (o := _) rfl (fun K hK => ?_) ?_
                · go_simp
                  refine hK _ _ ?_
                  clear hK K
                  try simp only [Act.put, List.getElem_toArray, List.getElem_cons_zero, List.getElem_cons_succ, List.setIfInBounds_toArray, List.set_cons_zero, List.set_cons_succ]
                  refine wpAnyIn_ready (rs := [6]) (by kernel_rfl) (by simp) ?_
                  refine AllReadyIn.cons (o := _) rfl (fun K hK => ?_) ?_
                  · refine step_append_in rfl (.tmp 12) (.tmp 17) 36 rfl _ _ _ _ (by rfl) (by rfl) HRUN.out ?_
                    refine hK _ _ ?_
                    clear hK K
                    try simp only [Act.put, List.getElem_toArray, List.getElem_cons_zero, List.getElem_cons_succ, List.setIfInBounds_toArray, List.set_cons_zero, List.set_cons_succ]
                    refine wpAnyIn_ready (rs := [7]) (by kernel_rfl) (by simp) ?_
                    refine AllReadyIn.cons (o := _) rfl (fun K hK => ?_) ?_
                    · go_simp
                      refine hK _ _ ?_
                      clear hK K
                      try simp only [Act.put, List.getElem_toArray, List.getElem_cons_zero, List.getElem_cons_succ, List.setIfInBounds_toArray, List.set_cons_zero, List.set_cons_succ]
                      refine wpAnyIn_done (by kernel_rfl) ?_ _
                      exact (HFIN HD.out).out
                    exact AllReadyIn.nil
                  exact AllReadyIn.nil
                exact AllReadyIn.nil
              refine AllReadyIn.cons (o := _) rfl (fun K hK => ?_) ?_
              · go_simp
                refine hK _ _ ?_
                clear hK K
                try simp only [Act.put, List.getElem_toArray, List.getElem_cons_zero, List.getElem_cons_succ, List.setIfInBounds_toArray, List.set_cons_zero, List.set_cons_succ]
                refine wpAnyIn_ready (rs := [0]) (by kernel_rfl) (by simp) ?_
                refine AllReadyIn.cons (o := _) rfl (fun K hK => ?_) ?_
                · go_simp
                  refine hK _ _ ?_
                  clear hK K
                  try simp only [Act.put, List.getElem_toArray, List.getElem_cons_zero, List.getElem_cons_succ, List.setIfInBounds_toArray, List.set_cons_zero, List.set_cons_succ]
                  refine wpAnyIn_ready (rs := [6]) (by kernel_rfl) (by simp) ?_
                  refine AllReadyIn.cons (o := _) rfl (fun K hK => ?_) ?_
                  · refine step_append_in rfl (.tmp 12) (.tmp 17) 36 rfl _ _ _ _ (by rfl) (by rfl) HRUN.out ?_
                    refine hK _ _ ?_
                    clear hK K
                    try simp only [Act.put, List.getElem_toArray, List.getElem_cons_zero, List.getElem_cons_succ, List.setIfInBounds_toArray, List.set_cons_zero, List.set_cons_succ]
                    refine wpAnyIn_ready (rs := [7]) (by kernel_rfl) (by simp) ?_
                    refine AllReadyIn.cons (o := _) rfl (fun K hK => ?_) ?_
                    · go_simp
                      refine hK _ _ ?_
                      clear hK K
                      try simp only [Act.put, List.getElem_toArray, List.getElem_cons_zero, List.getElem_cons_succ, List.setIfInBounds_toArray, List.set_cons_zero, List.set_cons_succ]
                      refine wpAnyIn_done (by kernel_rfl) ?_ _
                      exact (HFIN HD.out).out
                    exact AllReadyIn.nil
                  exact AllReadyIn.nil
                exact AllReadyIn.nil
              exact AllReadyIn.nil
            exact AllReadyIn.nil
          exact AllReadyIn.nil
        exact AllReadyIn.nil
      exact AllReadyIn.nil
  case done =>
    rintro D xs W hD hx ⟨⟨q, c, hv, hrow⟩, hB, hge⟩ hK
    rw [hx] at hv hrow
    have hc := hv.cell
    have HH := Lib.hid (And.intro hrow (And.intro hB hge))
    clear hv hrow hB hge hW0 hb0 hb1 hB0 h hkv hlt hx
    gi_wp2
    obtain ⟨hrow, hB, hge⟩ := HH.out
    refine ⟨by simp, .inl ⟨_, _, rfl, run_takeDeferred hK, ?_⟩⟩
    refine ⟨_, results_tmp rfl _ _ _, q, c, rfl, ?_, hB.grown (grownBy_putObj' _ D (.deferred none)) hB.size (fun k e => by cases e; omega)⟩
    exact OwnI.base (hrow.grown (grownBy_putObj' _ D (.deferred none)) (fun r e => by cases e; exact ⟨_, hK, rfl⟩)) (by omega)
  case stop =>
    rintro D c pre W hD hp h hK
    exact h.elim
theorem allKeys {M : Nat → Prop} {W : World} {C nb : Nat} {places : Int} {l : List EntI} (h : CSI M W C places nb l) :
    Calls Try.prog 10 #[PV C] W fun x W' => ∃ q c, x = .returned (.slice q (l.map (·.k)).length c) ∧ OwnI W' W.heap.size q c (l.map (·.k)) ∧ Below W.heap.size W W' := by
  obtain ⟨r, m, L, B, nx, pv, f, h1, h2, h3, h4⟩ := h
  have hlen : L.length = l.length := by simpa using congrArg List.length h2
  have e : shw (fun _ => true) B L = (l.map (·.k)) := (shw_map h2).trans (by rw [List.filter_eq_self.2 (fun _ _ => rfl)])
  rw [← e]
  exact walkKeys W h1 (keys_ofI h2) (by rw [hlen]; exact h4)
theorem allDirty {M : Nat → Prop} {W : World} {C nb : Nat} {places : Int} {l : List EntI} (h : CSI M W C places nb l) :
    Calls Try.prog 12 #[PV C] W fun x W' => ∃ q c, x = .returned (.slice q ((l.filter (·.d)).map (·.k)).length c) ∧ OwnI W' W.heap.size q c ((l.filter (·.d)).map (·.k)) ∧ Below W.heap.size W W' := by
  obtain ⟨r, m, L, B, nx, pv, f, h1, h2, h3, h4⟩ := h
  have hlen : L.length = l.length := by simpa using congrArg List.length h2
  have e : shw EntV.d B L = ((l.filter (·.d)).map (·.k)) := (shw_map h2).trans (rfl)
  rw [← e]
  exact walkDirty W h1 (keys_ofI h2) (by rw [hlen]; exact h4)
end Go.Proofs.Ytaigbplidkakhaa
