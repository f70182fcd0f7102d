/- Proved here: the document's cache: an entry that is used stands last. -/
import Derived.Test.YtaigbplidkakhaaCRef
namespace Go.Proofs.Ytaigbplidkakhaa
open Go.RowKit Go.ChangeMaps

theorem step_append {P : Program} {ops : Array Oper} {o : Oper} {a : Act} {w : World} {K : Act → World → Prop} {Q : Exit → Act → World → Prop} {E : Prop} (hgd : o.guard = none) (s x : Operand) (t : TypeId)
    (ho : o.op = .call { callee := .builtin .append, args := #[s, x], argTypes := #[t, t] }) (v u v' : Value) (w' : World) (hs : a.eval s = v) (hx : a.eval x = u)
    (hrun : ∀ ty, (Builtin.append_ #[t, t] ty #[v, u]).run P w = .ok v' w') (h : K (a.put o.dst v') w') :
    if Region.wanted o (yielded ops a.tmps) = true then Oper.wp P o a w K Q else E := by
  rw [if_pos (by simp [Region.wanted, hgd])]
  have hr := hrun o.type
  unfold Oper.wp
  simp [execOp, ho, resolve, invoke, builtin, hs, hx, hr, Result.andThen]
  exact h
theorem four {W : World} {x : Nat} {a b c d : Value} {t : TypeId} (h : W.heap[x]? = some (.cells #[a, b, c, d] t (0, 0))) : W.cell? ⟨x, 0, none⟩ = some a ∧ W.cell? ⟨x, 1, none⟩ = some b ∧ W.cell? ⟨x, 2, none⟩ = some c ∧ W.cell? ⟨x, 3, none⟩ = some d := by
  refine ⟨?_, ?_, ?_, ?_⟩ <;> (rw [cell_of_row _ _ _ _ _ _ h]; rfl)
set_option maxRecDepth 100000 in
set_option maxHeartbeats 2000000 in
theorem refUsed {F : Nat → Prop} {W : World} {R : Nat} {places : Int} {p q : List EntI} {e : EntI} (h : RC F W R places (p ++ e :: q)) (hF : ∀ k, F k → k < W.heap.size) (hl : (p ++ e :: q).length ≤ 65536) :
    Calls Try.prog 59 #[PV R, .int .i64 (p.length : Int)] W fun x W' => x = .returned (.tuple #[]) ∧ ∃ F', RC F' W' R places (p ++ q ++ [e]) ∧ Step F F' W W' := by
  have HC := Lib.hid h
  obtain ⟨s, c, h1, h2, h3, h4, h5⟩ := h
  have hpl : p.length < (p ++ e :: q).length := by simp
  obtain ⟨g, rfl, hc⟩ := RC.cells (F := F) (R := R) (places := places) h2 hpl
  obtain ⟨d0, d1, d2, d3⟩ := hc e (by simp)
  have r0 : W.cell? ⟨R, 1, none⟩ = some (.slice (some ⟨g, 0, none⟩) (p ++ e :: q).length c) := by rw [cell_of_row _ _ _ _ _ _ h1]; rfl
  obtain ⟨N, hN⟩ : ∃ N, (p ++ e :: q).length = N := ⟨_, rfl⟩
  rw [hN] at r0 hpl
  have hpI : (p.length : Int) < (N : Int) := by omega
  have hRF : F R := h3
  have HF := Lib.hid hF
  have HL := Lib.hid hl
  clear hc h1 h2 h3 h4 h5 hF hl hN
  go_enter Try.func59, Try.ntmps59
  go_wp2_with (fail)
  obtain ⟨W1, hW1⟩ : ∃ W1, W.alloc (.cells #[.int .i64 e.k, .int .i64 e.v, .bool e.d, .int .i64 (e.p : Int)] 76) = W1 := ⟨_, rfl⟩
  try rw [hW1]
  have hb1 : Below W.heap.size W W1 := by rw [← hW1]; exact (Below.refl _ _).alloc (Nat.le_refl _) _
  have hx1 : W1.heap[W.heap.size]? = some (.cells #[.int .i64 e.k, .int .i64 e.v, .bool e.d, .int .i64 (e.p : Int)] 76 (0, 0)) := by rw [← hW1]; exact heap_alloc_new _ _
  have hs1 : W1.heap.size = W.heap.size + 1 := by rw [← hW1]; simp
  refine (refOut (HC.out.tch (Tch.of_below (F := fun _ => False) hb1) (fun _ _ => id)) HL.out).mono ?_
  rintro x W2 ⟨rfl, F2, hc2, hs2⟩
  obtain ⟨s2, c2, k1, k2, k3, k4, k5⟩ := hc2
  obtain ⟨n2, hn2⟩ : ∃ n, (p ++ q).length = n := ⟨_, rfl⟩
  rw [hn2] at k1 k2 k4 k5
  have hRl : R < W2.heap.size := heap_lt k1
  have hx2 : W2.heap[W.heap.size]? = some (.cells #[.int .i64 e.k, .int .i64 e.v, .bool e.d, .int .i64 (e.p : Int)] 76 (0, 0)) := (hs2.1.block _ (by omega) (fun hf => by have := HF.out _ hf; omega)).trans hx1
  obtain ⟨W3, hW3⟩ : ∃ W3, W2.drew.alloc (.cells #[.int .i64 e.k, .int .i64 e.v, .bool e.d, .int .i64 (e.p : Int)] 76) = W3 := ⟨_, rfl⟩
  have hs3 : W3.heap.size = W2.heap.size + 1 := by rw [← hW3]; simp
  have hb3 : Below W2.heap.size W2 W3 := by rw [← hW3]; exact (Below.refl _ _).drew.alloc (by simp) _
  have hx3 := (hb3.block _ (heap_lt hx2)).trans hx2
  have hn3 : W3.heap[W2.heap.size]? = some (.cells #[.int .i64 e.k, .int .i64 e.v, .bool e.d, .int .i64 (e.p : Int)] 76 (0, 0)) := by rw [← hW3]; exact heap_alloc_new _ _
  obtain ⟨s4, c4, W4, hr4, ho4, hg4, hk4, hc4⟩ := appendE (owns_block k2 (fun k hk => hb3.block k (k2.lt k hk).2)) ⟨W2.heap.size, 0, none⟩ 1 1 (ent4 e) rfl (fun j u hu => by
    rw [addE, Nat.zero_add, cell_of_row _ _ _ _ _ _ hn3]
    simpa [ent4] using hu) (entVs_one [e]) (by have := HL.out; simp at this hn2; omega)
  have hR3 := (hb3.block R hRl).trans k1
  have hR4 := (hg4.block R (by omega) (fun e => (k4 R e.symm).2 rfl)).trans hR3
  have hx4 := (hg4.block W.heap.size (heap_lt hx3) (fun e' => by
    have h9 := (k4 _ e'.symm).1
    rcases hs2.2 _ h9 with h | h
    · have := HF.out _ h; omega
    · omega)).trans hx3
  have HFIN : Hid' (∃ F', RC F' (W4.setCell ⟨R, 1, none⟩ (.slice s4 (n2 + 1) c4)) R places (p ++ q ++ [e]) ∧ Step F F' W (W4.setCell ⟨R, 1, none⟩ (.slice s4 (n2 + 1) c4))) := by
    have hnR : ∀ k, (Value.slice s4 (n2 + 1) c4).ownBlock = some k → (F2 k ∨ k = W3.heap.size) ∧ k ≠ R := fun k hk => by
      rcases hk4 with e1 | e1
      · rw [hk] at e1
        exact ⟨.inl (k4 k e1.symm).1, (k4 k e1.symm).2⟩
      · rw [hk] at e1
        injection e1 with e1
        exact ⟨.inr e1, by omega⟩
    refine ⟨fun k => F2 k ∨ (Value.slice s4 (n2 + 1) c4).ownBlock = some k, ⟨s4, c4, ?_, ?_, .inl k3, fun k hk => ?_, ?_⟩, ?_, fun k hk => ?_⟩
    · rw [row_put _ hR4, List.length_append, hn2]; rfl
    · rw [List.length_append, hn2, entVs_append]
      refine ho4.kept (grownBy_setCell'' W4 R 1 _) ?_
      cases ho : (Value.slice s4 (n2 + 1) c4).ownBlock with
      | none => exact .inl rfl
      | some k =>
        have := (hnR k ho).2
        refine .inr fun e => ?_
        cases e
        exact this rfl
    · rw [List.length_append, hn2] at hk
      exact ⟨.inr hk, (hnR k hk).2⟩
    · rw [List.length_append, hn2]; exact hc4
    · have t1 : Tch F W W2 := (Tch.of_below hb1).trans hs2.1
      have t2 : Tch F2 W2 (W4.setCell ⟨R, 1, none⟩ (.slice s4 (n2 + 1) c4)) := by
        have t3 : Tch F2 W3 W4 := ⟨hg4.os, hg4.tape, hg4.output, hg4.size, fun k hk hn => hg4.block k hk (fun e => hn (k4 k e.symm).1)⟩
        exact Tch.set (p := ⟨R, 1, none⟩) ((Tch.of_below hb3).trans t3) k3 _
      exact t1.join t2 (fun j hj hf => (hs2.2 j hf).elim id (fun h => by omega))
    · have hle : W2.heap.size ≤ (W4.setCell ⟨R, 1, none⟩ (.slice s4 (n2 + 1) c4)).heap.size := by rw [set_sz]; have := hg4.size; omega
      have hF2 : ∀ k, F2 k → F k ∨ (W.heap.size ≤ k ∧ k < (W4.setCell ⟨R, 1, none⟩ (.slice s4 (n2 + 1) c4)).heap.size) := fun k hk => (hs2.2 k hk).elim .inl (fun h => .inr ⟨by omega, by omega⟩)
      rcases hk with hk | hk
      · exact hF2 k hk
      · rcases (hnR k hk).1 with h | h
        · exact hF2 k h
        · have h8 := (ho4.lt k hk).2
          have h9 := hs2.1.size
          exact .inr ⟨by omega, by rw [set_sz]; exact h8⟩
  have HRUN := Lib.hid hr4
  have q0 : W2.cell? ⟨R, 1, none⟩ = some (.slice s2 n2 c2) := by rw [cell_of_row _ _ _ _ _ _ k1]; rfl
  have q1 : (W2.alloc (.cells #[.int .i64 e.k, .int .i64 e.v, .bool e.d, .int .i64 (e.p : Int)] 76)).cell? ⟨R, 1, none⟩ = some (.slice s2 n2 c2) := bcell ((Below.refl _ W2).alloc (Nat.le_refl _) _) q0
  have q4 : W4.cell? ⟨R, 1, none⟩ = some (.slice s2 n2 c2) := by rw [cell_of_row _ _ _ _ _ _ hR4]; rfl
  have qf : W4.frozen? ⟨R, 1, none⟩ = false := frozen_of_row _ _ _ _ _ hR4
  have S2 := four hx2
  have S3 := Lib.hid (four hx3)
  have S4 := Lib.hid (four hx4)
  have S5 := Lib.hid (four ((set_oth (p := ⟨R, 1, none⟩) (v := .slice s4 (n2 + 1) c4) (show W.heap.size ≠ R from fun e => by have := HF.out R; subst e; exact absurd hRF (by intro h; have := HF.out _ h; omega))).trans hx4))
  have HW3 := Lib.hid hW3
  clear hs2 k1 k2 k3 k4 k5 hb1 hx1 hb3 hx2 hx3 hn3 ho4 hg4 hk4 hc4 hR3 hR4 hx4 hr4 hs3 hs1 hW3 hRF hRl hW1
  go_upto_region 2 with (fail)
  refine wp_region_held_drew (S := fun W' => W'.cell? ⟨W.heap.size, 0, none⟩ = some (.int .i64 e.k) ∧ W'.cell? ⟨W.heap.size, 1, none⟩ = some (.int .i64 e.v) ∧ W'.cell? ⟨W.heap.size, 2, none⟩ = some (.bool e.d) ∧ W'.cell? ⟨W.heap.size, 3, none⟩ = some (.int .i64 (e.p : Int))) (by kernel_rfl) S2 (fun hHeld => ?_)
  clear S2
  refine wpAnyH_take (i := 0) (oi := _) (v := ?v0) rfl (by kernel_rfl) (by kernel_rfl) (by kernel_rfl) (fun _ _ _ h => h) (Or.inl ⟨by rfl, ?hy0⟩) (by assumption) ?rest0
  case hy0 =>
    intro W hSw
    clear hSw
    go_simp
    try (with_reducible rfl)
  try simp only [Act.put, List.getElem_toArray, List.getElem_cons_zero, List.getElem_cons_succ, List.setIfInBounds_toArray, List.set_cons_zero, List.set_cons_succ]
  refine wpAnyH_take (i := 1) (oi := _) (v := ?v1) rfl (by kernel_rfl) (by kernel_rfl) (by kernel_rfl) (fun _ _ _ h => h) (Or.inl ⟨by rfl, ?hy1⟩) (by assumption) ?rest1
  case hy1 =>
    intro W hSw
    clear hSw
    go_simp
    try (with_reducible rfl)
  try simp only [Act.put, List.getElem_toArray, List.getElem_cons_zero, List.getElem_cons_succ, List.setIfInBounds_toArray, List.set_cons_zero, List.set_cons_succ]
  refine wpAnyH_take (i := 2) (oi := _) (v := ?v2) rfl (by kernel_rfl) (by kernel_rfl) (by kernel_rfl) (fun _ _ _ h => h) (Or.inl ⟨by rfl, ?hy2⟩) (by assumption) ?rest2
  case hy2 =>
    intro W hSw
    clear hSw
    go_simp
    try (with_reducible rfl)
  try simp only [Act.put, List.getElem_toArray, List.getElem_cons_zero, List.getElem_cons_succ, List.setIfInBounds_toArray, List.set_cons_zero, List.set_cons_succ]
  refine wpAnyH_take (i := 3) (oi := _) (v := ?v3) rfl (by kernel_rfl) (by kernel_rfl) (by kernel_rfl) (fun _ _ _ h => h) (Or.inl ⟨by rfl, ?hy3⟩) (by assumption) ?rest3
  case hy3 =>
    intro W hSw
    clear hSw
    go_simp
    try (with_reducible rfl)
  try simp only [Act.put, List.getElem_toArray, List.getElem_cons_zero, List.getElem_cons_succ, List.setIfInBounds_toArray, List.set_cons_zero, List.set_cons_succ]
  refine wpAnyH_take (i := 5) (oi := _) (v := ?v5) rfl (by kernel_rfl) (by kernel_rfl) (by kernel_rfl) (fun _ _ _ h => h) (Or.inl ⟨by rfl, ?hy5⟩) (by assumption) ?rest5
  case hy5 =>
    intro W hSw
    obtain ⟨e0, e1, e2, e3⟩ := hSw
    go_simp
    try (with_reducible rfl)
  try simp only [Act.put, List.getElem_toArray, List.getElem_cons_zero, List.getElem_cons_succ, List.setIfInBounds_toArray, List.set_cons_zero, List.set_cons_succ]
  refine wpAnyH_ready (rs := [4, 6]) (by kernel_rfl) (by simp) ?_
  refine AllReadyH.cons (o := _) rfl (fun K hK => ?_) ?_
  · go_simp
    refine hK.out _ _ hHeld (fun _ => ?_)
    clear hK K
    try simp only [Act.put, List.getElem_toArray, List.getElem_cons_zero, List.getElem_cons_succ, List.setIfInBounds_toArray, List.set_cons_zero, List.set_cons_succ]
    refine wpAnyH_ready (rs := [6]) (by kernel_rfl) (by simp) ?_
    refine AllReadyH.cons (o := _) rfl (fun K hK => ?_) AllReadyH.nil
    go_simp
    refine hK.out _ _ (by have := S3.out; rw [← HW3.out] at this; exact this) (fun _ => ?_)
    clear hK K
    try simp only [Act.put, List.getElem_toArray, List.getElem_cons_zero, List.getElem_cons_succ, List.setIfInBounds_toArray, List.set_cons_zero, List.set_cons_succ]
    refine wpAnyH_ready (rs := [7]) (by kernel_rfl) (by simp) ?_
    refine AllReadyH.cons (o := _) rfl (fun K hK => ?_) AllReadyH.nil
    refine step_append rfl (.tmp 19) (.tmp 21) 29 rfl (.slice s2 n2 c2) (.slice (some ⟨W2.heap.size, 0, none⟩) 1 1) (.slice s4 (n2 + 1) c4) W4 (by rfl) (by rfl) (by have := HRUN.out; rw [← HW3.out] at this; exact this) ?_
    refine hK.out _ _ S4.out (fun hHeld4 => ?_)
    clear hK K
    try simp only [Act.put, List.getElem_toArray, List.getElem_cons_zero, List.getElem_cons_succ, List.setIfInBounds_toArray, List.set_cons_zero, List.set_cons_succ]
    refine wpAnyH_take (i := 8) (oi := _) (v := ?v1_8) rfl (by kernel_rfl) (by kernel_rfl) (by kernel_rfl) (fun _ _ _ h => h) (Or.inl ⟨by rfl, ?hy1_8⟩) (by assumption) ?rest1_8
    case hy1_8 =>
      intro W hSw
      clear hSw
      go_simp
      try (with_reducible rfl)
    try simp only [Act.put, List.getElem_toArray, List.getElem_cons_zero, List.getElem_cons_succ, List.setIfInBounds_toArray, List.set_cons_zero, List.set_cons_succ]
    refine wpAnyH_take (i := 9) (oi := _) (v := ?v1_9) rfl (by kernel_rfl) (by kernel_rfl) (by kernel_rfl) (fun _ _ _ h => h) (Or.inl ⟨by rfl, ?hy1_9⟩) (by assumption) ?rest1_9
    case hy1_9 =>
      intro W hSw
      clear hSw
      go_simp
      try (with_reducible rfl)
    try simp only [Act.put, List.getElem_toArray, List.getElem_cons_zero, List.getElem_cons_succ, List.setIfInBounds_toArray, List.set_cons_zero, List.set_cons_succ]
    refine wpAnyH_ready (rs := [10]) (by kernel_rfl) (by simp) ?_
    refine AllReadyH.cons (o := _) rfl (fun K hK => ?_) AllReadyH.nil
    go_simp
    refine hK.out _ _ S5.out (fun _ => ?_)
    clear hK K
    try simp only [Act.put, List.getElem_toArray, List.getElem_cons_zero, List.getElem_cons_succ, List.setIfInBounds_toArray, List.set_cons_zero, List.set_cons_succ]
    refine wpAnyH_done (by kernel_rfl) ?_ _
    go_wp2_with (fail)
    go_end0
    exact ⟨rfl, HFIN.out⟩
  refine AllReadyH.cons (o := _) rfl (fun K hK => ?_) AllReadyH.nil
  go_simp
  refine hK.out _ _ (by have := S3.out; rw [← HW3.out] at this; exact this) (fun hHeld6 => ?_)
  clear hK K
  try simp only [Act.put, List.getElem_toArray, List.getElem_cons_zero, List.getElem_cons_succ, List.setIfInBounds_toArray, List.set_cons_zero, List.set_cons_succ]
  refine wpAnyH_ready (rs := [4]) (by kernel_rfl) (by simp) ?_
  refine AllReadyH.cons (o := _) rfl (fun K hK => ?_) AllReadyH.nil
  go_simp
  refine hK.out _ _ hHeld6 (fun _ => ?_)
  clear hK K
  try simp only [Act.put, List.getElem_toArray, List.getElem_cons_zero, List.getElem_cons_succ, List.setIfInBounds_toArray, List.set_cons_zero, List.set_cons_succ]
  refine wpAnyH_ready (rs := [7]) (by kernel_rfl) (by simp) ?_
  refine AllReadyH.cons (o := _) rfl (fun K hK => ?_) AllReadyH.nil
  refine step_append rfl (.tmp 19) (.tmp 21) 29 rfl (.slice s2 n2 c2) (.slice (some ⟨W2.heap.size, 0, none⟩) 1 1) (.slice s4 (n2 + 1) c4) W4 (by rfl) (by rfl) (by have := HRUN.out; rw [← HW3.out] at this; exact this) ?_
  refine hK.out _ _ S4.out (fun hHeld4 => ?_)
  clear hK K
  try simp only [Act.put, List.getElem_toArray, List.getElem_cons_zero, List.getElem_cons_succ, List.setIfInBounds_toArray, List.set_cons_zero, List.set_cons_succ]
  refine wpAnyH_take (i := 8) (oi := _) (v := ?v2_8) rfl (by kernel_rfl) (by kernel_rfl) (by kernel_rfl) (fun _ _ _ h => h) (Or.inl ⟨by rfl, ?hy2_8⟩) (by assumption) ?rest2_8
  case hy2_8 =>
    intro W hSw
    clear hSw
    go_simp
    try (with_reducible rfl)
  try simp only [Act.put, List.getElem_toArray, List.getElem_cons_zero, List.getElem_cons_succ, List.setIfInBounds_toArray, List.set_cons_zero, List.set_cons_succ]
  refine wpAnyH_take (i := 9) (oi := _) (v := ?v2_9) rfl (by kernel_rfl) (by kernel_rfl) (by kernel_rfl) (fun _ _ _ h => h) (Or.inl ⟨by rfl, ?hy2_9⟩) (by assumption) ?rest2_9
  case hy2_9 =>
    intro W hSw
    clear hSw
    go_simp
    try (with_reducible rfl)
  try simp only [Act.put, List.getElem_toArray, List.getElem_cons_zero, List.getElem_cons_succ, List.setIfInBounds_toArray, List.set_cons_zero, List.set_cons_succ]
  refine wpAnyH_ready (rs := [10]) (by kernel_rfl) (by simp) ?_
  refine AllReadyH.cons (o := _) rfl (fun K hK => ?_) AllReadyH.nil
  go_simp
  refine hK.out _ _ S5.out (fun _ => ?_)
  clear hK K
  try simp only [Act.put, List.getElem_toArray, List.getElem_cons_zero, List.getElem_cons_succ, List.setIfInBounds_toArray, List.set_cons_zero, List.set_cons_succ]
  refine wpAnyH_done (by kernel_rfl) ?_ _
  go_wp2_with (fail)
  go_end0
  exact ⟨rfl, HFIN.out⟩
end Go.Proofs.Ytaigbplidkakhaa
