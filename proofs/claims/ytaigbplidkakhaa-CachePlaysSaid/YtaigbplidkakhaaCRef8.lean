/- Proved here: the document's cache: Put of a key that is not there, with room. -/
import Derived.Test.YtaigbplidkakhaaCRef7
namespace Go.Proofs.Ytaigbplidkakhaa
open Go.RowKit Go.ChangeMaps

/-- An entry more: the append's run, and what stands behind its store. -/
theorem RC.more {F : Nat → Prop} {W : World} {R : Nat} {places : Int} {l : List EntI} (h : RC F W R places l) (hl : l.length ≤ 65536) (k v : Int) (d : Bool) :
    ∃ s c s' c' W', W.cell? ⟨R, 1, none⟩ = some (.slice s l.length c) ∧ (∀ ty, (Builtin.append_ #[29, 29] ty #[.slice s l.length c, .slice (some ⟨W.heap.size, 0, none⟩) 1 1]).run Try.prog (W.alloc (.cells #[.int .i64 k, .int .i64 v, .bool d, .int .i64 0] 76)) = .ok (.slice s' (l.length + 1) c') W') ∧
      W'.cell? ⟨R, 1, none⟩ = some (.slice s l.length c) ∧ W'.frozen? ⟨R, 1, none⟩ = false ∧
      ∃ F', RC F' (W'.setCell ⟨R, 1, none⟩ (.slice s' (l.length + 1) c')) R places (l ++ [⟨k, v, d, 0⟩]) ∧ Step F F' W (W'.setCell ⟨R, 1, none⟩ (.slice s' (l.length + 1) c')) := by
  obtain ⟨s, c, k1, k2, k3, k4, k5⟩ := h
  have hRl := heap_lt k1
  obtain ⟨W3, hW3⟩ : ∃ W3, W.alloc (.cells #[.int .i64 k, .int .i64 v, .bool d, .int .i64 0] 76) = W3 := ⟨_, rfl⟩
  have hs3 : W3.heap.size = W.heap.size + 1 := by rw [← hW3]; simp
  have hb3 : Below W.heap.size W W3 := by rw [← hW3]; exact (Below.refl _ _).alloc (Nat.le_refl _) _
  have hn3 : W3.heap[W.heap.size]? = some (.cells #[.int .i64 k, .int .i64 v, .bool d, .int .i64 0] 76 (0, 0)) := by rw [← hW3]; exact heap_alloc_new _ _
  obtain ⟨s4, c4, W4, hr4, ho4, hg4, hk4, hc4⟩ := appendE (owns_block k2 (fun k hk => hb3.block k (k2.lt k hk).2)) ⟨W.heap.size, 0, none⟩ 1 1 (ent4 ⟨k, v, d, 0⟩) rfl (fun j u hu => by
    rw [addE, Nat.zero_add, cell_of_row _ _ _ _ _ _ hn3]
    simpa [ent4] using hu) (entVs_one [⟨k, v, d, 0⟩]) (by omega)
  have hR3 := (hb3.block R hRl).trans k1
  have hR4 := (hg4.block R (by omega) (fun e => (k4 R e.symm).2 rfl)).trans hR3
  refine ⟨s, c, s4, c4, W4, by rw [cell_of_row _ _ _ _ _ _ k1]; rfl, by rw [hW3]; exact hr4, by rw [cell_of_row _ _ _ _ _ _ hR4]; rfl, frozen_of_row _ _ _ _ _ hR4, fun k => F k ∨ (Value.slice s4 (l.length + 1) c4).ownBlock = some k, ⟨s4, c4, ?_, ?_, .inl k3, fun k hk => ?_, ?_⟩, ?_, fun k hk => ?_⟩
  · rw [row_put _ hR4, List.length_append]; rfl
  · rw [List.length_append, entVs_append]
    refine ho4.kept (grownBy_setCell'' W4 R 1 _) ?_
    cases ho : (Value.slice s4 (l.length + 1) c4).ownBlock with
    | none => exact .inl rfl
    | some j =>
      refine .inr fun e => ?_
      cases e
      rcases hk4 with e1 | e1
      · rw [ho] at e1
        exact (k4 R e1.symm).2 rfl
      · rw [ho] at e1
        injection e1 with e1
        omega
  · rw [List.length_append] at hk
    refine ⟨.inr hk, ?_⟩
    rcases hk4 with e1 | e1
    · exact (k4 k (by rw [← e1]; exact hk)).2
    · rw [show (Value.slice s4 (l.length + 1) c4).ownBlock = some k from hk] at e1
      injection e1 with e1
      omega
  · rw [List.length_append]; exact hc4
  · have t3 : Tch F W3 W4 := ⟨hg4.os, hg4.tape, hg4.output, hg4.size, fun k hk hn => hg4.block k hk (fun e => hn (k4 k e.symm).1)⟩
    exact Tch.set (p := ⟨R, 1, none⟩) ((Tch.of_below hb3).trans t3) k3 _
  · rcases hk with hk | hk
    · exact .inl hk
    · rcases hk4 with e1 | e1
      · exact .inl (k4 k (by rw [← e1]; exact hk)).1
      · have h8 := (ho4.lt k hk).2
        rw [hk] at e1
        injection e1 with e1
        exact .inr ⟨by omega, by rw [set_sz]; exact h8⟩
set_option maxHeartbeats 2000000 in
theorem refPutRoom {F : Nat → Prop} {W : World} {R : Nat} {places : Int} {l : List EntI} (h : RC F W R places l) (hl : l.length ≤ 65536) (k : Int) (hn : ∀ y ∈ l, y.k ≠ k) (hr : (l.length : Int) < places) (v : Int) (d : Bool) :
    Calls Try.prog 36 #[PV R, .int .i64 k, .int .i64 v, .bool d] W fun x W' => x = .returned (.int .i64 0) ∧ ∃ F', RC F' W' R places (l ++ [⟨k, v, d, 0⟩]) ∧ Step F F' W W' := by
  have HF := Lib.hid (findNone h hl k hn)
  have HH := Lib.hid (And.intro h hl)
  clear h hl hn
  go_enter Try.func36, Try.ntmps36
  go_wp2_with (fail)
  refine HF.out.mono ?_
  rintro x W1 ⟨rfl, hb⟩
  have h1 := HH.out.1.below hb.drew
  obtain ⟨s, c, s', c', W4, q1, hrun, q4, qf, hfin⟩ := h1.more HH.out.2 k v d
  have q0 : W1.drew.cell? ⟨R, 0, none⟩ = some (.int .i64 places) := by
    obtain ⟨_, _, _, _, q0, _, _⟩ := h1.row
    exact q0
  have HRUN := Lib.hid (show ∀ ty, (Builtin.append_ #[29, 29] ty #[.slice s l.length c, .slice (some ⟨W1.heap.size, 0, none⟩) 1 1]).run Try.prog (W1.drew.alloc (.cells #[.int .i64 k, .int .i64 v, .bool d, .int .i64 0] 76)) = .ok (.slice s' (l.length + 1) c') W4 from hrun)
  have HFIN := Lib.hid hfin
  have HB := Lib.hid hb
  obtain ⟨n, hnl⟩ : ∃ n, l.length = n := ⟨_, rfl⟩
  rw [hnl] at hr q1 q4 HRUN HFIN
  have hnle : ¬ places ≤ (n : Int) := by omega
  have q1b : (W1.alloc (.cells #[.int .i64 k, .int .i64 v, .bool d, .int .i64 0] 76)).cell? ⟨R, 1, none⟩ = some (.slice s n c) := bcell ((Below.refl _ W1).alloc (Nat.le_refl _) _) q1
  clear hb h1 hrun hfin hnl HF
  go_wp2_with (fail)
  go_region
  go_wp2_with (at_builtin; refine t_append_eq rfl (.tmp 99) (.tmp 104) 29 rfl _ _ _ _ (by rfl) (by rfl) HRUN.out ?_)
  go_ret
  obtain ⟨F', g1, g2⟩ := HFIN.out
  exact ⟨rfl, F', g1, (stay HB.out.drew).cat g2⟩
end Go.Proofs.Ytaigbplidkakhaa
