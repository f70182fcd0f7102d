/- Proved here: Copy answers the same tree in new memory. -/
import Derived.Test.YtfmlmdfehaajbaaGreatDoorCopyPut
import Derived.Test.YtfmlmdfehaajbaaGreatDoorSize
import Derived.Test.YtfmlmdfehaajbaaGreatDoorTwinPlain
namespace Go.Proofs.YtfmlmdfehaajbaaGreatDoor
open Go.RowKit Go.Shelf

set_option maxRecDepth 100000 in
set_option maxHeartbeats 8000000 in
theorem copy_any (w : World) (t : AT) (pa : Option Addr) (ca : Nat) (pk : Option Addr) (ck : Nat) (h : PartsAt w t pa ca pk ck) (hk : KidsAt w t) (hc : t.count ≤ 1048576) (hF : t.Fits 1048576) :
    Calls Tryz.prog 19 #[nodeV t pa ca pk ck] w (CopyOut w t) := by
  obtain ⟨w1, hw1⟩ : ∃ w1, w.alloc (.cells (nodeC t pa ca pk ck) 27) = w1 := ⟨_, rfl⟩
  obtain ⟨w2, hw2⟩ : ∃ w2, w1.alloc (.cells #[.int .i64 0, .string ⟨#[]⟩, .string ⟨#[]⟩, .slice none 0 0, .slice none 0 0, .string ⟨#[]⟩] 27) = w2 := ⟨_, rfl⟩
  have z1 : w1.heap.size = w.heap.size + 1 := by rw [← hw1]; simp
  have z2 : w2.heap.size = w.heap.size + 2 := by rw [← hw2]; simp [z1]
  have b1 : Below w.heap.size w w1 := by rw [← hw1]; exact (Below.refl _ _).alloc (Nat.le_refl _) _
  have b2 : Below w.heap.size w w2 := by rw [← hw2]; exact b1.alloc b1.size _
  have r1 : w1.heap[w.heap.size]? = some (.cells (nodeC t pa ca pk ck) 27 (0, 0)) := by rw [← hw1]; exact heap_alloc_new _ _
  have r1' : w2.heap[w.heap.size]? = some (.cells (nodeC t pa ca pk ck) 27 (0, 0)) := by rw [← hw2]; exact (Below.heap_alloc _ _ _ (it_lt r1)).trans r1
  have r2 : w2.heap[w.heap.size + 1]? = some (.cells #[.int .i64 0, .string ⟨#[]⟩, .string ⟨#[]⟩, .slice none 0 0, .slice none 0 0, .string ⟨#[]⟩] 27 (0, 0)) := by
    rw [← hw2]
    have := heap_alloc_new w1 (.cells #[.int .i64 0, .string ⟨#[]⟩, .string ⟨#[]⟩, .slice none 0 0, .slice none 0 0, .string ⟨#[]⟩] 27)
    rwa [z1] at this
  have hT : TreeAt w2 (t.put w.heap.size 0) := TreeAt.boxed (h.stay (Stay.below b2)) (fun k hk' => (hk k hk').stay (Stay.below b2)) r1'
  have hJ := JC.start (t := t) hT (hF.put _ _) (by rw [put_count]; exact hc) (AT.plain_put t _ _)
  have HC := Lib.hid ((together_any (copy_visits w2 w2.heap.size w2.heap.size t) _ _ _ hJ).mono (R' := fun e W => e = .returned (.bool true) ∧ ∃ X qa da qk dk, (W.cell? ⟨w.heap.size + 2, 0, none⟩ = some (.int .i64 X.kind) ∧ W.cell? ⟨w.heap.size + 2, 1, none⟩ = some (.string X.uri) ∧ W.cell? ⟨w.heap.size + 2, 2, none⟩ = some (.string X.loc) ∧ W.cell? ⟨w.heap.size + 2, 3, none⟩ = some (.slice qa X.attrs.length da) ∧ W.cell? ⟨w.heap.size + 2, 4, none⟩ = some (.slice qk X.kids.length dk) ∧ W.cell? ⟨w.heap.size + 2, 5, none⟩ = some (.string X.text)) ∧
      W.heap[w.heap.size + 1]? = some (.cells #[.int .i64 0, .string ⟨#[]⟩, .string ⟨#[]⟩, .slice none 0 0, .slice none 0 0, .string ⟨#[]⟩] 27 (0, 0)) ∧
      Hid' (X.plain = t.plain ∧ Below w.heap.size w W ∧ w.heap.size + 2 ≤ W.heap.size ∧ X.b = w.heap.size + 2 ∧ Built (w.heap.size + 2) W X ∧ PartsAt W X qa da qk dk ∧ Typed2 (w.heap.size + 2) W qa qk)) (fun e W he => by
    rcases he with ⟨e1, m, tb, hd⟩ | ⟨_, h2⟩
    · obtain ⟨hb, X, x1, x2, hB, hp⟩ := hd.done
      have hB0 := hB
      obtain ⟨qa, da, qk, dk, hP, hcell, ha, hkk⟩ := hB X X.self_mem
      rw [x1, x2, z2] at hcell
      rw [z2] at hB0 ha hkk x1
      exact ⟨e1, X, qa, da, qk, dk, hcell, (hb.block _ (by omega)).trans r2, hp, b2.trans (hb.mono (by omega)), by have := hb.size; omega, x1, hB0, hP, ha, hkk⟩
    · exact absurd h2 id))
  rw [put_b, put_o, z2] at HC
  have HW := Lib.hid (And.intro hw1 (And.intro hw2 (And.intro z1 z2)))
  unfold nodeV
  unfold nodeC at hw1
  clear h hk hc hF z1 z2 b1 b2 r1 r1' r2 hT hJ
  go_enter Tryz.func19, Tryz.ntmps19
  go_upto_region 2 with (fail)
  rw [HW.out.2.2.1, HW.out.2.2.2]
  clear hw1 hw2
  go_wp2_with (go_at_call 49; refine HC.out.mono ?_; rintro e W ⟨rfl, X, qa, da, qk, dk, ⟨c0, c1, c2, c3, c4, c5⟩, cr, HB⟩; have f0 : W.frozen? ⟨w.heap.size + 1, 0, none⟩ = false := frozen_of_row _ _ _ _ _ cr; have f1 : W.frozen? ⟨w.heap.size + 1, 1, none⟩ = false := frozen_of_row _ _ _ _ _ cr; have f2 : W.frozen? ⟨w.heap.size + 1, 2, none⟩ = false := frozen_of_row _ _ _ _ _ cr; have f3 : W.frozen? ⟨w.heap.size + 1, 3, none⟩ = false := frozen_of_row _ _ _ _ _ cr; have f4 : W.frozen? ⟨w.heap.size + 1, 4, none⟩ = false := frozen_of_row _ _ _ _ _ cr; have f5 : W.frozen? ⟨w.heap.size + 1, 5, none⟩ = false := frozen_of_row _ _ _ _ _ cr; have s0 := cell_of_row _ _ 0 _ _ _ cr; have s1 := cell_of_row _ _ 1 _ _ _ cr; have s2 := cell_of_row _ _ 2 _ _ _ cr; have s3 := cell_of_row _ _ 3 _ _ _ cr; have s4 := cell_of_row _ _ 4 _ _ _ cr; have s5 := cell_of_row _ _ 5 _ _ _ cr; have HCR := Lib.hid cr; clear cr)
  clear c0 c1 c2 c3 c4 c5 s0 s1 s2 s3 s4 s5 f0 f1 f2 f3 f4 f5
  obtain ⟨W4, hW4⟩ : ∃ W4, ((((((W.setCell ⟨w.heap.size + 1, 0, none⟩ (.int .i64 X.kind)).setCell ⟨w.heap.size + 1, 1, none⟩ (.string X.uri)).setCell ⟨w.heap.size + 1, 2, none⟩ (.string X.loc)).setCell ⟨w.heap.size + 1, 3, none⟩ (.slice qa X.attrs.length da)).setCell ⟨w.heap.size + 1, 4, none⟩ (.slice qk X.kids.length dk)).setCell ⟨w.heap.size + 1, 5, none⟩ (.string X.text)) = W4 := ⟨_, rfl⟩
  rw [hW4]
  have r4 : W4.heap[w.heap.size + 1]? = some (.cells #[.int .i64 X.kind, .string X.uri, .string X.loc, .slice qa X.attrs.length da, .slice qk X.kids.length dk, .string X.text] 27 (0, 0)) := by
    rw [← hW4]
    exact set_row6 (k := 5) _ (set_row6 (k := 4) _ (set_row6 (k := 3) _ (set_row6 (k := 2) _ (set_row6 (k := 1) _ (set_row6 (k := 0) _ HCR.out)))))
  have o4 : ∀ k, k ≠ w.heap.size + 1 → W4.heap[k]? = W.heap[k]? := fun k hne => by
    rw [← hW4]
    exact ((set_oth6 hne).trans ((set_oth6 hne).trans ((set_oth6 hne).trans ((set_oth6 hne).trans ((set_oth6 hne).trans (set_oth6 hne))))))
  have z4 : W4.heap.size = W.heap.size := by rw [← hW4]; simp [World.setCell]
  obtain ⟨hp, hb, hsz, hXb, hB, hP, hta⟩ := HB
  have b4 : Below w.heap.size w W4 := by
    rw [← hW4]
    exact (((((hb.setCell (p := ⟨w.heap.size + 1, 0, none⟩) (Nat.le_succ _) _).setCell (p := ⟨w.heap.size + 1, 1, none⟩) (Nat.le_succ _) _).setCell (p := ⟨w.heap.size + 1, 2, none⟩) (Nat.le_succ _) _).setCell (p := ⟨w.heap.size + 1, 3, none⟩) (Nat.le_succ _) _).setCell (p := ⟨w.heap.size + 1, 4, none⟩) (Nat.le_succ _) _).setCell (p := ⟨w.heap.size + 1, 5, none⟩) (Nat.le_succ _) _
  clear hW4
  have t0 := cell_of_row _ _ 0 _ _ _ r4
  have t1 := cell_of_row _ _ 1 _ _ _ r4
  have t2 := cell_of_row _ _ 2 _ _ _ r4
  have t3 := cell_of_row _ _ 3 _ _ _ r4
  have t4 := cell_of_row _ _ 4 _ _ _ r4
  have t5 := cell_of_row _ _ 5 _ _ _ r4
  simp at t0 t1 t2 t3 t4 t5
  refine bodyPost_ret (v := .agg #[.int .i64 X.kind, .string X.uri, .string X.loc, .slice qa X.attrs.length da, .slice qk X.kids.length dk, .string X.text]) ?_ rfl ?_
  · simp [results, Tryz.f19, go_sem, t0, t1, t2, t3, t4, t5]
  · refine ⟨X, qa, da, qk, dk, rfl, hp, b4, by omega, fun W' hk => ?_⟩
    have hk2 : ∀ k, k < W.heap.size → w.heap.size + 2 ≤ k → W'.heap[k]? = W.heap[k]? := fun k h1 h2 => (hk k (by omega) (by omega)).trans (o4 k (by omega))
    have hB2 := hB.stay (by omega) hk2
    exact ⟨hP.typed hta.1 hk2, hB2.tree.kids, hB2.less (by omega), hta.stay (by omega) hk2⟩
end Go.Proofs.YtfmlmdfehaajbaaGreatDoor
