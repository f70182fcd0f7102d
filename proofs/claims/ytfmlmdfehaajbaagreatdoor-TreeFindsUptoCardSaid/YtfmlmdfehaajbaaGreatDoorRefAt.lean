/- Proved here: the document's At answers the node at a path, or that there is none. -/
import Derived.Test.YtfmlmdfehaajbaaGreatDoorAtW
import Derived.Test.YtfmlmdfehaajbaaGreatDoorTreeArg
namespace Go.Proofs.YtfmlmdfehaajbaaGreatDoor
open Go.RowKit Go.Shelf

def RefAtOut (w : World) (r : Option AT) (e : Ending) (W : World) : Prop := Below w.heap.size w W ∧ match r with
  | none => e = .returned (.tuple #[zeroNode, .bool false])
  | some x => ∃ pa ca pk ck, e = .returned (.tuple #[nodeV x pa ca pk ck, .bool true]) ∧ PartsAt w x pa ca pk ck ∧ KidsAt w x
/-- How the document's At stands: the node, by its value, in the box. -/
structure RAt (w : World) (x : AT) (xa : Option Addr) (xca : Nat) (xk : Option Addr) (xck : Nat) (V : World) : Prop where
  below : Below w.heap.size w V
  box : V.heap[w.heap.size]? = some (.cells #[.int .i64 x.kind, .string x.uri, .string x.loc, .slice xa x.attrs.length xca, .slice xk x.kids.length xck, .string x.text] 27 (0, 0))
  res : V.heap[w.heap.size + 1]? = some (.cells #[.int .i64 0, .string ⟨#[]⟩, .string ⟨#[]⟩, .slice none 0 0, .slice none 0 0, .string ⟨#[]⟩] 27 (0, 0))
  parts : PartsAt w x xa xca xk xck
  kids : KidsAt w x
set_option maxRecDepth 100000 in
set_option maxHeartbeats 8000000 in
theorem refAt_any (w : World) (t : AT) (pa : Option Addr) (ca : Nat) (pk : Option Addr) (ck : Nat) (h : PartsAt w t pa ca pk ck) (hk : KidsAt w t) (q : Option Addr) (l : List Int) (cl : Nat) (hq : PathAt w q l) (hl : l.length ≤ cl) (hl2 : l.length ≤ 1099511627776) :
    Calls Tryz.prog 22 #[nodeV t pa ca pk ck, .slice q l.length cl] w (RefAtOut w (findA l t)) := by
  have H0 := Lib.hid (show RAt w t pa ca pk ck ((w.alloc (.cells (nodeC t pa ca pk ck) 27)).alloc (.cells #[.int .i64 0, .string ⟨#[]⟩, .string ⟨#[]⟩, .slice none 0 0, .slice none 0 0, .string ⟨#[]⟩] 27)) from by
    refine ⟨((Below.refl _ _).alloc (Nat.le_refl _) _).alloc (by simp) _, (Below.heap_alloc _ _ _ (by simp)).trans (heap_alloc_new w _), ?_, h, hk⟩
    have := heap_alloc_new (w.alloc (.cells (nodeC t pa ca pk ck) 27)) (.cells #[.int .i64 0, .string ⟨#[]⟩, .string ⟨#[]⟩, .slice none 0 0, .slice none 0 0, .string ⟨#[]⟩] 27)
    rwa [World.size_alloc] at this)
  have HQ := Lib.hid hq
  unfold nodeC at H0
  unfold nodeV
  clear h hk hq
  go_enter Tryz.func22, Tryz.ntmps22
  go_wp2_with (fail)
  go_loopw [10] (fun v10 wr => ∃ (j : Nat), v10 = .int .i64 (j : Int) ∧ j ≤ l.length ∧ Hid' (∃ x xa xca xk xck, findA (l.drop j) x = findA l t ∧ RAt w x xa xca xk xck wr)) (fun v10 _ => l.length - (intOf v10).toNat)
  case atStart => exact ⟨0, rfl, Nat.zero_le _, t, pa, ca, pk, ck, by rw [List.drop_zero], H0.out⟩
  case round =>
    obtain ⟨j, rfl, hj, x, xa, xca, xk, xck, hfx, hI⟩ := hrel
    obtain ⟨V, rfl⟩ : ∃ V, V = wr := ⟨_, rfl⟩
    have HI := Lib.hid hI
    have rb := hI.box
    have rr := hI.res
    have hkc := hI.parts.kcap
    have hkl := hI.parts.ksz
    have fb0 : V.frozen? ⟨w.heap.size, 0, none⟩ = false := frozen_of_row _ _ _ _ _ rb
    have sb0 := cell_of_row _ _ 0 _ _ _ rb
    have fb1 : V.frozen? ⟨w.heap.size, 1, none⟩ = false := frozen_of_row _ _ _ _ _ rb
    have sb1 := cell_of_row _ _ 1 _ _ _ rb
    have fb2 : V.frozen? ⟨w.heap.size, 2, none⟩ = false := frozen_of_row _ _ _ _ _ rb
    have sb2 := cell_of_row _ _ 2 _ _ _ rb
    have fb3 : V.frozen? ⟨w.heap.size, 3, none⟩ = false := frozen_of_row _ _ _ _ _ rb
    have sb3 := cell_of_row _ _ 3 _ _ _ rb
    have fb4 : V.frozen? ⟨w.heap.size, 4, none⟩ = false := frozen_of_row _ _ _ _ _ rb
    have sb4 := cell_of_row _ _ 4 _ _ _ rb
    have fb5 : V.frozen? ⟨w.heap.size, 5, none⟩ = false := frozen_of_row _ _ _ _ _ rb
    have sb5 := cell_of_row _ _ 5 _ _ _ rb
    have fr0 : V.frozen? ⟨w.heap.size + 1, 0, none⟩ = false := frozen_of_row _ _ _ _ _ rr
    have sr0 := cell_of_row _ _ 0 _ _ _ rr
    have fr1 : V.frozen? ⟨w.heap.size + 1, 1, none⟩ = false := frozen_of_row _ _ _ _ _ rr
    have sr1 := cell_of_row _ _ 1 _ _ _ rr
    have fr2 : V.frozen? ⟨w.heap.size + 1, 2, none⟩ = false := frozen_of_row _ _ _ _ _ rr
    have sr2 := cell_of_row _ _ 2 _ _ _ rr
    have fr3 : V.frozen? ⟨w.heap.size + 1, 3, none⟩ = false := frozen_of_row _ _ _ _ _ rr
    have sr3 := cell_of_row _ _ 3 _ _ _ rr
    have fr4 : V.frozen? ⟨w.heap.size + 1, 4, none⟩ = false := frozen_of_row _ _ _ _ _ rr
    have sr4 := cell_of_row _ _ 4 _ _ _ rr
    have fr5 : V.frozen? ⟨w.heap.size + 1, 5, none⟩ = false := frozen_of_row _ _ _ _ _ rr
    have sr5 := cell_of_row _ _ 5 _ _ _ rr
    clear rb rr
    by_cases hlt : j < l.length
    · have hlt' : (j : Int) < (l.length : Int) := by omega
      obtain ⟨qb, qo, rfl, hcell⟩ := HQ.out (by omega)
      have ej := Stay.below hI.below _ _ (hcell j hlt)
      have hst := findA_step hlt x
      obtain ⟨i, hi⟩ : ∃ i, l[j] = i := ⟨_, rfl⟩
      rw [hi] at ej
      have hst2 : findA l t = if h : 0 ≤ i ∧ i.toNat < x.kids.length then findA (l.drop (j + 1)) (x.kids[i.toNat]'h.2) else none := by
        rw [← hfx, hst]
        subst hi
        rfl
      clear hst hcell hi hfx hI
      by_cases hn : i < 0
      · have HE := Lib.hid (show findA l t = none from by rw [hst2, dif_neg (by omega)])
        clear hst2
        go_wp2_with (fail)
        clear fr0 sr0 fr1 sr1 fr2 sr2 fr3 sr3 fr4 sr4 fr5 sr5 fb0 sb0 fb1 sb1 fb2 sb2 fb3 sb3 fb4 sb4 fb5 sb5
        obtain ⟨W4, hW4⟩ : ∃ W4, ((((((V.setCell ⟨w.heap.size + 1, 0, none⟩ (.int .i64 0)).setCell ⟨w.heap.size + 1, 1, none⟩ (.string ⟨#[]⟩)).setCell ⟨w.heap.size + 1, 2, none⟩ (.string ⟨#[]⟩)).setCell ⟨w.heap.size + 1, 3, none⟩ (.slice none 0 0)).setCell ⟨w.heap.size + 1, 4, none⟩ (.slice none 0 0)).setCell ⟨w.heap.size + 1, 5, none⟩ (.string ⟨#[]⟩)) = W4 := ⟨_, rfl⟩
        rw [hW4]
        have r4 : W4.heap[w.heap.size + 1]? = some (.cells #[.int .i64 0, .string ⟨#[]⟩, .string ⟨#[]⟩, .slice none 0 0, .slice none 0 0, .string ⟨#[]⟩] 27 (0, 0)) := by
          rw [← hW4]
          exact set_row6 (k := 5) _ (set_row6 (k := 4) _ (set_row6 (k := 3) _ (set_row6 (k := 2) _ (set_row6 (k := 1) _ (set_row6 (k := 0) _ HI.out.res)))))
        have b4 : Below w.heap.size w W4 := by
          rw [← hW4]
          exact ((((((HI.out.below.setCell (p := ⟨w.heap.size + 1, 0, none⟩) (Nat.le_succ _) _).setCell (p := ⟨w.heap.size + 1, 1, none⟩) (Nat.le_succ _) _).setCell (p := ⟨w.heap.size + 1, 2, none⟩) (Nat.le_succ _) _).setCell (p := ⟨w.heap.size + 1, 3, none⟩) (Nat.le_succ _) _).setCell (p := ⟨w.heap.size + 1, 4, none⟩) (Nat.le_succ _) _).setCell (p := ⟨w.heap.size + 1, 5, none⟩) (Nat.le_succ _) _)
        clear hW4
        have t0 := cell_of_row _ _ 0 _ _ _ r4
        have t1 := cell_of_row _ _ 1 _ _ _ r4
        have t2 := cell_of_row _ _ 2 _ _ _ r4
        have t3 := cell_of_row _ _ 3 _ _ _ r4
        have t4 := cell_of_row _ _ 4 _ _ _ r4
        have t5 := cell_of_row _ _ 5 _ _ _ r4
        simp at t0 t1 t2 t3 t4 t5
        refine bodyPost_ret (v := .tuple #[zeroNode, .bool false]) ?_ rfl ⟨b4, ?_⟩
        · simp [results, Tryz.f22, go_sem, t0, t1, t2, t3, t4, t5, zeroNode]
        · rw [HE.out]
      · obtain ⟨m, rfl⟩ := Int.eq_ofNat_of_zero_le (show 0 ≤ i by omega)
        have hnn : ¬ ((m : Int) < 0) := hn
        by_cases hm : m < x.kids.length
        · have hmm : (m : Int) < (x.kids.length : Int) := by omega
          have hmn : ¬ ((x.kids.length : Int) ≤ (m : Int)) := by omega
          obtain ⟨kb, ko, pa', ca', pk', ck', rfl, hP', hK', c0, c1, c2, c3, c4, c5⟩ := kid_at HI.out.parts HI.out.kids m hm
          have d0 := Stay.below HI.out.below _ _ c0
          have d1 := Stay.below HI.out.below _ _ c1
          have d2 := Stay.below HI.out.below _ _ c2
          have d3 := Stay.below HI.out.below _ _ c3
          have d4 := Stay.below HI.out.below _ _ c4
          have d5 := Stay.below HI.out.below _ _ c5
          have HK := Lib.hid (And.intro hP' (And.intro hK' (show findA l t = findA (l.drop (j + 1)) x.kids[m] from by rw [hst2, dif_pos (by constructor; omega; exact hm)]; rfl)))
          clear hst2 hP' hK' c0 c1 c2 c3 c4 c5
          go_wp2_with (fail)
          go_roundw
          case rel =>
            refine ⟨j + 1, by go_num, hlt, x.kids[m], pa', ca', pk', ck', HK.out.2.2.symm, ?_⟩
            refine ⟨((((((HI.out.below.setCell (p := ⟨w.heap.size, 0, none⟩) (Nat.le_refl _) _).setCell (p := ⟨w.heap.size, 1, none⟩) (Nat.le_refl _) _).setCell (p := ⟨w.heap.size, 2, none⟩) (Nat.le_refl _) _).setCell (p := ⟨w.heap.size, 3, none⟩) (Nat.le_refl _) _).setCell (p := ⟨w.heap.size, 4, none⟩) (Nat.le_refl _) _).setCell (p := ⟨w.heap.size, 5, none⟩) (Nat.le_refl _) _), ?_, ?_, HK.out.1, HK.out.2.1⟩
            · exact set_row6 (k := 5) _ (set_row6 (k := 4) _ (set_row6 (k := 3) _ (set_row6 (k := 2) _ (set_row6 (k := 1) _ (set_row6 (k := 0) _ HI.out.box)))))
            · have hne : w.heap.size + 1 ≠ w.heap.size := by omega
              exact ((set_oth6 hne).trans ((set_oth6 hne).trans ((set_oth6 hne).trans ((set_oth6 hne).trans ((set_oth6 hne).trans (set_oth6 hne)))))).trans HI.out.res
          case measure => simp only [intOf]; omega
        · have hmn : (x.kids.length : Int) ≤ (m : Int) := by omega
          have HE := Lib.hid (show findA l t = none from by rw [hst2, dif_neg (by intro hh; have := hh.2; simp at this; omega)])
          clear hst2
          go_wp2_with (fail)
          clear fr0 sr0 fr1 sr1 fr2 sr2 fr3 sr3 fr4 sr4 fr5 sr5 fb0 sb0 fb1 sb1 fb2 sb2 fb3 sb3 fb4 sb4 fb5 sb5
          obtain ⟨W4, hW4⟩ : ∃ W4, ((((((V.setCell ⟨w.heap.size + 1, 0, none⟩ (.int .i64 0)).setCell ⟨w.heap.size + 1, 1, none⟩ (.string ⟨#[]⟩)).setCell ⟨w.heap.size + 1, 2, none⟩ (.string ⟨#[]⟩)).setCell ⟨w.heap.size + 1, 3, none⟩ (.slice none 0 0)).setCell ⟨w.heap.size + 1, 4, none⟩ (.slice none 0 0)).setCell ⟨w.heap.size + 1, 5, none⟩ (.string ⟨#[]⟩)) = W4 := ⟨_, rfl⟩
          rw [hW4]
          have r4 : W4.heap[w.heap.size + 1]? = some (.cells #[.int .i64 0, .string ⟨#[]⟩, .string ⟨#[]⟩, .slice none 0 0, .slice none 0 0, .string ⟨#[]⟩] 27 (0, 0)) := by
            rw [← hW4]
            exact set_row6 (k := 5) _ (set_row6 (k := 4) _ (set_row6 (k := 3) _ (set_row6 (k := 2) _ (set_row6 (k := 1) _ (set_row6 (k := 0) _ HI.out.res)))))
          have b4 : Below w.heap.size w W4 := by
            rw [← hW4]
            exact ((((((HI.out.below.setCell (p := ⟨w.heap.size + 1, 0, none⟩) (Nat.le_succ _) _).setCell (p := ⟨w.heap.size + 1, 1, none⟩) (Nat.le_succ _) _).setCell (p := ⟨w.heap.size + 1, 2, none⟩) (Nat.le_succ _) _).setCell (p := ⟨w.heap.size + 1, 3, none⟩) (Nat.le_succ _) _).setCell (p := ⟨w.heap.size + 1, 4, none⟩) (Nat.le_succ _) _).setCell (p := ⟨w.heap.size + 1, 5, none⟩) (Nat.le_succ _) _)
          clear hW4
          have t0 := cell_of_row _ _ 0 _ _ _ r4
          have t1 := cell_of_row _ _ 1 _ _ _ r4
          have t2 := cell_of_row _ _ 2 _ _ _ r4
          have t3 := cell_of_row _ _ 3 _ _ _ r4
          have t4 := cell_of_row _ _ 4 _ _ _ r4
          have t5 := cell_of_row _ _ 5 _ _ _ r4
          simp at t0 t1 t2 t3 t4 t5
          refine bodyPost_ret (v := .tuple #[zeroNode, .bool false]) ?_ rfl ⟨b4, ?_⟩
          · simp [results, Tryz.f22, go_sem, t0, t1, t2, t3, t4, t5, zeroNode]
          · rw [HE.out]
    · have hlt' : ¬ (j : Int) < (l.length : Int) := by omega
      have HE := Lib.hid (show findA l t = some x from by rw [← hfx, List.drop_eq_nil_of_le (by omega)]; rfl)
      clear hfx hI
      go_wp2_with (fail)
      clear fr0 sr0 fr1 sr1 fr2 sr2 fr3 sr3 fr4 sr4 fr5 sr5 fb0 sb0 fb1 sb1 fb2 sb2 fb3 sb3 fb4 sb4 fb5 sb5
      obtain ⟨W4, hW4⟩ : ∃ W4, ((((((V.setCell ⟨w.heap.size + 1, 0, none⟩ (.int .i64 x.kind)).setCell ⟨w.heap.size + 1, 1, none⟩ (.string x.uri)).setCell ⟨w.heap.size + 1, 2, none⟩ (.string x.loc)).setCell ⟨w.heap.size + 1, 3, none⟩ (.slice xa x.attrs.length xca)).setCell ⟨w.heap.size + 1, 4, none⟩ (.slice xk x.kids.length xck)).setCell ⟨w.heap.size + 1, 5, none⟩ (.string x.text)) = W4 := ⟨_, rfl⟩
      rw [hW4]
      have r4 : W4.heap[w.heap.size + 1]? = some (.cells #[.int .i64 x.kind, .string x.uri, .string x.loc, .slice xa x.attrs.length xca, .slice xk x.kids.length xck, .string x.text] 27 (0, 0)) := by
        rw [← hW4]
        exact set_row6 (k := 5) _ (set_row6 (k := 4) _ (set_row6 (k := 3) _ (set_row6 (k := 2) _ (set_row6 (k := 1) _ (set_row6 (k := 0) _ HI.out.res)))))
      have b4 : Below w.heap.size w W4 := by
        rw [← hW4]
        exact ((((((HI.out.below.setCell (p := ⟨w.heap.size + 1, 0, none⟩) (Nat.le_succ _) _).setCell (p := ⟨w.heap.size + 1, 1, none⟩) (Nat.le_succ _) _).setCell (p := ⟨w.heap.size + 1, 2, none⟩) (Nat.le_succ _) _).setCell (p := ⟨w.heap.size + 1, 3, none⟩) (Nat.le_succ _) _).setCell (p := ⟨w.heap.size + 1, 4, none⟩) (Nat.le_succ _) _).setCell (p := ⟨w.heap.size + 1, 5, none⟩) (Nat.le_succ _) _)
      clear hW4
      have t0 := cell_of_row _ _ 0 _ _ _ r4
      have t1 := cell_of_row _ _ 1 _ _ _ r4
      have t2 := cell_of_row _ _ 2 _ _ _ r4
      have t3 := cell_of_row _ _ 3 _ _ _ r4
      have t4 := cell_of_row _ _ 4 _ _ _ r4
      have t5 := cell_of_row _ _ 5 _ _ _ r4
      simp at t0 t1 t2 t3 t4 t5
      refine bodyPost_ret (v := .tuple #[.agg #[.int .i64 x.kind, .string x.uri, .string x.loc, .slice xa x.attrs.length xca, .slice xk x.kids.length xck, .string x.text], .bool true]) ?_ rfl ⟨b4, ?_⟩
      · simp [results, Tryz.f22, go_sem, t0, t1, t2, t3, t4, t5]
      · rw [HE.out]
        exact ⟨xa, xca, xk, xck, rfl, HI.out.parts, HI.out.kids⟩
end Go.Proofs.YtfmlmdfehaajbaaGreatDoor
