/- Proved here: TreeOrders answers true of any three names. -/
import Derived.Test.YtmgeejjpoiaglaaDoorLawTOrd
import Derived.Deep.RegionHeld3
namespace Go.Proofs.YtmgeejjpoiaglaaDoor
open Go.RowKit Go.Shelf

theorem three_ways {x y z : Int} (r1 : x = -1 ∨ x = 0 ∨ x = 1) (r2 : y = -1 ∨ y = 0 ∨ y = 1) (r3 : z = -1 ∨ z = 0 ∨ z = 1) (h1 : ¬ (x ≤ 0 ∧ y ≤ 0 ∧ 0 < z)) (h2 : ¬ (0 ≤ x ∧ 0 ≤ y ∧ z < 0)) :
    (!(decide (x ≤ 0) && decide (y ≤ 0) && decide (0 < z)) && !(decide (0 ≤ x) && decide (0 ≤ y) && decide (z < 0))) = true := by
  rcases r1 with rfl | rfl | rfl <;> rcases r2 with rfl | rfl | rfl <;> rcases r3 with rfl | rfl | rfl <;> first | rfl | exact absurd (by decide) h1 | exact absurd (by decide) h2
set_option maxRecDepth 100000 in
set_option maxHeartbeats 4000000 in
theorem treeOrders_any (w : World) (hT : Tabs w) (u1 l1 u2 l2 u3 l3 : ByteArray) :
    Calls Tryd.prog 3 #[.agg #[.string u1, .string l1], .agg #[.string u2, .string l2], .agg #[.string u3, .string l3]] w fun e w' => e = .returned (.bool true) ∧ Below w.heap.size w w' := by
  obtain ⟨x, hx⟩ : ∃ x, ordN u1 l1 u2 l2 = x := ⟨_, rfl⟩
  obtain ⟨y, hy⟩ : ∃ y, ordN u2 l2 u3 l3 = y := ⟨_, rfl⟩
  obtain ⟨z, hz⟩ : ∃ z, ordN u1 l1 u3 l3 = z := ⟨_, rfl⟩
  have hx' : ordN u2 l2 u1 l1 = -x := by rw [← hx]; exact cmpNm_ord.anti (u1, l1) (u2, l2)
  have r1 := cmpNm_ord.rng (u1, l1) (u2, l2)
  have r2 := cmpNm_ord.rng (u2, l2) (u3, l3)
  have r3 := cmpNm_ord.rng (u1, l1) (u3, l3)
  have h3 := cmpNm_ord.three (u1, l1) (u2, l2) (u3, l3)
  have h0 := cmpNm_zero (u1, l1) (u2, l2)
  have hb := before_is (u1, l1) (u2, l2)
  have C1 := Lib.hid (fun W => order_any W u1 l1 u2 l2)
  have C2 := Lib.hid (fun W => order_any W u2 l2 u3 l3)
  have C3 := Lib.hid (fun W => order_any W u1 l1 u3 l3)
  have C4 := Lib.hid (fun W => order_any W u2 l2 u1 l1)
  have C5 := Lib.hid (fun W => before_any u1 l1 u2 l2 W)
  have CA := Lib.hid (fun (W : World) (k : Below w.heap.size w W) => awake5_any W (hT.below k))
  have qE := fun (W : World) => name_eql W u1 l1 u2 l2
  change ordN u1 l1 u2 l2 = -1 ∨ ordN u1 l1 u2 l2 = 0 ∨ ordN u1 l1 u2 l2 = 1 at r1
  change ordN u2 l2 u3 l3 = -1 ∨ ordN u2 l2 u3 l3 = 0 ∨ ordN u2 l2 u3 l3 = 1 at r2
  change ordN u1 l1 u3 l3 = -1 ∨ ordN u1 l1 u3 l3 = 0 ∨ ordN u1 l1 u3 l3 = 1 at r3
  change _ ∧ ¬ (ordN u1 l1 u2 l2 ≤ 0 ∧ ordN u2 l2 u3 l3 ≤ 0 ∧ 0 < ordN u1 l1 u3 l3) ∧ ¬ (0 ≤ ordN u1 l1 u2 l2 ∧ 0 ≤ ordN u2 l2 u3 l3 ∧ ordN u1 l1 u3 l3 < 0) ∧ _ at h3
  change (ordN u1 l1 u2 l2 = 0) ↔ (u1 == u2 && l1 == l2) = true at h0
  change beforeB (u1, l1) (u2, l2) = decide (ordN u1 l1 u2 l2 < 0) at hb
  rw [hx] at r1 h3 h0 hb C1
  rw [hy] at r2 h3 C2
  rw [hz] at r3 h3 C3
  obtain ⟨x', hxx⟩ : ∃ x', -x = x' := ⟨_, rfl⟩
  obtain ⟨B, hBB⟩ : ∃ B, decide (x < 0) = B := ⟨_, rfl⟩
  rw [hx', hxx] at C4
  rw [hb, hBB] at C5
  have HF := Lib.hid (three_ways r1 r2 r3 h3.2.1 h3.2.2.1)
  have hE : (u1 == u2 && l1 == l2) = decide (x = 0) := by
    by_cases e : x = 0
    · rw [h0.1 e, decide_eq_true e]
    · rw [decide_eq_false e]
      cases h : (u1 == u2 && l1 == l2)
      · rfl
      · exact absurd (h0.2 h) e
  obtain ⟨E, hEE⟩ : ∃ E, decide (x = 0) = E := ⟨_, rfl⟩
  rw [hE, hEE] at qE
  have IS := Lib.hid (NmS.made w (u1, l1) (u2, l2) (u3, l3))
  have hyb : -1 ≤ y ∧ y ≤ 1 := by omega
  have hzb : -1 ≤ z ∧ z ≤ 1 := by omega
  clear hx hy hz hx' h3 h0 hb hE hT hyb hzb
  go_enter Tryd.func3, Tryd.ntmps3
  go_wp2_with (go_at_call 5; refine (CA.out _ IS.out.1).mono ?_; rintro e W1 ⟨rfl, hb1⟩)
  obtain ⟨i0, i1, i2, i3, i4, i5, i6⟩ := IS.out.below hb1
  clear hb1 IS
  go_region_held3 (fun W => Below w.heap.size w W ∧ W.cell? ⟨w.heap.size, 0, none⟩ = some (.string u1) ∧ W.cell? ⟨w.heap.size, 1, none⟩ = some (.string l1) ∧ W.cell? ⟨w.heap.size + 1, 0, none⟩ = some (.string u2) ∧ W.cell? ⟨w.heap.size + 1, 1, none⟩ = some (.string l2) ∧ W.cell? ⟨w.heap.size + 2, 0, none⟩ = some (.string u3) ∧ W.cell? ⟨w.heap.size + 2, 1, none⟩ = some (.string l3)) (first | exact ⟨i0.drew, i1, i2, i3, i4, i5, i6⟩ | (go_split_ands; exact ⟨below_cat5 (by assumption) hb', t_cell' hb' (by assumption), t_cell' hb' (by assumption), t_cell' hb' (by assumption), t_cell' hb' (by assumption), t_cell' hb' (by assumption), t_cell' hb' (by assumption)⟩)) (first | (go_at_call 6; go_split_ands; first | (with_reducible (refine (C1.out _).mono ?_); rintro e w' ⟨rfl, hb'⟩) | (with_reducible (refine (C2.out _).mono ?_); rintro e w' ⟨rfl, hb'⟩) | (with_reducible (refine (C3.out _).mono ?_); rintro e w' ⟨rfl, hb'⟩)))
  rename_i hHeld
  obtain ⟨j0, j1, j2, j3, j4, j5, j6⟩ := hHeld
  have J0 := Lib.hid j0
  have JS := Lib.hid (And.intro j1 (And.intro j2 (And.intro j3 j4)))
  clear C1 C2 C3 CA i0 i1 i2 i3 i4 i5 i6
  obtain ⟨j1, j2, j3, j4⟩ := JS.out
  rcases r1 with rfl | rfl | rfl <;> rcases r2 with rfl | rfl | rfl <;> rcases r3 with rfl | rfl | rfl <;> first | exact absurd HF.out (by decide) | skip
  all_goals
    clear HF
    try simp only [Int.neg_neg, Int.neg_zero] at hxx
    subst hxx
    (first | (obtain rfl : B = true := hBB.symm) | (obtain rfl : B = false := hBB.symm))
    (first | (obtain rfl : E = true := hEE.symm) | (obtain rfl : E = false := hEE.symm))
    clear hBB hEE
    go_wp2_with (first | (go_at_call 6; with_reducible (refine (C4.out _).mono ?_); rintro e w4 ⟨rfl, hb4⟩; have g1 : w4.cell? ⟨w.heap.size, 0, none⟩ = some (.string u1) := t_cell' hb4 j1; have g2 : w4.cell? ⟨w.heap.size, 1, none⟩ = some (.string l1) := t_cell' hb4 j2; have g3 : w4.cell? ⟨w.heap.size + 1, 0, none⟩ = some (.string u2) := t_cell' hb4 j3; have g4 : w4.cell? ⟨w.heap.size + 1, 1, none⟩ = some (.string l2) := t_cell' hb4 j4) | (go_at_call 7; with_reducible (refine (C5.out _).mono ?_); rintro e w5 ⟨rfl, hb5⟩))
    go_ret
    exact ⟨rfl, below_cat5 (below_cat5 J0.out hb4) hb5⟩
end Go.Proofs.YtmgeejjpoiaglaaDoor
