/- Proved here: Clone of a drum. -/
import Derived.Test.YtlkffignbjpfcaaDrumClone
import Derived.Test.YtlkffignbjpfcaaDrumActs
import Derived.Deep.RegionHeld3
namespace Go.Proofs.Ytlkffignbjpfcaa
open Go.RowKit

set_option maxRecDepth 100000 in
set_option maxHeartbeats 8000000 in
theorem dclone_any (W : World) (F : Nat → Prop) (G N : Nat) (M : DM) (h : Drum W F G N M) (hlo : M.loose.length ≤ 1000000) :
    Calls Try.prog 9 #[.pointer (some ⟨G, 0, none⟩)] W fun e W' => ∃ G2 F2, e = .returned (.pointer (some ⟨G2, 0, none⟩)) ∧ Drum W' F2 G2 N M ∧ Below W.heap.size W W' ∧ ∀ k, F2 k → W.heap.size ≤ k := by
  obtain ⟨gn, gs, cn, cs, q, c, hd⟩ := h
  have HD := Lib.hid hd
  have HLO := Lib.hid hlo
  have d0 : W.cell? ⟨G, 0, none⟩ = some (.slice (some ⟨gn, 0, none⟩) N cn) := by rw [cell_of_row _ _ _ _ _ _ hd.blk]; rfl
  have d1 : W.cell? ⟨G, 1, none⟩ = some (.slice (some ⟨gs, 0, none⟩) N cs) := by rw [cell_of_row _ _ _ _ _ _ hd.blk]; rfl
  have d2 : W.cell? ⟨G, 2, none⟩ = some (.slice q M.loose.length c) := by rw [cell_of_row _ _ _ _ _ _ hd.blk]; rfl
  have d3 : W.cell? ⟨G, 3, none⟩ = some (.int .i64 (M.steps : Int)) := by rw [cell_of_row _ _ _ _ _ _ hd.blk]; rfl
  have d4 : W.cell? ⟨G, 4, none⟩ = some (.bool M.fuse.isSome) := by rw [cell_of_row _ _ _ _ _ _ hd.blk]; rfl
  have d5 : W.cell? ⟨G, 5, none⟩ = some (.int .i64 ((M.fuse.getD 0 : Nat) : Int)) := by rw [cell_of_row _ _ _ _ _ _ hd.blk]; rfl
  have d6 : W.cell? ⟨G, 6, none⟩ = some (.bool M.down) := by rw [cell_of_row _ _ _ _ _ _ hd.blk]; rfl
  obtain ⟨l, hl⟩ : ∃ l, M.loose.length = l := ⟨_, rfl⟩
  rw [hl] at d2
  have HL := Lib.hid hl
  obtain ⟨z4, hz4⟩ : ∃ z, M.fuse.isSome = z := ⟨_, rfl⟩
  obtain ⟨z5, hz5⟩ : ∃ z, ((M.fuse.getD 0 : Nat) : Int) = z := ⟨_, rfl⟩
  obtain ⟨z6, hz6⟩ : ∃ z, M.down = z := ⟨_, rfl⟩
  obtain ⟨z3, hz3⟩ : ∃ z, (M.steps : Int) = z := ⟨_, rfl⟩
  rw [hz4] at d4
  rw [hz5] at d5
  rw [hz6] at d6
  rw [hz3] at d3
  have HZ := Lib.hid (And.intro hz3 (And.intro hz4 (And.intro hz5 hz6)))
  clear hz3 hz4 hz5 hz6
  clear hd hlo hl
  go_enter Try.func9, Try.ntmps9
  go_wp2_with (fail)
  obtain ⟨U, hU⟩ : ∃ U, W.alloc (.cells #[.slice (some ⟨gn, 0, none⟩) N cn, .slice (some ⟨gs, 0, none⟩) N cs, .slice q l c, .int .i64 z3, .bool z4, .int .i64 z5, .bool z6] 76) = U := ⟨_, rfl⟩
  rw [hU]
  have bU : Below W.heap.size W U := by rw [← hU]; exact (Below.refl _ _).alloc (Nat.le_refl _) _
  have nU : U.heap[W.heap.size]? = some (.cells #[.slice (some ⟨gn, 0, none⟩) N cn, .slice (some ⟨gs, 0, none⟩) N cs, .slice q l c, .int .i64 z3, .bool z4, .int .i64 z5, .bool z6] 76 (0, 0)) := by rw [← hU]; exact heap_alloc_new _ _
  have HU := Lib.hid (And.intro bU nU)
  have HUZ := Lib.hid (show U.heap.size = W.heap.size + 1 by rw [← hU]; simp)
  have g0 := hb_cell bU d0
  have g1 := hb_cell bU d1
  have g2 := hb_cell bU d2
  clear d0 d1 d2 d3 d4 d5 d6 hU bU nU
  refine wp_region_held_drew (S := fun W' => W'.cell? ⟨G, 0, none⟩ = some (.slice (some ⟨gn, 0, none⟩) N cn) ∧ W'.cell? ⟨G, 1, none⟩ = some (.slice (some ⟨gs, 0, none⟩) N cs) ∧ W'.cell? ⟨G, 2, none⟩ = some (.slice q l c)) (by kernel_rfl) ⟨g0, g1, g2⟩ (fun hHeld => ?_)
  have HG := Lib.hid (And.intro g0 (And.intro g1 g2))
  clear g0 g1 g2
  refine wpAnyH_take (i := 0) (oi := _) (v := ?vc0) rfl (by kernel_rfl) (by kernel_rfl) (by kernel_rfl) (fun _ _ _ h => h) (Or.inl ⟨by rfl, ?hyc0⟩) (by assumption) ?restc0
  case hyc0 =>
    intro W hSw
    clear hSw
    go_simp
    try (with_reducible rfl)
  try simp only [Act.put, List.getElem_toArray, List.getElem_cons_zero, List.getElem_cons_succ, List.setIfInBounds_toArray, List.set_cons_zero, List.set_cons_succ]
  refine wpAnyH_take (i := 1) (oi := _) (v := ?vc1) rfl (by kernel_rfl) (by kernel_rfl) (by kernel_rfl) (fun _ _ _ h => h) (Or.inl ⟨by rfl, ?hyc1⟩) (by assumption) ?restc1
  case hyc1 =>
    intro W hSw
    clear hSw
    go_simp
    try (with_reducible rfl)
  try simp only [Act.put, List.getElem_toArray, List.getElem_cons_zero, List.getElem_cons_succ, List.setIfInBounds_toArray, List.set_cons_zero, List.set_cons_succ]
  refine wpAnyH_take (i := 2) (oi := _) (v := ?vc2) rfl (by kernel_rfl) (by kernel_rfl) (by kernel_rfl) (fun _ _ _ h => h) (Or.inl ⟨by rfl, ?hyc2⟩) (by assumption) ?restc2
  case hyc2 =>
    intro W hSw
    clear hSw
    go_simp
    try (with_reducible rfl)
  try simp only [Act.put, List.getElem_toArray, List.getElem_cons_zero, List.getElem_cons_succ, List.setIfInBounds_toArray, List.set_cons_zero, List.set_cons_succ]
  refine wpAnyH_take (i := 3) (oi := _) (v := ?vc3) rfl (by kernel_rfl) (by kernel_rfl) (by kernel_rfl) (fun _ _ _ h => h) (Or.inl ⟨by rfl, ?hyc3⟩) (by assumption) ?restc3
  case hyc3 =>
    intro W hSw
    have e0 := hSw.1
    have e1 := hSw.2.1
    have e2 := hSw.2.2
    clear hSw
    go_simp
    try (with_reducible rfl)
  try simp only [Act.put, List.getElem_toArray, List.getElem_cons_zero, List.getElem_cons_succ, List.setIfInBounds_toArray, List.set_cons_zero, List.set_cons_succ]
  refine wpAnyH_take (i := 5) (oi := _) (v := ?vc5) rfl (by kernel_rfl) (by kernel_rfl) (by kernel_rfl) (fun _ _ _ h => h) (Or.inl ⟨by rfl, ?hyc5⟩) (by assumption) ?restc5
  case hyc5 =>
    intro W hSw
    clear hSw
    go_simp
    try (with_reducible rfl)
  try simp only [Act.put, List.getElem_toArray, List.getElem_cons_zero, List.getElem_cons_succ, List.setIfInBounds_toArray, List.set_cons_zero, List.set_cons_succ]
  refine wpAnyH_take (i := 6) (oi := _) (v := ?vc6) rfl (by kernel_rfl) (by kernel_rfl) (by kernel_rfl) (fun _ _ _ h => h) (Or.inl ⟨by rfl, ?hyc6⟩) (by assumption) ?restc6
  case hyc6 =>
    intro W hSw
    clear hSw
    go_simp
    try (with_reducible rfl)
  try simp only [Act.put, List.getElem_toArray, List.getElem_cons_zero, List.getElem_cons_succ, List.setIfInBounds_toArray, List.set_cons_zero, List.set_cons_succ]
  refine wpAnyH_take (i := 7) (oi := _) (v := ?vc7) rfl (by kernel_rfl) (by kernel_rfl) (by kernel_rfl) (fun _ _ _ h => h) (Or.inl ⟨by rfl, ?hyc7⟩) (by assumption) ?restc7
  case hyc7 =>
    intro W hSw
    clear hSw
    go_simp
    try (with_reducible rfl)
  try simp only [Act.put, List.getElem_toArray, List.getElem_cons_zero, List.getElem_cons_succ, List.setIfInBounds_toArray, List.set_cons_zero, List.set_cons_succ]
  refine wpAnyH_take (i := 8) (oi := _) (v := ?vc8) rfl (by kernel_rfl) (by kernel_rfl) (by kernel_rfl) (fun _ _ _ h => h) (Or.inl ⟨by rfl, ?hyc8⟩) (by assumption) ?restc8
  case hyc8 =>
    intro W hSw
    have e0 := hSw.1
    have e1 := hSw.2.1
    have e2 := hSw.2.2
    clear hSw
    go_simp
    try (with_reducible rfl)
  try simp only [Act.put, List.getElem_toArray, List.getElem_cons_zero, List.getElem_cons_succ, List.setIfInBounds_toArray, List.set_cons_zero, List.set_cons_succ]
  refine wpAnyH_take (i := 10) (oi := _) (v := ?vc10) rfl (by kernel_rfl) (by kernel_rfl) (by kernel_rfl) (fun _ _ _ h => h) (Or.inl ⟨by rfl, ?hyc10⟩) (by assumption) ?restc10
  case hyc10 =>
    intro W hSw
    clear hSw
    go_simp
    try (with_reducible rfl)
  try simp only [Act.put, List.getElem_toArray, List.getElem_cons_zero, List.getElem_cons_succ, List.setIfInBounds_toArray, List.set_cons_zero, List.set_cons_succ]
  refine wpAnyH_take (i := 11) (oi := _) (v := ?vc11) rfl (by kernel_rfl) (by kernel_rfl) (by kernel_rfl) (fun _ _ _ h => h) (Or.inl ⟨by rfl, ?hyc11⟩) (by assumption) ?restc11
  case hyc11 =>
    intro W hSw
    clear hSw
    go_simp
    try (with_reducible rfl)
  try simp only [Act.put, List.getElem_toArray, List.getElem_cons_zero, List.getElem_cons_succ, List.setIfInBounds_toArray, List.set_cons_zero, List.set_cons_succ]
  refine wpAnyH_take (i := 12) (oi := _) (v := ?vc12) rfl (by kernel_rfl) (by kernel_rfl) (by kernel_rfl) (fun _ _ _ h => h) (Or.inl ⟨by rfl, ?hyc12⟩) (by assumption) ?restc12
  case hyc12 =>
    intro W hSw
    clear hSw
    go_simp
    try (with_reducible rfl)
  try simp only [Act.put, List.getElem_toArray, List.getElem_cons_zero, List.getElem_cons_succ, List.setIfInBounds_toArray, List.set_cons_zero, List.set_cons_succ]
  refine wpAnyH_take (i := 13) (oi := _) (v := ?vc13) rfl (by kernel_rfl) (by kernel_rfl) (by kernel_rfl) (fun _ _ _ h => h) (Or.inl ⟨by rfl, ?hyc13⟩) (by assumption) ?restc13
  case hyc13 =>
    intro W hSw
    have e0 := hSw.1
    have e1 := hSw.2.1
    have e2 := hSw.2.2
    clear hSw
    go_simp
    try (with_reducible rfl)
  try simp only [Act.put, List.getElem_toArray, List.getElem_cons_zero, List.getElem_cons_succ, List.setIfInBounds_toArray, List.set_cons_zero, List.set_cons_succ]
  refine wpAnyH_ready (rs := [4]) (by kernel_rfl) (by simp) ?_
  refine AllReadyH.cons (o := _) rfl (fun K hK => ?_) AllReadyH.nil
  go_simp
  refine (clone_sectors U.drew gn N cn M.now (HD.out.now.block ((HU.out.1.drew).block gn (rows_lt HD.out.now HD.out.big.2.2.2))) HD.out.big.1 HD.out.big.2.2.2).mono ?_
  rintro e W2 ⟨h2, k2, rfl, r2, p2, p2', m2, b2⟩
  have H2b := Lib.hid (cat_b ((Below.refl U.heap.size U).drew) b2)
  have H2 := Lib.hid (And.intro r2 (And.intro p2 (And.intro p2' (And.intro m2 (cat_b HU.out.1.drew b2)))))
  have hHeld2 : W2.cell? ⟨G, 0, none⟩ = some (.slice (some ⟨gn, 0, none⟩) N cn) ∧ W2.cell? ⟨G, 1, none⟩ = some (.slice (some ⟨gs, 0, none⟩) N cs) ∧ W2.cell? ⟨G, 2, none⟩ = some (.slice q l c) := ⟨hb_cell b2 HG.out.1, hb_cell b2 HG.out.2.1, hb_cell b2 HG.out.2.2⟩
  refine hK.out _ _ hHeld2 (fun _ => ?_)
  clear hK K hHeld r2 p2 p2' m2
  try simp only [Act.put, List.getElem_toArray, List.getElem_cons_zero, List.getElem_cons_succ, List.setIfInBounds_toArray, List.set_cons_zero, List.set_cons_succ]
  refine wpAnyH_ready (rs := [9]) (by kernel_rfl) (by simp) ?_
  refine AllReadyH.cons (o := _) rfl (fun K hK => ?_) AllReadyH.nil
  go_simp
  refine (clone_sectors W2 gs N cs M.safe (HD.out.safe.block (H2.out.2.2.2.2.block gs (rows_lt HD.out.safe HD.out.big.2.2.2))) HD.out.big.1 HD.out.big.2.2.2).mono ?_
  rintro e W3 ⟨h3, k3, rfl, r3, p3, p3', m3, b3⟩
  have H3 := Lib.hid (And.intro r3 (And.intro p3 (And.intro p3' (And.intro m3 b3))))
  have hHeld3 : W3.cell? ⟨G, 0, none⟩ = some (.slice (some ⟨gn, 0, none⟩) N cn) ∧ W3.cell? ⟨G, 1, none⟩ = some (.slice (some ⟨gs, 0, none⟩) N cs) ∧ W3.cell? ⟨G, 2, none⟩ = some (.slice q l c) := ⟨hb_cell b3 hHeld2.1, hb_cell b3 hHeld2.2.1, hb_cell b3 hHeld2.2.2⟩
  refine hK.out _ _ hHeld3 (fun _ => ?_)
  clear hK K hHeld2 r3 p3 p3' m3
  try simp only [Act.put, List.getElem_toArray, List.getElem_cons_zero, List.getElem_cons_succ, List.setIfInBounds_toArray, List.set_cons_zero, List.set_cons_succ]
  refine wpAnyH_ready (rs := [14]) (by kernel_rfl) (by simp) ?_
  refine AllReadyH.cons (o := _) rfl (fun K hK => ?_) AllReadyH.nil
  go_simp
  have bW3 : Below W.heap.size W W3 := cat_b H2.out.2.2.2.2 b3
  have hlw := HD.out.loose
  rw [HL.out] at hlw
  have CW := clone_writes W3 q l c (loosesV M.loose) (owns_block hlw (fun k hk => bW3.block k (hlw.lt k hk).2)) (fun u hu => by obtain ⟨x, _, hx⟩ := List.mem_flatMap.1 hu; exact writeV_one x u hx) (by have := HLO.out; have := HL.out; omega)
  refine CW.mono ?_
  rintro e W4 ⟨q4, c4, rfl, o4, p4, n4, b4⟩
  have HB4U : Below U.heap.size U W4 := cat_b (cat_b H2b.out b3) b4
  have H4 := Lib.hid (And.intro o4 (And.intro p4 (And.intro n4 (And.intro b4 bW3))))
  have hHeld4 : W4.cell? ⟨G, 0, none⟩ = some (.slice (some ⟨gn, 0, none⟩) N cn) ∧ W4.cell? ⟨G, 1, none⟩ = some (.slice (some ⟨gs, 0, none⟩) N cs) ∧ W4.cell? ⟨G, 2, none⟩ = some (.slice q l c) := ⟨hb_cell b4 hHeld3.1, hb_cell b4 hHeld3.2.1, hb_cell b4 hHeld3.2.2⟩
  refine hK.out _ _ hHeld4 (fun _ => ?_)
  clear hK K hHeld3 o4 p4 n4 CW hlw bW3 b4 b3 b2
  try simp only [Act.put, List.getElem_toArray, List.getElem_cons_zero, List.getElem_cons_succ, List.setIfInBounds_toArray, List.set_cons_zero, List.set_cons_succ]
  refine wpAnyH_take (i := 15) (oi := _) (v := ?vc15) rfl (by kernel_rfl) (by kernel_rfl) (by kernel_rfl) (fun _ _ _ h => h) (Or.inl ⟨by rfl, ?hyc15⟩) (by assumption) ?restc15
  case hyc15 =>
    intro W hSw
    clear hSw
    go_simp
    try (with_reducible rfl)
  try simp only [Act.put, List.getElem_toArray, List.getElem_cons_zero, List.getElem_cons_succ, List.setIfInBounds_toArray, List.set_cons_zero, List.set_cons_succ]
  have hGc : W.heap.size ≠ G := by have := block_lt HD.out.blk; omega
  have bU4 := HB4U
  have n4 := (bU4.block W.heap.size (block_lt HU.out.2)).trans HU.out.2
  have cc0 : ∃ u, W4.cell? ⟨W.heap.size, 0, none⟩ = some u := ⟨_, by rw [cell_of_row _ _ _ _ _ _ n4]; rfl⟩
  obtain ⟨uu0, cc0⟩ := cc0
  have ff0 : W4.frozen? ⟨W.heap.size, 0, none⟩ = false := frozen_of_row _ _ _ _ _ n4
  refine wpAnyH_ready (rs := [16]) (by kernel_rfl) (by simp) ?_
  refine AllReadyH.cons (o := _) rfl (fun K hK => ?_) AllReadyH.nil
  go_simp
  obtain ⟨X1, hX1⟩ : ∃ X, W4.setCell ⟨W.heap.size, 0, none⟩ (.slice (some ⟨h2, 0, none⟩) N k2) = X := ⟨_, rfl⟩
  rw [hX1]
  have hHeld5 : X1.cell? ⟨G, 0, none⟩ = some (.slice (some ⟨gn, 0, none⟩) N cn) ∧ X1.cell? ⟨G, 1, none⟩ = some (.slice (some ⟨gs, 0, none⟩) N cs) ∧ X1.cell? ⟨G, 2, none⟩ = some (.slice q l c) := by
    rw [← hX1]
    exact ⟨(World.cell?_setCell_far _ _ _ _ hGc).trans hHeld4.1, (World.cell?_setCell_far _ _ _ _ hGc).trans hHeld4.2.1, (World.cell?_setCell_far _ _ _ _ hGc).trans hHeld4.2.2⟩
  have n5 := u_row (k := 0) (.slice (some ⟨h2, 0, none⟩) N k2) n4
  rw [hX1] at n5
  have HX0 := Lib.hid hX1
  refine hK.out _ _ hHeld5 (fun _ => ?_)
  clear hK K hHeld4 hX1 cc0 ff0 n4
  try simp only [Act.put, List.getElem_toArray, List.getElem_cons_zero, List.getElem_cons_succ, List.setIfInBounds_toArray, List.set_cons_zero, List.set_cons_succ]
  refine wpAnyH_take (i := 17) (oi := _) (v := ?vc17) rfl (by kernel_rfl) (by kernel_rfl) (by kernel_rfl) (fun _ _ _ h => h) (Or.inl ⟨by rfl, ?hyc17⟩) (by assumption) ?restc17
  case hyc17 =>
    intro W hSw
    clear hSw
    go_simp
    try (with_reducible rfl)
  try simp only [Act.put, List.getElem_toArray, List.getElem_cons_zero, List.getElem_cons_succ, List.setIfInBounds_toArray, List.set_cons_zero, List.set_cons_succ]
  have cc1 : ∃ u, X1.cell? ⟨W.heap.size, 1, none⟩ = some u := ⟨_, by rw [cell_of_row _ _ _ _ _ _ n5]; rfl⟩
  obtain ⟨uu1, cc1⟩ := cc1
  have ff1 : X1.frozen? ⟨W.heap.size, 1, none⟩ = false := frozen_of_row _ _ _ _ _ n5
  refine wpAnyH_ready (rs := [18]) (by kernel_rfl) (by simp) ?_
  refine AllReadyH.cons (o := _) rfl (fun K hK => ?_) AllReadyH.nil
  go_simp
  obtain ⟨X2, hX2⟩ : ∃ X, X1.setCell ⟨W.heap.size, 1, none⟩ (.slice (some ⟨h3, 0, none⟩) N k3) = X := ⟨_, rfl⟩
  rw [hX2]
  have hHeld6 : X2.cell? ⟨G, 0, none⟩ = some (.slice (some ⟨gn, 0, none⟩) N cn) ∧ X2.cell? ⟨G, 1, none⟩ = some (.slice (some ⟨gs, 0, none⟩) N cs) ∧ X2.cell? ⟨G, 2, none⟩ = some (.slice q l c) := by
    rw [← hX2]
    exact ⟨(World.cell?_setCell_far _ _ _ _ hGc).trans hHeld5.1, (World.cell?_setCell_far _ _ _ _ hGc).trans hHeld5.2.1, (World.cell?_setCell_far _ _ _ _ hGc).trans hHeld5.2.2⟩
  have n6 := u_row (k := 1) (.slice (some ⟨h3, 0, none⟩) N k3) n5
  rw [hX2] at n6
  have HX1 := Lib.hid hX2
  refine hK.out _ _ hHeld6 (fun _ => ?_)
  clear hK K hHeld5 hX2 cc1 ff1 n5
  try simp only [Act.put, List.getElem_toArray, List.getElem_cons_zero, List.getElem_cons_succ, List.setIfInBounds_toArray, List.set_cons_zero, List.set_cons_succ]
  refine wpAnyH_take (i := 19) (oi := _) (v := ?vc19) rfl (by kernel_rfl) (by kernel_rfl) (by kernel_rfl) (fun _ _ _ h => h) (Or.inl ⟨by rfl, ?hyc19⟩) (by assumption) ?restc19
  case hyc19 =>
    intro W hSw
    clear hSw
    go_simp
    try (with_reducible rfl)
  try simp only [Act.put, List.getElem_toArray, List.getElem_cons_zero, List.getElem_cons_succ, List.setIfInBounds_toArray, List.set_cons_zero, List.set_cons_succ]
  have cc2 : ∃ u, X2.cell? ⟨W.heap.size, 2, none⟩ = some u := ⟨_, by rw [cell_of_row _ _ _ _ _ _ n6]; rfl⟩
  obtain ⟨uu2, cc2⟩ := cc2
  have ff2 : X2.frozen? ⟨W.heap.size, 2, none⟩ = false := frozen_of_row _ _ _ _ _ n6
  refine wpAnyH_ready (rs := [20]) (by kernel_rfl) (by simp) ?_
  refine AllReadyH.cons (o := _) rfl (fun K hK => ?_) AllReadyH.nil
  go_simp
  obtain ⟨X3, hX3⟩ : ∃ X, X2.setCell ⟨W.heap.size, 2, none⟩ (.slice q4 l c4) = X := ⟨_, rfl⟩
  rw [hX3]
  have hHeld7 : X3.cell? ⟨G, 0, none⟩ = some (.slice (some ⟨gn, 0, none⟩) N cn) ∧ X3.cell? ⟨G, 1, none⟩ = some (.slice (some ⟨gs, 0, none⟩) N cs) ∧ X3.cell? ⟨G, 2, none⟩ = some (.slice q l c) := by
    rw [← hX3]
    exact ⟨(World.cell?_setCell_far _ _ _ _ hGc).trans hHeld6.1, (World.cell?_setCell_far _ _ _ _ hGc).trans hHeld6.2.1, (World.cell?_setCell_far _ _ _ _ hGc).trans hHeld6.2.2⟩
  have n7 := u_row (k := 2) (.slice q4 l c4) n6
  rw [hX3] at n7
  have HX2 := Lib.hid hX3
  refine hK.out _ _ hHeld7 (fun _ => ?_)
  clear hK K hHeld6 hX3 cc2 ff2 n6
  try simp only [Act.put, List.getElem_toArray, List.getElem_cons_zero, List.getElem_cons_succ, List.setIfInBounds_toArray, List.set_cons_zero, List.set_cons_succ]

  refine wpAnyH_done (by kernel_rfl) ?_ _
  go_wp2_with (fail)
  all_goals try (exfalso; omega; done)
  go_ret
  have hk : ∀ k, k ≠ W.heap.size → X3.heap[k]? = W4.heap[k]? := fun k hne => by
    rw [← HX2.out, ← HX1.out, ← HX0.out]
    exact ((set_other k hne).trans (set_other k hne)).trans (set_other k hne)
  have hz : X3.heap.size = W4.heap.size := by
    rw [← HX2.out, ← HX1.out, ← HX0.out, set_size, set_size, set_size]
  have hUz : U.heap.size = W.heap.size + 1 := by
    have h1 := HU.out.1.size
    have h2 := block_lt HU.out.2
    have := HUZ.out
    omega
  have z2 : U.heap.size ≤ h2 := H2.out.2.1
  have z2' : h2 < W2.heap.size := H2.out.2.2.1
  have z3' : W2.heap.size ≤ h3 := H3.out.2.1
  have z3'' : h3 < W3.heap.size := H3.out.2.2.1
  have z34 := H4.out.2.2.2.1.size
  have z23 := H3.out.2.2.2.2.size
  have hq4 : ∀ k, (Value.slice q4 l c4).ownBlock = some k → W3.heap.size ≤ k ∧ k < W4.heap.size := fun k e => ⟨H4.out.2.1 k e, (H4.out.1.lt k e).2⟩
  refine ⟨W.heap.size, fun k => k = W.heap.size ∨ k = h2 ∨ k = h3 ∨ (Value.slice q4 l c4).ownBlock = some k, rfl, ⟨h2, h3, k2, k3, q4, c4, ⟨?_, HD.out.ok, ?_, ?_, ?_, .inl rfl, .inr (.inl rfl), .inr (.inr (.inl rfl)), ?_, ?_, ?_, ⟨HD.out.big.1, H2.out.2.2.2.1, H3.out.2.2.2.1, HD.out.big.2.2.2⟩, fun e => H4.out.2.2.1 (HD.out.nil e)⟩⟩, ?_, ?_⟩
  · rw [HL.out, HZ.out.1, HZ.out.2.1, HZ.out.2.2.1, HZ.out.2.2.2]
    exact n7
  · exact H2.out.1.block ((hk h2 (by omega)).trans ((H4.out.2.2.2.1.block h2 (by omega)).trans (H3.out.2.2.2.2.block h2 z2')))
  · exact H3.out.1.block ((hk h3 (by omega)).trans (H4.out.2.2.2.1.block h3 z3''))
  · rw [HL.out]
    exact owns_block H4.out.1 (fun k e => hk k (by have := (hq4 k e).1; omega))
  · rw [HL.out]
    exact fun k e => .inr (.inr (.inr e))
  · intro k e
    rw [hz]
    rcases e with e | e | e | e
    · omega
    · omega
    · omega
    · exact (hq4 k e).2
  · rw [HL.out]
    exact ⟨by omega, by omega, by omega, fun k e => by have := (hq4 k e).1; omega⟩
  · rw [← HX2.out, ← HX1.out, ← HX0.out]
    exact (((H4.out.2.2.2.2.trans (H4.out.2.2.2.1.mono H4.out.2.2.2.2.size)).setCell (Nat.le_refl _) _).setCell (Nat.le_refl _) _).setCell (Nat.le_refl _) _
  · intro k e
    rcases e with e | e | e | e
    · omega
    · omega
    · omega
    · have := (hq4 k e).1; omega
end Go.Proofs.Ytlkffignbjpfcaa
