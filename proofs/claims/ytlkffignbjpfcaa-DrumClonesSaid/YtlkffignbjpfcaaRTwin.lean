/- Proved here: the document's Twin, walked. -/
import Derived.Test.YtlkffignbjpfcaaTwinKit
import Derived.Test.YtlkffignbjpfcaaDrumWrite
import Derived.Handy
import Derived.Deep.RegionHeld3
namespace Go.Proofs.Ytlkffignbjpfcaa
open Go.RowKit

set_option maxRecDepth 100000 in
set_option maxHeartbeats 16000000 in
theorem rtwin_any (W : World) (X : Nat → Prop) (R N : Nat) (M : DM) (h : RDrum W X R N M) (hlo : M.loose.length ≤ 1000000) :
    Calls Try.prog 10 #[.pointer (some ⟨R, 0, none⟩)] W (TwinOut W X N M) := by
  obtain ⟨s, q, cS, cL, Vs, Ws, hd⟩ := h
  obtain ⟨c0, c1, c2, c3, c4, _⟩ := hd.cells
  obtain ⟨iR, hiR, hzR, hsR, hbR⟩ := info_parts infoRow
  obtain ⟨iW, hiW, hzW, hsW, hbW⟩ := info_parts infoRW
  have hsn : s = none → cS = 0 := fun e => by
    rcases hd.safe.2 with ⟨e1, _⟩ | ⟨g', c', cur, e1, _⟩
    · injection e1
    · rw [e] at e1; cases e1
  have hqn : q = none → cL = 0 := fun e => by
    rcases hd.loose.2 with ⟨e1, _⟩ | ⟨g', c', cur, e1, _⟩
    · injection e1
    · rw [e] at e1; cases e1
  have CS := Lib.hid (fun (w : World) (A B : Nat) (hA : w.heap[A]? = some (.cells #[] 33 (0, 0))) (hB : B ≤ A) (hb : Below W.heap.size W w) =>
    copy_at 28 33 iR _ 1 24 Try.underlying28 hiR hzR hsR hbR rfl (by decide) hA hB (owns_block hd.safe (fun k hk => hb.block k (hd.safe.lt k hk).2)) hsn hd.vone.1 (by have := hd.big.1; omega) (by have := hd.big.1; omega))
  have CL := Lib.hid (fun (w : World) (A B : Nat) (hA : w.heap[A]? = some (.cells #[] 107 (0, 0))) (hB : B ≤ A) (hb : Below W.heap.size W w) =>
    copy_at 29 107 iW _ 2 32 Try.underlying29 hiW hzW hsW hbW rfl (by decide) hA hB (owns_block hd.loose (fun k hk => hb.block k (hd.loose.lt k hk).2)) hqn (rwV_one _ _ hd.vone.2) (by omega) (by omega))
  have HD := Lib.hid hd
  obtain ⟨L, hL⟩ : ∃ L, M.loose.length = L := ⟨_, rfl⟩
  obtain ⟨z2, hz2⟩ : ∃ z, (M.steps : Int) = z := ⟨_, rfl⟩
  obtain ⟨z3, hz3⟩ : ∃ z, fuseZ M.fuse = z := ⟨_, rfl⟩
  obtain ⟨z4, hz4⟩ : ∃ z, M.down = z := ⟨_, rfl⟩
  rw [hL] at c1 CL
  rw [hz2] at c2
  rw [hz3] at c3
  rw [hz4] at c4
  have HZ := Lib.hid (And.intro hL (And.intro hz2 (And.intro hz3 hz4)))
  clear hd hlo hiR hzR hsR hbR hiW hzW hsW hbW hsn hqn hL hz2 hz3 hz4
  go_enter Try.func10, Try.ntmps10
  go_wp2_with (fail)
  obtain ⟨U, hU⟩ : ∃ U, W.alloc (.cells #[.slice none 0 0, .slice none 0 0, .int .i64 0, .int .i64 0, .bool false] 31) = U := ⟨_, rfl⟩
  rw [hU]
  have bU : Below W.heap.size W U := by rw [← hU]; exact (Below.refl _ _).alloc (Nat.le_refl _) _
  have nU : U.heap[W.heap.size]? = some (.cells #[.slice none 0 0, .slice none 0 0, .int .i64 0, .int .i64 0, .bool false] 31 (0, 0)) := by rw [← hU]; exact heap_alloc_new _ _
  have zU : U.heap.size = W.heap.size + 1 := by rw [← hU]; simp
  have g0 := hb_cell bU c0
  have g1 := hb_cell bU c1
  have g2 := hb_cell bU c2
  have g3 := hb_cell bU c3
  have g4 := hb_cell bU c4
  have HU := Lib.hid (And.intro bU (And.intro nU zU))
  clear hU c0 c1 c2 c3 c4
  have HS := Lib.hid (fun (W' : World) (hb : Below U.heap.size U W') => (show W'.cell? ⟨R, 0, none⟩ = some (.slice s N cS) ∧ W'.cell? ⟨R, 1, none⟩ = some (.slice q L cL) ∧ W'.cell? ⟨R, 2, none⟩ = some (.int .i64 z2) ∧ W'.cell? ⟨R, 3, none⟩ = some (.int .i64 z3) ∧ W'.cell? ⟨R, 4, none⟩ = some (.bool z4) from ⟨hb_cell hb g0, hb_cell hb g1, hb_cell hb g2, hb_cell hb g3, hb_cell hb g4⟩))
  refine wp_region_held_drew (S := fun W' => W'.cell? ⟨R, 0, none⟩ = some (.slice s N cS) ∧ W'.cell? ⟨R, 1, none⟩ = some (.slice q L cL) ∧ W'.cell? ⟨R, 2, none⟩ = some (.int .i64 z2) ∧ W'.cell? ⟨R, 3, none⟩ = some (.int .i64 z3) ∧ W'.cell? ⟨R, 4, none⟩ = some (.bool z4)) (by kernel_rfl) ⟨g0, g1, g2, g3, g4⟩ (fun hHeld => ?_)
  have b0 : Below U.heap.size U U.drew := (Below.refl _ _).drew
  clear g0 g1 g2 g3 g4 bU nU zU
  refine wpAnyH_take (i := 1) (oi := _) (v := ?v1) rfl (by kernel_rfl) (by kernel_rfl) (by kernel_rfl) (fun _ _ _ h => h) (Or.inl ⟨by rfl, ?hy1⟩) (by assumption) ?rest1
  case hy1 =>
    intro W hSw
    clear hSw
    go_simp
    try (with_reducible rfl)
  try simp only [Act.put, List.getElem_toArray, List.getElem_cons_zero, List.getElem_cons_succ, List.setIfInBounds_toArray, List.set_cons_zero, List.set_cons_succ]
  refine wpAnyH_take (i := 2) (oi := _) (v := ?v2) rfl (by kernel_rfl) (by kernel_rfl) (by kernel_rfl) (fun _ _ _ h => h) (Or.inl ⟨by rfl, ?hy2⟩) (by assumption) ?rest2
  case hy2 =>
    intro W hSw
    clear hSw
    go_simp
    try (with_reducible rfl)
  try simp only [Act.put, List.getElem_toArray, List.getElem_cons_zero, List.getElem_cons_succ, List.setIfInBounds_toArray, List.set_cons_zero, List.set_cons_succ]
  refine wpAnyH_take (i := 3) (oi := _) (v := ?v3) rfl (by kernel_rfl) (by kernel_rfl) (by kernel_rfl) (fun _ _ _ h => h) (Or.inl ⟨by rfl, ?hy3⟩) (by assumption) ?rest3
  case hy3 =>
    intro W hSw
    clear hSw
    go_simp
    try (with_reducible rfl)
  try simp only [Act.put, List.getElem_toArray, List.getElem_cons_zero, List.getElem_cons_succ, List.setIfInBounds_toArray, List.set_cons_zero, List.set_cons_succ]
  refine wpAnyH_take (i := 4) (oi := _) (v := ?v4) rfl (by kernel_rfl) (by kernel_rfl) (by kernel_rfl) (fun _ _ _ h => h) (Or.inl ⟨by rfl, ?hy4⟩) (by assumption) ?rest4
  case hy4 =>
    intro W hSw
    obtain ⟨e0, e1, e2, e3, e4⟩ := hSw
    go_simp
    try (with_reducible rfl)
  try simp only [Act.put, List.getElem_toArray, List.getElem_cons_zero, List.getElem_cons_succ, List.setIfInBounds_toArray, List.set_cons_zero, List.set_cons_succ]
  refine wpAnyH_take (i := 7) (oi := _) (v := ?v7) rfl (by kernel_rfl) (by kernel_rfl) (by kernel_rfl) (fun _ _ _ h => h) (Or.inl ⟨by rfl, ?hy7⟩) (by assumption) ?rest7
  case hy7 =>
    intro W hSw
    clear hSw
    go_simp
    try (with_reducible rfl)
  try simp only [Act.put, List.getElem_toArray, List.getElem_cons_zero, List.getElem_cons_succ, List.setIfInBounds_toArray, List.set_cons_zero, List.set_cons_succ]
  refine wpAnyH_take (i := 8) (oi := _) (v := ?v8) rfl (by kernel_rfl) (by kernel_rfl) (by kernel_rfl) (fun _ _ _ h => h) (Or.inl ⟨by rfl, ?hy8⟩) (by assumption) ?rest8
  case hy8 =>
    intro W hSw
    clear hSw
    go_simp
    try (with_reducible rfl)
  try simp only [Act.put, List.getElem_toArray, List.getElem_cons_zero, List.getElem_cons_succ, List.setIfInBounds_toArray, List.set_cons_zero, List.set_cons_succ]
  refine wpAnyH_take (i := 9) (oi := _) (v := ?v9) rfl (by kernel_rfl) (by kernel_rfl) (by kernel_rfl) (fun _ _ _ h => h) (Or.inl ⟨by rfl, ?hy9⟩) (by assumption) ?rest9
  case hy9 =>
    intro W hSw
    clear hSw
    go_simp
    try (with_reducible rfl)
  try simp only [Act.put, List.getElem_toArray, List.getElem_cons_zero, List.getElem_cons_succ, List.setIfInBounds_toArray, List.set_cons_zero, List.set_cons_succ]
  refine wpAnyH_take (i := 10) (oi := _) (v := ?v10) rfl (by kernel_rfl) (by kernel_rfl) (by kernel_rfl) (fun _ _ _ h => h) (Or.inl ⟨by rfl, ?hy10⟩) (by assumption) ?rest10
  case hy10 =>
    intro W hSw
    obtain ⟨e0, e1, e2, e3, e4⟩ := hSw
    go_simp
    try (with_reducible rfl)
  try simp only [Act.put, List.getElem_toArray, List.getElem_cons_zero, List.getElem_cons_succ, List.setIfInBounds_toArray, List.set_cons_zero, List.set_cons_succ]
  refine wpAnyH_take (i := 12) (oi := _) (v := ?v12) rfl (by kernel_rfl) (by kernel_rfl) (by kernel_rfl) (fun _ _ _ h => h) (Or.inl ⟨by rfl, ?hy12⟩) (by assumption) ?rest12
  case hy12 =>
    intro W hSw
    clear hSw
    go_simp
    try (with_reducible rfl)
  try simp only [Act.put, List.getElem_toArray, List.getElem_cons_zero, List.getElem_cons_succ, List.setIfInBounds_toArray, List.set_cons_zero, List.set_cons_succ]
  refine wpAnyH_take (i := 13) (oi := _) (v := ?v13) rfl (by kernel_rfl) (by kernel_rfl) (by kernel_rfl) (fun _ _ _ h => h) (Or.inl ⟨by rfl, ?hy13⟩) (by assumption) ?rest13
  case hy13 =>
    intro W hSw
    clear hSw
    go_simp
    try (with_reducible rfl)
  try simp only [Act.put, List.getElem_toArray, List.getElem_cons_zero, List.getElem_cons_succ, List.setIfInBounds_toArray, List.set_cons_zero, List.set_cons_succ]
  refine wpAnyH_take (i := 14) (oi := _) (v := ?v14) rfl (by kernel_rfl) (by kernel_rfl) (by kernel_rfl) (fun _ _ _ h => h) (Or.inl ⟨by rfl, ?hy14⟩) (by assumption) ?rest14
  case hy14 =>
    intro W hSw
    clear hSw
    go_simp
    try (with_reducible rfl)
  try simp only [Act.put, List.getElem_toArray, List.getElem_cons_zero, List.getElem_cons_succ, List.setIfInBounds_toArray, List.set_cons_zero, List.set_cons_succ]
  refine wpAnyH_take (i := 15) (oi := _) (v := ?v15) rfl (by kernel_rfl) (by kernel_rfl) (by kernel_rfl) (fun _ _ _ h => h) (Or.inl ⟨by rfl, ?hy15⟩) (by assumption) ?rest15
  case hy15 =>
    intro W hSw
    obtain ⟨e0, e1, e2, e3, e4⟩ := hSw
    go_simp
    try (with_reducible rfl)
  try simp only [Act.put, List.getElem_toArray, List.getElem_cons_zero, List.getElem_cons_succ, List.setIfInBounds_toArray, List.set_cons_zero, List.set_cons_succ]
  refine wpAnyH_take (i := 16) (oi := _) (v := ?v16) rfl (by kernel_rfl) (by kernel_rfl) (by kernel_rfl) (fun _ _ _ h => h) (Or.inl ⟨by rfl, ?hy16⟩) (by assumption) ?rest16
  case hy16 =>
    intro W hSw
    clear hSw
    go_simp
    try (with_reducible rfl)
  try simp only [Act.put, List.getElem_toArray, List.getElem_cons_zero, List.getElem_cons_succ, List.setIfInBounds_toArray, List.set_cons_zero, List.set_cons_succ]
  refine wpAnyH_take (i := 17) (oi := _) (v := ?v17) rfl (by kernel_rfl) (by kernel_rfl) (by kernel_rfl) (fun _ _ _ h => h) (Or.inl ⟨by rfl, ?hy17⟩) (by assumption) ?rest17
  case hy17 =>
    intro W hSw
    clear hSw
    go_simp
    try (with_reducible rfl)
  try simp only [Act.put, List.getElem_toArray, List.getElem_cons_zero, List.getElem_cons_succ, List.setIfInBounds_toArray, List.set_cons_zero, List.set_cons_succ]
  refine wpAnyH_take (i := 18) (oi := _) (v := ?v18) rfl (by kernel_rfl) (by kernel_rfl) (by kernel_rfl) (fun _ _ _ h => h) (Or.inl ⟨by rfl, ?hy18⟩) (by assumption) ?rest18
  case hy18 =>
    intro W hSw
    clear hSw
    go_simp
    try (with_reducible rfl)
  try simp only [Act.put, List.getElem_toArray, List.getElem_cons_zero, List.getElem_cons_succ, List.setIfInBounds_toArray, List.set_cons_zero, List.set_cons_succ]
  refine wpAnyH_take (i := 19) (oi := _) (v := ?v19) rfl (by kernel_rfl) (by kernel_rfl) (by kernel_rfl) (fun _ _ _ h => h) (Or.inl ⟨by rfl, ?hy19⟩) (by assumption) ?rest19
  case hy19 =>
    intro W hSw
    obtain ⟨e0, e1, e2, e3, e4⟩ := hSw
    go_simp
    try (with_reducible rfl)
  try simp only [Act.put, List.getElem_toArray, List.getElem_cons_zero, List.getElem_cons_succ, List.setIfInBounds_toArray, List.set_cons_zero, List.set_cons_succ]
  refine wpAnyH_take (i := 20) (oi := _) (v := ?v20) rfl (by kernel_rfl) (by kernel_rfl) (by kernel_rfl) (fun _ _ _ h => h) (Or.inl ⟨by rfl, ?hy20⟩) (by assumption) ?rest20
  case hy20 =>
    intro W hSw
    clear hSw
    go_simp
    try (with_reducible rfl)
  try simp only [Act.put, List.getElem_toArray, List.getElem_cons_zero, List.getElem_cons_succ, List.setIfInBounds_toArray, List.set_cons_zero, List.set_cons_succ]
  refine wpAnyH_take (i := 21) (oi := _) (v := ?v21) rfl (by kernel_rfl) (by kernel_rfl) (by kernel_rfl) (fun _ _ _ h => h) (Or.inl ⟨by rfl, ?hy21⟩) (by assumption) ?rest21
  case hy21 =>
    intro W hSw
    clear hSw
    go_simp
    try (with_reducible rfl)
  try simp only [Act.put, List.getElem_toArray, List.getElem_cons_zero, List.getElem_cons_succ, List.setIfInBounds_toArray, List.set_cons_zero, List.set_cons_succ]
  refine wpAnyH_take (i := 22) (oi := _) (v := ?v22) rfl (by kernel_rfl) (by kernel_rfl) (by kernel_rfl) (fun _ _ _ h => h) (Or.inl ⟨by rfl, ?hy22⟩) (by assumption) ?rest22
  case hy22 =>
    intro W hSw
    clear hSw
    go_simp
    try (with_reducible rfl)
  try simp only [Act.put, List.getElem_toArray, List.getElem_cons_zero, List.getElem_cons_succ, List.setIfInBounds_toArray, List.set_cons_zero, List.set_cons_succ]
  refine wpAnyH_take (i := 23) (oi := _) (v := ?v23) rfl (by kernel_rfl) (by kernel_rfl) (by kernel_rfl) (fun _ _ _ h => h) (Or.inl ⟨by rfl, ?hy23⟩) (by assumption) ?rest23
  case hy23 =>
    intro W hSw
    obtain ⟨e0, e1, e2, e3, e4⟩ := hSw
    go_simp
    try (with_reducible rfl)
  try simp only [Act.put, List.getElem_toArray, List.getElem_cons_zero, List.getElem_cons_succ, List.setIfInBounds_toArray, List.set_cons_zero, List.set_cons_succ]
  obtain ⟨X0, hX0⟩ : ∃ X, X = U.drew := ⟨_, rfl⟩
  rw [← hX0] at b0 hHeld ⊢
  clear hX0
  refine wpAnyH_ready (rs := [0, 6]) (by kernel_rfl) (by simp) ?_
  refine AllReadyH.cons (o := _) rfl (fun K hK => ?_) (AllReadyH.cons (o := _) rfl (fun K hK => ?_) AllReadyH.nil)
  · skip
    go_simp
    have hB1 : W.heap.size ≤ X0.heap.size := Nat.le_trans HU.out.1.size b0.size
    have na1 := lit_row (w := X0) (e := 33)
    have bb1 := b0.alloc b0.size (.cells #[] 33)
    obtain ⟨X1, hY1⟩ : ∃ Y, X0.alloc (.cells #[] 33) = Y := ⟨_, rfl⟩
    have hU1 : U.heap.size ≤ X0.heap.size := b0.size
    obtain ⟨A1, hA1⟩ : ∃ A, X0.heap.size = A := ⟨_, rfl⟩
    rw [hY1] at na1 bb1 ⊢
    rw [hA1] at na1 hB1 hU1 ⊢
    have b1 := bb1
    clear hY1 hA1 bb1
    have HAU1 := Lib.hid hU1
    refine hK.out _ _ (HS.out _ b1) (fun _ => ?_)
    clear hK K
    try simp only [Act.put, List.getElem_toArray, List.getElem_cons_zero, List.getElem_cons_succ, List.setIfInBounds_toArray, List.set_cons_zero, List.set_cons_succ]
    refine wpAnyH_ready (rs := [5, 6]) (by kernel_rfl) (by simp) ?_
    refine AllReadyH.cons (o := _) rfl (fun K hK => ?_) (AllReadyH.cons (o := _) rfl (fun K hK => ?_) AllReadyH.nil)
    · skip
      obtain ⟨g2, k2, X2, hr2, ow2, ht2, hg2, lt2⟩ := CS.out X1 A1 U.heap.size na1 HAU1.out (cat_b HU.out.1 b1)
      have hUA2 : U.heap.size ≤ A1 := HAU1.out
      refine step_of rfl (wp_append_eq (.tmp 3) (.tmp 7) 28 rfl (.slice (some ⟨A1, 0, none⟩) 0 0) (.slice s N cS) (.slice (some ⟨g2, 0, none⟩) N k2) X2 (by rfl) (by rfl) hr2 ?_)
      have b2 : Below U.heap.size U X2 := b1.trans (ht2.below (fun k e => by have e' : k = A1 := e; rw [e']; exact hUA2) b1.size)
      refine hK.out _ _ (HS.out _ b2) (fun _ => ?_)
      clear hK K
      try simp only [Act.put, List.getElem_toArray, List.getElem_cons_zero, List.getElem_cons_succ, List.setIfInBounds_toArray, List.set_cons_zero, List.set_cons_succ]
      refine wpAnyH_ready (rs := [6]) (by kernel_rfl) (by simp) ?_
      refine AllReadyH.cons (o := _) rfl (fun K hK => ?_) AllReadyH.nil
      go_simp
      have hB3 : W.heap.size ≤ X2.heap.size := Nat.le_trans HU.out.1.size b2.size
      have na3 := lit_row (w := X2) (e := 107)
      have bb3 := b2.alloc b2.size (.cells #[] 107)
      have nb3 := own_lit (f := 107) ow2 lt2
      have lt3 : g2 < (X2.alloc (.cells #[] 107)).heap.size := by have := lt2; simp; omega
      have ne3 : g2 ≠ X2.heap.size := by have := lt2; omega
      obtain ⟨X3, hY3⟩ : ∃ Y, X2.alloc (.cells #[] 107) = Y := ⟨_, rfl⟩
      have hU3 : U.heap.size ≤ X2.heap.size := b2.size
      obtain ⟨A3, hA3⟩ : ∃ A, X2.heap.size = A := ⟨_, rfl⟩
      rw [hY3] at na3 bb3 nb3 lt3 ⊢
      rw [hA3] at na3 hB3 ne3 hU3 ⊢
      have b3 := bb3
      clear hY3 hA3 bb3
      have HAU3 := Lib.hid hU3
      refine hK.out _ _ (HS.out _ b3) (fun _ => ?_)
      clear hK K
      try simp only [Act.put, List.getElem_toArray, List.getElem_cons_zero, List.getElem_cons_succ, List.setIfInBounds_toArray, List.set_cons_zero, List.set_cons_succ]
      refine wpAnyH_ready (rs := [11]) (by kernel_rfl) (by simp) ?_
      refine AllReadyH.cons (o := _) rfl (fun K hK => ?_) AllReadyH.nil
      obtain ⟨g4, k4, X4, hr4, ow4, ht4, hg4, lt4⟩ := CL.out X3 A3 U.heap.size na3 HAU3.out (cat_b HU.out.1 b3)
      have hUA4 : U.heap.size ≤ A3 := HAU3.out
      refine step_of rfl (wp_append_eq (.tmp 9) (.tmp 13) 29 rfl (.slice (some ⟨A3, 0, none⟩) 0 0) (.slice q L cL) (.slice (some ⟨g4, 0, none⟩) L k4) X4 (by rfl) (by rfl) hr4 ?_)
      have b4 : Below U.heap.size U X4 := b3.trans (ht4.below (fun k e => by have e' : k = A3 := e; rw [e']; exact hUA4) b3.size)
      have nb4 := own_touch nb3 ht4 lt3 ne3
      have lu4 := Nat.lt_of_lt_of_le lt3 ht4.size
      refine hK.out _ _ (HS.out _ b4) (fun _ => ?_)
      clear hK K
      try simp only [Act.put, List.getElem_toArray, List.getElem_cons_zero, List.getElem_cons_succ, List.setIfInBounds_toArray, List.set_cons_zero, List.set_cons_succ]
      have hHeld5 := HS.out _ b4
      refine wpAnyH_take (i := 24) (oi := _) (v := ?v24_5) rfl (by kernel_rfl) (by kernel_rfl) (by kernel_rfl) (fun _ _ _ h => h) (Or.inl ⟨by rfl, ?hy24_5⟩) hHeld5 ?rest24_5
      case hy24_5 =>
        intro W hSw
        clear hSw
        go_simp
        try (with_reducible rfl)
      try simp only [Act.put, List.getElem_toArray, List.getElem_cons_zero, List.getElem_cons_succ, List.setIfInBounds_toArray, List.set_cons_zero, List.set_cons_succ]
      have nR := (b4.block _ (block_lt HU.out.2.1)).trans HU.out.2.1
      have HE := Lib.hid (And.intro nb4 (And.intro ow4 b4))
      refine wpAnyH_ready (rs := [25]) (by kernel_rfl) (by simp) ?_
      refine AllReadyH.cons (o := _) rfl (fun K hK => ?_) AllReadyH.nil
      have ff0 : X4.frozen? ⟨W.heap.size, 0, none⟩ = false := frozen_of_row _ _ _ _ _ nR
      have ff1 : X4.frozen? ⟨W.heap.size, 1, none⟩ = false := frozen_of_row _ _ _ _ _ nR
      have ff2 : X4.frozen? ⟨W.heap.size, 2, none⟩ = false := frozen_of_row _ _ _ _ _ nR
      have ff3 : X4.frozen? ⟨W.heap.size, 3, none⟩ = false := frozen_of_row _ _ _ _ _ nR
      have ff4 : X4.frozen? ⟨W.heap.size, 4, none⟩ = false := frozen_of_row _ _ _ _ _ nR
      have cc0 : X4.cell? ⟨W.heap.size, 0, none⟩ = some (.slice none 0 0) := by rw [cell_of_row _ _ _ _ _ _ nR]; rfl
      have cc1 : X4.cell? ⟨W.heap.size, 1, none⟩ = some (.slice none 0 0) := by rw [cell_of_row _ _ _ _ _ _ nR]; rfl
      have cc2 : X4.cell? ⟨W.heap.size, 2, none⟩ = some (.int .i64 0) := by rw [cell_of_row _ _ _ _ _ _ nR]; rfl
      have cc3 : X4.cell? ⟨W.heap.size, 3, none⟩ = some (.int .i64 0) := by rw [cell_of_row _ _ _ _ _ _ nR]; rfl
      have cc4 : X4.cell? ⟨W.heap.size, 4, none⟩ = some (.bool false) := by rw [cell_of_row _ _ _ _ _ _ nR]; rfl
      go_simp
      obtain ⟨V, hV⟩ : ∃ V, ((((X4.setCell ⟨W.heap.size, 0, none⟩ (.slice (some ⟨g2, 0, none⟩) N k2)).setCell ⟨W.heap.size, 1, none⟩ (.slice (some ⟨g4, 0, none⟩) L k4)).setCell ⟨W.heap.size, 2, none⟩ (.int .i64 z2)).setCell ⟨W.heap.size, 3, none⟩ (.int .i64 z3)).setCell ⟨W.heap.size, 4, none⟩ (.bool z4) = V := ⟨_, rfl⟩
      rw [hV]
      have nV : V.heap[W.heap.size]? = some (.cells #[.slice (some ⟨g2, 0, none⟩) N k2, .slice (some ⟨g4, 0, none⟩) L k4, .int .i64 z2, .int .i64 z3, .bool z4] 31 (0, 0)) := by
        rw [← hV]
        exact u_row (k := 4) (.bool z4) (u_row (k := 3) (.int .i64 z3) (u_row (k := 2) (.int .i64 z2) (u_row (k := 1) (.slice (some ⟨g4, 0, none⟩) L k4) (u_row (k := 0) (.slice (some ⟨g2, 0, none⟩) N k2) nR))))
      have oV : ∀ k, k ≠ W.heap.size → V.heap[k]? = X4.heap[k]? := fun k hne => by
        rw [← hV]
        exact ((((set_other k hne).trans (set_other k hne)).trans (set_other k hne)).trans (set_other k hne)).trans (set_other k hne)
      have tV : Touch (Only W.heap.size) X4 V := by
        rw [← hV]
        exact (((((Touch.refl _ _).set1 _).set1 _).set1 _).set1 _).set1 _
      have hRW : R < W.heap.size := block_lt HD.out.blk
      have hHeldV : V.cell? ⟨R, 0, none⟩ = some (.slice s N cS) ∧ V.cell? ⟨R, 1, none⟩ = some (.slice q L cL) ∧ V.cell? ⟨R, 2, none⟩ = some (.int .i64 z2) ∧ V.cell? ⟨R, 3, none⟩ = some (.int .i64 z3) ∧ V.cell? ⟨R, 4, none⟩ = some (.bool z4) := by
        have hc : ∀ j, V.cell? ⟨R, j, none⟩ = X4.cell? ⟨R, j, none⟩ := fun j => World.cell?_of_block (oV R (by omega))
        rw [hc, hc, hc, hc, hc]
        exact hHeld5
      have dd0 : V.cell? ⟨W.heap.size, 0, none⟩ = some (.slice (some ⟨g2, 0, none⟩) N k2) := by rw [cell_of_row _ _ _ _ _ _ nV]; rfl
      have dd1 : V.cell? ⟨W.heap.size, 1, none⟩ = some (.slice (some ⟨g4, 0, none⟩) L k4) := by rw [cell_of_row _ _ _ _ _ _ nV]; rfl
      have dd2 : V.cell? ⟨W.heap.size, 2, none⟩ = some (.int .i64 z2) := by rw [cell_of_row _ _ _ _ _ _ nV]; rfl
      have dd3 : V.cell? ⟨W.heap.size, 3, none⟩ = some (.int .i64 z3) := by rw [cell_of_row _ _ _ _ _ _ nV]; rfl
      have dd4 : V.cell? ⟨W.heap.size, 4, none⟩ = some (.bool z4) := by rw [cell_of_row _ _ _ _ _ _ nV]; rfl
      have HV := Lib.hid (And.intro oV tV)
      refine hK.out _ _ hHeldV (fun _ => ?_)
      clear hK K ff0 ff1 ff2 ff3 ff4 cc0 cc1 cc2 cc3 cc4 nR nV oV tV hV hRW hHeldV hHeld hHeld5 b4
      refine wpAnyH_done (by kernel_rfl) ?_ _
      go_wp2_with (fail)
      try simp only [Exit.inBlock, Exit.then]
      refine bodyPost_ret (by simp [results, Try.results10, go_sem, dd0, dd1, dd2, dd3, dd4]; rfl) rfl ?_
      refine ⟨g2, g4, k2, k4, Vs, Ws, ?_, own_base (own_set5 HE.out.1 HV.out.1 (by have := HU.out.2.2; omega)) HU.out.1.size, ?_, HD.out.rows, HD.out.wlen, HD.out.wrows, ?_⟩
      · rw [HZ.out.1, HZ.out.2.1, HZ.out.2.2.1, HZ.out.2.2.2]
      · rw [HZ.out.1]
        exact own_base (own_set5 HE.out.2.1 HV.out.1 (by have := HU.out.2.2; omega)) HU.out.1.size
      · have h1 := cat_b HU.out.1 HE.out.2.2
        exact h1.trans (HV.out.2.below (fun k e => by have e' : k = W.heap.size := e; omega) h1.size)
    · skip
      go_simp
      have hB6 : W.heap.size ≤ X1.heap.size := Nat.le_trans HU.out.1.size b1.size
      have na6 := lit_row (w := X1) (e := 107)
      have bb6 := b1.alloc b1.size (.cells #[] 107)
      have nb6 := lit_keep (f := 107) na1
      have ne6 : A1 ≠ X1.heap.size := by have := block_lt na1; omega
      obtain ⟨X6, hY6⟩ : ∃ Y, X1.alloc (.cells #[] 107) = Y := ⟨_, rfl⟩
      have hU6 : U.heap.size ≤ X1.heap.size := b1.size
      obtain ⟨A6, hA6⟩ : ∃ A, X1.heap.size = A := ⟨_, rfl⟩
      rw [hY6] at na6 bb6 nb6 ⊢
      rw [hA6] at na6 hB6 ne6 hU6 ⊢
      have b6 := bb6
      clear hY6 hA6 bb6
      have HAU6 := Lib.hid hU6
      refine hK.out _ _ (HS.out _ b6) (fun _ => ?_)
      clear hK K
      try simp only [Act.put, List.getElem_toArray, List.getElem_cons_zero, List.getElem_cons_succ, List.setIfInBounds_toArray, List.set_cons_zero, List.set_cons_succ]
      refine wpAnyH_ready (rs := [5]) (by kernel_rfl) (by simp) ?_
      refine AllReadyH.cons (o := _) rfl (fun K hK => ?_) AllReadyH.nil
      obtain ⟨g7, k7, X7, hr7, ow7, ht7, hg7, lt7⟩ := CS.out X6 A1 U.heap.size nb6 HAU1.out (cat_b HU.out.1 b6)
      have hUA7 : U.heap.size ≤ A1 := HAU1.out
      refine step_of rfl (wp_append_eq (.tmp 3) (.tmp 7) 28 rfl (.slice (some ⟨A1, 0, none⟩) 0 0) (.slice s N cS) (.slice (some ⟨g7, 0, none⟩) N k7) X7 (by rfl) (by rfl) hr7 ?_)
      have b7 : Below U.heap.size U X7 := b6.trans (ht7.below (fun k e => by have e' : k = A1 := e; rw [e']; exact hUA7) b6.size)
      have nb7 := lit_touch na6 ht7 (fun e => ne6 e.symm)
      have ne7 : g7 ≠ A6 := by have := block_lt na6; have h1 := ne6; rcases hg7 with h | h <;> omega
      refine hK.out _ _ (HS.out _ b7) (fun _ => ?_)
      clear hK K
      try simp only [Act.put, List.getElem_toArray, List.getElem_cons_zero, List.getElem_cons_succ, List.setIfInBounds_toArray, List.set_cons_zero, List.set_cons_succ]
      refine wpAnyH_ready (rs := [11]) (by kernel_rfl) (by simp) ?_
      refine AllReadyH.cons (o := _) rfl (fun K hK => ?_) AllReadyH.nil
      obtain ⟨g8, k8, X8, hr8, ow8, ht8, hg8, lt8⟩ := CL.out X7 A6 U.heap.size nb7 HAU6.out (cat_b HU.out.1 b7)
      have hUA8 : U.heap.size ≤ A6 := HAU6.out
      refine step_of rfl (wp_append_eq (.tmp 9) (.tmp 13) 29 rfl (.slice (some ⟨A6, 0, none⟩) 0 0) (.slice q L cL) (.slice (some ⟨g8, 0, none⟩) L k8) X8 (by rfl) (by rfl) hr8 ?_)
      have b8 : Below U.heap.size U X8 := b7.trans (ht8.below (fun k e => by have e' : k = A6 := e; rw [e']; exact hUA8) b7.size)
      have nb8 := own_touch ow7 ht8 lt7 ne7
      have lu8 := Nat.lt_of_lt_of_le lt7 ht8.size
      refine hK.out _ _ (HS.out _ b8) (fun _ => ?_)
      clear hK K
      try simp only [Act.put, List.getElem_toArray, List.getElem_cons_zero, List.getElem_cons_succ, List.setIfInBounds_toArray, List.set_cons_zero, List.set_cons_succ]
      have hHeld9 := HS.out _ b8
      refine wpAnyH_take (i := 24) (oi := _) (v := ?v24_9) rfl (by kernel_rfl) (by kernel_rfl) (by kernel_rfl) (fun _ _ _ h => h) (Or.inl ⟨by rfl, ?hy24_9⟩) hHeld9 ?rest24_9
      case hy24_9 =>
        intro W hSw
        clear hSw
        go_simp
        try (with_reducible rfl)
      try simp only [Act.put, List.getElem_toArray, List.getElem_cons_zero, List.getElem_cons_succ, List.setIfInBounds_toArray, List.set_cons_zero, List.set_cons_succ]
      have nR := (b8.block _ (block_lt HU.out.2.1)).trans HU.out.2.1
      have HE := Lib.hid (And.intro nb8 (And.intro ow8 b8))
      refine wpAnyH_ready (rs := [25]) (by kernel_rfl) (by simp) ?_
      refine AllReadyH.cons (o := _) rfl (fun K hK => ?_) AllReadyH.nil
      have ff0 : X8.frozen? ⟨W.heap.size, 0, none⟩ = false := frozen_of_row _ _ _ _ _ nR
      have ff1 : X8.frozen? ⟨W.heap.size, 1, none⟩ = false := frozen_of_row _ _ _ _ _ nR
      have ff2 : X8.frozen? ⟨W.heap.size, 2, none⟩ = false := frozen_of_row _ _ _ _ _ nR
      have ff3 : X8.frozen? ⟨W.heap.size, 3, none⟩ = false := frozen_of_row _ _ _ _ _ nR
      have ff4 : X8.frozen? ⟨W.heap.size, 4, none⟩ = false := frozen_of_row _ _ _ _ _ nR
      have cc0 : X8.cell? ⟨W.heap.size, 0, none⟩ = some (.slice none 0 0) := by rw [cell_of_row _ _ _ _ _ _ nR]; rfl
      have cc1 : X8.cell? ⟨W.heap.size, 1, none⟩ = some (.slice none 0 0) := by rw [cell_of_row _ _ _ _ _ _ nR]; rfl
      have cc2 : X8.cell? ⟨W.heap.size, 2, none⟩ = some (.int .i64 0) := by rw [cell_of_row _ _ _ _ _ _ nR]; rfl
      have cc3 : X8.cell? ⟨W.heap.size, 3, none⟩ = some (.int .i64 0) := by rw [cell_of_row _ _ _ _ _ _ nR]; rfl
      have cc4 : X8.cell? ⟨W.heap.size, 4, none⟩ = some (.bool false) := by rw [cell_of_row _ _ _ _ _ _ nR]; rfl
      go_simp
      obtain ⟨V, hV⟩ : ∃ V, ((((X8.setCell ⟨W.heap.size, 0, none⟩ (.slice (some ⟨g7, 0, none⟩) N k7)).setCell ⟨W.heap.size, 1, none⟩ (.slice (some ⟨g8, 0, none⟩) L k8)).setCell ⟨W.heap.size, 2, none⟩ (.int .i64 z2)).setCell ⟨W.heap.size, 3, none⟩ (.int .i64 z3)).setCell ⟨W.heap.size, 4, none⟩ (.bool z4) = V := ⟨_, rfl⟩
      rw [hV]
      have nV : V.heap[W.heap.size]? = some (.cells #[.slice (some ⟨g7, 0, none⟩) N k7, .slice (some ⟨g8, 0, none⟩) L k8, .int .i64 z2, .int .i64 z3, .bool z4] 31 (0, 0)) := by
        rw [← hV]
        exact u_row (k := 4) (.bool z4) (u_row (k := 3) (.int .i64 z3) (u_row (k := 2) (.int .i64 z2) (u_row (k := 1) (.slice (some ⟨g8, 0, none⟩) L k8) (u_row (k := 0) (.slice (some ⟨g7, 0, none⟩) N k7) nR))))
      have oV : ∀ k, k ≠ W.heap.size → V.heap[k]? = X8.heap[k]? := fun k hne => by
        rw [← hV]
        exact ((((set_other k hne).trans (set_other k hne)).trans (set_other k hne)).trans (set_other k hne)).trans (set_other k hne)
      have tV : Touch (Only W.heap.size) X8 V := by
        rw [← hV]
        exact (((((Touch.refl _ _).set1 _).set1 _).set1 _).set1 _).set1 _
      have hRW : R < W.heap.size := block_lt HD.out.blk
      have hHeldV : V.cell? ⟨R, 0, none⟩ = some (.slice s N cS) ∧ V.cell? ⟨R, 1, none⟩ = some (.slice q L cL) ∧ V.cell? ⟨R, 2, none⟩ = some (.int .i64 z2) ∧ V.cell? ⟨R, 3, none⟩ = some (.int .i64 z3) ∧ V.cell? ⟨R, 4, none⟩ = some (.bool z4) := by
        have hc : ∀ j, V.cell? ⟨R, j, none⟩ = X8.cell? ⟨R, j, none⟩ := fun j => World.cell?_of_block (oV R (by omega))
        rw [hc, hc, hc, hc, hc]
        exact hHeld9
      have dd0 : V.cell? ⟨W.heap.size, 0, none⟩ = some (.slice (some ⟨g7, 0, none⟩) N k7) := by rw [cell_of_row _ _ _ _ _ _ nV]; rfl
      have dd1 : V.cell? ⟨W.heap.size, 1, none⟩ = some (.slice (some ⟨g8, 0, none⟩) L k8) := by rw [cell_of_row _ _ _ _ _ _ nV]; rfl
      have dd2 : V.cell? ⟨W.heap.size, 2, none⟩ = some (.int .i64 z2) := by rw [cell_of_row _ _ _ _ _ _ nV]; rfl
      have dd3 : V.cell? ⟨W.heap.size, 3, none⟩ = some (.int .i64 z3) := by rw [cell_of_row _ _ _ _ _ _ nV]; rfl
      have dd4 : V.cell? ⟨W.heap.size, 4, none⟩ = some (.bool z4) := by rw [cell_of_row _ _ _ _ _ _ nV]; rfl
      have HV := Lib.hid (And.intro oV tV)
      refine hK.out _ _ hHeldV (fun _ => ?_)
      clear hK K ff0 ff1 ff2 ff3 ff4 cc0 cc1 cc2 cc3 cc4 nR nV oV tV hV hRW hHeldV hHeld hHeld9 b8
      refine wpAnyH_done (by kernel_rfl) ?_ _
      go_wp2_with (fail)
      try simp only [Exit.inBlock, Exit.then]
      refine bodyPost_ret (by simp [results, Try.results10, go_sem, dd0, dd1, dd2, dd3, dd4]; rfl) rfl ?_
      refine ⟨g7, g8, k7, k8, Vs, Ws, ?_, own_base (own_set5 HE.out.1 HV.out.1 (by have := HU.out.2.2; omega)) HU.out.1.size, ?_, HD.out.rows, HD.out.wlen, HD.out.wrows, ?_⟩
      · rw [HZ.out.1, HZ.out.2.1, HZ.out.2.2.1, HZ.out.2.2.2]
      · rw [HZ.out.1]
        exact own_base (own_set5 HE.out.2.1 HV.out.1 (by have := HU.out.2.2; omega)) HU.out.1.size
      · have h1 := cat_b HU.out.1 HE.out.2.2
        exact h1.trans (HV.out.2.below (fun k e => by have e' : k = W.heap.size := e; omega) h1.size)
  · skip
    go_simp
    have hB10 : W.heap.size ≤ X0.heap.size := Nat.le_trans HU.out.1.size b0.size
    have na10 := lit_row (w := X0) (e := 107)
    have bb10 := b0.alloc b0.size (.cells #[] 107)
    obtain ⟨X10, hY10⟩ : ∃ Y, X0.alloc (.cells #[] 107) = Y := ⟨_, rfl⟩
    have hU10 : U.heap.size ≤ X0.heap.size := b0.size
    obtain ⟨A10, hA10⟩ : ∃ A, X0.heap.size = A := ⟨_, rfl⟩
    rw [hY10] at na10 bb10 ⊢
    rw [hA10] at na10 hB10 hU10 ⊢
    have b10 := bb10
    clear hY10 hA10 bb10
    have HAU10 := Lib.hid hU10
    refine hK.out _ _ (HS.out _ b10) (fun _ => ?_)
    clear hK K
    try simp only [Act.put, List.getElem_toArray, List.getElem_cons_zero, List.getElem_cons_succ, List.setIfInBounds_toArray, List.set_cons_zero, List.set_cons_succ]
    refine wpAnyH_ready (rs := [0]) (by kernel_rfl) (by simp) ?_
    refine AllReadyH.cons (o := _) rfl (fun K hK => ?_) AllReadyH.nil
    go_simp
    have hB11 : W.heap.size ≤ X10.heap.size := Nat.le_trans HU.out.1.size b10.size
    have na11 := lit_row (w := X10) (e := 33)
    have bb11 := b10.alloc b10.size (.cells #[] 33)
    have nb11 := lit_keep (f := 33) na10
    have ne11 : A10 ≠ X10.heap.size := by have := block_lt na10; omega
    obtain ⟨X11, hY11⟩ : ∃ Y, X10.alloc (.cells #[] 33) = Y := ⟨_, rfl⟩
    have hU11 : U.heap.size ≤ X10.heap.size := b10.size
    obtain ⟨A11, hA11⟩ : ∃ A, X10.heap.size = A := ⟨_, rfl⟩
    rw [hY11] at na11 bb11 nb11 ⊢
    rw [hA11] at na11 hB11 ne11 hU11 ⊢
    have b11 := bb11
    clear hY11 hA11 bb11
    have HAU11 := Lib.hid hU11
    refine hK.out _ _ (HS.out _ b11) (fun _ => ?_)
    clear hK K
    try simp only [Act.put, List.getElem_toArray, List.getElem_cons_zero, List.getElem_cons_succ, List.setIfInBounds_toArray, List.set_cons_zero, List.set_cons_succ]
    refine wpAnyH_ready (rs := [5]) (by kernel_rfl) (by simp) ?_
    refine AllReadyH.cons (o := _) rfl (fun K hK => ?_) AllReadyH.nil
    obtain ⟨g12, k12, X12, hr12, ow12, ht12, hg12, lt12⟩ := CS.out X11 A11 U.heap.size na11 HAU11.out (cat_b HU.out.1 b11)
    have hUA12 : U.heap.size ≤ A11 := HAU11.out
    refine step_of rfl (wp_append_eq (.tmp 3) (.tmp 7) 28 rfl (.slice (some ⟨A11, 0, none⟩) 0 0) (.slice s N cS) (.slice (some ⟨g12, 0, none⟩) N k12) X12 (by rfl) (by rfl) hr12 ?_)
    have b12 : Below U.heap.size U X12 := b11.trans (ht12.below (fun k e => by have e' : k = A11 := e; rw [e']; exact hUA12) b11.size)
    have nb12 := lit_touch nb11 ht12 ne11
    have ne12 : g12 ≠ A10 := by have := block_lt nb11; have h1 := ne11; rcases hg12 with h | h <;> omega
    refine hK.out _ _ (HS.out _ b12) (fun _ => ?_)
    clear hK K
    try simp only [Act.put, List.getElem_toArray, List.getElem_cons_zero, List.getElem_cons_succ, List.setIfInBounds_toArray, List.set_cons_zero, List.set_cons_succ]
    refine wpAnyH_ready (rs := [11]) (by kernel_rfl) (by simp) ?_
    refine AllReadyH.cons (o := _) rfl (fun K hK => ?_) AllReadyH.nil
    obtain ⟨g13, k13, X13, hr13, ow13, ht13, hg13, lt13⟩ := CL.out X12 A10 U.heap.size nb12 HAU10.out (cat_b HU.out.1 b12)
    have hUA13 : U.heap.size ≤ A10 := HAU10.out
    refine step_of rfl (wp_append_eq (.tmp 9) (.tmp 13) 29 rfl (.slice (some ⟨A10, 0, none⟩) 0 0) (.slice q L cL) (.slice (some ⟨g13, 0, none⟩) L k13) X13 (by rfl) (by rfl) hr13 ?_)
    have b13 : Below U.heap.size U X13 := b12.trans (ht13.below (fun k e => by have e' : k = A10 := e; rw [e']; exact hUA13) b12.size)
    have nb13 := own_touch ow12 ht13 lt12 ne12
    have lu13 := Nat.lt_of_lt_of_le lt12 ht13.size
    refine hK.out _ _ (HS.out _ b13) (fun _ => ?_)
    clear hK K
    try simp only [Act.put, List.getElem_toArray, List.getElem_cons_zero, List.getElem_cons_succ, List.setIfInBounds_toArray, List.set_cons_zero, List.set_cons_succ]
    have hHeld14 := HS.out _ b13
    refine wpAnyH_take (i := 24) (oi := _) (v := ?v24_14) rfl (by kernel_rfl) (by kernel_rfl) (by kernel_rfl) (fun _ _ _ h => h) (Or.inl ⟨by rfl, ?hy24_14⟩) hHeld14 ?rest24_14
    case hy24_14 =>
      intro W hSw
      clear hSw
      go_simp
      try (with_reducible rfl)
    try simp only [Act.put, List.getElem_toArray, List.getElem_cons_zero, List.getElem_cons_succ, List.setIfInBounds_toArray, List.set_cons_zero, List.set_cons_succ]
    have nR := (b13.block _ (block_lt HU.out.2.1)).trans HU.out.2.1
    have HE := Lib.hid (And.intro nb13 (And.intro ow13 b13))
    refine wpAnyH_ready (rs := [25]) (by kernel_rfl) (by simp) ?_
    refine AllReadyH.cons (o := _) rfl (fun K hK => ?_) AllReadyH.nil
    have ff0 : X13.frozen? ⟨W.heap.size, 0, none⟩ = false := frozen_of_row _ _ _ _ _ nR
    have ff1 : X13.frozen? ⟨W.heap.size, 1, none⟩ = false := frozen_of_row _ _ _ _ _ nR
    have ff2 : X13.frozen? ⟨W.heap.size, 2, none⟩ = false := frozen_of_row _ _ _ _ _ nR
    have ff3 : X13.frozen? ⟨W.heap.size, 3, none⟩ = false := frozen_of_row _ _ _ _ _ nR
    have ff4 : X13.frozen? ⟨W.heap.size, 4, none⟩ = false := frozen_of_row _ _ _ _ _ nR
    have cc0 : X13.cell? ⟨W.heap.size, 0, none⟩ = some (.slice none 0 0) := by rw [cell_of_row _ _ _ _ _ _ nR]; rfl
    have cc1 : X13.cell? ⟨W.heap.size, 1, none⟩ = some (.slice none 0 0) := by rw [cell_of_row _ _ _ _ _ _ nR]; rfl
    have cc2 : X13.cell? ⟨W.heap.size, 2, none⟩ = some (.int .i64 0) := by rw [cell_of_row _ _ _ _ _ _ nR]; rfl
    have cc3 : X13.cell? ⟨W.heap.size, 3, none⟩ = some (.int .i64 0) := by rw [cell_of_row _ _ _ _ _ _ nR]; rfl
    have cc4 : X13.cell? ⟨W.heap.size, 4, none⟩ = some (.bool false) := by rw [cell_of_row _ _ _ _ _ _ nR]; rfl
    go_simp
    obtain ⟨V, hV⟩ : ∃ V, ((((X13.setCell ⟨W.heap.size, 0, none⟩ (.slice (some ⟨g12, 0, none⟩) N k12)).setCell ⟨W.heap.size, 1, none⟩ (.slice (some ⟨g13, 0, none⟩) L k13)).setCell ⟨W.heap.size, 2, none⟩ (.int .i64 z2)).setCell ⟨W.heap.size, 3, none⟩ (.int .i64 z3)).setCell ⟨W.heap.size, 4, none⟩ (.bool z4) = V := ⟨_, rfl⟩
    rw [hV]
    have nV : V.heap[W.heap.size]? = some (.cells #[.slice (some ⟨g12, 0, none⟩) N k12, .slice (some ⟨g13, 0, none⟩) L k13, .int .i64 z2, .int .i64 z3, .bool z4] 31 (0, 0)) := by
      rw [← hV]
      exact u_row (k := 4) (.bool z4) (u_row (k := 3) (.int .i64 z3) (u_row (k := 2) (.int .i64 z2) (u_row (k := 1) (.slice (some ⟨g13, 0, none⟩) L k13) (u_row (k := 0) (.slice (some ⟨g12, 0, none⟩) N k12) nR))))
    have oV : ∀ k, k ≠ W.heap.size → V.heap[k]? = X13.heap[k]? := fun k hne => by
      rw [← hV]
      exact ((((set_other k hne).trans (set_other k hne)).trans (set_other k hne)).trans (set_other k hne)).trans (set_other k hne)
    have tV : Touch (Only W.heap.size) X13 V := by
      rw [← hV]
      exact (((((Touch.refl _ _).set1 _).set1 _).set1 _).set1 _).set1 _
    have hRW : R < W.heap.size := block_lt HD.out.blk
    have hHeldV : V.cell? ⟨R, 0, none⟩ = some (.slice s N cS) ∧ V.cell? ⟨R, 1, none⟩ = some (.slice q L cL) ∧ V.cell? ⟨R, 2, none⟩ = some (.int .i64 z2) ∧ V.cell? ⟨R, 3, none⟩ = some (.int .i64 z3) ∧ V.cell? ⟨R, 4, none⟩ = some (.bool z4) := by
      have hc : ∀ j, V.cell? ⟨R, j, none⟩ = X13.cell? ⟨R, j, none⟩ := fun j => World.cell?_of_block (oV R (by omega))
      rw [hc, hc, hc, hc, hc]
      exact hHeld14
    have dd0 : V.cell? ⟨W.heap.size, 0, none⟩ = some (.slice (some ⟨g12, 0, none⟩) N k12) := by rw [cell_of_row _ _ _ _ _ _ nV]; rfl
    have dd1 : V.cell? ⟨W.heap.size, 1, none⟩ = some (.slice (some ⟨g13, 0, none⟩) L k13) := by rw [cell_of_row _ _ _ _ _ _ nV]; rfl
    have dd2 : V.cell? ⟨W.heap.size, 2, none⟩ = some (.int .i64 z2) := by rw [cell_of_row _ _ _ _ _ _ nV]; rfl
    have dd3 : V.cell? ⟨W.heap.size, 3, none⟩ = some (.int .i64 z3) := by rw [cell_of_row _ _ _ _ _ _ nV]; rfl
    have dd4 : V.cell? ⟨W.heap.size, 4, none⟩ = some (.bool z4) := by rw [cell_of_row _ _ _ _ _ _ nV]; rfl
    have HV := Lib.hid (And.intro oV tV)
    refine hK.out _ _ hHeldV (fun _ => ?_)
    clear hK K ff0 ff1 ff2 ff3 ff4 cc0 cc1 cc2 cc3 cc4 nR nV oV tV hV hRW hHeldV hHeld hHeld14 b13
    refine wpAnyH_done (by kernel_rfl) ?_ _
    go_wp2_with (fail)
    try simp only [Exit.inBlock, Exit.then]
    refine bodyPost_ret (by simp [results, Try.results10, go_sem, dd0, dd1, dd2, dd3, dd4]; rfl) rfl ?_
    refine ⟨g12, g13, k12, k13, Vs, Ws, ?_, own_base (own_set5 HE.out.1 HV.out.1 (by have := HU.out.2.2; omega)) HU.out.1.size, ?_, HD.out.rows, HD.out.wlen, HD.out.wrows, ?_⟩
    · rw [HZ.out.1, HZ.out.2.1, HZ.out.2.2.1, HZ.out.2.2.2]
    · rw [HZ.out.1]
      exact own_base (own_set5 HE.out.2.1 HV.out.1 (by have := HU.out.2.2; omega)) HU.out.1.size
    · have h1 := cat_b HU.out.1 HE.out.2.2
      exact h1.trans (HV.out.2.below (fun k e => by have e' : k = W.heap.size := e; omega) h1.size)
end Go.Proofs.Ytlkffignbjpfcaa
