/- Proved here: what the program's bytes of a head are. -/
import Derived.Test.YtlkffignbjpfcaaHeadKit
namespace Go.Proofs.Ytlkffignbjpfcaa
open Go.RowKit

set_option maxRecDepth 100000 in
set_option maxHeartbeats 16000000 in
theorem layhead_ok (gen st : Nat) (h1 : 1 ≤ gen) (h2 : gen ≤ 4294967295) (hst : st < 18446744073709551616) (w : World) :
    Calls Try.prog 48 #[.agg #[.int .i64 (gen : Int), .int .u64 (st : Int)]] w fun e w' => ∃ r, e = .returned (.tuple #[r, .int .i64 0]) ∧ NewB (headL gen st) w r w' := by
  have g1 : (1 : Int) ≤ (gen : Int) := by omega
  have g2 : (gen : Int) ≤ 4294967295 := by omega
  have g0 : (0 : Int) ≤ (gen : Int) := by omega
  obtain ⟨ib, hib, hib0, hib1, hib2⟩ := info_parts infoByte
  obtain ⟨ir, hir, hir0, hir1, hir2⟩ := info_parts infoRow2
  have HI := Lib.hid (And.intro hib (And.intro hib0 (And.intro hib1 hib2)))
  have HIR := Lib.hid (And.intro hir (And.intro hir0 (And.intro hir1 hir2)))
  have HG := Lib.hid (And.intro h2 hst)
  obtain ⟨WA, hWA⟩ : ∃ WA, w.alloc (.cells #[.int .i64 (gen : Int), .int .u64 (st : Int)] 56) = WA := ⟨_, rfl⟩
  have sA : WA.heap.size = w.heap.size + 1 := by rw [← hWA]; simp
  have nA : WA.heap[w.heap.size]? = some (.cells #[.int .i64 (gen : Int), .int .u64 (st : Int)] 56 (0, 0)) := by rw [← hWA]; exact heap_alloc_new _ _
  have bA : Below w.heap.size w WA := by rw [← hWA]; exact (Below.refl _ _).alloc (Nat.le_refl _) _
  obtain ⟨W0, hW0⟩ : ∃ W0, WA.alloc (.cells z60.toArray 5) = W0 := ⟨_, rfl⟩
  have mk := make60 WA
  rw [hW0, sA] at mk
  have s0 : W0.heap.size = w.heap.size + 2 := by rw [← hW0]; simp [sA]
  have n0 : W0.heap[w.heap.size]? = some (.cells #[.int .i64 (gen : Int), .int .u64 (st : Int)] 56 (0, 0)) := by rw [← hW0]; exact (Below.heap_alloc WA _ _ (by omega)).trans nA
  have z0 : W0.heap[w.heap.size + 1]? = some (.cells z60.toArray 5 (0, 0)) := by rw [← hW0, ← sA]; exact heap_alloc_new _ _
  have b0 : Below w.heap.size w W0 := by rw [← hW0]; exact bA.alloc bA.size _
  have c0 : W0.cell? ⟨w.heap.size, 0, none⟩ = some (.int .i64 (gen : Int)) := by rw [cell_of_row _ _ _ _ _ _ n0]; rfl
  have c1 : W0.cell? ⟨w.heap.size, 1, none⟩ = some (.int .u64 (st : Int)) := by rw [cell_of_row _ _ _ _ _ _ n0]; rfl
  have H0 := Lib.hid (And.intro s0 (And.intro z0 (And.intro b0 (And.intro c0 c1))))
  rw [← hWA] at mk
  have hwr : IntKind.u64.wrap (gen : Int) = (gen : Int) := by rw [IntKind.wrap_u64]; omega
  clear hWA hW0 sA nA bA s0 n0 z0 b0 c0 c1 hib hib0 hib1 hib2 hir hir0 hir1 hir2 h1 h2 hst
  go_enter Try.func48, Try.ntmps48
  go_wp2_with (fail)
  refine wp_region_held_drew (S := fun W => W.cell? ⟨w.heap.size, 0, none⟩ = some (.int .i64 (gen : Int)) ∧ W.cell? ⟨w.heap.size, 1, none⟩ = some (.int .u64 (st : Int))) (by kernel_rfl) ⟨H0.out.2.2.2.1, H0.out.2.2.2.2⟩ (fun hHeld => ?_)
  have SX : ∀ W, Below W0.heap.size W0 W → W.cell? ⟨w.heap.size, 0, none⟩ = some (.int .i64 (gen : Int)) ∧ W.cell? ⟨w.heap.size, 1, none⟩ = some (.int .u64 (st : Int)) := fun W hb => ⟨hb_cell hb H0.out.2.2.2.1, hb_cell hb H0.out.2.2.2.2⟩
  have HS := Lib.hid SX
  clear SX
  have b0 : Below W0.heap.size W0 W0.drew := (Below.refl _ _).drew
  refine wpAnyH_take (i := 0) (oi := _) (v := ?va0) rfl (by kernel_rfl) (by kernel_rfl) (by kernel_rfl) (fun _ _ _ h => h) (Or.inl ⟨by rfl, ?hya0⟩) (by assumption) ?resta0
  case hya0 =>
    intro W hSw
    clear hSw
    go_simp
    try (with_reducible rfl)
  try simp only [Act.put, List.getElem_toArray, List.getElem_cons_zero, List.getElem_cons_succ, List.setIfInBounds_toArray, List.set_cons_zero, List.set_cons_succ]
  refine wpAnyH_take (i := 3) (oi := _) (v := ?va3) rfl (by kernel_rfl) (by kernel_rfl) (by kernel_rfl) (fun _ _ _ h => h) (Or.inl ⟨by rfl, ?hya3⟩) (by assumption) ?resta3
  case hya3 =>
    intro W hSw
    clear hSw
    go_simp
    try (with_reducible rfl)
  try simp only [Act.put, List.getElem_toArray, List.getElem_cons_zero, List.getElem_cons_succ, List.setIfInBounds_toArray, List.set_cons_zero, List.set_cons_succ]
  refine wpAnyH_take (i := 4) (oi := _) (v := ?va4) rfl (by kernel_rfl) (by kernel_rfl) (by kernel_rfl) (fun _ _ _ h => h) (Or.inl ⟨by rfl, ?hya4⟩) (by assumption) ?resta4
  case hya4 =>
    intro W hSw
    obtain ⟨e0, e1⟩ := hSw
    go_simp
    try (with_reducible rfl)
  try simp only [Act.put, List.getElem_toArray, List.getElem_cons_zero, List.getElem_cons_succ, List.setIfInBounds_toArray, List.set_cons_zero, List.set_cons_succ]
  refine wpAnyH_take (i := 5) (oi := _) (v := ?va5) rfl (by kernel_rfl) (by kernel_rfl) (by kernel_rfl) (fun _ _ _ h => h) (Or.inl ⟨by rfl, ?hya5⟩) (by assumption) ?resta5
  case hya5 =>
    intro W hSw
    clear hSw
    go_simp
    try (with_reducible rfl)
  try simp only [Act.put, List.getElem_toArray, List.getElem_cons_zero, List.getElem_cons_succ, List.setIfInBounds_toArray, List.set_cons_zero, List.set_cons_succ]
  refine wpAnyH_take (i := 7) (oi := _) (v := ?va7) rfl (by kernel_rfl) (by kernel_rfl) (by kernel_rfl) (fun _ _ _ h => h) (Or.inl ⟨by rfl, ?hya7⟩) (by assumption) ?resta7
  case hya7 =>
    intro W hSw
    clear hSw
    go_simp
    try (with_reducible rfl)
  try simp only [Act.put, List.getElem_toArray, List.getElem_cons_zero, List.getElem_cons_succ, List.setIfInBounds_toArray, List.set_cons_zero, List.set_cons_succ]
  refine wpAnyH_take (i := 8) (oi := _) (v := ?va8) rfl (by kernel_rfl) (by kernel_rfl) (by kernel_rfl) (fun _ _ _ h => h) (Or.inl ⟨by rfl, ?hya8⟩) (by assumption) ?resta8
  case hya8 =>
    intro W hSw
    obtain ⟨e0, e1⟩ := hSw
    go_simp
    try (with_reducible rfl)
  try simp only [Act.put, List.getElem_toArray, List.getElem_cons_zero, List.getElem_cons_succ, List.setIfInBounds_toArray, List.set_cons_zero, List.set_cons_succ]
  obtain ⟨X0, hX0⟩ : ∃ X, X = W0.drew := ⟨_, rfl⟩
  rw [← hX0] at b0 hHeld ⊢
  clear hX0
  refine wpAnyH_ready (rs := [1, 6]) (by kernel_rfl) (by simp) ?_
  refine (AllReadyH.cons (o := _) rfl (fun K hK => ?_) (AllReadyH.cons (o := _) rfl (fun K hK => ?_) AllReadyH.nil))
  · skip
    refine step_is rfl (wp_buildSlice 33 5 4 #[(0, .const (.int .u8 76)), (1, .const (.int .u8 69)), (2, .const (.int .u8 67)), (3, .const (.int .u8 84))] rfl litV ib (.int .u8 0) Try.underlying33 HI.out.1 HI.out.2.1 (by rw [HI.out.2.2.1]; decide) (by rw [HI.out.2.2.1]; decide) (by rw [HI.out.2.2.1, Array.toList_map]; exact fill_lit) ?_)
    have hb1 : Below X0.heap.size X0 (X0.alloc (.cells litV 5)) := (Below.refl _ _).alloc (Nat.le_refl _) _
    have lb1 := heap_alloc_new X0 (.cells litV 5)
    have bb1 := below_cat b0 hb1
    have sa1 : W0.heap.size ≤ X0.heap.size := b0.size
    obtain ⟨A1, hA1⟩ : ∃ A, X0.heap.size = A := ⟨_, rfl⟩
    rw [hA1] at lb1 sa1 ⊢
    obtain ⟨X1, hY1⟩ : ∃ Y, X0.alloc (.cells litV 5) = Y := ⟨_, rfl⟩
    rw [hY1] at lb1 bb1 ⊢
    clear hY1 hb1 hA1
    have b1 := bb1
    refine hK.out _ _ (HS.out _ b1) (fun _ => ?_)
    clear hK K
    try simp only [Act.put, List.getElem_toArray, List.getElem_cons_zero, List.getElem_cons_succ, List.setIfInBounds_toArray, List.set_cons_zero, List.set_cons_succ]
    refine wpAnyH_ready (rs := [2, 6]) (by kernel_rfl) (by simp) ?_
    refine (AllReadyH.cons (o := _) rfl (fun K hK => ?_) (AllReadyH.cons (o := _) rfl (fun K hK => ?_) AllReadyH.nil))
    · skip
      obtain ⟨X2, hrun2, lb2, ho2, hz2, e12, e22, e32⟩ := conv_late (n := 4) (c := 4) lb1
      have b2 := below_late b1 sa1 ho2 hz2 e12 e22 e32
      refine step_is rfl (wp_conv_eq 33 33 (.tmp 15) rfl _ _ X2 (by rfl) hrun2 ?_)
      clear ho2 hz2 e12 e22 e32 hrun2
      refine hK.out _ _ (HS.out _ b2) (fun _ => ?_)
      clear hK K
      try simp only [Act.put, List.getElem_toArray, List.getElem_cons_zero, List.getElem_cons_succ, List.setIfInBounds_toArray, List.set_cons_zero, List.set_cons_succ]
      refine wpAnyH_ready (rs := [6]) (by kernel_rfl) (by simp) ?_
      refine AllReadyH.cons (o := _) rfl (fun K hK => ?_) AllReadyH.nil
      go_simp
      go_at_call 62
      refine (octets_any gen 4 X2 (by have := HG.out.1; omega) (by decide)).mono ?_
      rintro e X3 ⟨r, rfl, g3, c3, rfl, ho3, hb3⟩
      rw [numL_length]
      have lb3 := (hb3.block _ (blk_lt2 lb2)).trans lb2
      have b3 := below_cat b2 hb3
      have f4_3 := ho3.holds
      refine hK.out _ _ (HS.out _ b3) (fun _ => ?_)
      clear hK K
      try simp only [Act.put, List.getElem_toArray, List.getElem_cons_zero, List.getElem_cons_succ, List.setIfInBounds_toArray, List.set_cons_zero, List.set_cons_succ]
      refine wpAnyH_ready (rs := [9]) (by kernel_rfl) (by simp) ?_
      refine AllReadyH.cons (o := _) rfl (fun K hK => ?_) AllReadyH.nil
      go_simp
      go_at_call 62
      refine (octets_any st 8 X3 HG.out.2 (by decide)).mono ?_
      rintro e X4 ⟨r, rfl, g4, c4, rfl, ho4, hb4⟩
      rw [numL_length]
      have lb4 := (hb4.block _ (blk_lt2 lb3)).trans lb3
      have f4_4 := HoldsB.below f4_3 hb4
      have b4 := below_cat b3 hb4
      have f8_4 := ho4.holds
      refine hK.out _ _ (HS.out _ b4) (fun _ => ?_)
      clear hK K
      try simp only [Act.put, List.getElem_toArray, List.getElem_cons_zero, List.getElem_cons_succ, List.setIfInBounds_toArray, List.set_cons_zero, List.set_cons_succ]
      refine wpAnyH_ready (rs := [10]) (by kernel_rfl) (by simp) ?_
      refine AllReadyH.cons (o := _) rfl (fun K hK => ?_) AllReadyH.nil
      refine step_is rfl (wp_buildSlice 28 33 3 #[(0, .tmp 16), (1, .tmp 20), (2, .tmp 23)] rfl #[.slice (some ⟨A1, 0, none⟩) 4 4, .slice (some ⟨g3, 0, none⟩) 4 c3, .slice (some ⟨g4, 0, none⟩) 8 c4] ir (.slice none 0 0) Try.underlying28 HIR.out.1 HIR.out.2.1 (by rw [HIR.out.2.2.1]; decide) (by rw [HIR.out.2.2.1]; decide) (by rw [HIR.out.2.2.1, Array.toList_map]; exact fill_three _ _ _ _ _ _ _ _ _) ?_)
      have b5 := b4.alloc b4.size (.cells #[.slice (some ⟨A1, 0, none⟩) 4 4, .slice (some ⟨g3, 0, none⟩) 4 c3, .slice (some ⟨g4, 0, none⟩) 8 c4] 33)
      refine hK.out _ _ (HS.out _ b5) (fun _ => ?_)
      clear hK K
      try simp only [Act.put, List.getElem_toArray, List.getElem_cons_zero, List.getElem_cons_succ, List.setIfInBounds_toArray, List.set_cons_zero, List.set_cons_succ]
      refine wpAnyH_ready (rs := [11]) (by kernel_rfl) (by simp) ?_
      refine AllReadyH.cons (o := _) rfl (fun K hK => ?_) AllReadyH.nil
      go_simp
      go_at_call 61
      refine (head_cat X4 (lit_holds lb4) f4_4 f8_4).mono ?_
      rintro e X6 ⟨r, rfl, gc, cc, rfl, hoc, hbc⟩
      have b6 := below_cat b4 hbc
      have hlc : (litL ++ (numL gen 4 ++ numL st 8)).length = 16 := by simp [litL, numL_length]
      rw [hlc]
      refine hK.out _ _ (HS.out _ b6) (fun _ => ?_)
      clear hK K
      try simp only [Act.put, List.getElem_toArray, List.getElem_cons_zero, List.getElem_cons_succ, List.setIfInBounds_toArray, List.set_cons_zero, List.set_cons_succ]
      refine wpAnyH_ready (rs := [12]) (by kernel_rfl) (by simp) ?_
      refine AllReadyH.cons (o := _) rfl (fun K hK => ?_) AllReadyH.nil
      have zX : X6.heap[w.heap.size + 1]? = some (.cells z60.toArray 5 (0, 0)) := (b6.block _ (by rw [H0.out.1]; omega)).trans H0.out.2.1
      refine step_copy_splice rfl (.tmp 14) (.tmp 25) 33 33 rfl 5 Try.underlying33 (by kernel_rfl) (some ⟨w.heap.size + 1, 0, none⟩) (some ⟨gc, 0, none⟩) 60 60 16 cc (by rfl) (by rfl) (w.heap.size + 1) 0 z60 5 zX (bytesV (ofL (litL ++ (numL gen 4 ++ numL st 8)))) (by rw [bytesV_length, ofL_size, hlc]; rfl) (fun _ => ⟨rfl, _, rfl, fun j v hv => cells_src hoc.holds j v hv⟩) (by rw [bytesV_length, ofL_size, hlc]; decide) (bytesV_one _) (w.heap.size + 1) X6 (Below.refl _ _) (Nat.le_refl _) ?_
      intro X7 hw7 hb7
      refine hK.out _ _ ⟨(hb7.cell (by show w.heap.size < w.heap.size + 1; omega)).trans (HS.out _ b6).1, (hb7.cell (by show w.heap.size < w.heap.size + 1; omega)).trans (HS.out _ b6).2⟩ (fun _ => ?_)
      clear hK K
      have hwf := hw7.out
      rw [splice60 _ (by rw [hlc]; decide)] at hwf
      have hbw : Below w.heap.size w X7 := (H0.out.2.2.1.trans (b6.mono (by rw [H0.out.1]; omega))).trans (hb7.mono (by omega))
      refine wpAnyH_done (by kernel_rfl) ?_ _
      clear hHeld
      go_wp2_with (fail)
      refine (seal_any (some ⟨w.heap.size + 1, 0, none⟩) _ 60 60 X7 (by rw [ofL_size, fillL_length (by rw [hlc]; decide)]) (by decide) (row_holds hwf) (fun e => by cases e)).mono ?_
      rintro e Z ⟨r, rfl, hr⟩
      have HR := Lib.hid (hr.after hbw)
      clear hr
      go_wp2_with (fail)
      go_ret2
      refine ⟨_, rfl, ?_⟩
      have hq := HR.out
      rw [bl_ofL] at hq
      exact hq
    · skip
      go_simp
      go_at_call 62
      refine (octets_any gen 4 X1 (by have := HG.out.1; omega) (by decide)).mono ?_
      rintro e X8 ⟨r, rfl, g8, c8, rfl, ho8, hb8⟩
      rw [numL_length]
      have lb8 := (hb8.block _ (blk_lt2 lb1)).trans lb1
      have b8 := below_cat b1 hb8
      have f4_8 := ho8.holds
      refine hK.out _ _ (HS.out _ b8) (fun _ => ?_)
      clear hK K
      try simp only [Act.put, List.getElem_toArray, List.getElem_cons_zero, List.getElem_cons_succ, List.setIfInBounds_toArray, List.set_cons_zero, List.set_cons_succ]
      refine wpAnyH_ready (rs := [2, 9]) (by kernel_rfl) (by simp) ?_
      refine (AllReadyH.cons (o := _) rfl (fun K hK => ?_) (AllReadyH.cons (o := _) rfl (fun K hK => ?_) AllReadyH.nil))
      · skip
        obtain ⟨X9, hrun9, lb9, ho9, hz9, e19, e29, e39⟩ := conv_late (n := 4) (c := 4) lb8
        have b9 := below_late b8 sa1 ho9 hz9 e19 e29 e39
        have f4_9 := holds_late f4_8 (cells_late lb8 lb9 ho9)
        refine step_is rfl (wp_conv_eq 33 33 (.tmp 15) rfl _ _ X9 (by rfl) hrun9 ?_)
        clear ho9 hz9 e19 e29 e39 hrun9
        refine hK.out _ _ (HS.out _ b9) (fun _ => ?_)
        clear hK K
        try simp only [Act.put, List.getElem_toArray, List.getElem_cons_zero, List.getElem_cons_succ, List.setIfInBounds_toArray, List.set_cons_zero, List.set_cons_succ]
        refine wpAnyH_ready (rs := [9]) (by kernel_rfl) (by simp) ?_
        refine AllReadyH.cons (o := _) rfl (fun K hK => ?_) AllReadyH.nil
        go_simp
        go_at_call 62
        refine (octets_any st 8 X9 HG.out.2 (by decide)).mono ?_
        rintro e X10 ⟨r, rfl, g10, c10, rfl, ho10, hb10⟩
        rw [numL_length]
        have lb10 := (hb10.block _ (blk_lt2 lb9)).trans lb9
        have f4_10 := HoldsB.below f4_9 hb10
        have b10 := below_cat b9 hb10
        have f8_10 := ho10.holds
        refine hK.out _ _ (HS.out _ b10) (fun _ => ?_)
        clear hK K
        try simp only [Act.put, List.getElem_toArray, List.getElem_cons_zero, List.getElem_cons_succ, List.setIfInBounds_toArray, List.set_cons_zero, List.set_cons_succ]
        refine wpAnyH_ready (rs := [10]) (by kernel_rfl) (by simp) ?_
        refine AllReadyH.cons (o := _) rfl (fun K hK => ?_) AllReadyH.nil
        refine step_is rfl (wp_buildSlice 28 33 3 #[(0, .tmp 16), (1, .tmp 20), (2, .tmp 23)] rfl #[.slice (some ⟨A1, 0, none⟩) 4 4, .slice (some ⟨g8, 0, none⟩) 4 c8, .slice (some ⟨g10, 0, none⟩) 8 c10] ir (.slice none 0 0) Try.underlying28 HIR.out.1 HIR.out.2.1 (by rw [HIR.out.2.2.1]; decide) (by rw [HIR.out.2.2.1]; decide) (by rw [HIR.out.2.2.1, Array.toList_map]; exact fill_three _ _ _ _ _ _ _ _ _) ?_)
        have b11 := b10.alloc b10.size (.cells #[.slice (some ⟨A1, 0, none⟩) 4 4, .slice (some ⟨g8, 0, none⟩) 4 c8, .slice (some ⟨g10, 0, none⟩) 8 c10] 33)
        refine hK.out _ _ (HS.out _ b11) (fun _ => ?_)
        clear hK K
        try simp only [Act.put, List.getElem_toArray, List.getElem_cons_zero, List.getElem_cons_succ, List.setIfInBounds_toArray, List.set_cons_zero, List.set_cons_succ]
        refine wpAnyH_ready (rs := [11]) (by kernel_rfl) (by simp) ?_
        refine AllReadyH.cons (o := _) rfl (fun K hK => ?_) AllReadyH.nil
        go_simp
        go_at_call 61
        refine (head_cat X10 (lit_holds lb10) f4_10 f8_10).mono ?_
        rintro e X12 ⟨r, rfl, gc, cc, rfl, hoc, hbc⟩
        have b12 := below_cat b10 hbc
        have hlc : (litL ++ (numL gen 4 ++ numL st 8)).length = 16 := by simp [litL, numL_length]
        rw [hlc]
        refine hK.out _ _ (HS.out _ b12) (fun _ => ?_)
        clear hK K
        try simp only [Act.put, List.getElem_toArray, List.getElem_cons_zero, List.getElem_cons_succ, List.setIfInBounds_toArray, List.set_cons_zero, List.set_cons_succ]
        refine wpAnyH_ready (rs := [12]) (by kernel_rfl) (by simp) ?_
        refine AllReadyH.cons (o := _) rfl (fun K hK => ?_) AllReadyH.nil
        have zX : X12.heap[w.heap.size + 1]? = some (.cells z60.toArray 5 (0, 0)) := (b12.block _ (by rw [H0.out.1]; omega)).trans H0.out.2.1
        refine step_copy_splice rfl (.tmp 14) (.tmp 25) 33 33 rfl 5 Try.underlying33 (by kernel_rfl) (some ⟨w.heap.size + 1, 0, none⟩) (some ⟨gc, 0, none⟩) 60 60 16 cc (by rfl) (by rfl) (w.heap.size + 1) 0 z60 5 zX (bytesV (ofL (litL ++ (numL gen 4 ++ numL st 8)))) (by rw [bytesV_length, ofL_size, hlc]; rfl) (fun _ => ⟨rfl, _, rfl, fun j v hv => cells_src hoc.holds j v hv⟩) (by rw [bytesV_length, ofL_size, hlc]; decide) (bytesV_one _) (w.heap.size + 1) X12 (Below.refl _ _) (Nat.le_refl _) ?_
        intro X13 hw13 hb13
        refine hK.out _ _ ⟨(hb13.cell (by show w.heap.size < w.heap.size + 1; omega)).trans (HS.out _ b12).1, (hb13.cell (by show w.heap.size < w.heap.size + 1; omega)).trans (HS.out _ b12).2⟩ (fun _ => ?_)
        clear hK K
        have hwf := hw13.out
        rw [splice60 _ (by rw [hlc]; decide)] at hwf
        have hbw : Below w.heap.size w X13 := (H0.out.2.2.1.trans (b12.mono (by rw [H0.out.1]; omega))).trans (hb13.mono (by omega))
        refine wpAnyH_done (by kernel_rfl) ?_ _
        clear hHeld
        go_wp2_with (fail)
        refine (seal_any (some ⟨w.heap.size + 1, 0, none⟩) _ 60 60 X13 (by rw [ofL_size, fillL_length (by rw [hlc]; decide)]) (by decide) (row_holds hwf) (fun e => by cases e)).mono ?_
        rintro e Z ⟨r, rfl, hr⟩
        have HR := Lib.hid (hr.after hbw)
        clear hr
        go_wp2_with (fail)
        go_ret2
        refine ⟨_, rfl, ?_⟩
        have hq := HR.out
        rw [bl_ofL] at hq
        exact hq
      · skip
        go_simp
        go_at_call 62
        refine (octets_any st 8 X8 HG.out.2 (by decide)).mono ?_
        rintro e X14 ⟨r, rfl, g14, c14, rfl, ho14, hb14⟩
        rw [numL_length]
        have lb14 := (hb14.block _ (blk_lt2 lb8)).trans lb8
        have f4_14 := HoldsB.below f4_8 hb14
        have b14 := below_cat b8 hb14
        have f8_14 := ho14.holds
        refine hK.out _ _ (HS.out _ b14) (fun _ => ?_)
        clear hK K
        try simp only [Act.put, List.getElem_toArray, List.getElem_cons_zero, List.getElem_cons_succ, List.setIfInBounds_toArray, List.set_cons_zero, List.set_cons_succ]
        refine wpAnyH_ready (rs := [2]) (by kernel_rfl) (by simp) ?_
        refine AllReadyH.cons (o := _) rfl (fun K hK => ?_) AllReadyH.nil
        obtain ⟨X15, hrun15, lb15, ho15, hz15, e115, e215, e315⟩ := conv_late (n := 4) (c := 4) lb14
        have b15 := below_late b14 sa1 ho15 hz15 e115 e215 e315
        have f4_15 := holds_late f4_14 (cells_late lb14 lb15 ho15)
        have f8_15 := holds_late f8_14 (cells_late lb14 lb15 ho15)
        refine step_is rfl (wp_conv_eq 33 33 (.tmp 15) rfl _ _ X15 (by rfl) hrun15 ?_)
        clear ho15 hz15 e115 e215 e315 hrun15
        refine hK.out _ _ (HS.out _ b15) (fun _ => ?_)
        clear hK K
        try simp only [Act.put, List.getElem_toArray, List.getElem_cons_zero, List.getElem_cons_succ, List.setIfInBounds_toArray, List.set_cons_zero, List.set_cons_succ]
        refine wpAnyH_ready (rs := [10]) (by kernel_rfl) (by simp) ?_
        refine AllReadyH.cons (o := _) rfl (fun K hK => ?_) AllReadyH.nil
        refine step_is rfl (wp_buildSlice 28 33 3 #[(0, .tmp 16), (1, .tmp 20), (2, .tmp 23)] rfl #[.slice (some ⟨A1, 0, none⟩) 4 4, .slice (some ⟨g8, 0, none⟩) 4 c8, .slice (some ⟨g14, 0, none⟩) 8 c14] ir (.slice none 0 0) Try.underlying28 HIR.out.1 HIR.out.2.1 (by rw [HIR.out.2.2.1]; decide) (by rw [HIR.out.2.2.1]; decide) (by rw [HIR.out.2.2.1, Array.toList_map]; exact fill_three _ _ _ _ _ _ _ _ _) ?_)
        have b16 := b15.alloc b15.size (.cells #[.slice (some ⟨A1, 0, none⟩) 4 4, .slice (some ⟨g8, 0, none⟩) 4 c8, .slice (some ⟨g14, 0, none⟩) 8 c14] 33)
        refine hK.out _ _ (HS.out _ b16) (fun _ => ?_)
        clear hK K
        try simp only [Act.put, List.getElem_toArray, List.getElem_cons_zero, List.getElem_cons_succ, List.setIfInBounds_toArray, List.set_cons_zero, List.set_cons_succ]
        refine wpAnyH_ready (rs := [11]) (by kernel_rfl) (by simp) ?_
        refine AllReadyH.cons (o := _) rfl (fun K hK => ?_) AllReadyH.nil
        go_simp
        go_at_call 61
        refine (head_cat X15 (lit_holds lb15) f4_15 f8_15).mono ?_
        rintro e X17 ⟨r, rfl, gc, cc, rfl, hoc, hbc⟩
        have b17 := below_cat b15 hbc
        have hlc : (litL ++ (numL gen 4 ++ numL st 8)).length = 16 := by simp [litL, numL_length]
        rw [hlc]
        refine hK.out _ _ (HS.out _ b17) (fun _ => ?_)
        clear hK K
        try simp only [Act.put, List.getElem_toArray, List.getElem_cons_zero, List.getElem_cons_succ, List.setIfInBounds_toArray, List.set_cons_zero, List.set_cons_succ]
        refine wpAnyH_ready (rs := [12]) (by kernel_rfl) (by simp) ?_
        refine AllReadyH.cons (o := _) rfl (fun K hK => ?_) AllReadyH.nil
        have zX : X17.heap[w.heap.size + 1]? = some (.cells z60.toArray 5 (0, 0)) := (b17.block _ (by rw [H0.out.1]; omega)).trans H0.out.2.1
        refine step_copy_splice rfl (.tmp 14) (.tmp 25) 33 33 rfl 5 Try.underlying33 (by kernel_rfl) (some ⟨w.heap.size + 1, 0, none⟩) (some ⟨gc, 0, none⟩) 60 60 16 cc (by rfl) (by rfl) (w.heap.size + 1) 0 z60 5 zX (bytesV (ofL (litL ++ (numL gen 4 ++ numL st 8)))) (by rw [bytesV_length, ofL_size, hlc]; rfl) (fun _ => ⟨rfl, _, rfl, fun j v hv => cells_src hoc.holds j v hv⟩) (by rw [bytesV_length, ofL_size, hlc]; decide) (bytesV_one _) (w.heap.size + 1) X17 (Below.refl _ _) (Nat.le_refl _) ?_
        intro X18 hw18 hb18
        refine hK.out _ _ ⟨(hb18.cell (by show w.heap.size < w.heap.size + 1; omega)).trans (HS.out _ b17).1, (hb18.cell (by show w.heap.size < w.heap.size + 1; omega)).trans (HS.out _ b17).2⟩ (fun _ => ?_)
        clear hK K
        have hwf := hw18.out
        rw [splice60 _ (by rw [hlc]; decide)] at hwf
        have hbw : Below w.heap.size w X18 := (H0.out.2.2.1.trans (b17.mono (by rw [H0.out.1]; omega))).trans (hb18.mono (by omega))
        refine wpAnyH_done (by kernel_rfl) ?_ _
        clear hHeld
        go_wp2_with (fail)
        refine (seal_any (some ⟨w.heap.size + 1, 0, none⟩) _ 60 60 X18 (by rw [ofL_size, fillL_length (by rw [hlc]; decide)]) (by decide) (row_holds hwf) (fun e => by cases e)).mono ?_
        rintro e Z ⟨r, rfl, hr⟩
        have HR := Lib.hid (hr.after hbw)
        clear hr
        go_wp2_with (fail)
        go_ret2
        refine ⟨_, rfl, ?_⟩
        have hq := HR.out
        rw [bl_ofL] at hq
        exact hq
  · skip
    go_simp
    go_at_call 62
    refine (octets_any gen 4 X0 (by have := HG.out.1; omega) (by decide)).mono ?_
    rintro e X19 ⟨r, rfl, g19, c19, rfl, ho19, hb19⟩
    rw [numL_length]
    have b19 := below_cat b0 hb19
    have f4_19 := ho19.holds
    refine hK.out _ _ (HS.out _ b19) (fun _ => ?_)
    clear hK K
    try simp only [Act.put, List.getElem_toArray, List.getElem_cons_zero, List.getElem_cons_succ, List.setIfInBounds_toArray, List.set_cons_zero, List.set_cons_succ]
    refine wpAnyH_ready (rs := [1, 9]) (by kernel_rfl) (by simp) ?_
    refine (AllReadyH.cons (o := _) rfl (fun K hK => ?_) (AllReadyH.cons (o := _) rfl (fun K hK => ?_) AllReadyH.nil))
    · skip
      refine step_is rfl (wp_buildSlice 33 5 4 #[(0, .const (.int .u8 76)), (1, .const (.int .u8 69)), (2, .const (.int .u8 67)), (3, .const (.int .u8 84))] rfl litV ib (.int .u8 0) Try.underlying33 HI.out.1 HI.out.2.1 (by rw [HI.out.2.2.1]; decide) (by rw [HI.out.2.2.1]; decide) (by rw [HI.out.2.2.1, Array.toList_map]; exact fill_lit) ?_)
      have hb20 : Below X19.heap.size X19 (X19.alloc (.cells litV 5)) := (Below.refl _ _).alloc (Nat.le_refl _) _
      have lb20 := heap_alloc_new X19 (.cells litV 5)
      have bb20 := below_cat b19 hb20
      have f4_20 := HoldsB.below f4_19 hb20
      have sa20 : W0.heap.size ≤ X19.heap.size := b19.size
      obtain ⟨A20, hA20⟩ : ∃ A, X19.heap.size = A := ⟨_, rfl⟩
      rw [hA20] at lb20 sa20 ⊢
      obtain ⟨X20, hY20⟩ : ∃ Y, X19.alloc (.cells litV 5) = Y := ⟨_, rfl⟩
      rw [hY20] at lb20 bb20 f4_20 ⊢
      clear hY20 hb20 hA20
      have b20 := bb20
      refine hK.out _ _ (HS.out _ b20) (fun _ => ?_)
      clear hK K
      try simp only [Act.put, List.getElem_toArray, List.getElem_cons_zero, List.getElem_cons_succ, List.setIfInBounds_toArray, List.set_cons_zero, List.set_cons_succ]
      refine wpAnyH_ready (rs := [2, 9]) (by kernel_rfl) (by simp) ?_
      refine (AllReadyH.cons (o := _) rfl (fun K hK => ?_) (AllReadyH.cons (o := _) rfl (fun K hK => ?_) AllReadyH.nil))
      · skip
        obtain ⟨X21, hrun21, lb21, ho21, hz21, e121, e221, e321⟩ := conv_late (n := 4) (c := 4) lb20
        have b21 := below_late b20 sa20 ho21 hz21 e121 e221 e321
        have f4_21 := holds_late f4_20 (cells_late lb20 lb21 ho21)
        refine step_is rfl (wp_conv_eq 33 33 (.tmp 15) rfl _ _ X21 (by rfl) hrun21 ?_)
        clear ho21 hz21 e121 e221 e321 hrun21
        refine hK.out _ _ (HS.out _ b21) (fun _ => ?_)
        clear hK K
        try simp only [Act.put, List.getElem_toArray, List.getElem_cons_zero, List.getElem_cons_succ, List.setIfInBounds_toArray, List.set_cons_zero, List.set_cons_succ]
        refine wpAnyH_ready (rs := [9]) (by kernel_rfl) (by simp) ?_
        refine AllReadyH.cons (o := _) rfl (fun K hK => ?_) AllReadyH.nil
        go_simp
        go_at_call 62
        refine (octets_any st 8 X21 HG.out.2 (by decide)).mono ?_
        rintro e X22 ⟨r, rfl, g22, c22, rfl, ho22, hb22⟩
        rw [numL_length]
        have lb22 := (hb22.block _ (blk_lt2 lb21)).trans lb21
        have f4_22 := HoldsB.below f4_21 hb22
        have b22 := below_cat b21 hb22
        have f8_22 := ho22.holds
        refine hK.out _ _ (HS.out _ b22) (fun _ => ?_)
        clear hK K
        try simp only [Act.put, List.getElem_toArray, List.getElem_cons_zero, List.getElem_cons_succ, List.setIfInBounds_toArray, List.set_cons_zero, List.set_cons_succ]
        refine wpAnyH_ready (rs := [10]) (by kernel_rfl) (by simp) ?_
        refine AllReadyH.cons (o := _) rfl (fun K hK => ?_) AllReadyH.nil
        refine step_is rfl (wp_buildSlice 28 33 3 #[(0, .tmp 16), (1, .tmp 20), (2, .tmp 23)] rfl #[.slice (some ⟨A20, 0, none⟩) 4 4, .slice (some ⟨g19, 0, none⟩) 4 c19, .slice (some ⟨g22, 0, none⟩) 8 c22] ir (.slice none 0 0) Try.underlying28 HIR.out.1 HIR.out.2.1 (by rw [HIR.out.2.2.1]; decide) (by rw [HIR.out.2.2.1]; decide) (by rw [HIR.out.2.2.1, Array.toList_map]; exact fill_three _ _ _ _ _ _ _ _ _) ?_)
        have b23 := b22.alloc b22.size (.cells #[.slice (some ⟨A20, 0, none⟩) 4 4, .slice (some ⟨g19, 0, none⟩) 4 c19, .slice (some ⟨g22, 0, none⟩) 8 c22] 33)
        refine hK.out _ _ (HS.out _ b23) (fun _ => ?_)
        clear hK K
        try simp only [Act.put, List.getElem_toArray, List.getElem_cons_zero, List.getElem_cons_succ, List.setIfInBounds_toArray, List.set_cons_zero, List.set_cons_succ]
        refine wpAnyH_ready (rs := [11]) (by kernel_rfl) (by simp) ?_
        refine AllReadyH.cons (o := _) rfl (fun K hK => ?_) AllReadyH.nil
        go_simp
        go_at_call 61
        refine (head_cat X22 (lit_holds lb22) f4_22 f8_22).mono ?_
        rintro e X24 ⟨r, rfl, gc, cc, rfl, hoc, hbc⟩
        have b24 := below_cat b22 hbc
        have hlc : (litL ++ (numL gen 4 ++ numL st 8)).length = 16 := by simp [litL, numL_length]
        rw [hlc]
        refine hK.out _ _ (HS.out _ b24) (fun _ => ?_)
        clear hK K
        try simp only [Act.put, List.getElem_toArray, List.getElem_cons_zero, List.getElem_cons_succ, List.setIfInBounds_toArray, List.set_cons_zero, List.set_cons_succ]
        refine wpAnyH_ready (rs := [12]) (by kernel_rfl) (by simp) ?_
        refine AllReadyH.cons (o := _) rfl (fun K hK => ?_) AllReadyH.nil
        have zX : X24.heap[w.heap.size + 1]? = some (.cells z60.toArray 5 (0, 0)) := (b24.block _ (by rw [H0.out.1]; omega)).trans H0.out.2.1
        refine step_copy_splice rfl (.tmp 14) (.tmp 25) 33 33 rfl 5 Try.underlying33 (by kernel_rfl) (some ⟨w.heap.size + 1, 0, none⟩) (some ⟨gc, 0, none⟩) 60 60 16 cc (by rfl) (by rfl) (w.heap.size + 1) 0 z60 5 zX (bytesV (ofL (litL ++ (numL gen 4 ++ numL st 8)))) (by rw [bytesV_length, ofL_size, hlc]; rfl) (fun _ => ⟨rfl, _, rfl, fun j v hv => cells_src hoc.holds j v hv⟩) (by rw [bytesV_length, ofL_size, hlc]; decide) (bytesV_one _) (w.heap.size + 1) X24 (Below.refl _ _) (Nat.le_refl _) ?_
        intro X25 hw25 hb25
        refine hK.out _ _ ⟨(hb25.cell (by show w.heap.size < w.heap.size + 1; omega)).trans (HS.out _ b24).1, (hb25.cell (by show w.heap.size < w.heap.size + 1; omega)).trans (HS.out _ b24).2⟩ (fun _ => ?_)
        clear hK K
        have hwf := hw25.out
        rw [splice60 _ (by rw [hlc]; decide)] at hwf
        have hbw : Below w.heap.size w X25 := (H0.out.2.2.1.trans (b24.mono (by rw [H0.out.1]; omega))).trans (hb25.mono (by omega))
        refine wpAnyH_done (by kernel_rfl) ?_ _
        clear hHeld
        go_wp2_with (fail)
        refine (seal_any (some ⟨w.heap.size + 1, 0, none⟩) _ 60 60 X25 (by rw [ofL_size, fillL_length (by rw [hlc]; decide)]) (by decide) (row_holds hwf) (fun e => by cases e)).mono ?_
        rintro e Z ⟨r, rfl, hr⟩
        have HR := Lib.hid (hr.after hbw)
        clear hr
        go_wp2_with (fail)
        go_ret2
        refine ⟨_, rfl, ?_⟩
        have hq := HR.out
        rw [bl_ofL] at hq
        exact hq
      · skip
        go_simp
        go_at_call 62
        refine (octets_any st 8 X20 HG.out.2 (by decide)).mono ?_
        rintro e X26 ⟨r, rfl, g26, c26, rfl, ho26, hb26⟩
        rw [numL_length]
        have lb26 := (hb26.block _ (blk_lt2 lb20)).trans lb20
        have f4_26 := HoldsB.below f4_20 hb26
        have b26 := below_cat b20 hb26
        have f8_26 := ho26.holds
        refine hK.out _ _ (HS.out _ b26) (fun _ => ?_)
        clear hK K
        try simp only [Act.put, List.getElem_toArray, List.getElem_cons_zero, List.getElem_cons_succ, List.setIfInBounds_toArray, List.set_cons_zero, List.set_cons_succ]
        refine wpAnyH_ready (rs := [2]) (by kernel_rfl) (by simp) ?_
        refine AllReadyH.cons (o := _) rfl (fun K hK => ?_) AllReadyH.nil
        obtain ⟨X27, hrun27, lb27, ho27, hz27, e127, e227, e327⟩ := conv_late (n := 4) (c := 4) lb26
        have b27 := below_late b26 sa20 ho27 hz27 e127 e227 e327
        have f4_27 := holds_late f4_26 (cells_late lb26 lb27 ho27)
        have f8_27 := holds_late f8_26 (cells_late lb26 lb27 ho27)
        refine step_is rfl (wp_conv_eq 33 33 (.tmp 15) rfl _ _ X27 (by rfl) hrun27 ?_)
        clear ho27 hz27 e127 e227 e327 hrun27
        refine hK.out _ _ (HS.out _ b27) (fun _ => ?_)
        clear hK K
        try simp only [Act.put, List.getElem_toArray, List.getElem_cons_zero, List.getElem_cons_succ, List.setIfInBounds_toArray, List.set_cons_zero, List.set_cons_succ]
        refine wpAnyH_ready (rs := [10]) (by kernel_rfl) (by simp) ?_
        refine AllReadyH.cons (o := _) rfl (fun K hK => ?_) AllReadyH.nil
        refine step_is rfl (wp_buildSlice 28 33 3 #[(0, .tmp 16), (1, .tmp 20), (2, .tmp 23)] rfl #[.slice (some ⟨A20, 0, none⟩) 4 4, .slice (some ⟨g19, 0, none⟩) 4 c19, .slice (some ⟨g26, 0, none⟩) 8 c26] ir (.slice none 0 0) Try.underlying28 HIR.out.1 HIR.out.2.1 (by rw [HIR.out.2.2.1]; decide) (by rw [HIR.out.2.2.1]; decide) (by rw [HIR.out.2.2.1, Array.toList_map]; exact fill_three _ _ _ _ _ _ _ _ _) ?_)
        have b28 := b27.alloc b27.size (.cells #[.slice (some ⟨A20, 0, none⟩) 4 4, .slice (some ⟨g19, 0, none⟩) 4 c19, .slice (some ⟨g26, 0, none⟩) 8 c26] 33)
        refine hK.out _ _ (HS.out _ b28) (fun _ => ?_)
        clear hK K
        try simp only [Act.put, List.getElem_toArray, List.getElem_cons_zero, List.getElem_cons_succ, List.setIfInBounds_toArray, List.set_cons_zero, List.set_cons_succ]
        refine wpAnyH_ready (rs := [11]) (by kernel_rfl) (by simp) ?_
        refine AllReadyH.cons (o := _) rfl (fun K hK => ?_) AllReadyH.nil
        go_simp
        go_at_call 61
        refine (head_cat X27 (lit_holds lb27) f4_27 f8_27).mono ?_
        rintro e X29 ⟨r, rfl, gc, cc, rfl, hoc, hbc⟩
        have b29 := below_cat b27 hbc
        have hlc : (litL ++ (numL gen 4 ++ numL st 8)).length = 16 := by simp [litL, numL_length]
        rw [hlc]
        refine hK.out _ _ (HS.out _ b29) (fun _ => ?_)
        clear hK K
        try simp only [Act.put, List.getElem_toArray, List.getElem_cons_zero, List.getElem_cons_succ, List.setIfInBounds_toArray, List.set_cons_zero, List.set_cons_succ]
        refine wpAnyH_ready (rs := [12]) (by kernel_rfl) (by simp) ?_
        refine AllReadyH.cons (o := _) rfl (fun K hK => ?_) AllReadyH.nil
        have zX : X29.heap[w.heap.size + 1]? = some (.cells z60.toArray 5 (0, 0)) := (b29.block _ (by rw [H0.out.1]; omega)).trans H0.out.2.1
        refine step_copy_splice rfl (.tmp 14) (.tmp 25) 33 33 rfl 5 Try.underlying33 (by kernel_rfl) (some ⟨w.heap.size + 1, 0, none⟩) (some ⟨gc, 0, none⟩) 60 60 16 cc (by rfl) (by rfl) (w.heap.size + 1) 0 z60 5 zX (bytesV (ofL (litL ++ (numL gen 4 ++ numL st 8)))) (by rw [bytesV_length, ofL_size, hlc]; rfl) (fun _ => ⟨rfl, _, rfl, fun j v hv => cells_src hoc.holds j v hv⟩) (by rw [bytesV_length, ofL_size, hlc]; decide) (bytesV_one _) (w.heap.size + 1) X29 (Below.refl _ _) (Nat.le_refl _) ?_
        intro X30 hw30 hb30
        refine hK.out _ _ ⟨(hb30.cell (by show w.heap.size < w.heap.size + 1; omega)).trans (HS.out _ b29).1, (hb30.cell (by show w.heap.size < w.heap.size + 1; omega)).trans (HS.out _ b29).2⟩ (fun _ => ?_)
        clear hK K
        have hwf := hw30.out
        rw [splice60 _ (by rw [hlc]; decide)] at hwf
        have hbw : Below w.heap.size w X30 := (H0.out.2.2.1.trans (b29.mono (by rw [H0.out.1]; omega))).trans (hb30.mono (by omega))
        refine wpAnyH_done (by kernel_rfl) ?_ _
        clear hHeld
        go_wp2_with (fail)
        refine (seal_any (some ⟨w.heap.size + 1, 0, none⟩) _ 60 60 X30 (by rw [ofL_size, fillL_length (by rw [hlc]; decide)]) (by decide) (row_holds hwf) (fun e => by cases e)).mono ?_
        rintro e Z ⟨r, rfl, hr⟩
        have HR := Lib.hid (hr.after hbw)
        clear hr
        go_wp2_with (fail)
        go_ret2
        refine ⟨_, rfl, ?_⟩
        have hq := HR.out
        rw [bl_ofL] at hq
        exact hq
    · skip
      go_simp
      go_at_call 62
      refine (octets_any st 8 X19 HG.out.2 (by decide)).mono ?_
      rintro e X31 ⟨r, rfl, g31, c31, rfl, ho31, hb31⟩
      rw [numL_length]
      have f4_31 := HoldsB.below f4_19 hb31
      have b31 := below_cat b19 hb31
      have f8_31 := ho31.holds
      refine hK.out _ _ (HS.out _ b31) (fun _ => ?_)
      clear hK K
      try simp only [Act.put, List.getElem_toArray, List.getElem_cons_zero, List.getElem_cons_succ, List.setIfInBounds_toArray, List.set_cons_zero, List.set_cons_succ]
      refine wpAnyH_ready (rs := [1]) (by kernel_rfl) (by simp) ?_
      refine AllReadyH.cons (o := _) rfl (fun K hK => ?_) AllReadyH.nil
      refine step_is rfl (wp_buildSlice 33 5 4 #[(0, .const (.int .u8 76)), (1, .const (.int .u8 69)), (2, .const (.int .u8 67)), (3, .const (.int .u8 84))] rfl litV ib (.int .u8 0) Try.underlying33 HI.out.1 HI.out.2.1 (by rw [HI.out.2.2.1]; decide) (by rw [HI.out.2.2.1]; decide) (by rw [HI.out.2.2.1, Array.toList_map]; exact fill_lit) ?_)
      have hb32 : Below X31.heap.size X31 (X31.alloc (.cells litV 5)) := (Below.refl _ _).alloc (Nat.le_refl _) _
      have lb32 := heap_alloc_new X31 (.cells litV 5)
      have bb32 := below_cat b31 hb32
      have f4_32 := HoldsB.below f4_31 hb32
      have f8_32 := HoldsB.below f8_31 hb32
      have sa32 : W0.heap.size ≤ X31.heap.size := b31.size
      obtain ⟨A32, hA32⟩ : ∃ A, X31.heap.size = A := ⟨_, rfl⟩
      rw [hA32] at lb32 sa32 ⊢
      obtain ⟨X32, hY32⟩ : ∃ Y, X31.alloc (.cells litV 5) = Y := ⟨_, rfl⟩
      rw [hY32] at lb32 bb32 f4_32 f8_32 ⊢
      clear hY32 hb32 hA32
      have b32 := bb32
      refine hK.out _ _ (HS.out _ b32) (fun _ => ?_)
      clear hK K
      try simp only [Act.put, List.getElem_toArray, List.getElem_cons_zero, List.getElem_cons_succ, List.setIfInBounds_toArray, List.set_cons_zero, List.set_cons_succ]
      refine wpAnyH_ready (rs := [2]) (by kernel_rfl) (by simp) ?_
      refine AllReadyH.cons (o := _) rfl (fun K hK => ?_) AllReadyH.nil
      obtain ⟨X33, hrun33, lb33, ho33, hz33, e133, e233, e333⟩ := conv_late (n := 4) (c := 4) lb32
      have b33 := below_late b32 sa32 ho33 hz33 e133 e233 e333
      have f4_33 := holds_late f4_32 (cells_late lb32 lb33 ho33)
      have f8_33 := holds_late f8_32 (cells_late lb32 lb33 ho33)
      refine step_is rfl (wp_conv_eq 33 33 (.tmp 15) rfl _ _ X33 (by rfl) hrun33 ?_)
      clear ho33 hz33 e133 e233 e333 hrun33
      refine hK.out _ _ (HS.out _ b33) (fun _ => ?_)
      clear hK K
      try simp only [Act.put, List.getElem_toArray, List.getElem_cons_zero, List.getElem_cons_succ, List.setIfInBounds_toArray, List.set_cons_zero, List.set_cons_succ]
      refine wpAnyH_ready (rs := [10]) (by kernel_rfl) (by simp) ?_
      refine AllReadyH.cons (o := _) rfl (fun K hK => ?_) AllReadyH.nil
      refine step_is rfl (wp_buildSlice 28 33 3 #[(0, .tmp 16), (1, .tmp 20), (2, .tmp 23)] rfl #[.slice (some ⟨A32, 0, none⟩) 4 4, .slice (some ⟨g19, 0, none⟩) 4 c19, .slice (some ⟨g31, 0, none⟩) 8 c31] ir (.slice none 0 0) Try.underlying28 HIR.out.1 HIR.out.2.1 (by rw [HIR.out.2.2.1]; decide) (by rw [HIR.out.2.2.1]; decide) (by rw [HIR.out.2.2.1, Array.toList_map]; exact fill_three _ _ _ _ _ _ _ _ _) ?_)
      have b34 := b33.alloc b33.size (.cells #[.slice (some ⟨A32, 0, none⟩) 4 4, .slice (some ⟨g19, 0, none⟩) 4 c19, .slice (some ⟨g31, 0, none⟩) 8 c31] 33)
      refine hK.out _ _ (HS.out _ b34) (fun _ => ?_)
      clear hK K
      try simp only [Act.put, List.getElem_toArray, List.getElem_cons_zero, List.getElem_cons_succ, List.setIfInBounds_toArray, List.set_cons_zero, List.set_cons_succ]
      refine wpAnyH_ready (rs := [11]) (by kernel_rfl) (by simp) ?_
      refine AllReadyH.cons (o := _) rfl (fun K hK => ?_) AllReadyH.nil
      go_simp
      go_at_call 61
      refine (head_cat X33 (lit_holds lb33) f4_33 f8_33).mono ?_
      rintro e X35 ⟨r, rfl, gc, cc, rfl, hoc, hbc⟩
      have b35 := below_cat b33 hbc
      have hlc : (litL ++ (numL gen 4 ++ numL st 8)).length = 16 := by simp [litL, numL_length]
      rw [hlc]
      refine hK.out _ _ (HS.out _ b35) (fun _ => ?_)
      clear hK K
      try simp only [Act.put, List.getElem_toArray, List.getElem_cons_zero, List.getElem_cons_succ, List.setIfInBounds_toArray, List.set_cons_zero, List.set_cons_succ]
      refine wpAnyH_ready (rs := [12]) (by kernel_rfl) (by simp) ?_
      refine AllReadyH.cons (o := _) rfl (fun K hK => ?_) AllReadyH.nil
      have zX : X35.heap[w.heap.size + 1]? = some (.cells z60.toArray 5 (0, 0)) := (b35.block _ (by rw [H0.out.1]; omega)).trans H0.out.2.1
      refine step_copy_splice rfl (.tmp 14) (.tmp 25) 33 33 rfl 5 Try.underlying33 (by kernel_rfl) (some ⟨w.heap.size + 1, 0, none⟩) (some ⟨gc, 0, none⟩) 60 60 16 cc (by rfl) (by rfl) (w.heap.size + 1) 0 z60 5 zX (bytesV (ofL (litL ++ (numL gen 4 ++ numL st 8)))) (by rw [bytesV_length, ofL_size, hlc]; rfl) (fun _ => ⟨rfl, _, rfl, fun j v hv => cells_src hoc.holds j v hv⟩) (by rw [bytesV_length, ofL_size, hlc]; decide) (bytesV_one _) (w.heap.size + 1) X35 (Below.refl _ _) (Nat.le_refl _) ?_
      intro X36 hw36 hb36
      refine hK.out _ _ ⟨(hb36.cell (by show w.heap.size < w.heap.size + 1; omega)).trans (HS.out _ b35).1, (hb36.cell (by show w.heap.size < w.heap.size + 1; omega)).trans (HS.out _ b35).2⟩ (fun _ => ?_)
      clear hK K
      have hwf := hw36.out
      rw [splice60 _ (by rw [hlc]; decide)] at hwf
      have hbw : Below w.heap.size w X36 := (H0.out.2.2.1.trans (b35.mono (by rw [H0.out.1]; omega))).trans (hb36.mono (by omega))
      refine wpAnyH_done (by kernel_rfl) ?_ _
      clear hHeld
      go_wp2_with (fail)
      refine (seal_any (some ⟨w.heap.size + 1, 0, none⟩) _ 60 60 X36 (by rw [ofL_size, fillL_length (by rw [hlc]; decide)]) (by decide) (row_holds hwf) (fun e => by cases e)).mono ?_
      rintro e Z ⟨r, rfl, hr⟩
      have HR := Lib.hid (hr.after hbw)
      clear hr
      go_wp2_with (fail)
      go_ret2
      refine ⟨_, rfl, ?_⟩
      have hq := HR.out
      rw [bl_ofL] at hq
      exact hq
end Go.Proofs.Ytlkffignbjpfcaa
