/- Proved here: what the document's head of 64 bytes is. -/
import Derived.Test.YtlkffignbjpfcaaRefHead
namespace Go.Proofs.Ytlkffignbjpfcaa
open Go.RowKit

set_option maxRecDepth 100000 in
set_option maxHeartbeats 2000000 in
theorem rtakehead_len (p : Option Addr) (m c : Nat) (hm : m ≠ 64) (w : World) :
    Calls Try.prog 17 #[.slice p m c] w (HeadPost (0, 0, 6) w) := by
  have hm9 : ((m : Int) == 64) = false := by rw [beq_eq_false_iff_ne]; omega
  have hb : Below w.heap.size w (w.alloc (.cells #[.int .i64 0, .int .u64 0] 49)) := (Below.refl _ _).alloc (Nat.le_refl _) _
  have HB := Lib.hid hb
  clear hb hm
  go_enter Try.func17, Try.ntmps17
  go_wp2_with (fail)
  (try simp only [Exit.inBlock, Exit.then])
  refine bodyPost_ret (v := .tuple #[.agg #[.int .i64 0, .int .u64 0], .int .i64 6]) ?_ rfl ⟨rfl, ?_⟩
  · rw [results_cell_tmp rfl]
    go_simp
  · first | exact HB.out | exact (HB.out.setCell (Nat.le_refl _) _)
set_option maxRecDepth 100000 in
set_option maxHeartbeats 16000000 in
theorem rtakehead_64 (b off : Nat) (s : ByteArray) (c : Nat) (w : World) (hs : s.size = 64) (hc : 64 ≤ c) (hp : HoldsB w (some ⟨b, off, none⟩) s) :
    Calls Try.prog 17 #[.slice (some ⟨b, off, none⟩) 64 c] w (HeadPost (headR (bl s)) w) := by
  have hl : (bl s).length = 64 := by rw [bl_length, hs]
  obtain ⟨WA, hWA⟩ : ∃ WA, w.alloc (.cells #[.int .i64 0, .int .u64 0] 49) = WA := ⟨_, rfl⟩
  have nA : WA.heap[w.heap.size]? = some (.cells #[.int .i64 0, .int .u64 0] 49 (0, 0)) := by rw [← hWA]; exact heap_alloc_new _ _
  have bA : Below w.heap.size w WA := by rw [← hWA]; exact (Below.refl _ _).alloc (Nat.le_refl _) _
  have HH := Lib.hid (And.intro hp (And.intro hs (And.intro hl (And.intro nA bA))))
  have hc9 : (64 : Int) ≤ (c : Int) := by omega
  have hc4 : ¬ c = 4 := by omega
  have e4 : (4 : Int) ≤ (c : Int) := by omega
  have b4s : bl (s.extract 4 64) = (bl s).drop 4 := by rw [bl_extract, List.take_of_length_le (by rw [List.length_drop, hl]; decide)]
  have SM := Lib.hid (fun W (hW : Below WA.heap.size WA W) => (rseal_any (some ⟨b, off + 4, none⟩) (s.extract 4 64) 60 (c - 4) W (ext_size s 4 64 (by rw [hs]; decide)) (by decide) (((hp.below bA).below hW).part 4 64 (by rw [hs]; decide)) (fun e => by cases e)).mono (fun _ _ (h : ∃ r, _ ∧ NewB _ W r _) => show ∃ r, _ ∧ NewB (sealL (bl (s.extract 4 64))) WA r _ from h.imp fun _ h => ⟨h.1, h.2.after hW⟩))
  rw [b4s] at SM
  have CV := Lib.hid (fun W (hW : Below WA.heap.size WA W) => conv_str ((hp.below bA).below hW) c (fun e => by cases e))
  rw [hs] at CV
  have hz4 : (sealL ((bl s).drop 4)).length = 64 := by rw [sealL_length, List.length_drop, hl]
  have HZ := Lib.hid hz4
  obtain ⟨X, hX⟩ : ∃ X, headR (bl s) = X := ⟨_, rfl⟩
  rw [hX]
  have hX' : (if sealed (bl s) = false then (0, 0, 10) else if 1 ≤ valN (((bl s).drop 8).take 4) ∧ headL (valN (((bl s).drop 8).take 4)) (valN (((bl s).drop 12).take 8)) = bl s then (valN (((bl s).drop 8).take 4), valN (((bl s).drop 12).take 8), 0) else (0, 0, 11)) = X := by
    rw [← hX]; unfold headR; rw [if_neg (show ¬ (bl s).length ≠ 64 by rw [hl]; simp)]
  have HX := Lib.hid hX'
  have hq2 := (same_data (ofL (sealL ((bl s).drop 4))) s).trans (sealed_dec s (by rw [hs]; decide))
  have cA := CV.out WA (Below.refl _ _)
  have cAd := CV.out WA.drew (Below.refl _ _).drew
  clear hp hs hl nA bA hc hX hX' b4s hz4
  cases q2 : sealed (bl s)
  · have hX := HX.out
    rw [q2, if_pos rfl] at hX
    rw [q2] at hq2
    have HX3 := Lib.hid hX.symm
    clear hX HX q2
    go_enter Try.func17, Try.ntmps17
    go_wp2_with (fail)
    go_region_with (go_at_call 45; refine (SM.out WA.drew (Below.refl _ _).drew).mono ?_; rintro e W1 ⟨r, rfl, g2, k2, rfl, ho2, hb2⟩; have hc2 := CV.out W1 hb2; have hc3 := conv_str ho2.holds k2 (fun e => by cases e); rw [ofL_size, HZ.out] at hc3; have hz := HZ.out; rw [hz]; clear hz)
    all_goals
      have n4 := (hb2.block _ (blk_lt2 HH.out.2.2.2.1)).trans HH.out.2.2.2.1
      have d0 : W1.cell? ⟨w.heap.size, 0, none⟩ = some (.int .i64 0) := by rw [cell_of_row _ _ _ _ _ _ n4]; rfl
      have d1 : W1.cell? ⟨w.heap.size, 1, none⟩ = some (.int .u64 0) := by rw [cell_of_row _ _ _ _ _ _ n4]; rfl
      have f0 : W1.frozen? ⟨w.heap.size, 0, none⟩ = false := frozen_of_row _ _ _ _ _ n4
      have f1 : W1.frozen? ⟨w.heap.size, 1, none⟩ = false := frozen_of_row _ _ _ _ _ n4
      have B4 := Lib.hid (below_cat HH.out.2.2.2.2 hb2)
      clear n4 hb2 hc2 hc3 ho2 hq2 cA cAd hWA
      go_wp2_with (fail)
      (try simp only [Exit.inBlock, Exit.then])
      refine bodyPost_ret (v := .tuple #[.agg #[.int .i64 0, .int .u64 0], .int .i64 10]) ?_ rfl ⟨by rw [HX3.out]; rfl, ?_⟩
      · rw [results_cell_tmp rfl]
        go_simp
      · first | exact (B4.out.setCell (Nat.le_refl _) _).setCell (Nat.le_refl _) _ | exact B4.out
  · have hX := HX.out
    rw [q2, if_neg (by simp)] at hX
    rw [q2] at hq2
    have NB1 := Lib.hid (fun W (hW : Below w.heap.size w W) => value_any (some ⟨b, off + 8, none⟩) (s.extract 8 12) 4 (c - 8) W (ext_size s 8 12 (by rw [HH.out.2.1]; decide)) (by decide) ((HH.out.1.below hW).part 8 12 (by rw [HH.out.2.1]; decide)))
    have NB2 := Lib.hid (fun W (hW : Below w.heap.size w W) => wide_any (some ⟨b, off + 12, none⟩) (s.extract 12 20) 8 (c - 12) W (ext_size s 12 20 (by rw [HH.out.2.1]; decide)) (by decide) ((HH.out.1.below hW).part 12 20 (by rw [HH.out.2.1]; decide)))
    have CB := Lib.hid (fun W (hW : Below w.heap.size w W) => conv_str (HH.out.1.below hW) c (fun e => by cases e))
    rw [HH.out.2.1] at CB
    have b4 : bl (s.extract 8 12) = ((bl s).drop 8).take 4 := bl_extract s 8 12
    have b8 : bl (s.extract 12 20) = ((bl s).drop 12).take 8 := bl_extract s 12 20
    have v4 : valN (((bl s).drop 8).take 4) < 4294967296 := by
      have h1 := valG_lt (((bl s).drop 8).take 4)
      have h2 : (((bl s).drop 8).take 4).length = 4 := by rw [List.length_take, List.length_drop, HH.out.2.2.1]; rfl
      rw [h2] at h1
      exact h1
    have v8 : valN (((bl s).drop 12).take 8) < 18446744073709551616 := by
      have h1 := valG_lt (((bl s).drop 12).take 8)
      have h2 : (((bl s).drop 12).take 8).length = 8 := by rw [List.length_take, List.length_drop, HH.out.2.2.1]; rfl
      rw [h2] at h1
      exact h1
    rw [b4] at NB1
    rw [b8] at NB2
    obtain ⟨G, hG⟩ : ∃ G, valN (((bl s).drop 8).take 4) = G := ⟨_, rfl⟩
    obtain ⟨T, hT⟩ : ∃ T, valN (((bl s).drop 12).take 8) = T := ⟨_, rfl⟩
    rw [hG] at NB1 hX v4
    rw [hT] at NB2 hX v8
    have HX2 := Lib.hid hX
    have HV := Lib.hid (And.intro v4 v8)
    have k8 : ¬ c = 8 := by omega
    have k12 : ¬ c = 12 := by omega
    have e12 : (12 : Int) ≤ (c : Int) := by omega
    have e20 : (20 : Int) ≤ (c : Int) := by omega
    clear hX HX q2 b4 b8 v4 v8 hG hT
    by_cases q3 : 1 ≤ G
    · have hX := HX2.out
      by_cases q4 : headL G T = bl s
      · rw [if_pos ⟨q3, q4⟩] at hX
        have HX3 := Lib.hid hX.symm
        have t4 : ((ofL (headL G T)).toList == s.toList) = true := by rw [same_data, q4, ofL_bl]; simp
        have HT4 := Lib.hid (And.intro q3 t4)
        clear hX HX2 q3 q4 t4
        go_enter Try.func17, Try.ntmps17
        go_wp2_with (fail)
        go_region_with (go_at_call 45; refine (SM.out WA.drew (Below.refl _ _).drew).mono ?_; rintro e W1 ⟨r, rfl, g2, k2, rfl, ho2, hb2⟩; have hc2 := CV.out W1 hb2; have hc3 := conv_str ho2.holds k2 (fun e => by cases e); rw [ofL_size, HZ.out] at hc3; have hz := HZ.out; rw [hz]; clear hz)
        all_goals
          have n1 := (hb2.block _ (blk_lt2 HH.out.2.2.2.1)).trans HH.out.2.2.2.1
          have HB := Lib.hid (And.intro (below_cat HH.out.2.2.2.2 hb2) n1)
          clear n1 hb2 hc2 hc3 ho2 hq2 cA cAd hWA
          go_wp2_with (fail)
          go_region_with (first | (go_at_call 49; with_reducible (refine (NB1.out _ (by first | exact HB.out.1.drew | exact HB.out.1 | exact (HB.out.1.alloc HB.out.1.size _).drew | exact HB.out.1.drew.alloc HB.out.1.size _)).mono ?_); rintro e W2 ⟨rfl, rfl⟩) | (go_at_call 50; with_reducible (refine (NB2.out _ (by first | exact HB.out.1.drew | exact HB.out.1 | exact (HB.out.1.alloc HB.out.1.size _).drew | exact HB.out.1.drew.alloc HB.out.1.size _)).mono ?_); rintro e W2 ⟨rfl, rfl⟩))
          all_goals
            obtain ⟨W3, hW3⟩ : ∃ W3, (W1.alloc (Obj.cells #[Value.int IntKind.i64 (G : Int), Value.int IntKind.u64 (T : Int)] 49)).drew = W3 := ⟨_, rfl⟩
            have nH : W3.heap[W1.heap.size]? = some (.cells #[.int .i64 (G : Int), .int .u64 (T : Int)] 49 (0, 0)) := by rw [← hW3]; exact heap_alloc_new _ _
            have nR : W3.heap[w.heap.size]? = some (.cells #[.int .i64 0, .int .u64 0] 49 (0, 0)) := by
              rw [← hW3]
              exact (Below.heap_alloc W1 _ _ (blk_lt2 HB.out.2)).trans HB.out.2
            have b3 : Below w.heap.size w W3 := by rw [← hW3]; exact (HB.out.1.alloc HB.out.1.size _).drew
            have h0 : W3.cell? ⟨W1.heap.size, 0, none⟩ = some (.int .i64 (G : Int)) := by rw [cell_of_row _ _ _ _ _ _ nH]; rfl
            have h1 : W3.cell? ⟨W1.heap.size, 1, none⟩ = some (.int .u64 (T : Int)) := by rw [cell_of_row _ _ _ _ _ _ nH]; rfl
            have H3 := Lib.hid (And.intro nH (And.intro nR b3))
            rw [hW3]
            clear nH nR b3 hW3
            go_wp2_with (fail)
            refine (rlayhead_ok G T HT4.out.1 (by have := HV.out.1; omega) HV.out.2 W3).mono ?_
            rintro e W4 ⟨r, rfl, gr, cr, rfl, hor, hb⟩
            have n4 := (hb.block _ (blk_lt2 H3.out.2.1)).trans H3.out.2.1
            have m4 := (hb.block _ (blk_lt2 H3.out.1)).trans H3.out.1
            have d0 : W4.cell? ⟨w.heap.size, 0, none⟩ = some (.int .i64 0) := by rw [cell_of_row _ _ _ _ _ _ n4]; rfl
            have d1 : W4.cell? ⟨w.heap.size, 1, none⟩ = some (.int .u64 0) := by rw [cell_of_row _ _ _ _ _ _ n4]; rfl
            have f0 : W4.frozen? ⟨w.heap.size, 0, none⟩ = false := frozen_of_row _ _ _ _ _ n4
            have f1 : W4.frozen? ⟨w.heap.size, 1, none⟩ = false := frozen_of_row _ _ _ _ _ n4
            have q0 : W4.cell? ⟨W1.heap.size, 0, none⟩ = some (.int .i64 (G : Int)) := by rw [cell_of_row _ _ _ _ _ _ m4]; rfl
            have q1 : W4.cell? ⟨W1.heap.size, 1, none⟩ = some (.int .u64 (T : Int)) := by rw [cell_of_row _ _ _ _ _ _ m4]; rfl
            have B4 := Lib.hid (below_cat H3.out.2.2 hb)
            have z1 := conv_str hor.holds cr (fun e => by cases e)
            rw [ofL_size, headL_length] at z1
            have z2 := CB.out W4 B4.out
            have z3 := HT4.out.2
            rw [headL_length]
            clear hb n4 m4 hor
            go_wp2_with (fail)
            (try simp only [Exit.inBlock, Exit.then])
            refine bodyPost_ret (v := .tuple #[.agg #[.int .i64 (G : Int), .int .u64 (T : Int)], .int .i64 0]) ?_ rfl ⟨by rw [HX3.out]; rfl, ?_⟩
            · rw [results_cell_tmp rfl]
              go_simp
            · first | exact (B4.out.setCell (Nat.le_refl _) _).setCell (Nat.le_refl _) _ | exact B4.out
      · rw [if_neg (fun h => q4 h.2)] at hX
        have HX3 := Lib.hid hX.symm
        have t4 : ((ofL (headL G T)).toList == s.toList) = false := by
          rw [same_data, decide_eq_false_iff_not]
          intro e
          apply q4
          have := congrArg bl e
          rwa [bl_ofL] at this
        have HT4 := Lib.hid (And.intro q3 t4)
        clear hX HX2 q3 q4 t4
        go_enter Try.func17, Try.ntmps17
        go_wp2_with (fail)
        go_region_with (go_at_call 45; refine (SM.out WA.drew (Below.refl _ _).drew).mono ?_; rintro e W1 ⟨r, rfl, g2, k2, rfl, ho2, hb2⟩; have hc2 := CV.out W1 hb2; have hc3 := conv_str ho2.holds k2 (fun e => by cases e); rw [ofL_size, HZ.out] at hc3; have hz := HZ.out; rw [hz]; clear hz)
        all_goals
          have n1 := (hb2.block _ (blk_lt2 HH.out.2.2.2.1)).trans HH.out.2.2.2.1
          have HB := Lib.hid (And.intro (below_cat HH.out.2.2.2.2 hb2) n1)
          clear n1 hb2 hc2 hc3 ho2 hq2 cA cAd hWA
          go_wp2_with (fail)
          go_region_with (first | (go_at_call 49; with_reducible (refine (NB1.out _ (by first | exact HB.out.1.drew | exact HB.out.1 | exact (HB.out.1.alloc HB.out.1.size _).drew | exact HB.out.1.drew.alloc HB.out.1.size _)).mono ?_); rintro e W2 ⟨rfl, rfl⟩) | (go_at_call 50; with_reducible (refine (NB2.out _ (by first | exact HB.out.1.drew | exact HB.out.1 | exact (HB.out.1.alloc HB.out.1.size _).drew | exact HB.out.1.drew.alloc HB.out.1.size _)).mono ?_); rintro e W2 ⟨rfl, rfl⟩))
          all_goals
            obtain ⟨W3, hW3⟩ : ∃ W3, (W1.alloc (Obj.cells #[Value.int IntKind.i64 (G : Int), Value.int IntKind.u64 (T : Int)] 49)).drew = W3 := ⟨_, rfl⟩
            have nH : W3.heap[W1.heap.size]? = some (.cells #[.int .i64 (G : Int), .int .u64 (T : Int)] 49 (0, 0)) := by rw [← hW3]; exact heap_alloc_new _ _
            have nR : W3.heap[w.heap.size]? = some (.cells #[.int .i64 0, .int .u64 0] 49 (0, 0)) := by
              rw [← hW3]
              exact (Below.heap_alloc W1 _ _ (blk_lt2 HB.out.2)).trans HB.out.2
            have b3 : Below w.heap.size w W3 := by rw [← hW3]; exact (HB.out.1.alloc HB.out.1.size _).drew
            have h0 : W3.cell? ⟨W1.heap.size, 0, none⟩ = some (.int .i64 (G : Int)) := by rw [cell_of_row _ _ _ _ _ _ nH]; rfl
            have h1 : W3.cell? ⟨W1.heap.size, 1, none⟩ = some (.int .u64 (T : Int)) := by rw [cell_of_row _ _ _ _ _ _ nH]; rfl
            have H3 := Lib.hid (And.intro nH (And.intro nR b3))
            rw [hW3]
            clear nH nR b3 hW3
            go_wp2_with (fail)
            refine (rlayhead_ok G T HT4.out.1 (by have := HV.out.1; omega) HV.out.2 W3).mono ?_
            rintro e W4 ⟨r, rfl, gr, cr, rfl, hor, hb⟩
            have n4 := (hb.block _ (blk_lt2 H3.out.2.1)).trans H3.out.2.1
            have m4 := (hb.block _ (blk_lt2 H3.out.1)).trans H3.out.1
            have d0 : W4.cell? ⟨w.heap.size, 0, none⟩ = some (.int .i64 0) := by rw [cell_of_row _ _ _ _ _ _ n4]; rfl
            have d1 : W4.cell? ⟨w.heap.size, 1, none⟩ = some (.int .u64 0) := by rw [cell_of_row _ _ _ _ _ _ n4]; rfl
            have f0 : W4.frozen? ⟨w.heap.size, 0, none⟩ = false := frozen_of_row _ _ _ _ _ n4
            have f1 : W4.frozen? ⟨w.heap.size, 1, none⟩ = false := frozen_of_row _ _ _ _ _ n4
            have q0 : W4.cell? ⟨W1.heap.size, 0, none⟩ = some (.int .i64 (G : Int)) := by rw [cell_of_row _ _ _ _ _ _ m4]; rfl
            have q1 : W4.cell? ⟨W1.heap.size, 1, none⟩ = some (.int .u64 (T : Int)) := by rw [cell_of_row _ _ _ _ _ _ m4]; rfl
            have B4 := Lib.hid (below_cat H3.out.2.2 hb)
            have z1 := conv_str hor.holds cr (fun e => by cases e)
            rw [ofL_size, headL_length] at z1
            have z2 := CB.out W4 B4.out
            have z3 := HT4.out.2
            rw [headL_length]
            clear hb n4 m4 hor
            go_wp2_with (fail)
            (try simp only [Exit.inBlock, Exit.then])
            refine bodyPost_ret (v := .tuple #[.agg #[.int .i64 0, .int .u64 0], .int .i64 11]) ?_ rfl ⟨by rw [HX3.out]; rfl, ?_⟩
            · rw [results_cell_tmp rfl]
              go_simp
            · first | exact (B4.out.setCell (Nat.le_refl _) _).setCell (Nat.le_refl _) _ | exact B4.out
    · have hX := HX2.out
      rw [if_neg (fun h => q3 h.1)] at hX
      have HX3 := Lib.hid hX.symm
      have HG1 := Lib.hid (show (G : Int) < 1 by omega)
      clear hX HX2 q3
      go_enter Try.func17, Try.ntmps17
      go_wp2_with (fail)
      go_region_with (go_at_call 45; refine (SM.out WA.drew (Below.refl _ _).drew).mono ?_; rintro e W1 ⟨r, rfl, g2, k2, rfl, ho2, hb2⟩; have hc2 := CV.out W1 hb2; have hc3 := conv_str ho2.holds k2 (fun e => by cases e); rw [ofL_size, HZ.out] at hc3; have hz := HZ.out; rw [hz]; clear hz)
      all_goals
        have n1 := (hb2.block _ (blk_lt2 HH.out.2.2.2.1)).trans HH.out.2.2.2.1
        have HB := Lib.hid (And.intro (below_cat HH.out.2.2.2.2 hb2) n1)
        clear n1 hb2 hc2 hc3 ho2 hq2 cA cAd hWA
        go_wp2_with (fail)
        go_region_with (first | (go_at_call 49; with_reducible (refine (NB1.out _ (by first | exact HB.out.1.drew | exact HB.out.1 | exact (HB.out.1.alloc HB.out.1.size _).drew | exact HB.out.1.drew.alloc HB.out.1.size _)).mono ?_); rintro e W2 ⟨rfl, rfl⟩) | (go_at_call 50; with_reducible (refine (NB2.out _ (by first | exact HB.out.1.drew | exact HB.out.1 | exact (HB.out.1.alloc HB.out.1.size _).drew | exact HB.out.1.drew.alloc HB.out.1.size _)).mono ?_); rintro e W2 ⟨rfl, rfl⟩))
        all_goals
          obtain ⟨W3, hW3⟩ : ∃ W3, (W1.alloc (Obj.cells #[Value.int IntKind.i64 (G : Int), Value.int IntKind.u64 (T : Int)] 49)).drew = W3 := ⟨_, rfl⟩
          have nH : W3.heap[W1.heap.size]? = some (.cells #[.int .i64 (G : Int), .int .u64 (T : Int)] 49 (0, 0)) := by rw [← hW3]; exact heap_alloc_new _ _
          have nR : W3.heap[w.heap.size]? = some (.cells #[.int .i64 0, .int .u64 0] 49 (0, 0)) := by
            rw [← hW3]
            exact (Below.heap_alloc W1 _ _ (blk_lt2 HB.out.2)).trans HB.out.2
          have b3 : Below w.heap.size w W3 := by rw [← hW3]; exact (HB.out.1.alloc HB.out.1.size _).drew
          have h0 : W3.cell? ⟨W1.heap.size, 0, none⟩ = some (.int .i64 (G : Int)) := by rw [cell_of_row _ _ _ _ _ _ nH]; rfl
          have h1 : W3.cell? ⟨W1.heap.size, 1, none⟩ = some (.int .u64 (T : Int)) := by rw [cell_of_row _ _ _ _ _ _ nH]; rfl
          have H3 := Lib.hid (And.intro nH (And.intro nR b3))
          rw [hW3]
          clear nH nR b3 hW3
          go_wp2_with (fail)
          refine (rlayhead_arg (G : Int) (T : Int) (.inl HG1.out) W3).mono ?_
          rintro e W4 ⟨rfl, hb⟩
          have n4 := (hb.block _ (blk_lt2 H3.out.2.1)).trans H3.out.2.1
          have m4 := (hb.block _ (blk_lt2 H3.out.1)).trans H3.out.1
          have d0 : W4.cell? ⟨w.heap.size, 0, none⟩ = some (.int .i64 0) := by rw [cell_of_row _ _ _ _ _ _ n4]; rfl
          have d1 : W4.cell? ⟨w.heap.size, 1, none⟩ = some (.int .u64 0) := by rw [cell_of_row _ _ _ _ _ _ n4]; rfl
          have f0 : W4.frozen? ⟨w.heap.size, 0, none⟩ = false := frozen_of_row _ _ _ _ _ n4
          have f1 : W4.frozen? ⟨w.heap.size, 1, none⟩ = false := frozen_of_row _ _ _ _ _ n4
          have q0 : W4.cell? ⟨W1.heap.size, 0, none⟩ = some (.int .i64 (G : Int)) := by rw [cell_of_row _ _ _ _ _ _ m4]; rfl
          have q1 : W4.cell? ⟨W1.heap.size, 1, none⟩ = some (.int .u64 (T : Int)) := by rw [cell_of_row _ _ _ _ _ _ m4]; rfl
          have B4 := Lib.hid (below_cat H3.out.2.2 hb)
          clear hb n4 m4
          go_wp2_with (fail)
          (try simp only [Exit.inBlock, Exit.then])
          refine bodyPost_ret (v := .tuple #[.agg #[.int .i64 0, .int .u64 0], .int .i64 11]) ?_ rfl ⟨by rw [HX3.out]; rfl, ?_⟩
          · rw [results_cell_tmp rfl]
            go_simp
          · first | exact (B4.out.setCell (Nat.le_refl _) _).setCell (Nat.le_refl _) _ | exact B4.out
end Go.Proofs.Ytlkffignbjpfcaa
