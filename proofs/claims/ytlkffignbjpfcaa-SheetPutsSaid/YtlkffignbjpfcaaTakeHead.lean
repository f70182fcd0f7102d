/- Proved here: what the program's head of bytes is, given what its bytes of a head are. -/
import Derived.Test.YtlkffignbjpfcaaHeadKit
import Derived.Laws.ResultCell
namespace Go.Proofs.Ytlkffignbjpfcaa
open Go.RowKit

set_option maxHeartbeats 1000000 in
theorem equal_any (p q : Option Addr) (s t : ByteArray) (n m c d : Nat) (w : World) (hn : s.size = n) (hm : t.size = m) (hp : HoldsB w p s) (hq : HoldsB w q t) :
    Calls Try.prog 68 #[.slice p n c, .slice q m d] w fun e w' => e = .returned (.bool (decide (s = t))) ∧ w = w' := by
  have h1 := conv_str hp c (holds_none hp)
  have h2 := conv_str hq d (holds_none hq)
  rw [hn] at h1
  rw [hm] at h2
  clear hp hq hn hm
  go_enter Try.func68, Try.ntmps68
  go_wp2_with (fail)
  all_goals (go_ret; exact ⟨ret_bool (by first | exact same_data s t | simp [same_data]), rfl⟩)
set_option maxRecDepth 100000 in
set_option maxHeartbeats 2000000 in
theorem layhead_arg (gen st : Int) (h : gen < 1 ∨ 4294967295 < gen) (w : World) :
    Calls Try.prog 48 #[.agg #[.int .i64 gen, .int .u64 st]] w fun e w' => e = .returned (.tuple #[.slice none 0 0, .int .i64 1]) ∧ Below w.heap.size w w' := by
  have hA := heap_alloc_new w (.cells #[.int .i64 gen, .int .u64 st] 56)
  have c0 : (w.alloc (.cells #[.int .i64 gen, .int .u64 st] 56)).cell? ⟨w.heap.size, 0, none⟩ = some (.int .i64 gen) := by rw [cell_of_row _ _ _ _ _ _ hA]; rfl
  have hb : Below w.heap.size w (w.alloc (.cells #[.int .i64 gen, .int .u64 st] 56)) := (Below.refl _ _).alloc (Nat.le_refl _) _
  have HB := Lib.hid hb
  clear hb hA
  rcases h with h | h
  · go_enter Try.func48, Try.ntmps48
    go_wp2_with (fail)
    all_goals first | (exfalso; omega) | (go_ret2; exact ⟨rfl, HB.out⟩)
  · have h' : ¬ gen < 1 := by omega
    go_enter Try.func48, Try.ntmps48
    go_wp2_with (fail)
    all_goals first | (exfalso; omega) | (go_ret2; exact ⟨rfl, HB.out⟩)
/-- A head's number, its stamp, the error, of bytes. -/
def headR (l : List UInt8) : Nat × Nat × Nat :=
  if l.length ≠ 64 then (0, 0, 6) else if sealed l = false then (0, 0, 10) else
    if 1 ≤ valN ((l.drop 8).take 4) ∧ headL (valN ((l.drop 8).take 4)) (valN ((l.drop 12).take 8)) = l then (valN ((l.drop 8).take 4), valN ((l.drop 12).take 8), 0) else (0, 0, 11)
def HeadPost (x : Nat × Nat × Nat) (w : World) (e : Ending) (w' : World) : Prop := e = .returned (.tuple #[.agg #[.int .i64 (x.1 : Int), .int .u64 (x.2.1 : Int)], .int .i64 (x.2.2 : Int)]) ∧ Below w.heap.size w w'
theorem headR_len (l : List UInt8) (h : l.length ≠ 64) : headR l = (0, 0, 6) := by unfold headR; rw [if_pos h]
set_option maxRecDepth 100000 in
set_option maxHeartbeats 2000000 in
theorem takehead_len (p : Option Addr) (m c : Nat) (hm : m ≠ 64) (w : World) :
    Calls Try.prog 51 #[.slice p m c] w (HeadPost (0, 0, 6) w) := by
  have hm9 : ((m : Int) == 64) = false := by rw [beq_eq_false_iff_ne]; omega
  have hb : Below w.heap.size w (w.alloc (.cells #[.int .i64 0, .int .u64 0] 56)) := (Below.refl _ _).alloc (Nat.le_refl _) _
  have HB := Lib.hid hb
  clear hb hm
  go_enter Try.func51, Try.ntmps51
  go_wp2_with (fail)
  (try simp only [Exit.inBlock, Exit.then])
  refine bodyPost_ret (v := .tuple #[.agg #[.int .i64 0, .int .u64 0], .int .i64 6]) ?_ rfl ⟨rfl, ?_⟩
  · rw [results_cell_tmp rfl]
    go_simp
  · first | exact HB.out | exact (HB.out.setCell (Nat.le_refl _) _)
set_option maxRecDepth 100000 in
set_option maxHeartbeats 8000000 in
theorem takehead_64 (b off : Nat) (s : ByteArray) (c : Nat) (w : World) (hs : s.size = 64) (hc : 64 ≤ c) (hp : HoldsB w (some ⟨b, off, none⟩) s)
    (LH : ∀ (gen st : Nat) (_ : 1 ≤ gen) (_ : gen ≤ 4294967295) (_ : st < 18446744073709551616) (w : World), Calls Try.prog 48 #[.agg #[.int .i64 (gen : Int), .int .u64 (st : Int)]] w fun e w' => ∃ r, e = .returned (.tuple #[r, .int .i64 0]) ∧ NewB (headL gen st) w r w') :
    Calls Try.prog 51 #[.slice (some ⟨b, off, none⟩) 64 c] w (HeadPost (headR (bl s)) w) := by
  have hl : (bl s).length = 64 := by rw [bl_length, hs]
  obtain ⟨WA, hWA⟩ : ∃ WA, w.alloc (.cells #[.int .i64 0, .int .u64 0] 56) = WA := ⟨_, rfl⟩
  have nA : WA.heap[w.heap.size]? = some (.cells #[.int .i64 0, .int .u64 0] 56 (0, 0)) := by rw [← hWA]; exact heap_alloc_new _ _
  have bA : Below w.heap.size w WA := by rw [← hWA]; exact (Below.refl _ _).alloc (Nat.le_refl _) _
  have IS := sealed_keeps b off s 64 c WA hs (by decide) hc (by decide) (hp.below bA)
  have HH := Lib.hid (And.intro hp (And.intro hs (And.intro hl (And.intro nA bA))))
  have HLH := Lib.hid LH
  have hc9 : (64 : Int) ≤ (c : Int) := by omega
  obtain ⟨X, hX⟩ : ∃ X, headR (bl s) = X := ⟨_, rfl⟩
  rw [hX]
  have hX' : (if sealed (bl s) = false then (0, 0, 10) else if 1 ≤ valN (((bl s).drop 8).take 4) ∧ headL (valN (((bl s).drop 8).take 4)) (valN (((bl s).drop 12).take 8)) = bl s then (valN (((bl s).drop 8).take 4), valN (((bl s).drop 12).take 8), 0) else (0, 0, 11)) = X := by
    rw [← hX]; unfold headR; rw [if_neg (show ¬ (bl s).length ≠ 64 by rw [hl]; simp)]
  have HX := Lib.hid hX'
  clear hp hs hl nA bA LH hc hX hX'
  cases q2 : sealed (bl s)
  · have hX := HX.out
    rw [q2, if_pos rfl] at hX
    rw [q2] at IS
    have HIS := Lib.hid IS
    have HX2 := Lib.hid hX
    clear hX IS HX q2
    go_enter Try.func51, Try.ntmps51
    go_wp2_with (fail)
    refine HIS.out.mono ?_
    rintro e W1 ⟨rfl, hb⟩
    have n1 := (hb.block _ (blk_lt2 HH.out.2.2.2.1)).trans HH.out.2.2.2.1
    have d0 : W1.cell? ⟨w.heap.size, 0, none⟩ = some (.int .i64 0) := by rw [cell_of_row _ _ _ _ _ _ n1]; rfl
    have d1 : W1.cell? ⟨w.heap.size, 1, none⟩ = some (.int .u64 0) := by rw [cell_of_row _ _ _ _ _ _ n1]; rfl
    have f0 : W1.frozen? ⟨w.heap.size, 0, none⟩ = false := frozen_of_row _ _ _ _ _ n1
    have f1 : W1.frozen? ⟨w.heap.size, 1, none⟩ = false := frozen_of_row _ _ _ _ _ n1
    have HB := Lib.hid (below_cat HH.out.2.2.2.2 hb)
    clear hb n1 HIS hWA
    go_wp2_with (fail)
    rw [← HX2.out]
    (try simp only [Exit.inBlock, Exit.then])
    refine bodyPost_ret (v := .tuple #[.agg #[.int .i64 0, .int .u64 0], .int .i64 10]) ?_ rfl ⟨rfl, ?_⟩
    · rw [results_cell_tmp rfl]
      go_simp
    · first | exact HB.out | exact HB.out.setCell (Nat.le_refl _) _ | exact (HB.out.setCell (Nat.le_refl _) _).setCell (Nat.le_refl _) _
  · have hX := HX.out
    rw [q2, if_neg (by simp)] at hX
    rw [q2] at IS
    have HIS := Lib.hid IS
    have NB1 := Lib.hid (fun W (hW : Below w.heap.size w W) => number_any (some ⟨b, off + 8, none⟩) (s.extract 8 12) 4 (c - 8) W (ext_size s 8 12 (by rw [HH.out.2.1]; decide)) (by decide) ((HH.out.1.below hW).part 8 12 (by rw [HH.out.2.1]; decide)))
    have NB2 := Lib.hid (fun W (hW : Below w.heap.size w W) => number_any (some ⟨b, off + 12, none⟩) (s.extract 12 20) 8 (c - 12) W (ext_size s 12 20 (by rw [HH.out.2.1]; decide)) (by decide) ((HH.out.1.below hW).part 12 20 (by rw [HH.out.2.1]; decide)))
    have b4 : bl (s.extract 8 12) = ((bl s).drop 8).take 4 := bl_extract s 8 12
    have b8 : bl (s.extract 12 20) = ((bl s).drop 12).take 8 := bl_extract s 12 20
    have v4 : valN (((bl s).drop 8).take 4) < 4294967296 := by
      have h1 := valG_lt (((bl s).drop 8).take 4)
      have h2 : (((bl s).drop 8).take 4).length = 4 := by rw [List.length_take, List.length_drop, HH.out.2.2.1]; rfl
      rw [h2] at h1
      exact h1
    have v8 : valN (((bl s).drop 12).take 8) < 18446744073709551616 := by
      have h1 := valG_lt (((bl s).drop 12).take 8)
      have h2 : (((bl s).drop 12).take 8).length = 8 := by rw [List.length_take, List.length_drop, HH.out.2.2.1]; rfl
      rw [h2] at h1
      exact h1
    rw [b4] at NB1
    rw [b8] at NB2
    obtain ⟨G, hG⟩ : ∃ G, valN (((bl s).drop 8).take 4) = G := ⟨_, rfl⟩
    obtain ⟨T, hT⟩ : ∃ T, valN (((bl s).drop 12).take 8) = T := ⟨_, rfl⟩
    rw [hG] at NB1 hX v4
    rw [hT] at NB2 hX v8
    have HX2 := Lib.hid hX
    have HV := Lib.hid (And.intro v4 v8)
    have hG9 : (G : Int) < 4294967296 := by omega
    have k8 : ¬ c = 8 := by omega
    have k12 : ¬ c = 12 := by omega
    have e12 : (12 : Int) ≤ (c : Int) := by omega
    have e20 : (20 : Int) ≤ (c : Int) := by omega
    clear hX IS HX q2 b4 b8 v4 v8 hG hT
    have hwr : IntKind.i64.wrap (G : Int) = (G : Int) := by rw [IntKind.wrap_i64]; omega
    by_cases q3 : 1 ≤ G
    · have hX := HX2.out
      by_cases q4 : headL G T = bl s
      · rw [if_pos ⟨q3, q4⟩] at hX
        have HX3 := Lib.hid hX.symm
        have t4 : decide (s = ofL (headL G T)) = true := by rw [q4, ofL_bl]; simp
        have HT4 := Lib.hid (And.intro q3 t4)
        clear hX HX2 q3 q4 t4
        go_enter Try.func51, Try.ntmps51
        go_wp2_with (fail)
        refine HIS.out.mono ?_
        rintro e W1 ⟨rfl, hb⟩
        have n1 := (hb.block _ (blk_lt2 HH.out.2.2.2.1)).trans HH.out.2.2.2.1
        have HB := Lib.hid (And.intro (below_cat HH.out.2.2.2.2 hb) n1)
        clear hb n1 HIS hWA
        go_wp2_with (fail)
        go_region_with (go_at_call 65; first | (with_reducible (refine (NB1.out _ (by first | exact HB.out.1.drew | exact HB.out.1 | exact (HB.out.1.alloc HB.out.1.size _).drew | exact HB.out.1.drew.alloc HB.out.1.size _)).mono ?_); rintro e W2 ⟨rfl, rfl⟩) | (with_reducible (refine (NB2.out _ (by first | exact HB.out.1.drew | exact HB.out.1 | exact (HB.out.1.alloc HB.out.1.size _).drew | exact HB.out.1.drew.alloc HB.out.1.size _)).mono ?_); rintro e W2 ⟨rfl, rfl⟩))
        all_goals
          obtain ⟨W3, hW3⟩ : ∃ W3, (W1.alloc (Obj.cells #[Value.int IntKind.i64 (G : Int), Value.int IntKind.u64 (T : Int)] 56)).drew = W3 := ⟨_, rfl⟩
          have nH : W3.heap[W1.heap.size]? = some (.cells #[.int .i64 (G : Int), .int .u64 (T : Int)] 56 (0, 0)) := by rw [← hW3]; exact heap_alloc_new _ _
          have nR : W3.heap[w.heap.size]? = some (.cells #[.int .i64 0, .int .u64 0] 56 (0, 0)) := by
            rw [← hW3]
            exact (Below.heap_alloc W1 _ _ (blk_lt2 HB.out.2)).trans HB.out.2
          have b3 : Below w.heap.size w W3 := by rw [← hW3]; exact (HB.out.1.alloc HB.out.1.size _).drew
          have h0 : W3.cell? ⟨W1.heap.size, 0, none⟩ = some (.int .i64 (G : Int)) := by rw [cell_of_row _ _ _ _ _ _ nH]; rfl
          have h1 : W3.cell? ⟨W1.heap.size, 1, none⟩ = some (.int .u64 (T : Int)) := by rw [cell_of_row _ _ _ _ _ _ nH]; rfl
          have H3 := Lib.hid (And.intro nH (And.intro nR b3))
          rw [hW3]
          clear nH nR b3 hW3
          go_wp2_with (fail)
          refine (HLH.out G T HT4.out.1 (by have := HV.out.1; omega) HV.out.2 W3).mono ?_
          rintro e W4 ⟨r, rfl, gr, cr, rfl, hor, hb⟩
          have n4 := (hb.block _ (blk_lt2 H3.out.2.1)).trans H3.out.2.1
          have m4 := (hb.block _ (blk_lt2 H3.out.1)).trans H3.out.1
          have d0 : W4.cell? ⟨w.heap.size, 0, none⟩ = some (.int .i64 0) := by rw [cell_of_row _ _ _ _ _ _ n4]; rfl
          have d1 : W4.cell? ⟨w.heap.size, 1, none⟩ = some (.int .u64 0) := by rw [cell_of_row _ _ _ _ _ _ n4]; rfl
          have f0 : W4.frozen? ⟨w.heap.size, 0, none⟩ = false := frozen_of_row _ _ _ _ _ n4
          have f1 : W4.frozen? ⟨w.heap.size, 1, none⟩ = false := frozen_of_row _ _ _ _ _ n4
          have q0 : W4.cell? ⟨W1.heap.size, 0, none⟩ = some (.int .i64 (G : Int)) := by rw [cell_of_row _ _ _ _ _ _ m4]; rfl
          have q1 : W4.cell? ⟨W1.heap.size, 1, none⟩ = some (.int .u64 (T : Int)) := by rw [cell_of_row _ _ _ _ _ _ m4]; rfl
          have B4 := Lib.hid (below_cat H3.out.2.2 hb)
          have EQ := equal_any (some ⟨b, off, none⟩) (some ⟨gr, 0, none⟩) s (ofL (headL G T)) 64 64 c cr W4 HH.out.2.1 (by rw [ofL_size, headL_length]) (HH.out.1.below B4.out) hor.holds
          rw [HT4.out.2] at EQ
          have E4 := Lib.hid EQ
          rw [headL_length]
          clear hb n4 m4 hor EQ
          go_wp2_with (fail)
          refine E4.out.mono ?_
          rintro e w' ⟨rfl, rfl⟩
          go_wp2_with (fail)
          (try simp only [Exit.inBlock, Exit.then])
          refine bodyPost_ret (v := .tuple #[.agg #[.int .i64 (G : Int), .int .u64 (T : Int)], .int .i64 0]) ?_ rfl ⟨by rw [HX3.out]; rfl, ?_⟩
          · rw [results_cell_tmp rfl]
            go_simp
          · first | exact (B4.out.setCell (Nat.le_refl _) _).setCell (Nat.le_refl _) _ | exact B4.out
      · rw [if_neg (fun h => q4 h.2)] at hX
        have HX3 := Lib.hid hX.symm
        have t4 : decide (s = ofL (headL G T)) = false := by
          rw [decide_eq_false_iff_not]
          intro e
          apply q4
          have := congrArg bl e
          rw [bl_ofL] at this
          exact this.symm
        have HT4 := Lib.hid (And.intro q3 t4)
        clear hX HX2 q3 q4 t4
        go_enter Try.func51, Try.ntmps51
        go_wp2_with (fail)
        refine HIS.out.mono ?_
        rintro e W1 ⟨rfl, hb⟩
        have n1 := (hb.block _ (blk_lt2 HH.out.2.2.2.1)).trans HH.out.2.2.2.1
        have HB := Lib.hid (And.intro (below_cat HH.out.2.2.2.2 hb) n1)
        clear hb n1 HIS hWA
        go_wp2_with (fail)
        go_region_with (go_at_call 65; first | (with_reducible (refine (NB1.out _ (by first | exact HB.out.1.drew | exact HB.out.1 | exact (HB.out.1.alloc HB.out.1.size _).drew | exact HB.out.1.drew.alloc HB.out.1.size _)).mono ?_); rintro e W2 ⟨rfl, rfl⟩) | (with_reducible (refine (NB2.out _ (by first | exact HB.out.1.drew | exact HB.out.1 | exact (HB.out.1.alloc HB.out.1.size _).drew | exact HB.out.1.drew.alloc HB.out.1.size _)).mono ?_); rintro e W2 ⟨rfl, rfl⟩))
        all_goals
          obtain ⟨W3, hW3⟩ : ∃ W3, (W1.alloc (Obj.cells #[Value.int IntKind.i64 (G : Int), Value.int IntKind.u64 (T : Int)] 56)).drew = W3 := ⟨_, rfl⟩
          have nH : W3.heap[W1.heap.size]? = some (.cells #[.int .i64 (G : Int), .int .u64 (T : Int)] 56 (0, 0)) := by rw [← hW3]; exact heap_alloc_new _ _
          have nR : W3.heap[w.heap.size]? = some (.cells #[.int .i64 0, .int .u64 0] 56 (0, 0)) := by
            rw [← hW3]
            exact (Below.heap_alloc W1 _ _ (blk_lt2 HB.out.2)).trans HB.out.2
          have b3 : Below w.heap.size w W3 := by rw [← hW3]; exact (HB.out.1.alloc HB.out.1.size _).drew
          have h0 : W3.cell? ⟨W1.heap.size, 0, none⟩ = some (.int .i64 (G : Int)) := by rw [cell_of_row _ _ _ _ _ _ nH]; rfl
          have h1 : W3.cell? ⟨W1.heap.size, 1, none⟩ = some (.int .u64 (T : Int)) := by rw [cell_of_row _ _ _ _ _ _ nH]; rfl
          have H3 := Lib.hid (And.intro nH (And.intro nR b3))
          rw [hW3]
          clear nH nR b3 hW3
          go_wp2_with (fail)
          refine (HLH.out G T HT4.out.1 (by have := HV.out.1; omega) HV.out.2 W3).mono ?_
          rintro e W4 ⟨r, rfl, gr, cr, rfl, hor, hb⟩
          have n4 := (hb.block _ (blk_lt2 H3.out.2.1)).trans H3.out.2.1
          have m4 := (hb.block _ (blk_lt2 H3.out.1)).trans H3.out.1
          have d0 : W4.cell? ⟨w.heap.size, 0, none⟩ = some (.int .i64 0) := by rw [cell_of_row _ _ _ _ _ _ n4]; rfl
          have d1 : W4.cell? ⟨w.heap.size, 1, none⟩ = some (.int .u64 0) := by rw [cell_of_row _ _ _ _ _ _ n4]; rfl
          have f0 : W4.frozen? ⟨w.heap.size, 0, none⟩ = false := frozen_of_row _ _ _ _ _ n4
          have f1 : W4.frozen? ⟨w.heap.size, 1, none⟩ = false := frozen_of_row _ _ _ _ _ n4
          have q0 : W4.cell? ⟨W1.heap.size, 0, none⟩ = some (.int .i64 (G : Int)) := by rw [cell_of_row _ _ _ _ _ _ m4]; rfl
          have q1 : W4.cell? ⟨W1.heap.size, 1, none⟩ = some (.int .u64 (T : Int)) := by rw [cell_of_row _ _ _ _ _ _ m4]; rfl
          have B4 := Lib.hid (below_cat H3.out.2.2 hb)
          have EQ := equal_any (some ⟨b, off, none⟩) (some ⟨gr, 0, none⟩) s (ofL (headL G T)) 64 64 c cr W4 HH.out.2.1 (by rw [ofL_size, headL_length]) (HH.out.1.below B4.out) hor.holds
          rw [HT4.out.2] at EQ
          have E4 := Lib.hid EQ
          rw [headL_length]
          clear hb n4 m4 hor EQ
          go_wp2_with (fail)
          refine E4.out.mono ?_
          rintro e w' ⟨rfl, rfl⟩
          go_wp2_with (fail)
          (try simp only [Exit.inBlock, Exit.then])
          refine bodyPost_ret (v := .tuple #[.agg #[.int .i64 0, .int .u64 0], .int .i64 11]) ?_ rfl ⟨by rw [HX3.out]; rfl, ?_⟩
          · rw [results_cell_tmp rfl]
            go_simp
          · first | exact (B4.out.setCell (Nat.le_refl _) _).setCell (Nat.le_refl _) _ | exact B4.out
    · have hX := HX2.out
      rw [if_neg (fun h => q3 h.1)] at hX
      have HX3 := Lib.hid hX.symm
      have HG1 := Lib.hid (show (G : Int) < 1 by omega)
      clear hX HX2 q3
      go_enter Try.func51, Try.ntmps51
      go_wp2_with (fail)
      refine HIS.out.mono ?_
      rintro e W1 ⟨rfl, hb⟩
      have n1 := (hb.block _ (blk_lt2 HH.out.2.2.2.1)).trans HH.out.2.2.2.1
      have HB := Lib.hid (And.intro (below_cat HH.out.2.2.2.2 hb) n1)
      clear hb n1 HIS hWA
      go_wp2_with (fail)
      go_region_with (go_at_call 65; first | (with_reducible (refine (NB1.out _ (by first | exact HB.out.1.drew | exact HB.out.1 | exact (HB.out.1.alloc HB.out.1.size _).drew | exact HB.out.1.drew.alloc HB.out.1.size _)).mono ?_); rintro e W2 ⟨rfl, rfl⟩) | (with_reducible (refine (NB2.out _ (by first | exact HB.out.1.drew | exact HB.out.1 | exact (HB.out.1.alloc HB.out.1.size _).drew | exact HB.out.1.drew.alloc HB.out.1.size _)).mono ?_); rintro e W2 ⟨rfl, rfl⟩))
      all_goals
        obtain ⟨W3, hW3⟩ : ∃ W3, (W1.alloc (Obj.cells #[Value.int IntKind.i64 (G : Int), Value.int IntKind.u64 (T : Int)] 56)).drew = W3 := ⟨_, rfl⟩
        have nH : W3.heap[W1.heap.size]? = some (.cells #[.int .i64 (G : Int), .int .u64 (T : Int)] 56 (0, 0)) := by rw [← hW3]; exact heap_alloc_new _ _
        have nR : W3.heap[w.heap.size]? = some (.cells #[.int .i64 0, .int .u64 0] 56 (0, 0)) := by
          rw [← hW3]
          exact (Below.heap_alloc W1 _ _ (blk_lt2 HB.out.2)).trans HB.out.2
        have b3 : Below w.heap.size w W3 := by rw [← hW3]; exact (HB.out.1.alloc HB.out.1.size _).drew
        have h0 : W3.cell? ⟨W1.heap.size, 0, none⟩ = some (.int .i64 (G : Int)) := by rw [cell_of_row _ _ _ _ _ _ nH]; rfl
        have h1 : W3.cell? ⟨W1.heap.size, 1, none⟩ = some (.int .u64 (T : Int)) := by rw [cell_of_row _ _ _ _ _ _ nH]; rfl
        have H3 := Lib.hid (And.intro nH (And.intro nR b3))
        rw [hW3]
        clear nH nR b3 hW3
        go_wp2_with (fail)
        refine (layhead_arg (G : Int) (T : Int) (.inl HG1.out) W3).mono ?_
        rintro e W4 ⟨rfl, hb⟩
        have n4 := (hb.block _ (blk_lt2 H3.out.2.1)).trans H3.out.2.1
        have m4 := (hb.block _ (blk_lt2 H3.out.1)).trans H3.out.1
        have d0 : W4.cell? ⟨w.heap.size, 0, none⟩ = some (.int .i64 0) := by rw [cell_of_row _ _ _ _ _ _ n4]; rfl
        have d1 : W4.cell? ⟨w.heap.size, 1, none⟩ = some (.int .u64 0) := by rw [cell_of_row _ _ _ _ _ _ n4]; rfl
        have f0 : W4.frozen? ⟨w.heap.size, 0, none⟩ = false := frozen_of_row _ _ _ _ _ n4
        have f1 : W4.frozen? ⟨w.heap.size, 1, none⟩ = false := frozen_of_row _ _ _ _ _ n4
        have q0 : W4.cell? ⟨W1.heap.size, 0, none⟩ = some (.int .i64 (G : Int)) := by rw [cell_of_row _ _ _ _ _ _ m4]; rfl
        have q1 : W4.cell? ⟨W1.heap.size, 1, none⟩ = some (.int .u64 (T : Int)) := by rw [cell_of_row _ _ _ _ _ _ m4]; rfl
        have B4 := Lib.hid (below_cat H3.out.2.2 hb)
        clear hb n4 m4
        go_wp2_with (fail)
        (try simp only [Exit.inBlock, Exit.then])
        refine bodyPost_ret (v := .tuple #[.agg #[.int .i64 0, .int .u64 0], .int .i64 11]) ?_ rfl ⟨by rw [HX3.out]; rfl, ?_⟩
        · rw [results_cell_tmp rfl]
          go_simp
        · first | exact (B4.out.setCell (Nat.le_refl _) _).setCell (Nat.le_refl _) _ | exact B4.out
end Go.Proofs.Ytlkffignbjpfcaa
