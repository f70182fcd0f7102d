/- Proved here: what the document's bytes of a head are, and the head of bytes. -/
import Derived.Test.YtlkffignbjpfcaaTakeHead
import Derived.Test.YtlkffignbjpfcaaRefTake
namespace Go.Proofs.Ytlkffignbjpfcaa
open Go.RowKit

theorem lit_owns (w : World) : Owns (w.alloc (.cells litV 5)) w.heap.size w.heap.size 4 (ofL litL) := by
  have h := World.ownsRow_lit (base := w.heap.size) (e := 5) (size := 1) w litV 4 (Nat.le_refl _) (by unfold maxLen; omega) rfl
  exact ⟨h, Nat.le_refl _, by simp, Nat.le_refl _⟩
set_option maxRecDepth 100000 in
set_option maxHeartbeats 8000000 in
theorem rlayhead_ok (gen st : Nat) (h1 : 1 ≤ gen) (h2 : gen ≤ 4294967295) (hst : st < 18446744073709551616) (w : World) :
    Calls Try.prog 15 #[.agg #[.int .i64 (gen : Int), .int .u64 (st : Int)]] w fun e w' => ∃ r, e = .returned (.tuple #[r, .int .i64 0]) ∧ NewB (headL gen st) w r w' := by
  have g1 : (1 : Int) ≤ (gen : Int) := by omega
  have g2 : (gen : Int) ≤ 4294967295 := by omega
  have g0 : (0 : Int) ≤ (gen : Int) := by omega
  have HG := Lib.hid (And.intro h2 hst)
  obtain ⟨WA, hWA⟩ : ∃ WA, w.alloc (.cells #[.int .i64 (gen : Int), .int .u64 (st : Int)] 49) = WA := ⟨_, rfl⟩
  have sA : WA.heap.size = w.heap.size + 1 := by rw [← hWA]; simp
  have nA : WA.heap[w.heap.size]? = some (.cells #[.int .i64 (gen : Int), .int .u64 (st : Int)] 49 (0, 0)) := by rw [← hWA]; exact heap_alloc_new _ _
  have bA : Below w.heap.size w WA := by rw [← hWA]; exact (Below.refl _ _).alloc (Nat.le_refl _) _
  obtain ⟨WB, hWB⟩ : ∃ WB, WA.alloc (.cells litV 5) = WB := ⟨_, rfl⟩
  have oB := lit_owns WA
  rw [hWB] at oB
  have bB : Below WA.heap.size WA WB := by rw [← hWB]; exact (Below.refl _ _).alloc (Nat.le_refl _) _
  have c0 : WB.cell? ⟨w.heap.size, 0, none⟩ = some (.int .i64 (gen : Int)) := hb_cell bB (by rw [cell_of_row _ _ _ _ _ _ nA]; rfl)
  have k0 : WA.cell? ⟨w.heap.size, 0, none⟩ = some (.int .i64 (gen : Int)) := by rw [cell_of_row _ _ _ _ _ _ nA]; rfl
  have HA := Lib.hid (And.intro sA (And.intro nA (And.intro bA (And.intro oB bB))))
  have hWB2 : WA.alloc (.cells #[.int .u8 76, .int .u8 69, .int .u8 67, .int .u8 84] 5) = WB := hWB
  rw [sA] at oB
  clear nA bA oB bB h1 h2 hst hWB
  go_enter Try.func15, Try.ntmps15
  go_wp2_with (fail)
  refine (rnumber_any gen 4 WB (by have := HG.out.1; omega) (by decide) (by decide)).mono ?_
  rintro e W1 ⟨r, rfl, g4, c4, rfl, ho, hb⟩
  obtain ⟨g5, k5, w5, hrun, ho5, hb5⟩ := append_next (c := c4) (HA.out.2.2.2.1.far hb) (below_cat HA.out.2.2.2.2 hb) ho.holds (fun e => by cases e) (by rw [ofL_size, ofL_size, numL_length]; decide)
  rw [ofL_size, ofL_size, numL_length, show litL.length = 4 from rfl, HA.out.1] at hrun
  have x1 : w5.cell? ⟨w.heap.size, 1, none⟩ = some (.int .u64 (st : Int)) := hb_cell hb5 (by rw [cell_of_row _ _ _ _ _ _ HA.out.2.1]; rfl)
  have R5 := Lib.hid hrun
  have H5 := Lib.hid (And.intro ho5 hb5)
  clear ho hb hrun ho5 hb5 c0 k0 hWA hWB2
  go_wp2_with (at_builtin; refine wpList_append_eq rfl _ _ _ rfl _ _ _ _ rfl rfl R5.out ?_)
  refine (rnumber_any st 8 w5 HG.out.2 (by decide) (by decide)).mono ?_
  rintro e W6 ⟨r, rfl, g8, c8, rfl, ho, hb⟩
  obtain ⟨g9, k9, w9, hrun, ho9, hb9⟩ := append_next (c := c8) (H5.out.1.far hb) (below_cat H5.out.2 hb) ho.holds (fun e => by cases e) (by rw [ByteArray.size_append, ofL_size, ofL_size, ofL_size, numL_length, numL_length]; decide)
  rw [ByteArray.size_append, ofL_size, ofL_size, ofL_size, numL_length, numL_length, show litL.length = 4 from rfl] at hrun
  have R9 := Lib.hid hrun
  have e9 : ofL litL ++ ofL (numL gen 4) ++ ofL (numL st 8) = ofL (litL ++ (numL gen 4 ++ numL st 8)) := by rw [ofL_append, ofL_append, ByteArray.append_assoc]
  rw [e9] at ho9
  have H9 := Lib.hid (And.intro ho9 hb9)
  have hlc : (litL ++ (numL gen 4 ++ numL st 8)).length = 16 := by simp [litL, numL_length]
  have HLC := Lib.hid hlc
  clear ho hb hrun ho9 hb9 x1 hlc e9
  go_wp2_with (at_builtin; refine wpList_append_eq rfl _ _ _ rfl _ _ _ _ rfl rfl R9.out ?_)
  refine (fill_any (some ⟨g9, 0, none⟩) _ 16 k9 60 w9 (by rw [ofL_size, HLC.out]) (by decide) (by decide) H9.out.1.holds).mono ?_
  rintro e W10 ⟨r, rfl, g10, c10, rfl, ho, hb⟩
  have hl60 : (fillL (bl (ofL (litL ++ (numL gen 4 ++ numL st 8)))) 60).length = 60 := fillL_length (by rw [bl_length, ofL_size, HLC.out]; decide)
  have H10 := Lib.hid (And.intro ho (And.intro (below_cat H9.out.2 hb) hl60))
  rw [hl60]
  clear ho hb hl60
  go_wp2_with (fail)
  refine (rseal_any (some ⟨g10, 0, none⟩) _ 60 c10 W10 (by rw [ofL_size, H10.out.2.2]) (by decide) H10.out.1.holds (fun e => by cases e)).mono ?_
  rintro e W11 ⟨r, rfl, hr⟩
  have HR := Lib.hid (hr.after (below_cat HA.out.2.2.1 H10.out.2.1))
  clear hr
  go_wp2_with (fail)
  go_ret2
  refine ⟨_, rfl, ?_⟩
  have h := HR.out
  rw [bl_ofL, bl_ofL] at h
  exact h
set_option maxRecDepth 100000 in
set_option maxHeartbeats 2000000 in
theorem rlayhead_arg (gen st : Int) (h : gen < 1 ∨ 4294967295 < gen) (w : World) :
    Calls Try.prog 15 #[.agg #[.int .i64 gen, .int .u64 st]] w fun e w' => e = .returned (.tuple #[.slice none 0 0, .int .i64 1]) ∧ Below w.heap.size w w' := by
  have hA := heap_alloc_new w (.cells #[.int .i64 gen, .int .u64 st] 49)
  have c0 : (w.alloc (.cells #[.int .i64 gen, .int .u64 st] 49)).cell? ⟨w.heap.size, 0, none⟩ = some (.int .i64 gen) := by rw [cell_of_row _ _ _ _ _ _ hA]; rfl
  have hb : Below w.heap.size w (w.alloc (.cells #[.int .i64 gen, .int .u64 st] 49)) := (Below.refl _ _).alloc (Nat.le_refl _) _
  have HB := Lib.hid hb
  clear hb hA
  rcases h with h | h
  · go_enter Try.func15, Try.ntmps15
    go_wp2_with (fail)
    all_goals first | (exfalso; omega) | (go_ret2; exact ⟨rfl, HB.out⟩)
  · have h' : ¬ gen < 1 := by omega
    go_enter Try.func15, Try.ntmps15
    go_wp2_with (fail)
    all_goals first | (exfalso; omega) | (go_ret2; exact ⟨rfl, HB.out⟩)
end Go.Proofs.Ytlkffignbjpfcaa
