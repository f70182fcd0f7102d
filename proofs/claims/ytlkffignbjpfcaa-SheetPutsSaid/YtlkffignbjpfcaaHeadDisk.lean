/- Proved here: what a drum's plan is; what PutHead does. -/
import Derived.Test.YtlkffignbjpfcaaHeadAny
import Derived.Test.YtlkffignbjpfcaaSheetAwake
import Derived.Test.YtlkffignbjpfcaaDrumActs
namespace Go.Proofs.Ytlkffignbjpfcaa
open Go.RowKit

set_option maxRecDepth 100000 in
set_option maxHeartbeats 2000000 in
theorem plan_ok {W : World} {F : Nat → Prop} {G N : Nat} {M : DM} (h : Drum W F G N M) (h1 : 64 ≤ N) (h2 : N ≤ 16384) :
    Calls Try.prog 47 #[.pointer (some ⟨G, 0, none⟩)] W fun e W' => e = .returned (.tuple #[planV N, .int .i64 0]) ∧ Below W.heap.size W W' := by
  obtain ⟨WA, hWA⟩ : ∃ WA, W.alloc (.cells #[.int .i64 0, .int .i64 0, .int .i64 0] 89) = WA := ⟨_, rfl⟩
  have nA : WA.heap[W.heap.size]? = some (.cells #[.int .i64 0, .int .i64 0, .int .i64 0] 89 (0, 0)) := by rw [← hWA]; exact heap_alloc_new _ _
  have bA : Below W.heap.size W WA := by rw [← hWA]; exact (Below.refl _ _).alloc (Nat.le_refl _) _
  have SC := Lib.hid (sectors_any WA F G N M (h.below bA))
  have DR := Lib.hid (draft_ok N h1 h2 WA)
  have HA := Lib.hid (And.intro nA bA)
  clear nA bA h h1 h2
  unfold planV at DR ⊢
  generalize N / 4 = L at *
  generalize 2 + L = B at *
  generalize (N - B) / 8 = P at *
  go_enter Try.func47, Try.ntmps47
  go_wp2_with (fail)
  refine SC.out.mono ?_
  rintro e W' ⟨rfl, rfl⟩
  go_wp2_with (fail)
  refine DR.out.mono ?_
  rintro e W1 ⟨rfl, hb⟩
  have n1 := (hb.block _ (blk_lt2 HA.out.1)).trans HA.out.1
  have d0 : W1.cell? ⟨W.heap.size, 0, none⟩ = some (.int .i64 0) := by rw [cell_of_row _ _ _ _ _ _ n1]; rfl
  have d1 : W1.cell? ⟨W.heap.size, 1, none⟩ = some (.int .i64 0) := by rw [cell_of_row _ _ _ _ _ _ n1]; rfl
  have d2 : W1.cell? ⟨W.heap.size, 2, none⟩ = some (.int .i64 0) := by rw [cell_of_row _ _ _ _ _ _ n1]; rfl
  have f0 : W1.frozen? ⟨W.heap.size, 0, none⟩ = false := frozen_of_row _ _ _ _ _ n1
  have f1 : W1.frozen? ⟨W.heap.size, 1, none⟩ = false := frozen_of_row _ _ _ _ _ n1
  have f2 : W1.frozen? ⟨W.heap.size, 2, none⟩ = false := frozen_of_row _ _ _ _ _ n1
  have B1 := Lib.hid (below_cat HA.out.2 hb)
  clear hb n1 DR SC hWA
  go_wp2_with (fail)
  (try simp only [Exit.inBlock, Exit.then])
  refine bodyPost_ret (v := .tuple #[.agg #[.int .i64 (L : Int), .int .i64 (B : Int), .int .i64 (P : Int)], .int .i64 0]) ?_ rfl ⟨rfl, ?_⟩
  · rw [results_cell_tmp rfl]
    go_simp
  · exact ((B1.out.setCell (Nat.le_refl _) _).setCell (Nat.le_refl _) _).setCell (Nat.le_refl _) _
/-- A head as bytes on a sector. -/
def headB (gen st : Nat) : ByteArray := ofL (headL gen st)
theorem headB_size (gen st : Nat) : (headB gen st).size = 64 := by unfold headB; rw [ofL_size, headL_length]
theorem DW.cell {w W : World} {F : Nat → Prop} {G N : Nat} {M : DM} (h : DW w W F G N M) {W' : World} (hb : Below W.heap.size W W') : DW w W' F G N M := h.on hb
set_option maxRecDepth 100000 in
set_option maxHeartbeats 4000000 in
theorem puthead_ok {w W : World} {F : Nat → Prop} {G N : Nat} {M : DM} (h : DW w W F G N M) (ht : Tame M) (hoff : M.off = false) (h1 : 64 ≤ N) (h2 : N ≤ 16384) (gen st : Nat) (g1 : 1 ≤ gen) (g2 : gen ≤ 4294967295) (hst : st < 18446744073709551616) :
    Calls Try.prog 16 #[.pointer (some ⟨G, 0, none⟩), .agg #[.int .i64 (gen : Int), .int .u64 (st : Int)]] W fun e W' => e = .returned (.int .i64 0) ∧ ∃ F', DW w W' F' G N (M.write (gen % 2) (headB gen st)) := by
  obtain ⟨WA, hWA⟩ : ∃ WA, W.alloc (.cells #[.int .i64 (gen : Int), .int .u64 (st : Int)] 56) = WA := ⟨_, rfl⟩
  have nA : WA.heap[W.heap.size]? = some (.cells #[.int .i64 (gen : Int), .int .u64 (st : Int)] 56 (0, 0)) := by rw [← hWA]; exact heap_alloc_new _ _
  have bA : Below W.heap.size W WA := by rw [← hWA]; exact (Below.refl _ _).alloc (Nat.le_refl _) _
  have PL := Lib.hid (plan_ok (h.on bA).drum h1 h2)
  have HH := Lib.hid (And.intro h (And.intro ht (And.intro hoff (And.intro (And.intro h1 h2) (And.intro g1 (And.intro g2 hst))))))
  have HA := Lib.hid (And.intro nA bA)
  have hg : (gen : Int) % 2 = ((gen % 2 : Nat) : Int) := by omega
  have hg0 : (0 : Int) ≤ (gen : Int) := by omega
  clear nA bA h ht hoff h1 h2 g1 g2 hst
  unfold planV at PL
  generalize hm : gen % 2 = m at *
  have HM := Lib.hid hm
  clear hm
  generalize N / 4 = L at *
  generalize 2 + L = B at *
  generalize (N - B) / 8 = P at *
  go_enter Try.func16, Try.ntmps16
  go_wp2_with (fail)
  refine PL.out.mono ?_
  rintro e W1 ⟨rfl, hb⟩
  obtain ⟨W2, hW2⟩ : ∃ W2, W1.alloc (.cells #[.int .i64 (L : Int), .int .i64 (B : Int), .int .i64 (P : Int)] 89) = W2 := ⟨_, rfl⟩
  have b12 : Below W1.heap.size W1 W2 := by rw [← hW2]; exact (Below.refl _ _).alloc (Nat.le_refl _) _
  have n2 := ((below_cat hb b12).block _ (blk_lt2 HA.out.1)).trans HA.out.1
  have d0 : W2.cell? ⟨W.heap.size, 0, none⟩ = some (.int .i64 (gen : Int)) := by rw [cell_of_row _ _ _ _ _ _ n2]; rfl
  have d1 : W2.cell? ⟨W.heap.size, 1, none⟩ = some (.int .u64 (st : Int)) := by rw [cell_of_row _ _ _ _ _ _ n2]; rfl
  have H2 := Lib.hid (And.intro n2 (below_cat HA.out.2 (below_cat hb b12)))
  clear hb b12 n2 PL hWA
  go_wp2_with (fail)
  clear hW2 d0 d1
  refine (layhead_ok gen st HH.out.2.2.2.2.1 HH.out.2.2.2.2.2.1 HH.out.2.2.2.2.2.2 W2).mono ?_
  rintro e W3 ⟨r, rfl, g3, c3, rfl, ho, hb⟩
  have n3 := (hb.block _ (blk_lt2 H2.out.1)).trans H2.out.1
  have d0 : W3.cell? ⟨W.heap.size, 0, none⟩ = some (.int .i64 (gen : Int)) := by rw [cell_of_row _ _ _ _ _ _ n3]; rfl
  have D3 := HH.out.1.on (below_cat H2.out.2 hb)
  have hnew : ¬ F g3 := (HH.out.1.on H2.out.2).new ho.2.1
  have hmN : m < N := by have := HH.out.2.2.2.1.1; have := HM.out; omega
  have WR := dwrite_ok D3 HH.out.2.1 HH.out.2.2.1 m hmN g3 (headB gen st) c3 ho.holds (by rw [headB_size]; decide) hnew
  rw [headB_size] at WR
  have HW := Lib.hid WR
  rw [headL_length]
  clear ho hb n3 D3 hnew WR
  go_wp2_with (fail)
  refine HW.out.mono ?_
  rintro e W4 ⟨rfl, F', hd, _, _⟩
  have HD := Lib.hid hd
  clear hd HW
  go_wp2_with (fail)
  go_ret
  exact ⟨rfl, F', HD.out⟩
set_option maxRecDepth 100000 in
set_option maxHeartbeats 4000000 in
theorem puthead_off {w W : World} {F : Nat → Prop} {G N : Nat} {M : DM} (h : DW w W F G N M) (ht : Tame M) (hoff : M.off = true) (h1 : 64 ≤ N) (h2 : N ≤ 16384) (gen st : Nat) (g1 : 1 ≤ gen) (g2 : gen ≤ 4294967295) (hst : st < 18446744073709551616) :
    Calls Try.prog 16 #[.pointer (some ⟨G, 0, none⟩), .agg #[.int .i64 (gen : Int), .int .u64 (st : Int)]] W fun e W' => e = .returned (.int .i64 9) ∧ DW w W' F G N M.step := by
  obtain ⟨WA, hWA⟩ : ∃ WA, W.alloc (.cells #[.int .i64 (gen : Int), .int .u64 (st : Int)] 56) = WA := ⟨_, rfl⟩
  have nA : WA.heap[W.heap.size]? = some (.cells #[.int .i64 (gen : Int), .int .u64 (st : Int)] 56 (0, 0)) := by rw [← hWA]; exact heap_alloc_new _ _
  have bA : Below W.heap.size W WA := by rw [← hWA]; exact (Below.refl _ _).alloc (Nat.le_refl _) _
  have PL := Lib.hid (plan_ok (h.on bA).drum h1 h2)
  have HH := Lib.hid (And.intro h (And.intro ht (And.intro hoff (And.intro (And.intro h1 h2) (And.intro g1 (And.intro g2 hst))))))
  have HA := Lib.hid (And.intro nA bA)
  have hg : (gen : Int) % 2 = ((gen % 2 : Nat) : Int) := by omega
  have hg0 : (0 : Int) ≤ (gen : Int) := by omega
  clear nA bA h ht hoff h1 h2 g1 g2 hst
  unfold planV at PL
  generalize hm : gen % 2 = m at *
  have HM := Lib.hid hm
  clear hm
  generalize N / 4 = L at *
  generalize 2 + L = B at *
  generalize (N - B) / 8 = P at *
  go_enter Try.func16, Try.ntmps16
  go_wp2_with (fail)
  refine PL.out.mono ?_
  rintro e W1 ⟨rfl, hb⟩
  obtain ⟨W2, hW2⟩ : ∃ W2, W1.alloc (.cells #[.int .i64 (L : Int), .int .i64 (B : Int), .int .i64 (P : Int)] 89) = W2 := ⟨_, rfl⟩
  have b12 : Below W1.heap.size W1 W2 := by rw [← hW2]; exact (Below.refl _ _).alloc (Nat.le_refl _) _
  have n2 := ((below_cat hb b12).block _ (blk_lt2 HA.out.1)).trans HA.out.1
  have d0 : W2.cell? ⟨W.heap.size, 0, none⟩ = some (.int .i64 (gen : Int)) := by rw [cell_of_row _ _ _ _ _ _ n2]; rfl
  have d1 : W2.cell? ⟨W.heap.size, 1, none⟩ = some (.int .u64 (st : Int)) := by rw [cell_of_row _ _ _ _ _ _ n2]; rfl
  have H2 := Lib.hid (And.intro n2 (below_cat HA.out.2 (below_cat hb b12)))
  clear hb b12 n2 PL hWA
  go_wp2_with (fail)
  clear hW2 d0 d1
  refine (layhead_ok gen st HH.out.2.2.2.2.1 HH.out.2.2.2.2.2.1 HH.out.2.2.2.2.2.2 W2).mono ?_
  rintro e W3 ⟨r, rfl, g3, c3, rfl, ho, hb⟩
  have n3 := (hb.block _ (blk_lt2 H2.out.1)).trans H2.out.1
  have d0 : W3.cell? ⟨W.heap.size, 0, none⟩ = some (.int .i64 (gen : Int)) := by rw [cell_of_row _ _ _ _ _ _ n3]; rfl
  have D3 := HH.out.1.on (below_cat H2.out.2 hb)
  have hmN : m < N := by have := HH.out.2.2.2.1.1; have := HM.out; omega
  have WR := dwrite_off D3 HH.out.2.1 HH.out.2.2.1 m hmN (some ⟨g3, 0, none⟩) 64 c3 (by decide)
  have HW := Lib.hid WR
  rw [headL_length]
  clear ho hb n3 D3 WR
  go_wp2_with (fail)
  refine HW.out.mono ?_
  rintro e W4 ⟨rfl, hd, _⟩
  have HD := Lib.hid hd
  clear hd HW
  go_wp2_with (fail)
  go_ret
  exact ⟨rfl, HD.out⟩
end Go.Proofs.Ytlkffignbjpfcaa
