/- Proved here: what New makes; what Write answers where it writes nothing. -/
import Derived.Test.YtlkffignbjpfcaaDrumWrite
import Derived.RegionTactic
import Derived.ChangeAlike
namespace Go.Proofs.Ytlkffignbjpfcaa
open Go.RowKit

set_option maxHeartbeats 2000000 in
theorem write_off (W : World) (F : Nat → Prop) (G N : Nat) (M : DM) (h : Drum W F G N M) (hst : M.steps ≤ 4611686018427387904) (hfu : M.fuse.getD 0 ≤ 9223372036854775807) (hoff : M.off = true) (n : Nat) (hn : n < N) (p : Option Addr) (len cap : Nat) (hs : len ≤ 64) :
    Calls Try.prog 23 #[.pointer (some ⟨G, 0, none⟩), .int .i64 (n : Int), .slice p len cap] W fun e W' => e = .returned (.int .i64 9) ∧ Drum W' F G N M.step ∧ Touch (Only G) W W' := by
  have HY := Lib.hid (has_yes W F G N M h n hn)
  have ST := Lib.hid (step_off W F G N M h hst hfu hoff)
  have hs1 : (len : Int) ≤ 64 := by omega
  clear h hst hfu hoff
  go_enter Try.func23, Try.ntmps23
  go_wp2_with (fail)
  refine (HY.out).mono ?_
  rintro e W1 ⟨rfl, rfl⟩
  go_wp2_with (fail)
  refine (ST.out).mono ?_
  rintro e W1 ⟨rfl, hD, hT, hz⟩
  have HD := Lib.hid (And.intro hD hT)
  clear hD hT hz ST
  go_wp2_with (fail)
  go_ret
  exact ⟨rfl, HD.out.1, HD.out.2⟩
set_option maxHeartbeats 2000000 in
theorem write_long (W : World) (F : Nat → Prop) (G N : Nat) (M : DM) (h : Drum W F G N M) (n : Nat) (hn : n < N) (p : Option Addr) (len cap : Nat) (hs : 64 < len) :
    Calls Try.prog 23 #[.pointer (some ⟨G, 0, none⟩), .int .i64 (n : Int), .slice p len cap] W fun e W' => e = .returned (.int .i64 6) ∧ W = W' := by
  have HY := Lib.hid (has_yes W F G N M h n hn)
  have hs1 : (64 : Int) < (len : Int) := by omega
  clear h
  go_enter Try.func23, Try.ntmps23
  go_wp2_with (fail)
  refine (HY.out).mono ?_
  rintro e W1 ⟨rfl, rfl⟩
  go_wp2_with (fail)
  go_ret
  exact ⟨rfl, rfl⟩
set_option maxHeartbeats 2000000 in
theorem write_arg (W : World) (F : Nat → Prop) (G N : Nat) (M : DM) (h : Drum W F G N M) (n : Int) (hn : n < 0 ∨ (N : Int) ≤ n) (p : Option Addr) (len cap : Nat) :
    Calls Try.prog 23 #[.pointer (some ⟨G, 0, none⟩), .int .i64 n, .slice p len cap] W fun e W' => e = .returned (.int .i64 1) ∧ W = W' := by
  have HY := Lib.hid (has_no W F G N M h n hn)
  clear h
  go_enter Try.func23, Try.ntmps23
  go_wp2_with (fail)
  refine (HY.out).mono ?_
  rintro e W1 ⟨rfl, rfl⟩
  go_wp2_with (fail)
  go_ret
  exact ⟨rfl, rfl⟩

theorem infoSector : (Try.prog.info? 84).map (fun i => (i.zero, i.size, i.bytes)) = some (some (.agg zRow.toArray), 64, 64) := by kernel_rfl
def zRows (n : Nat) : Array Value := madeCells (Value.agg zRow.toArray).cells (n * 64)
theorem make_rows (n : Nat) (hn : n ≤ 16384) (w : World) : (Instr.makeSlice 73 (.int .i64 (n : Int)) (.int .i64 (n : Int))).run Try.prog w = .ok (.slice (some ⟨w.heap.size, 0, none⟩) n n) (w.alloc (.cells (zRows n) 84)) := by
  obtain ⟨i0, hi, hz0, hz1, hz2⟩ := info_parts infoSector
  have hr := run_make (P := Try.prog) w 73 84 i0 (.agg zRow.toArray) Try.underlying73 hi hz0 .i64 .i64 (n : Int) (n : Int) (by omega) (Int.le_refl _) (by rw [hz2]; omega) (by omega)
  rw [hz1, Int.toNat_natCast] at hr
  exact hr
theorem zRows_size (n : Nat) : (zRows n).size = n * 64 := size_madeCells _ _
theorem zRow_get (j : Nat) (h : j < 64) : zRow[j]? = some (.int .u8 0) := by
  unfold zRow
  rw [List.getElem?_replicate, if_pos h]
theorem zRows_at (n j : Nat) (h : j < n * 64) : (zRows n)[j]? = some (.int .u8 0) := by
  unfold zRows madeCells
  rw [Array.getElem?_map, Array.getElem?_range, if_pos h]
  have e : (Value.agg zRow.toArray).cells = zRow.toArray := rfl
  rw [e]
  have hs : zRow.toArray.size = 64 := rfl
  have hj : j % 64 < 64 := Nat.mod_lt _ (by decide)
  simp only [Option.map_some, hs]
  rw [getElem!_pos zRow.toArray (j % 64) (by rw [hs]; exact hj)]
  have h1 := zRow_get (j % 64) hj
  have h2 : zRow.toArray[j % 64]? = some (.int .u8 0) := by rw [List.getElem?_toArray]; exact h1
  rw [Array.getElem?_eq_getElem (by rw [hs]; exact hj)] at h2
  exact h2
theorem rows_new {W : World} {g n : Nat} (h : W.heap[g]? = some (.cells (zRows n) 84)) : RowsAt W g n (List.replicate n (zeroB 64)) := by
  refine ⟨List.length_replicate, fun i hi => ?_, fun j hj => ?_⟩
  · rw [List.length_replicate] at hi
    rw [List.getElem_replicate]
    refine ⟨zeroB_size 64, fun j v hv => ?_⟩
    rw [bytesV_zero] at hv
    have hj : j < 64 := by have := (List.getElem?_eq_some_iff.1 hv).1; simpa using this
    rw [cell_of_row _ _ _ _ _ _ h, zRows_at n _ (by omega), ← hv, List.getElem?_replicate, if_pos hj]
  · rw [Nat.zero_add, cell_of_row _ _ _ _ _ _ h, zRows_at n _ (by omega)]
    exact ⟨rfl, frozen_of_row _ _ _ _ _ h⟩
/-- What New leaves. -/
def NewPost (n : Nat) (w : World) (e : Ending) (w' : World) : Prop := ∃ G F, e = .returned (.tuple #[.pointer (some ⟨G, 0, none⟩), .int .i64 0]) ∧ Drum w' F G n (newM n) ∧ Below w.heap.size w w' ∧ ∀ k, F k → w.heap.size ≤ k
theorem new_of {w w' : World} {n G gn gs : Nat} (h1 : 1 ≤ n) (h2 : n ≤ 16384) (hG : w'.heap[G]? = some (.cells #[.slice (some ⟨gn, 0, none⟩) n n, .slice (some ⟨gs, 0, none⟩) n n, .slice none 0 0, .int .i64 0, .bool false, .int .i64 0, .bool false] 76))
    (hgn : w'.heap[gn]? = some (.cells (zRows n) 84)) (hgs : w'.heap[gs]? = some (.cells (zRows n) 84)) (ha : G ≠ gn ∧ G ≠ gs ∧ gn ≠ gs) (hb : w.heap.size ≤ G ∧ w.heap.size ≤ gn ∧ w.heap.size ≤ gs) :
    ∃ F, Drum w' F G n (newM n) ∧ ∀ k, F k → w.heap.size ≤ k := by
  refine ⟨fun k => k = G ∨ k = gn ∨ k = gs, ⟨gn, gs, n, n, none, 0, ⟨hG, newM_ok n, rows_new hgn, rows_new hgs, World.ownsRow_nil _ _ _ _, .inl rfl, .inr (.inl rfl), .inr (.inr rfl), fun k hk => (by cases hk), fun k hk => ?_, ⟨ha.1, ha.2.1, ha.2.2, fun k hk => (by cases hk)⟩, ⟨h2, Nat.le_refl _, Nat.le_refl _, h1⟩, fun _ => rfl⟩⟩, fun k hk => ?_⟩
  · rcases hk with rfl | rfl | rfl
    · exact block_lt hG
    · exact block_lt hgn
    · exact block_lt hgs
  · rcases hk with rfl | rfl | rfl
    · exact hb.1
    · exact hb.2.1
    · exact hb.2.2
theorem new_fin (w : World) (n : Nat) (h1 : 1 ≤ n) (h2 : n ≤ 16384) (gn gs : Nat) (h : (gn = w.heap.size ∧ gs = w.heap.size + 1) ∨ (gn = w.heap.size + 1 ∧ gs = w.heap.size)) :
    NewPost n w (.returned (.tuple #[.pointer (some ⟨w.heap.size + 1 + 1, 0, none⟩), .int .i64 0])) ((((w.alloc (.cells (zRows n) 84)).alloc (.cells (zRows n) 84)).alloc (.cells #[.slice (some ⟨gn, 0, none⟩) n n, .slice (some ⟨gs, 0, none⟩) n n, .slice none 0 0, .int .i64 0, .bool false, .int .i64 0, .bool false] 76)).drew) := by
  have e0 := heap_alloc_new w (.cells (zRows n) 84)
  have z1 : (w.alloc (.cells (zRows n) 84)).heap.size = w.heap.size + 1 := by simp
  have e1 := heap_alloc_new (w.alloc (.cells (zRows n) 84)) (.cells (zRows n) 84)
  have z2 : ((w.alloc (.cells (zRows n) 84)).alloc (.cells (zRows n) 84)).heap.size = w.heap.size + 1 + 1 := by simp
  rw [z1] at e1
  have e0' := (Below.heap_alloc (w.alloc (.cells (zRows n) 84)) (.cells (zRows n) 84) w.heap.size (by omega)).trans e0
  obtain ⟨W2, hW2⟩ : ∃ W2, (w.alloc (.cells (zRows n) 84)).alloc (.cells (zRows n) 84) = W2 := ⟨_, rfl⟩
  have hb : Below w.heap.size w W2 := by
    rw [← hW2]
    exact ((Below.refl _ _).alloc (Nat.le_refl _) _).alloc (by omega) _
  rw [hW2] at e1 e0' z2 ⊢
  have e2 := heap_alloc_new W2 (.cells #[.slice (some ⟨gn, 0, none⟩) n n, .slice (some ⟨gs, 0, none⟩) n n, .slice none 0 0, .int .i64 0, .bool false, .int .i64 0, .bool false] 76)
  rw [z2] at e2
  have f0 := fun o => (Below.heap_alloc W2 o w.heap.size (by omega)).trans e0'
  have f1 := fun o => (Below.heap_alloc W2 o (w.heap.size + 1) (by omega)).trans e1
  rcases h with ⟨rfl, rfl⟩ | ⟨rfl, rfl⟩
  · obtain ⟨F, hd, hF⟩ := new_of (w := w) (w' := (W2.alloc (.cells #[.slice (some ⟨w.heap.size, 0, none⟩) n n, .slice (some ⟨w.heap.size + 1, 0, none⟩) n n, .slice none 0 0, .int .i64 0, .bool false, .int .i64 0, .bool false] 76)).drew) h1 h2 e2 (f0 _) (f1 _) ⟨by omega, by omega, by omega⟩ ⟨by omega, by omega, by omega⟩
    exact ⟨_, F, rfl, hd, (hb.alloc (by omega) _).drew, hF⟩
  · obtain ⟨F, hd, hF⟩ := new_of (w := w) (w' := (W2.alloc (.cells #[.slice (some ⟨w.heap.size + 1, 0, none⟩) n n, .slice (some ⟨w.heap.size, 0, none⟩) n n, .slice none 0 0, .int .i64 0, .bool false, .int .i64 0, .bool false] 76)).drew) h1 h2 e2 (f1 _) (f0 _) ⟨by omega, by omega, by omega⟩ ⟨by omega, by omega, by omega⟩
    exact ⟨_, F, rfl, hd, (hb.alloc (by omega) _).drew, hF⟩
set_option maxRecDepth 100000 in
set_option maxHeartbeats 4000000 in
theorem new_ok (n : Nat) (h1 : 1 ≤ n) (h2 : n ≤ 16384) (w : World) : Calls Try.prog 6 #[.int .i64 (n : Int)] w (NewPost n w) := by
  have mk := make_rows n h2
  have g1 : (1 : Int) ≤ (n : Int) := by omega
  have g2 : (n : Int) ≤ 16384 := by omega
  go_enter Try.func6, Try.ntmps6
  go_wp2_with (fail)
  go_region
  all_goals
    go_wp2_with (fail)
    go_ret2
    first | exact new_fin w n h1 h2 _ _ (.inl ⟨rfl, rfl⟩) | exact new_fin w n h1 h2 _ _ (.inr ⟨rfl, rfl⟩)
theorem new_arg (n : Int) (h : n < 1 ∨ 16384 < n) (w : World) : Calls Try.prog 6 #[.int .i64 n] w fun e w' => e = .returned (.tuple #[.pointer none, .int .i64 1]) ∧ w = w' := by
  rcases h with h | h
  · go_enter Try.func6, Try.ntmps6
    go_wp2_with (fail)
    all_goals first | (exfalso; omega) | (go_ret2; exact ⟨rfl, rfl⟩)
  · have h' : ¬ n < 1 := by omega
    go_enter Try.func6, Try.ntmps6
    go_wp2_with (fail)
    all_goals first | (exfalso; omega) | (go_ret2; exact ⟨rfl, rfl⟩)
end Go.Proofs.Ytlkffignbjpfcaa
