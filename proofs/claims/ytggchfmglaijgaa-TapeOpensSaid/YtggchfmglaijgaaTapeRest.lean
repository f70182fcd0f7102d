/- Proved here: Append on a full tape; the calls on no tape and no drum. -/
import Derived.Test.YtggchfmglaijgaaTapeAppend
namespace Go.Proofs.Ytggchfmglaijgaa
open Go.RowKit

set_option maxHeartbeats 2000000 in
theorem append_full (W : World) (t G lo hi gen groups used : Nat) (h : W.heap[t]? = some (.cells (tapeV G lo hi gen groups used false) 118 (0, 0))) (h1 : hi ≤ 16384) (h2 : lo + used ≤ hi) (p : Option Addr) (n c : Nat) (hn : n ≤ 140737488355328) (hf : hi - lo - used < countS n) :
    Calls Try.prog 33 #[.pointer (some ⟨t, 0, none⟩), .slice p n c] W fun e W' => e = .returned (.int .i64 4) ∧ ∃ m, W' = W.drewN m := by
  have SO := Lib.hid (sectorsOf_any n hn W)
  have FR := Lib.hid (free_any W t G lo hi gen groups used false h h1 h2)
  have c6 : W.cell? ⟨t, 6, none⟩ = some (.bool false) := by rw [cell_of_row _ _ _ _ _ _ h]; rfl
  generalize countS n = count at *
  clear h h1 h2 hn
  go_enter Try.func33, Try.ntmps33
  go_wp2_with (fail)
  refine SO.out.mono ?_
  rintro e W' ⟨rfl, rfl⟩
  go_wp2_with (fail)
  refine FR.out.mono ?_
  rintro e W1 ⟨rfl, m, rfl⟩
  go_wp2_with (fail)
  go_ret
  exact ⟨rfl, m, rfl⟩
theorem append_nil (p : Option Addr) (n c : Nat) (W : World) :
    Calls Try.prog 33 #[.pointer none, .slice p n c] W fun e W' => e = .returned (.int .i64 2) ∧ W = W' := by
  go_enter Try.func33, Try.ntmps33
  go_wp2_with (fail)
  go_ret
  exact ⟨rfl, rfl⟩
theorem flush_nil (W : World) :
    Calls Try.prog 35 #[.pointer none] W fun e W' => e = .returned (.int .i64 2) ∧ W = W' := by
  go_enter Try.func35, Try.ntmps35
  go_wp2_with (fail)
  go_ret
  exact ⟨rfl, rfl⟩
theorem groups_nil (W : World) :
    Calls Try.prog 27 #[.pointer none] W fun e W' => e = .returned (.int .i64 0) ∧ W = W' := by
  go_enter Try.func27, Try.ntmps27
  go_wp2_with (fail)
  go_ret
  exact ⟨rfl, rfl⟩
theorem free_nil (W : World) :
    Calls Try.prog 28 #[.pointer none] W fun e W' => e = .returned (.int .i64 0) ∧ W = W' := by
  go_enter Try.func28, Try.ntmps28
  go_wp2_with (fail)
  go_ret
  exact ⟨rfl, rfl⟩
theorem open_nil (lo hi gen : Int) (W : World) :
    Calls Try.prog 21 #[.pointer none, .int .i64 lo, .int .i64 hi, .int .i64 gen] W fun e W' => e = .returned (.tuple #[.pointer none, .slice none 0 0, .int .i64 2]) ∧ W = W' := by
  go_enter Try.func21, Try.ntmps21
  go_wp2_with (fail)
  go_ret3
  exact ⟨rfl, rfl⟩
theorem sum_nine : sumN [49, 50, 51, 52, 53, 54, 55, 56, 57] = 3421780262 := by kernel_rfl
end Go.Proofs.Ytggchfmglaijgaa
