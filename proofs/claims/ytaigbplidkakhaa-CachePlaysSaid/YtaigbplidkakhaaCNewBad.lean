/- Proved here: New of a cache of ints refuses too few and too many places. -/
import Derived.Test.YtaigbplidkakhaaCSet
namespace Go.Proofs.Ytaigbplidkakhaa
open Go.RowKit

theorem newBadI (n : Int) (h : n < 1 ∨ 65536 < n) (W : World) : Calls Try.prog 7 #[.int .i64 n] W fun x W' => x = .returned (.tuple #[.pointer none, .int .i64 1]) ∧ W = W' := by
  by_cases h1 : n < 1
  · clear h
    go_enter Try.func7, Try.ntmps7
    go_wp2_with (fail)
    go_returns
    exact ⟨rfl, rfl⟩
  · have h2 : 65536 < n := h.resolve_left h1
    have h3 : decide (n < 1) = false := decide_eq_false h1
    have h4 : decide (65536 < n) = true := decide_eq_true h2
    clear h
    go_enter Try.func7, Try.ntmps7
    go_wp2_with (fail)
    go_returns
    exact ⟨rfl, rfl⟩
end Go.Proofs.Ytaigbplidkakhaa
