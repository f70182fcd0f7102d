/- Proved here: the statement TapeNil, walked: it answers true of every argument in every world. -/
import Derived.Test.YtphcifejdggeoaaTapeAwake
namespace Go.Proofs.Ytphcifejdggeoaa
open Go.RowKit

set_option maxRecDepth 100000 in
set_option maxHeartbeats 4000000 in
theorem tapeNil_any (p : Option Addr) (n c : Nat) (lo hi gen : Int) (w : World) :
    Calls Try.prog 9 #[.slice p n c, .int .i64 lo, .int .i64 hi, .int .i64 gen] w fun e w' => e = .returned (.bool true) ∧ Below w.heap.size w w' := by
  have AW := Lib.hid (awake14_any w)
  go_enter Try.func9, Try.ntmps9
  go_wp2_with (fail)
  refine AW.out.mono ?_
  rintro e W0 ⟨rfl, hb⟩
  have B0 := Lib.hid hb
  clear hb AW
  go_wp2_with (fail)
  refine (open_nil lo hi gen W0).mono ?_
  rintro e W' ⟨rfl, rfl⟩
  go_wp2_with (fail)
  refine (append_nil p n c W0).mono ?_
  rintro e W' ⟨rfl, rfl⟩
  go_wp2_with (fail)
  refine (flush_nil W0).mono ?_
  rintro e W' ⟨rfl, rfl⟩
  go_wp2_with (fail)
  refine (groups_nil W0).mono ?_
  rintro e W' ⟨rfl, rfl⟩
  go_wp2_with (fail)
  refine (free_nil W0).mono ?_
  rintro e W' ⟨rfl, rfl⟩
  go_wp2_with (fail)
  go_ret
  exact ⟨rfl, B0.out⟩
end Go.Proofs.Ytphcifejdggeoaa
