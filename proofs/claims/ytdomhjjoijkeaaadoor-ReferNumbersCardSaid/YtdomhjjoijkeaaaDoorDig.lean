/- Proved here: what refer's digit and the document's hex answer, at every byte; the world stays as it was. -/
import Derived.Test.YtdomhjjoijkeaaaDoorDigPlain
import Derived.Test.YtdomhjjoijkeaaaDoorSets
namespace Go.Proofs.YtdomhjjoijkeaaaDoor
open Go.RowKit

theorem ret_int {k : IntKind} {a b : Int} (h : a = b) : Ending.returned (.int k a) = .returned (.int k b) := by rw [h]
set_option maxHeartbeats 1000000 in
theorem digit_any (c : Int) (h0 : 0 ≤ c) (h1 : c < 256) (w : World) :
    Calls Tryd.prog 41 #[.int .u8 c] w fun e w' => e = .returned (.int .i64 (digZ c)) ∧ w = w' := by
  obtain ⟨p, hp⟩ : ∃ p, digZ c = p := ⟨_, rfl⟩
  have HP := Lib.hid hp
  rw [hp]; clear hp
  go_enter Tryd.func41, Tryd.ntmps41
  go_wp2
  all_goals go_ret
  all_goals refine ⟨ret_int ?_, rfl⟩
  all_goals ((rw [← HP.out]; unfold digZ; go_light); (repeat' split) <;> omega)
set_option maxHeartbeats 1000000 in
theorem hex_any (c : Int) (h0 : 0 ≤ c) (h1 : c < 256) (w : World) :
    Calls Tryd.prog 28 #[.int .u8 c] w fun e w' => e = .returned (.int .i64 (hexZ c)) ∧ w = w' := by
  obtain ⟨p, hp⟩ : ∃ p, hexZ c = p := ⟨_, rfl⟩
  have HP := Lib.hid hp
  rw [hp]; clear hp
  go_enter Tryd.func28, Tryd.ntmps28
  go_wp2
  all_goals go_ret
  all_goals refine ⟨ret_int ?_, rfl⟩
  all_goals ((rw [← HP.out]; unfold hexZ digZ; go_light); (repeat' split) <;> omega)
end Go.Proofs.YtdomhjjoijkeaaaDoor
