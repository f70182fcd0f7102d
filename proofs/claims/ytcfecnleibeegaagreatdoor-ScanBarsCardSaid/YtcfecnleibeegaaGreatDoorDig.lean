/- Proved here: what refer's digit and the document's hex answer, at every byte; the world stays as it was. -/
import Derived.Test.YtcfecnleibeegaaGreatDoorM0
namespace Go.Proofs.YtcfecnleibeegaaGreatDoor
open Go.RowKit

theorem ret_int {k : IntKind} {a b : Int} (h : a = b) : Ending.returned (.int k a) = .returned (.int k b) := by rw [h]
set_option maxHeartbeats 1000000 in
theorem digit_any (c : Int) (h0 : 0 ≤ c) (h1 : c < 256) (w : World) :
    Calls Tryz.prog 137 #[.int .u8 c] w fun e w' => e = .returned (.int .i64 (digZ c)) ∧ w = w' := by
  obtain ⟨p, hp⟩ : ∃ p, digZ c = p := ⟨_, rfl⟩
  have HP := Lib.hid hp
  rw [hp]; clear hp
  go_enter Tryz.func137, Tryz.ntmps137
  go_wp2
  all_goals go_ret
  all_goals refine ⟨ret_int ?_, rfl⟩
  all_goals ((rw [← HP.out]; unfold digZ; go_light); (repeat' split) <;> omega)
set_option maxHeartbeats 1000000 in
theorem hex_any (c : Int) (h0 : 0 ≤ c) (h1 : c < 256) (w : World) :
    Calls Tryz.prog 86 #[.int .u8 c] w fun e w' => e = .returned (.int .i64 (hexZ c)) ∧ w = w' := by
  obtain ⟨p, hp⟩ : ∃ p, hexZ c = p := ⟨_, rfl⟩
  have HP := Lib.hid hp
  rw [hp]; clear hp
  go_enter Tryz.func86, Tryz.ntmps86
  go_wp2
  all_goals go_ret
  all_goals refine ⟨ret_int ?_, rfl⟩
  all_goals ((rw [← HP.out]; unfold hexZ digZ; go_light); (repeat' split) <;> omega)
end Go.Proofs.YtcfecnleibeegaaGreatDoor
