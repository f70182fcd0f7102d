/- Proved here: IsChar, IsStart, IsPart and the document's Char, Start, Part answer the same plain functions charB, startB, partB, at every number, and leave the world as it was. -/
import Derived.Test.YtdomhjjoijkeaaaDoorProg
import Derived.Test.YtdomhjjoijkeaaaDoorSetsPlain
import Derived.WalkKit
import Derived.BigGuardPart
import Derived.Lib.Hide
import Derived.Deep.Light
namespace Go.Proofs.YtdomhjjoijkeaaaDoor
open Go.RowKit

set_option maxHeartbeats 1000000 in
theorem refChar (r : Int) (w : World) :
    Calls Tryd.prog 29 #[.int .i64 r] w fun e w' => e = .returned (.bool (charB r)) ∧ w = w' := by
  obtain ⟨p, hp⟩ : ∃ p, charB r = p := ⟨_, rfl⟩
  have HP := Lib.hid hp
  rw [hp]; clear hp
  go_enter Tryd.func29, Tryd.ntmps29
  go_wp2
  all_goals go_ret
  all_goals refine ⟨ret_bool ?_, rfl⟩
  all_goals ((rw [← HP.out]; unfold charB; rw [Bool.eq_iff_iff]; go_light); (first | (simp; done) | (simp; omega) | omega))

set_option maxHeartbeats 1000000 in
theorem isChar (r : Int) (w : World) :
    Calls Tryd.prog 24 #[.int .i32 r] w fun e w' => e = .returned (.bool (charB r)) ∧ w = w' := by
  obtain ⟨p, hp⟩ : ∃ p, charB r = p := ⟨_, rfl⟩
  have HP := Lib.hid hp
  rw [hp]; clear hp
  go_enter Tryd.func24, Tryd.ntmps24
  go_wp2
  all_goals go_ret
  all_goals refine ⟨ret_bool ?_, rfl⟩
  all_goals ((rw [← HP.out]; unfold charB; rw [Bool.eq_iff_iff]; go_light); (first | (simp; done) | (simp; omega) | omega))






end Go.Proofs.YtdomhjjoijkeaaaDoor
