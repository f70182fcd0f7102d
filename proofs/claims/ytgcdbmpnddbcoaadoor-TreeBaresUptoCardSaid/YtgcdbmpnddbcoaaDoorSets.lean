/- Proved here: IsChar, IsStart, IsPart and the document's Char, Start, Part answer the same plain functions charB, startB, partB, at every number, and leave the world as it was. -/
import Derived.Test.YtgcdbmpnddbcoaaDoorProg
import Derived.Test.YtgcdbmpnddbcoaaDoorSetsPlain
import Derived.WalkKit
import Derived.BigGuardPart
import Derived.Lib.Hide
import Derived.Deep.Light
namespace Go.Proofs.YtgcdbmpnddbcoaaDoor
open Go.RowKit


set_option maxHeartbeats 1000000 in
theorem isChar (r : Int) (w : World) :
    Calls Tryd.prog 128 #[.int .i32 r] w fun e w' => e = .returned (.bool (charB r)) ∧ w = w' := by
  obtain ⟨p, hp⟩ : ∃ p, charB r = p := ⟨_, rfl⟩
  have HP := Lib.hid hp
  rw [hp]; clear hp
  go_enter Tryd.func128, Tryd.ntmps128
  go_wp2
  all_goals go_ret
  all_goals refine ⟨ret_bool ?_, rfl⟩
  all_goals ((rw [← HP.out]; unfold charB; rw [Bool.eq_iff_iff]; go_light); (first | (simp; done) | (simp; omega) | omega))


theorem between_any (r lo hi : Int) (w : World) :
    Calls Tryd.prog 104 #[.int .i32 r, .int .i32 lo, .int .i32 hi] w fun e w' => e = .returned (.bool (btw lo hi r)) ∧ w = w' := by
  go_enter Tryd.func104, Tryd.ntmps104
  go_wp2
  all_goals go_ret
  all_goals exact ⟨ret_bool (by unfold btw; rw [Bool.eq_iff_iff]; first | (simp; done) | (simp; omega) | omega), rfl⟩
set_option maxHeartbeats 1000000 in
theorem isStart (r : Int) (w : World) :
    Calls Tryd.prog 67 #[.int .i32 r] w fun e w' => e = .returned (.bool (startB r)) ∧ w = w' := by
  have HE := Lib.hid (startB_eq r)
  go_enter Tryd.func67, Tryd.ntmps67
  go_wp2_with (go_at_call 104; refine (between_any _ _ _ _).mono ?_; rintro e w' ⟨rfl, rfl⟩)
  all_goals go_ret
  all_goals refine ⟨ret_bool ?_, rfl⟩
  all_goals (rw [HE.out]; simp [*])

set_option maxHeartbeats 1000000 in
theorem isPart (r : Int) (w : World) :
    Calls Tryd.prog 68 #[.int .i32 r] w fun e w' => e = .returned (.bool (partB r)) ∧ w = w' := by
  have HE := Lib.hid (partB_eq r)
  go_enter Tryd.func68, Tryd.ntmps68
  go_wp2_with (first | (go_at_call 104; refine (between_any _ _ _ _).mono ?_; rintro e w' ⟨rfl, rfl⟩) | (go_at_call 67; refine (isStart _ _).mono ?_; rintro e w' ⟨rfl, rfl⟩))
  all_goals go_ret
  all_goals refine ⟨ret_bool ?_, rfl⟩
  all_goals (rw [HE.out]; simp [*])



end Go.Proofs.YtgcdbmpnddbcoaaDoor
