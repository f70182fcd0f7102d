/- Proved here: IsChar, IsStart, IsPart and the document's Char, Start, Part answer the same plain functions charB, startB, partB, at every number, and leave the world as it was. -/
import Derived.Test.YtpcdcndniibalaaDoorProg
import Derived.Test.YtpcdcndniibalaaDoorSetsPlain
import Derived.WalkKit
import Derived.BigGuardPart
import Derived.Lib.Hide
import Derived.Deep.Light
namespace Go.Proofs.YtpcdcndniibalaaDoor
open Go.RowKit

set_option maxHeartbeats 1000000 in
theorem refChar (r : Int) (w : World) :
    Calls Tryd.prog 43 #[.int .i64 r] w fun e w' => e = .returned (.bool (charB r)) ∧ w = w' := by
  obtain ⟨p, hp⟩ : ∃ p, charB r = p := ⟨_, rfl⟩
  have HP := Lib.hid hp
  rw [hp]; clear hp
  go_enter Tryd.func43, Tryd.ntmps43
  go_wp2
  all_goals go_ret
  all_goals refine ⟨ret_bool ?_, rfl⟩
  all_goals ((rw [← HP.out]; unfold charB; rw [Bool.eq_iff_iff]; go_light); (first | (simp; done) | (simp; omega) | omega))

set_option maxHeartbeats 1000000 in
theorem isChar (r : Int) (w : World) :
    Calls Tryd.prog 65 #[.int .i32 r] w fun e w' => e = .returned (.bool (charB r)) ∧ w = w' := by
  obtain ⟨p, hp⟩ : ∃ p, charB r = p := ⟨_, rfl⟩
  have HP := Lib.hid hp
  rw [hp]; clear hp
  go_enter Tryd.func65, Tryd.ntmps65
  go_wp2
  all_goals go_ret
  all_goals refine ⟨ret_bool ?_, rfl⟩
  all_goals ((rw [← HP.out]; unfold charB; rw [Bool.eq_iff_iff]; go_light); (first | (simp; done) | (simp; omega) | omega))

set_option maxHeartbeats 4000000 in
theorem refStart (r : Int) (w : World) :
    Calls Tryd.prog 45 #[.int .i64 r] w fun e w' => e = .returned (.bool (startB r)) ∧ w = w' := by
  obtain ⟨p, hp⟩ : ∃ p, startB r = p := ⟨_, rfl⟩
  have HP := Lib.hid hp
  rw [hp]; clear hp
  go_enter Tryd.func45, Tryd.ntmps45
  go_wp2
  all_goals go_ret
  all_goals refine ⟨ret_bool ?_, rfl⟩
  all_goals ((rw [← HP.out]; unfold startB; rw [Bool.eq_iff_iff]; go_light; try simp only [beq_iff_eq, beq_eq_false_iff_ne, bne_iff_ne, ne_eq] at *); (first | (simp; done) | (simp; omega) | omega))

theorem between_any (r lo hi : Int) (w : World) :
    Calls Tryd.prog 67 #[.int .i32 r, .int .i32 lo, .int .i32 hi] w fun e w' => e = .returned (.bool (btw lo hi r)) ∧ w = w' := by
  go_enter Tryd.func67, Tryd.ntmps67
  go_wp2
  all_goals go_ret
  all_goals exact ⟨ret_bool (by unfold btw; rw [Bool.eq_iff_iff]; first | (simp; done) | (simp; omega) | omega), rfl⟩
set_option maxHeartbeats 1000000 in
theorem isStart (r : Int) (w : World) :
    Calls Tryd.prog 52 #[.int .i32 r] w fun e w' => e = .returned (.bool (startB r)) ∧ w = w' := by
  have HE := Lib.hid (startB_eq r)
  go_enter Tryd.func52, Tryd.ntmps52
  go_wp2_with (go_at_call 67; refine (between_any _ _ _ _).mono ?_; rintro e w' ⟨rfl, rfl⟩)
  all_goals go_ret
  all_goals refine ⟨ret_bool ?_, rfl⟩
  all_goals (rw [HE.out]; simp [*])

set_option maxHeartbeats 1000000 in
theorem isPart (r : Int) (w : World) :
    Calls Tryd.prog 53 #[.int .i32 r] w fun e w' => e = .returned (.bool (partB r)) ∧ w = w' := by
  have HE := Lib.hid (partB_eq r)
  go_enter Tryd.func53, Tryd.ntmps53
  go_wp2_with (first | (go_at_call 67; refine (between_any _ _ _ _).mono ?_; rintro e w' ⟨rfl, rfl⟩) | (go_at_call 52; refine (isStart _ _).mono ?_; rintro e w' ⟨rfl, rfl⟩))
  all_goals go_ret
  all_goals refine ⟨ret_bool ?_, rfl⟩
  all_goals (rw [HE.out]; simp [*])

set_option maxHeartbeats 1000000 in
theorem refPart (r : Int) (w : World) :
    Calls Tryd.prog 44 #[.int .i64 r] w fun e w' => e = .returned (.bool (partB r)) ∧ w = w' := by
  obtain ⟨p, hp⟩ : ∃ p, partB r = p := ⟨_, rfl⟩
  have HP := Lib.hid hp
  rw [hp]; clear hp
  go_enter Tryd.func44, Tryd.ntmps44
  go_wp2_with (go_at_call 45; refine (refStart _ _).mono ?_; rintro e w' ⟨rfl, rfl⟩)
  all_goals go_ret
  all_goals refine ⟨ret_bool ?_, rfl⟩
  all_goals (rw [← HP.out, partB_ref]; go_light; generalize startB r = s at *; cases s <;> first | (simp_all; done) | (exfalso; simp_all; done) | (rw [Bool.eq_iff_iff]; simp only [beq_iff_eq] at *; first | (simp; omega) | omega))


end Go.Proofs.YtpcdcndniibalaaDoor
