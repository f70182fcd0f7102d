/- Proved here: IsChar, IsStart, IsPart and the document's Char, Start, Part answer the same plain functions charB, startB, partB, at every number, and leave the world as it was. -/
import Derived.Test.YtfmlmdfehaajbaaGreatDoorProg
import Derived.Test.YtfmlmdfehaajbaaGreatDoorFaultPlain
import Derived.WalkKit
import Derived.BigGuardPart
import Derived.Lib.Hide
import Derived.Deep.Light
namespace Go.Proofs.YtfmlmdfehaajbaaGreatDoor
open Go.RowKit

set_option maxHeartbeats 1000000 in
theorem refChar (r : Int) (w : World) :
    Calls Tryz.prog 123 #[.int .i64 r] w fun e w' => e = .returned (.bool (charB r)) ∧ w = w' := by
  obtain ⟨p, hp⟩ : ∃ p, charB r = p := ⟨_, rfl⟩
  have HP := Lib.hid hp
  rw [hp]; clear hp
  go_enter Tryz.func123, Tryz.ntmps123
  go_wp2
  all_goals go_ret
  all_goals refine ⟨ret_bool ?_, rfl⟩
  all_goals ((rw [← HP.out]; unfold charB; rw [Bool.eq_iff_iff]; go_light); (first | (simp; done) | (simp; omega) | omega))

set_option maxHeartbeats 1000000 in
theorem isChar (r : Int) (w : World) :
    Calls Tryz.prog 131 #[.int .i32 r] w fun e w' => e = .returned (.bool (charB r)) ∧ w = w' := by
  obtain ⟨p, hp⟩ : ∃ p, charB r = p := ⟨_, rfl⟩
  have HP := Lib.hid hp
  rw [hp]; clear hp
  go_enter Tryz.func131, Tryz.ntmps131
  go_wp2
  all_goals go_ret
  all_goals refine ⟨ret_bool ?_, rfl⟩
  all_goals ((rw [← HP.out]; unfold charB; rw [Bool.eq_iff_iff]; go_light); (first | (simp; done) | (simp; omega) | omega))

set_option maxHeartbeats 4000000 in
theorem refStart (r : Int) (w : World) :
    Calls Tryz.prog 100 #[.int .i64 r] w fun e w' => e = .returned (.bool (startB r)) ∧ w = w' := by
  obtain ⟨p, hp⟩ : ∃ p, startB r = p := ⟨_, rfl⟩
  have HP := Lib.hid hp
  rw [hp]; clear hp
  go_enter Tryz.func100, Tryz.ntmps100
  go_wp2
  all_goals go_ret
  all_goals refine ⟨ret_bool ?_, rfl⟩
  all_goals ((rw [← HP.out]; unfold startB; rw [Bool.eq_iff_iff]; go_light; try simp only [beq_iff_eq, beq_eq_false_iff_ne, bne_iff_ne, ne_eq] at *); (first | (simp; done) | (simp; omega) | omega))

theorem between_any (r lo hi : Int) (w : World) :
    Calls Tryz.prog 114 #[.int .i32 r, .int .i32 lo, .int .i32 hi] w fun e w' => e = .returned (.bool (btw lo hi r)) ∧ w = w' := by
  go_enter Tryz.func114, Tryz.ntmps114
  go_wp2
  all_goals go_ret
  all_goals exact ⟨ret_bool (by unfold btw; rw [Bool.eq_iff_iff]; first | (simp; done) | (simp; omega) | omega), rfl⟩
set_option maxHeartbeats 1000000 in
theorem isStart (r : Int) (w : World) :
    Calls Tryz.prog 85 #[.int .i32 r] w fun e w' => e = .returned (.bool (startB r)) ∧ w = w' := by
  have HE := Lib.hid (startB_eq r)
  go_enter Tryz.func85, Tryz.ntmps85
  go_wp2_with (go_at_call 114; refine (between_any _ _ _ _).mono ?_; rintro e w' ⟨rfl, rfl⟩)
  all_goals go_ret
  all_goals refine ⟨ret_bool ?_, rfl⟩
  all_goals (rw [HE.out]; simp [*])

set_option maxHeartbeats 1000000 in
theorem isPart (r : Int) (w : World) :
    Calls Tryz.prog 86 #[.int .i32 r] w fun e w' => e = .returned (.bool (partB r)) ∧ w = w' := by
  have HE := Lib.hid (partB_eq r)
  go_enter Tryz.func86, Tryz.ntmps86
  go_wp2_with (first | (go_at_call 114; refine (between_any _ _ _ _).mono ?_; rintro e w' ⟨rfl, rfl⟩) | (go_at_call 85; refine (isStart _ _).mono ?_; rintro e w' ⟨rfl, rfl⟩))
  all_goals go_ret
  all_goals refine ⟨ret_bool ?_, rfl⟩
  all_goals (rw [HE.out]; simp [*])

set_option maxHeartbeats 1000000 in
theorem refPart (r : Int) (w : World) :
    Calls Tryz.prog 99 #[.int .i64 r] w fun e w' => e = .returned (.bool (partB r)) ∧ w = w' := by
  obtain ⟨p, hp⟩ : ∃ p, partB r = p := ⟨_, rfl⟩
  have HP := Lib.hid hp
  rw [hp]; clear hp
  go_enter Tryz.func99, Tryz.ntmps99
  go_wp2_with (go_at_call 100; refine (refStart _ _).mono ?_; rintro e w' ⟨rfl, rfl⟩)
  all_goals go_ret
  all_goals refine ⟨ret_bool ?_, rfl⟩
  all_goals (rw [← HP.out, partB_ref]; go_light; generalize startB r = s at *; cases s <;> first | (simp_all; done) | (exfalso; simp_all; done) | (rw [Bool.eq_iff_iff]; simp only [beq_iff_eq] at *; first | (simp; omega) | omega))


end Go.Proofs.YtfmlmdfehaajbaaGreatDoor
