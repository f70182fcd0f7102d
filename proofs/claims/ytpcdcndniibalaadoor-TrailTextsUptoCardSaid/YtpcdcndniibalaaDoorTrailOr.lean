/- Proved here: what cmp.Or answers of two numbers. -/
import Derived.Test.YtpcdcndniibalaaDoorTrailKit
import Derived.Deep.RegionWith
import Derived.StillTailTactics
import Derived.Deep.QuietTactic
import Derived.BigQuiet
namespace Go.Proofs.YtpcdcndniibalaaDoor
open Go.RowKit

theorem cmpOr_any (b : Nat) (x y : Int) (w : World) (c0 : w.cell? ⟨b, 0, none⟩ = some (.int .i64 x)) (c1 : w.cell? ⟨b, 1, none⟩ = some (.int .i64 y)) :
    Calls Tryd.prog 47 #[.slice (some ⟨b, 0, none⟩) 2 2] w fun e w' => e = .returned (.int .i64 (lexI x y)) ∧ w = w' := by
  by_cases h0 : x = 0
  · subst h0
    have e : lexI 0 y = y := rfl
    rw [e]
    clear e
    by_cases h1 : y = 0
    · subst h1
      go_enter Tryd.func47, Tryd.ntmps47
      go_wp2_with (fail)
      go_loop [8] (fun v => ∃ k : Nat, v = .int .i64 (k : Int) ∧ k ≤ 2) (fun v => 2 - (intOf v).toNat)
      case atStart => exact ⟨0, rfl, by omega⟩
      case round =>
        obtain ⟨k, rfl, hk⟩ := hrel
        have : k = 0 ∨ k = 1 ∨ k = 2 := by omega
        rcases this with rfl | rfl | rfl
        · go_wp2_with (fail)
          go_round
          case rel => exact ⟨1, by go_num, by omega⟩
          case measure => simp [intOf]
        · go_wp2_with (fail)
          go_round
          case rel => exact ⟨2, by go_num, by omega⟩
          case measure => simp [intOf]
        · go_wp2_with (fail)
          go_ret
          exact ⟨rfl, rfl⟩
    · have H0 : (y == 0) = false := by rw [beq_eq_false_iff_ne]; exact h1
      have H00 : (y != 0) = true := by rw [bne_iff_ne]; exact h1
      clear h1
      go_enter Tryd.func47, Tryd.ntmps47
      go_wp2_with (fail)
      go_loop [8] (fun v => ∃ k : Nat, v = .int .i64 (k : Int) ∧ k ≤ 1) (fun v => 2 - (intOf v).toNat)
      case atStart => exact ⟨0, rfl, by omega⟩
      case round =>
        obtain ⟨k, rfl, hk⟩ := hrel
        have : k = 0 ∨ k = 1 := by omega
        rcases this with rfl | rfl
        · go_wp2_with (fail)
          go_round
          case rel => exact ⟨1, by go_num, by omega⟩
          case measure => simp [intOf]
        · go_wp2_with (fail)
          go_ret
          exact ⟨rfl, rfl⟩
  · have e : lexI x y = x := by unfold lexI; rw [if_neg h0]
    have H0 : (x == 0) = false := by rw [beq_eq_false_iff_ne]; exact h0
    have H00 : (x != 0) = true := by rw [bne_iff_ne]; exact h0
    rw [e]
    clear h0 e
    go_enter Tryd.func47, Tryd.ntmps47
    go_wp2_with (fail)
    go_loop [8] (fun v => v = .int .i64 0) (fun v => 0)
    case atStart => rfl
    case round =>
      subst hrel
      go_wp2_with (fail)
      go_ret
      exact ⟨rfl, rfl⟩

end Go.Proofs.YtpcdcndniibalaaDoor
