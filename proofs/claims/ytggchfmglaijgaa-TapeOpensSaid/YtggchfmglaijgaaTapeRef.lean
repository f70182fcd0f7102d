/- Proved here: the document's count of sectors, and its group of sectors. -/
import Derived.Test.YtggchfmglaijgaaTapeHelp
namespace Go.Proofs.Ytggchfmglaijgaa
open Go.RowKit

set_option maxHeartbeats 4000000 in
theorem rsectors_any (n : Nat) (hn : n ≤ 140737488355328) (w : World) :
    Calls Try.prog 30 #[.int .i64 (n : Int)] w fun e w' => e = .returned (.int .i64 (countS n : Nat)) ∧ w = w' := by
  have hn9 : (n : Int) ≤ 140737488355328 := by omega
  have HN := Lib.hid hn
  clear hn
  go_enter Try.func30, Try.ntmps30
  go_wp2_with (fail)
  go_loop [3] (fun x => ∃ k : Nat, x = .int .i64 (k : Int) ∧ 1 ≤ k ∧ k ≤ countS n) (fun x => n + 1 - (intOf x).toNat)
  case atStart => exact ⟨1, rfl, Nat.le_refl _, countS_pos n⟩
  case round =>
    obtain ⟨k, rfl, hk1, hk⟩ := hrel
    have hkc : (k : Int) ≤ 2932031007403 := by have := HN.out; unfold countS at hk; omega
    have hk0 : (1 : Int) ≤ (k : Int) := by omega
    by_cases hlt : 48 * k < n
    · have hltI : 48 * (k : Int) < (n : Int) := by omega
      have hnx : k + 1 ≤ countS n := by unfold countS; omega
      have HL := Lib.hid (And.intro hlt hnx)
      clear hlt hnx hk
      go_wp2_with (fail)
      all_goals try (exfalso; omega; done)
      go_round
      case rel => exact ⟨k + 1, by go_num, by omega, HL.out.2⟩
      case measure => simp [intOf]; have := HL.out.1; omega
    · have hltI : ¬ 48 * (k : Int) < (n : Int) := by omega
      have hkk : k = countS n := by unfold countS at hk ⊢; omega
      have HK := Lib.hid hkk
      clear hlt hk hkk
      go_wp2_with (fail)
      all_goals try (exfalso; omega; done)
      go_ret
      exact ⟨by rw [← HK.out]; rfl, rfl⟩
end Go.Proofs.Ytggchfmglaijgaa
