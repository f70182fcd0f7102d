/- Proved here: the document's plan of any number of sectors. -/
import Derived.Test.YtlkffignbjpfcaaSheetAwake
namespace Go.Proofs.Ytlkffignbjpfcaa
open Go.RowKit

theorem res4 {fn : Func} {t u v x : Tmp} (h : fn.results = #[.tmp t, .tmp u, .tmp v, .tmp x]) (tmps : Array Value) (P : Program) (w : World) :
    (results fn tmps).run P w = .ok (.tuple #[tmps.getD t undef, tmps.getD u undef, tmps.getD v undef, tmps.getD x undef]) w := by
  simp [results, h]
set_option maxRecDepth 100000 in
set_option maxHeartbeats 2000000 in
theorem rdraft_ok (n : Nat) (h1 : 64 ≤ n) (h2 : n ≤ 16384) (w : World) :
    Calls Try.prog 13 #[.int .i64 (n : Int)] w fun e w' => e = .returned (.tuple #[.int .i64 ((n / 4 : Nat) : Int), .int .i64 ((2 + n / 4 : Nat) : Int), .int .i64 (((n - (2 + n / 4)) / 8 : Nat) : Int), .bool true]) ∧ w = w' := by
  have g1 : (64 : Int) ≤ (n : Int) := by omega
  have g2 : (n : Int) ≤ 16384 := by omega
  obtain ⟨P, hP⟩ : ∃ P, (n - (2 + n / 4)) / 8 = P := ⟨_, rfl⟩
  rw [hP]
  have hP8 : (P : Int) ≤ 16384 := by omega
  go_enter Try.func13, Try.ntmps13
  go_wp2_with (fail)
  go_loop [7] (fun v => ∃ k : Nat, k ≤ P ∧ v = .int .i64 (k : Int)) (fun v => P - (intOf v).toNat)
  case atStart => exact ⟨0, Nat.zero_le _, rfl⟩
  case round =>
    obtain ⟨k, hk, rfl⟩ := hrel
    by_cases hlt : k < P
    · have t : 2 + (n : Int) / 4 + 8 * ((k : Int) + 1) ≤ (n : Int) := by omega
      go_wp2_with (fail)
      go_round
      case rel => exact ⟨k + 1, by omega, by go_num⟩
      case measure => simp [intOf]; omega
    · have t : ¬ 2 + (n : Int) / 4 + 8 * ((k : Int) + 1) ≤ (n : Int) := by omega
      obtain rfl : k = P := by omega
      have e1 : (n : Int) / 4 = ((n / 4 : Nat) : Int) := by omega
      have HE := Lib.hid e1
      clear e1
      go_wp2_with (fail)
      (try simp only [Exit.inBlock, Exit.then])
      refine bodyPost_ret (res4 rfl _ _ _) rfl ⟨?_, rfl⟩
      show Ending.returned (.tuple #[.int .i64 ((n : Int) / 4), .int .i64 (2 + (n : Int) / 4), .int .i64 (k : Int), .bool true]) = _
      rw [HE.out]
set_option maxRecDepth 100000 in
set_option maxHeartbeats 2000000 in
theorem rdraft_arg (n : Int) (h : n < 64 ∨ 16384 < n) (w : World) :
    Calls Try.prog 13 #[.int .i64 n] w fun e w' => e = .returned (.tuple #[.int .i64 0, .int .i64 0, .int .i64 0, .bool false]) ∧ w = w' := by
  go_enter Try.func13, Try.ntmps13
  go_wp2_with (fail)
  all_goals first
    | (exfalso; omega)
    | (try simp only [Exit.inBlock, Exit.then]
       exact bodyPost_ret (res4 rfl _ _ _) rfl ⟨rfl, rfl⟩)
end Go.Proofs.Ytlkffignbjpfcaa
