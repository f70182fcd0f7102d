/- Proved here: the statement SheetDrafts, walked: it answers true of every number, in every world. -/
import Derived.Test.YtbbfbgccikeciaaSheetAwake
namespace Go.Proofs.Ytbbfbgccikeciaa
open Go.RowKit

theorem res4 {fn : Func} {t u v x : Tmp} (h : fn.results = #[.tmp t, .tmp u, .tmp v, .tmp x]) (tmps : Array Value) (P : Program) (w : World) :
    (results fn tmps).run P w = .ok (.tuple #[tmps.getD t undef, tmps.getD u undef, tmps.getD v undef, tmps.getD x undef]) w := by
  simp [results, h]
set_option maxRecDepth 100000 in
set_option maxHeartbeats 2000000 in
theorem rdraft_ok (n : Nat) (h1 : 64 ≤ n) (h2 : n ≤ 16384) (w : World) :
    Calls Try.prog 9 #[.int .i64 (n : Int)] w fun e w' => e = .returned (.tuple #[.int .i64 ((n / 4 : Nat) : Int), .int .i64 ((2 + n / 4 : Nat) : Int), .int .i64 (((n - (2 + n / 4)) / 8 : Nat) : Int), .bool true]) ∧ w = w' := by
  have g1 : (64 : Int) ≤ (n : Int) := by omega
  have g2 : (n : Int) ≤ 16384 := by omega
  obtain ⟨P, hP⟩ : ∃ P, (n - (2 + n / 4)) / 8 = P := ⟨_, rfl⟩
  rw [hP]
  have hP8 : (P : Int) ≤ 16384 := by omega
  go_enter Try.func9, Try.ntmps9
  go_wp2_with (fail)
  go_loop [7] (fun v => ∃ k : Nat, k ≤ P ∧ v = .int .i64 (k : Int)) (fun v => P - (intOf v).toNat)
  case atStart => exact ⟨0, Nat.zero_le _, rfl⟩
  case round =>
    obtain ⟨k, hk, rfl⟩ := hrel
    by_cases hlt : k < P
    · have t : 2 + (n : Int) / 4 + 8 * ((k : Int) + 1) ≤ (n : Int) := by omega
      go_wp2_with (fail)
      go_round
      case rel => exact ⟨k + 1, by omega, by go_num⟩
      case measure => simp [intOf]; omega
    · have t : ¬ 2 + (n : Int) / 4 + 8 * ((k : Int) + 1) ≤ (n : Int) := by omega
      obtain rfl : k = P := by omega
      have e1 : (n : Int) / 4 = ((n / 4 : Nat) : Int) := by omega
      have HE := Lib.hid e1
      clear e1
      go_wp2_with (fail)
      (try simp only [Exit.inBlock, Exit.then])
      refine bodyPost_ret (res4 rfl _ _ _) rfl ⟨?_, rfl⟩
      show Ending.returned (.tuple #[.int .i64 ((n : Int) / 4), .int .i64 (2 + (n : Int) / 4), .int .i64 (k : Int), .bool true]) = _
      rw [HE.out]
set_option maxRecDepth 100000 in
set_option maxHeartbeats 2000000 in
theorem rdraft_arg (n : Int) (h : n < 64 ∨ 16384 < n) (w : World) :
    Calls Try.prog 9 #[.int .i64 n] w fun e w' => e = .returned (.tuple #[.int .i64 0, .int .i64 0, .int .i64 0, .bool false]) ∧ w = w' := by
  go_enter Try.func9, Try.ntmps9
  go_wp2_with (fail)
  all_goals first
    | (exfalso; omega)
    | (try simp only [Exit.inBlock, Exit.then]
       exact bodyPost_ret (res4 rfl _ _ _) rfl ⟨rfl, rfl⟩)
set_option maxRecDepth 100000 in
set_option maxHeartbeats 4000000 in
theorem drafts_walk (n : Int) (w : World) : Calls Try.prog 3 #[.int .i64 n] w fun e w' => e = .returned (.bool true) ∧ Below w.heap.size w w' := by
  have AW := Lib.hid (awake15_any w)
  by_cases h : n < 64 ∨ 16384 < n
  · have DA := Lib.hid (fun W => draft_arg n h W)
    have RA := Lib.hid (fun W => rdraft_arg n h W)
    clear h
    go_enter Try.func3, Try.ntmps3
    go_wp2_with (fail)
    refine AW.out.mono ?_
    rintro e W1 ⟨rfl, hb⟩
    have B1 := Lib.hid hb
    clear hb
    go_wp2_with (fail)
    refine (DA.out _).mono ?_
    rintro e W2 ⟨rfl, hb⟩
    have B2 := Lib.hid (below_cat B1.out hb)
    clear hb
    go_wp2_with (fail)
    refine (RA.out _).mono ?_
    rintro e W3 ⟨rfl, rfl⟩
    go_wp2_with (fail)
    go_ret
    exact ⟨rfl, by first | exact B2.out.alloc B2.out.size _ | exact (B2.out.alloc B2.out.size _).drew⟩
  · obtain ⟨m, rfl⟩ : ∃ m : Nat, n = (m : Int) := ⟨n.toNat, by omega⟩
    have h1 : 64 ≤ m := by omega
    have h2 : m ≤ 16384 := by omega
    have DA := Lib.hid (fun W => draft_ok m h1 h2 W)
    have RA := Lib.hid (fun W => rdraft_ok m h1 h2 W)
    have t1 : ((2 + m / 4 : Nat) : Int) + 8 * (((m - (2 + m / 4)) / 8 : Nat) : Int) ≤ (m : Int) := by omega
    have t2 : (m : Int) < ((2 + m / 4 : Nat) : Int) + 8 * ((((m - (2 + m / 4)) / 8 : Nat) : Int) + 1) := by omega
    have t3 : (((m - (2 + m / 4)) / 8 : Nat) : Int) ≤ 16384 := by omega
    have t4 : (((2 + m / 4 : Nat)) : Int) ≤ 16384 := by omega
    unfold planV at DA
    generalize (m - (2 + m / 4)) / 8 = P at *
    generalize 2 + m / 4 = B at *
    generalize m / 4 = L at *
    clear h h1 h2
    go_enter Try.func3, Try.ntmps3
    go_wp2_with (fail)
    refine AW.out.mono ?_
    rintro e W1 ⟨rfl, hb⟩
    have B1 := Lib.hid hb
    clear hb
    go_wp2_with (fail)
    refine (DA.out _).mono ?_
    rintro e W2 ⟨rfl, hb⟩
    have B2 := Lib.hid (below_cat B1.out hb)
    clear hb
    go_wp2_with (fail)
    refine (RA.out _).mono ?_
    rintro e W3 ⟨rfl, rfl⟩
    go_wp2_with (fail)
    go_ret
    exact ⟨rfl, by first | exact B2.out.alloc B2.out.size _ | exact (B2.out.alloc B2.out.size _).drew⟩
end Go.Proofs.Ytbbfbgccikeciaa
