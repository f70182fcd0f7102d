/- Proved here: what slices.ContainsFunc answers at the test of a step. -/
import Derived.Test.YtpcdcndniibalaaDoorTrailUnder
import Derived.Test.YtpcdcndniibalaaDoorTrailPlain
namespace Go.Proofs.YtpcdcndniibalaaDoor
open Go.RowKit

theorem stepNo_any (x : Int) (w : World) : Calls Tryd.prog 32 #[.int .i64 x] w fun e w' => e = .returned (.bool (!stepOk x)) ∧ w = w' := by
  unfold stepOk
  by_cases h1 : x < 0
  · rw [decide_eq_false (show ¬ 0 ≤ x by omega)]
    go_enter Tryd.func32, Tryd.ntmps32
    go_wp2_with (fail)
    go_ret
    exact ⟨rfl, rfl⟩
  · rw [decide_eq_true (show 0 ≤ x by omega)]
    by_cases h2 : 999999999 < x
    · rw [decide_eq_false (show ¬ x ≤ 999999999 by omega)]
      go_enter Tryd.func32, Tryd.ntmps32
      go_wp2_with (fail)
      go_ret
      exact ⟨rfl, rfl⟩
    · rw [decide_eq_true (show x ≤ 999999999 by omega)]
      go_enter Tryd.func32, Tryd.ntmps32
      go_wp2_with (fail)
      go_ret
      exact ⟨rfl, rfl⟩

/-- At which place stands the first that is no step? -/
def badAt : List Int → Nat → Int
  | [], _ => -1
  | x :: l, k => if stepOk x then badAt l (k + 1) else k
theorem badAt_all : ∀ (l : List Int) (k : Nat), decide (0 ≤ badAt l k) = !l.all stepOk
  | [], _ => rfl
  | x :: l, k => by
    unfold badAt
    cases h : stepOk x
    · simp [h]
    · have := badAt_all l (k + 1)
      simp only [if_true, List.all_cons, h, Bool.true_and]
      exact this
theorem badAt_step {l : List Int} {k : Nat} (h : k < l.length) : badAt (l.drop k) k = if stepOk (l.getD k 0) then badAt (l.drop (k + 1)) (k + 1) else k := by
  rw [drop_getD h]; rfl
set_option maxHeartbeats 1000000 in
theorem indexBad_any (p : Option Addr) (l : List Int) (c : Nat) (w : World) (hl : l.length ≤ 140737488355328) (hlc : l.length ≤ c) (h1 : HoldsI w p l) :
    Calls Tryd.prog 49 #[.slice p l.length c, .func (.func 32) #[] #[]] w fun e w' => e = .returned (.int .i64 (badAt l 0)) ∧ w = w' := by
  obtain ⟨ANS, hA⟩ : ∃ ANS, badAt l 0 = ANS := ⟨_, rfl⟩
  rw [hA]
  have HA := Lib.hid hA
  have H1 := Lib.hid h1
  have h0 : (l.length : Int) ≤ 140737488355328 := by omega
  clear hA h1
  go_enter Tryd.func49, Tryd.ntmps49
  go_wp2_with (fail)
  go_loop [8] (fun v => ∃ k : Nat, v = .int .i64 (k : Int) ∧ k ≤ l.length ∧ Hid (badAt (l.drop k) k = ANS)) (fun v => l.length - (intOf v).toNat)
  case atStart => exact ⟨0, rfl, Nat.zero_le _, HA⟩
  case round =>
    obtain ⟨k, rfl, hk1, HK⟩ := hrel
    by_cases hlt : k < l.length
    · obtain ⟨b, off, rfl, hc⟩ := H1.out (by omega)
      have c1 := hc k hlt
      clear hc
      rw [badAt_step hlt] at HK
      have g1 : (k : Int) < (l.length : Int) := by omega
      generalize l.getD k 0 = x at *
      have S := Lib.hid (fun W => stepNo_any x W)
      cases h3 : stepOk x
      · rw [h3] at S HK
        simp only [Bool.false_eq_true, if_false, Bool.not_false] at S HK
        clear h3
        go_wp2_with (go_at_call 32; refine (S.out _).mono ?_; rintro e w' ⟨rfl, rfl⟩)
        go_ret
        exact ⟨ret_i HK.out, rfl⟩
      · rw [h3] at S HK
        simp only [if_true, Bool.not_true] at S HK
        clear h3
        go_wp2_with (go_at_call 32; refine (S.out _).mono ?_; rintro e w' ⟨rfl, rfl⟩)
        go_round
        case rel => exact ⟨k + 1, by go_num, by omega, HK⟩
        case measure => simp [intOf]; omega
    · obtain rfl : k = l.length := by omega
      rw [List.drop_length] at HK
      go_wp2_with (fail)
      go_ret
      exact ⟨ret_i HK.out, rfl⟩
theorem hasBad_any (p : Option Addr) (l : List Int) (c : Nat) (w : World) (hl : l.length ≤ 140737488355328) (hlc : l.length ≤ c) (h1 : HoldsI w p l) :
    Calls Tryd.prog 31 #[.slice p l.length c, .func (.func 32) #[] #[]] w fun e w' => e = .returned (.bool (!l.all stepOk)) ∧ w = w' := by
  have C := Lib.hid (indexBad_any p l c w hl hlc h1)
  rw [← badAt_all l 0]
  clear h1
  generalize badAt l 0 = z at *
  go_enter Tryd.func31, Tryd.ntmps31
  go_wp2_with (go_at_call 49; refine (C.out).mono ?_; rintro e w' ⟨rfl, rfl⟩)
  go_ret
  exact ⟨rfl, rfl⟩
end Go.Proofs.YtpcdcndniibalaaDoor
