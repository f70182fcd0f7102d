/- Proved here: the document's Fault answers faultF of every slice of bytes, and leaves the world as it was. -/
import Derived.Test.YtpcdcndniibalaaDoorFault
import Derived.Test.YtpcdcndniibalaaDoorRead
import Derived.BigGuardPart
namespace Go.Proofs.YtpcdcndniibalaaDoor
open Go.RowKit

def FaultRel0 (s : ByteArray) (ANS : Nat × Nat) (i : Value) : Prop := ∃ pos b : Nat, i = .int .i64 pos ∧ faultGo s b pos = ANS ∧ s.size ≤ pos + b ∧ pos ≤ s.size

set_option maxHeartbeats 2000000 in
theorem refFault_some (s : ByteArray) (b off cap : Nat) (w : World) (hs : s.size ≤ 140737488355328) (hp : ∀ j, j < s.size → w.cell? ⟨b, off + j, none⟩ = some (.int .u8 (s.get! j).toNat)) :
    Calls Tryd.prog 23 #[.slice (some ⟨b, off, none⟩) s.size cap] w fun e w' => e = .returned (.tuple #[.int .i64 ((faultF s).1 : Int), .int .i64 ((faultF s).2 : Int)]) ∧ w = w' := by
  obtain ⟨ANS, hA⟩ : ∃ ANS, faultF s = ANS := ⟨_, rfl⟩
  rw [hA]
  have HA := Lib.hid hA
  have HP := Lib.hid hp
  clear hA hp
  go_enter Tryd.func23, Tryd.ntmps23
  go_wp2_with (fail)
  go_loop [4] (fun i => FaultRel0 s ANS i) (fun i => s.size - (intOf i).toNat)
  case atStart => exact ⟨0, s.size, rfl, HA.out, by omega, by omega⟩
  case round =>
    obtain ⟨pos, k, rfl, hgo, hb1, hb2⟩ := hrel
    by_cases hpos : pos < s.size
    · obtain ⟨k, rfl⟩ : ∃ k', k = k' + 1 := ⟨k - 1, by omega⟩
      have R := Lib.hid (refRead s b off cap pos w hs hpos HP.out)
      have K := Lib.hid (refChar ((rd s pos).1 : Int))
      have hle := rd_le s pos hpos
      have hbd := rd_bd s pos
      have G := Lib.hid hgo
      clear hgo
      by_cases h0 : (rd s pos).2 = 0
      · rw [faultGo_bad s k pos hpos h0] at G
        have h01 : (((rd s pos).2 : Int) == 0) = true := by simp [h0]
        clear h0 hle hbd
        generalize rd s pos = d at *
        go_wp2_with (fail)
        refine R.out.mono ?_
        rintro e w1 ⟨rfl, rfl⟩
        go_wp2_with (fail)
        go_ret2
        exact ⟨ret_ff G.out, rfl⟩
      · have h01 : (((rd s pos).2 : Int) == 0) = false := by simp [h0]
        cases hc : charB ((rd s pos).1 : Int)
        · rw [faultGo_no s k pos hpos h0 hc] at G
          rw [hc] at K
          clear h0 hle hbd hc
          generalize rd s pos = d at *
          go_wp2_with (fail)
          refine R.out.mono ?_
          rintro e w1 ⟨rfl, rfl⟩
          go_wp2_with (fail)
          refine (K.out _).mono ?_
          rintro e w2 ⟨rfl, rfl⟩
          go_wp2_with (fail)
          go_ret2
          exact ⟨ret_ff G.out, rfl⟩
        · rw [faultGo_step s k pos hpos h0 hc] at G
          rw [hc] at K
          clear hc
          generalize rd s pos = d at *
          go_wp2_with (fail)
          refine R.out.mono ?_
          rintro e w1 ⟨rfl, rfl⟩
          go_wp2_with (fail)
          refine (K.out _).mono ?_
          rintro e w2 ⟨rfl, rfl⟩
          go_wp2_with (fail)
          go_round
          case rel =>
            go_light
            exact ⟨pos + d.2, k, by go_num, G.out, by omega, hle⟩
          case measure => simp [intOf]; omega
    · have G := Lib.hid ((faultGo_end s k pos hpos).symm.trans hgo)
      clear hgo
      go_wp2_with (fail)
      go_ret2
      exact ⟨ret_ff G.out, rfl⟩

theorem refFault_any (p : Option Addr) (s : ByteArray) (cap : Nat) (w : World) (hs : s.size ≤ 140737488355328) (hp : HoldsB w p s) :
    Calls Tryd.prog 23 #[.slice p s.size cap] w fun e w' => e = .returned (.tuple #[.int .i64 ((faultF s).1 : Int), .int .i64 ((faultF s).2 : Int)]) ∧ w = w' := by
  by_cases h0 : 0 < s.size
  · obtain ⟨b, off, rfl, hc⟩ := hp h0
    exact refFault_some s b off cap w hs hc
  · have hf : faultF s = (0, 0) := by unfold faultF; rw [faultGo_end s _ 0 h0]
    have hz : s.size = 0 := by omega
    rw [hf, hz]
    clear hf hp
    go_enter Tryd.func23, Tryd.ntmps23
    go_wp2_with (fail)
    go_loop [4] (fun i => i = .int .i64 0) (fun _ => 0)
    case atStart => rfl
    case round =>
      subst hrel
      go_wp2_with (fail)
      go_ret2
      exact ⟨rfl, rfl⟩
end Go.Proofs.YtpcdcndniibalaaDoor
