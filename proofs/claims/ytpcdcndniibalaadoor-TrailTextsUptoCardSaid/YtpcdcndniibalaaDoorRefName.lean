/- Proved here: the document's Name answers nameB of every string; what was there stays. -/
import Derived.Test.YtpcdcndniibalaaDoorName
import Derived.Test.YtpcdcndniibalaaDoorBytesOf
import Derived.Lib.ConvBytes
import Derived.Lib.SmallJoins
import Derived.Laws.AppendOwn
namespace Go.Proofs.YtpcdcndniibalaaDoor
open Go.RowKit

set_option maxHeartbeats 2000000 in
theorem refName_any (s : ByteArray) (w : World) (hs : s.size ≤ 140737488355328) :
    Calls Tryd.prog 24 #[.string s] w fun e w' => e = .returned (.bool (nameB s)) ∧ Below w.heap.size w w' := by
  obtain ⟨cap, W, hcv, hcap, hb, hsz, hp⟩ := bytes_of w s
  obtain ⟨ANS, hA⟩ : ∃ ANS, nameB s = ANS := ⟨_, rfl⟩
  rw [hA]
  by_cases h0 : s.size = 0
  · have hf : nameB s = false := by unfold nameB; rw [if_pos (.inl h0)]
    have HF := Lib.hid (hf.symm.trans hA)
    have h0' : (s.size == 0) = true := by simp [h0]
    have h0'' : ((s.size : Int) == 0) = true := by simp [h0]
    clear hA hf hp h0
    go_enter Tryd.func24, Tryd.ntmps24
    go_wp2_with (fail)
    go_ret
    exact ⟨ret_bool HF.out, hb⟩
  · have h0' : ((s.size : Int) == 0) = false := by simp [h0]
    by_cases h1 : 100 < s.size
    · have hf : nameB s = false := by unfold nameB; rw [if_pos (.inr h1)]
      have HF := Lib.hid (hf.symm.trans hA)
      have h1' : (100 : Int) < (s.size : Int) := by omega
      clear hA hf hp
      go_enter Tryd.func24, Tryd.ntmps24
      go_wp2_with (fail)
      go_ret
      exact ⟨ret_bool HF.out, hb⟩
    · have hf : nameB s = nameGo s s.size 0 := by unfold nameB; rw [if_neg (by omega)]
      have HA := Lib.hid (hf.symm.trans hA)
      have h1' : (s.size : Int) ≤ 100 := by omega
      have hd100 : decide ((100 : Int) < (s.size : Int)) = false := by simp; omega
      clear hA hf
      go_enter Tryd.func24, Tryd.ntmps24
      go_wp2_with (fail)
      go_loop [4] (fun i => ∃ pos b : Nat, i = .int .i64 pos ∧ nameGo s b pos = ANS ∧ s.size ≤ pos + b ∧ pos ≤ s.size) (fun i => (s.size - (intOf i).toNat))
      case atStart => exact ⟨0, s.size, rfl, HA.out, by omega, by omega⟩
      case round =>
        obtain ⟨pos, b, rfl, hgo, hb1, hb2⟩ := hrel
        by_cases hpos : pos < s.size
        · obtain ⟨b, rfl⟩ : ∃ b', b = b' + 1 := ⟨b - 1, by omega⟩
          have hstep := nameGo_step s b pos hpos
          have hbad := nameGo_bad s b pos hpos
          have hle := rd_le s pos hpos
          have hbd := rd_bd s pos
          have cR := fun W' (h : ∀ j, j < s.size → W'.cell? ⟨w.heap.size, 0 + j, none⟩ = some (.int .u8 (s.get! j).toNat)) => refRead s w.heap.size 0 cap pos W' hs hpos h
          obtain ⟨d, hd⟩ : ∃ d, rd s pos = d := ⟨_, rfl⟩
          rw [hd] at hstep hbad hle hbd
          simp only [hd] at cR
          clear hd
          have cR := cR W hp
          have cS := refStart (d.1 : Int)
          have cP := refPart (d.1 : Int)
          generalize startB (d.1 : Int) = sb at *
          generalize partB (d.1 : Int) = pb at *
          have HG := Lib.hid hgo
          have HS := Lib.hid hstep
          have HB := Lib.hid hbad
          have CR := Lib.hid cR
          have CS := Lib.hid cS
          have CP := Lib.hid cP
          clear hgo hstep hbad cS cP cR hp
          by_cases hz : d.2 = 0
          · have hz1 : ((d.2 : Int) == 0) = true := by simp [hz]
            have HW := Lib.hid (HB.out (.inl hz))
            clear HB HS hz
            go_wp2_with (first | (go_at_call 42; refine CR.out.mono ?_; rintro e w1 ⟨rfl, rfl⟩) | (go_at_call 45; refine (CS.out _).mono ?_; rintro e w1 ⟨rfl, rfl⟩) | (go_at_call 44; refine (CP.out _).mono ?_; rintro e w1 ⟨rfl, rfl⟩))
            go_ret
            exact ⟨ret_bool (HW.out.symm.trans HG.out), hb⟩
          · have hz1 : ((d.2 : Int) == 0) = false := by simp [hz]
            cases pb
            · go_wp2_with (first | (go_at_call 42; refine CR.out.mono ?_; rintro e w1 ⟨rfl, rfl⟩) | (go_at_call 45; refine (CS.out _).mono ?_; rintro e w1 ⟨rfl, rfl⟩) | (go_at_call 44; refine (CP.out _).mono ?_; rintro e w1 ⟨rfl, rfl⟩))
              go_ret
              exact ⟨ret_bool ((HB.out (.inr (.inl (by simp)))).symm.trans HG.out), hb⟩
            · by_cases hpz : pos = 0
              · subst hpz
                cases sb
                · go_wp2_with (first | (go_at_call 42; refine CR.out.mono ?_; rintro e w1 ⟨rfl, rfl⟩) | (go_at_call 45; refine (CS.out _).mono ?_; rintro e w1 ⟨rfl, rfl⟩) | (go_at_call 44; refine (CP.out _).mono ?_; rintro e w1 ⟨rfl, rfl⟩))
                  go_ret
                  exact ⟨ret_bool ((HB.out (.inr (.inr ⟨by simp, by simp⟩))).symm.trans HG.out), hb⟩
                · go_wp2_with (first | (go_at_call 42; refine CR.out.mono ?_; rintro e w1 ⟨rfl, rfl⟩) | (go_at_call 45; refine (CS.out _).mono ?_; rintro e w1 ⟨rfl, rfl⟩) | (go_at_call 44; refine (CP.out _).mono ?_; rintro e w1 ⟨rfl, rfl⟩))
                  go_round
                  case rel =>
                    go_light
                    exact ⟨0 + d.2, b, by simp, by rw [← HG.out]; exact (HS.out hz (by simp) (by simp)).symm, by omega, hle⟩
                  case measure => simp [intOf]; omega
              · have hpz1 : ((pos : Int) == 0) = false := by simp; omega
                go_wp2_with (first | (go_at_call 42; refine CR.out.mono ?_; rintro e w1 ⟨rfl, rfl⟩) | (go_at_call 45; refine (CS.out _).mono ?_; rintro e w1 ⟨rfl, rfl⟩) | (go_at_call 44; refine (CP.out _).mono ?_; rintro e w1 ⟨rfl, rfl⟩))
                go_round
                case rel =>
                  go_light
                  exact ⟨pos + d.2, b, by simp, by rw [← HG.out]; exact (HS.out hz (by simp) (fun h => absurd h hpz)).symm, by omega, hle⟩
                case measure => simp [intOf]; omega
        · have HG := Lib.hid ((nameGo_end s b pos hpos).symm.trans hgo)
          clear hgo
          go_wp2_with (fail)
          go_ret
          exact ⟨ret_bool HG.out, hb⟩
end Go.Proofs.YtpcdcndniibalaaDoor
