/- Proved here: char.Name and the document's Name answer nameB of every string; what was there stays. -/
import Derived.Test.YtfmlmdfehaajbaaGreatDoorNext
import Derived.Test.YtfmlmdfehaajbaaGreatDoorFaultPlain
import Derived.WalkKit
import Derived.BigGuardPart
import Derived.WalkSpells
import Derived.WalkSmall
namespace Go.Proofs.YtfmlmdfehaajbaaGreatDoor
open Go.RowKit

theorem str_ne {s : ByteArray} (h : 0 < s.size) : s.toList.isEmpty = false := by
  rw [Lib.toList_data]
  cases e : s.data.toList with
  | nil =>
    have hz : s.data.toList.length = s.size := by simp
    rw [e] at hz
    simp at hz
    omega
  | cons _ _ => rfl

set_option maxHeartbeats 1000000 in
theorem name_head (s : ByteArray) (w : World) (hT : Tabs w) (hs : s.size ≤ 140737488355328) (h : s.size = 0 ∨ 100 < s.size ∨ Lib.validD s.data.toList = false) :
    Calls Tryz.prog 66 #[.string s] w fun e w' => e = .returned (.bool false) ∧ Below w.heap.size w w' := by
  by_cases h0 : s.size = 0
  · obtain rfl : s = ⟨#[]⟩ := by
      apply ByteArray.ext
      exact Array.eq_empty_of_size_eq_zero h0
    go_enter Tryz.func66, Tryz.ntmps66
    go_wp2_with (fail)
    go_ret
    exact ⟨rfl, Below.refl _ _⟩
  · have h0' : (0 : Int) < (s.size : Int) := by omega
    have hne := str_ne (s := s) (by omega)
    by_cases h1 : 100 < s.size
    · have h1' : (100 : Int) < (s.size : Int) := by omega
      clear h
      go_enter Tryz.func66, Tryz.ntmps66
      go_wp2_with (fail)
      go_ret
      exact ⟨rfl, Below.refl _ _⟩
    · have h1' : (s.size : Int) ≤ 100 := by omega
      have hv : Lib.validD s.data.toList = false := by
        rcases h with h | h | h
        · exact absurd h h0
        · exact absurd h h1
        · exact h
      have cV := Tryz.validString s w (by omega) hT
      rw [hv] at cV
      have CV := Lib.hid cV
      clear cV h hv
      go_enter Tryz.func66, Tryz.ntmps66
      go_wp2_with (go_at_call 84; refine (CV.out).mono ?_; rintro e w' ⟨rfl, hb⟩)
      go_ret
      exact ⟨rfl, hb⟩

def NameRel (s : ByteArray) (W : World) (ANS : Bool) (wr : World) : Prop := ∃ pos b : Nat, wr = W.iter s pos ∧ validAt s pos = true ∧ nameGo s b pos = ANS ∧ s.size ≤ pos + b ∧ pos ≤ s.size

theorem validAt_good (s : ByteArray) (pos : Nat) (h : pos < s.size) (hv : validAt s pos = true) : rd s pos = Utf8.decode s pos ∧ (rd s pos).2 ≠ 0 ∧ validAt s (pos + (rd s pos).2) = true := by
  rw [valid_step s pos h] at hv
  have h0 : (rd s pos).2 ≠ 0 := fun e => by rw [if_pos e] at hv; cases hv
  rw [if_neg h0] at hv
  rcases decode_cases s pos with ⟨_, r⟩ | ⟨r, _⟩
  · rw [r] at h0; exact absurd rfl h0
  · exact ⟨r, h0, hv⟩

set_option maxHeartbeats 2000000 in
theorem name_loop (s : ByteArray) (w : World) (hT : Tabs w) (h0 : 0 < s.size) (h1 : s.size ≤ 100) (hv : Lib.validD s.data.toList = true) :
    Calls Tryz.prog 66 #[.string s] w fun e w' => e = .returned (.bool (nameGo s s.size 0)) ∧ Below w.heap.size w w' := by
  have h0' : (0 : Int) < (s.size : Int) := by omega
  have h1' : (s.size : Int) ≤ 100 := by omega
  have hne := str_ne (s := s) (by omega)
  have cV := Tryz.validString s w (by omega) hT
  rw [hv] at cV
  have CV := Lib.hid cV
  obtain ⟨ANS, hA⟩ : ∃ ANS, nameGo s s.size 0 = ANS := ⟨_, rfl⟩
  rw [hA]
  have HA := Lib.hid hA
  have HV := Lib.hid hv
  clear cV hv hA
  go_enter Tryz.func66, Tryz.ntmps66
  go_wp2_with (go_at_call 84; refine (CV.out).mono ?_; rintro e W ⟨rfl, hb⟩)
  clear CV
  go_loopw [3, 4] (fun _ _ wr => NameRel s W ANS wr) (fun _ _ w' => s.size - w'.iterPos W.heap.size)
  case atStart => exact ⟨0, s.size, rfl, by unfold validAt; rw [List.drop_zero]; exact HV.out, HA.out, by omega, by omega⟩
  case round =>
    obtain ⟨pos, b, rfl, hva, hgo, hb1, hb2⟩ := hrel
    by_cases hp : pos < s.size
    · obtain ⟨g1, g2, g3⟩ := validAt_good s pos hp hva
      obtain ⟨b, rfl⟩ : ∃ b', b = b' + 1 := ⟨b - 1, by omega⟩
      have hnx : ∀ ty, (Instr.next (.pointer (some ⟨W.heap.size, 0, none⟩)) true ty).run Tryz.prog (W.iter s pos) = _ := fun ty => run_next_any W s pos ty hp
      rw [← g1] at hnx
      have hstep := nameGo_step s b pos hp g2
      have hbad := nameGo_bad s b pos hp
      have hle := rd_le s pos hp
      have hbd := rd_bd s pos
      obtain ⟨d, hd⟩ : ∃ d, rd s pos = d := ⟨_, rfl⟩
      rw [hd] at hnx g2 g3 hstep hbad hle hbd
      clear hd g1
      have cS := isStart (d.1 : Int)
      have cP := isPart (d.1 : Int)
      generalize startB (d.1 : Int) = sb at *
      generalize partB (d.1 : Int) = pb at *
      have HG := Lib.hid hgo
      have HS := Lib.hid hstep
      have HB := Lib.hid hbad
      have H3 := Lib.hid g3
      have CS := Lib.hid cS
      have CP := Lib.hid cP
      clear hgo hstep hbad g3 cS cP hva
      by_cases hpz : pos = 0
      · subst hpz
        cases sb
        · cases pb
          · go_wp2_with (first | (go_at_call 85; refine (CS.out _).mono ?_; rintro e w' ⟨rfl, rfl⟩) | (go_at_call 86; refine (CP.out _).mono ?_; rintro e w' ⟨rfl, rfl⟩))
            go_ret
            exact ⟨ret_bool ((HB.out (.inr (.inl (by simp)))).symm.trans HG.out), hb.trans (((Below.refl _ _).alloc (Nat.le_refl _) _).mono hb.size)⟩
          · go_wp2_with (first | (go_at_call 85; refine (CS.out _).mono ?_; rintro e w' ⟨rfl, rfl⟩) | (go_at_call 86; refine (CP.out _).mono ?_; rintro e w' ⟨rfl, rfl⟩))
            go_ret
            exact ⟨ret_bool ((HB.out (.inr (.inr ⟨by simp, by simp⟩))).symm.trans HG.out), hb.trans (((Below.refl _ _).alloc (Nat.le_refl _) _).mono hb.size)⟩
        · cases pb
          · go_wp2_with (first | (go_at_call 85; refine (CS.out _).mono ?_; rintro e w' ⟨rfl, rfl⟩) | (go_at_call 86; refine (CP.out _).mono ?_; rintro e w' ⟨rfl, rfl⟩))
            go_ret
            exact ⟨ret_bool ((HB.out (.inr (.inl (by simp)))).symm.trans HG.out), hb.trans (((Below.refl _ _).alloc (Nat.le_refl _) _).mono hb.size)⟩
          · go_wp2_with (first | (go_at_call 85; refine (CS.out _).mono ?_; rintro e w' ⟨rfl, rfl⟩) | (go_at_call 86; refine (CP.out _).mono ?_; rintro e w' ⟨rfl, rfl⟩))
            go_roundw
            case rel =>
              go_light
              exact ⟨0 + d.2, b, by simp, by simpa using H3.out, by rw [← HG.out]; exact (HS.out (by simp) (by simp)).symm, by omega, hle⟩
            case measure => simp; omega
      · have hpz1 : ((pos : Int) == 0) = false := by simp; omega
        cases pb
        · go_wp2_with (first | (go_at_call 85; refine (CS.out _).mono ?_; rintro e w' ⟨rfl, rfl⟩) | (go_at_call 86; refine (CP.out _).mono ?_; rintro e w' ⟨rfl, rfl⟩))
          go_ret
          exact ⟨ret_bool ((HB.out (.inr (.inl (by simp)))).symm.trans HG.out), hb.trans (((Below.refl _ _).alloc (Nat.le_refl _) _).mono hb.size)⟩
        · go_wp2_with (first | (go_at_call 85; refine (CS.out _).mono ?_; rintro e w' ⟨rfl, rfl⟩) | (go_at_call 86; refine (CP.out _).mono ?_; rintro e w' ⟨rfl, rfl⟩))
          go_roundw
          case rel =>
            go_light
            exact ⟨pos + d.2, b, by simp, by simpa using H3.out, by rw [← HG.out]; exact (HS.out (by simp) (fun h => absurd h hpz)).symm, by omega, hle⟩
          case measure => simp; omega
    · have hnx : ∀ ty, (Instr.next (.pointer (some ⟨W.heap.size, 0, none⟩)) true ty).run Tryz.prog (W.iter s pos) = _ := fun ty => run_next_end W s pos ty hp
      have HG := Lib.hid ((nameGo_end s b pos hp).symm.trans hgo)
      clear hgo hva
      go_wp2_with (fail)
      go_ret
      exact ⟨ret_bool HG.out, hb.trans (((Below.refl _ _).alloc (Nat.le_refl _) _).mono hb.size)⟩
end Go.Proofs.YtfmlmdfehaajbaaGreatDoor
