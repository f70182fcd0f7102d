/- Proved here: what refer's numbered answers where no x begins, at every place of any bytes; and so wherever it begins; the world stays as it was. -/
import Derived.Test.YtcfecnleibeegaaGreatDoorNumX
namespace Go.Proofs.YtcfecnleibeegaaGreatDoor
open Go.RowKit

set_option maxHeartbeats 8000000 in
set_option maxRecDepth 100000 in
theorem numbered_ten (s : ByteArray) (b off cap at_ : Nat) (w : World) (hs : s.size ≤ 140737488355328) (_hat : at_ ≤ s.size) (hlt0 : at_ < s.size) (hx : by_ s at_ ≠ 120) (hp : ∀ j, j < s.size → w.cell? ⟨b, off + j, none⟩ = some (.int .u8 (by_ s j))) :
    Calls Tryz.prog 133 #[.slice (some ⟨b, off, none⟩) s.size cap, .int .i64 at_] w fun e w' => e = .returned (.tuple #[.int .i32 (numOut s at_ (numGo s 10 s.size at_ 0)).1, .int .i64 (numOut s at_ (numGo s 10 s.size at_ 0)).2.1, .int .i64 (numOut s at_ (numGo s 10 s.size at_ 0)).2.2]) ∧ w = w' := by
  obtain ⟨ANS, hA⟩ : ∃ A, numGo s 10 s.size at_ 0 = A := ⟨_, rfl⟩
  rw [hA]
  have HA := Lib.hid hA
  have HP := Lib.hid hp
  have hlz0 : (at_ : Int) < (s.size : Int) := by omega
  have cx0 := hp at_ hlt0
  obtain ⟨y, hy⟩ : ∃ y, by_ s at_ = y := ⟨_, rfl⟩
  rw [hy] at cx0 hx
  have f3 : (y == 120) = false := by rw [beq_eq_false_iff_ne]; exact hx
  clear hy
  clear hA hp
  go_enter Tryz.func133, Tryz.ntmps133
  go_wp2_with (fail)
  all_goals try (exfalso; omega)
  go_loop [1, 8] (fun a i => NumRel s 10 at_ ANS a i) (fun a _ => s.size - (intOf a).toNat)
  case atStart => exact ⟨s.size, at_, 0, rfl, rfl, HA.out, by omega, Nat.le_refl _, by omega, by omega⟩
  case round =>
    obtain ⟨k, pos, n, rfl, rfl, hgo, hk, hfirst, hpos, hn⟩ := hrel
    have G := Lib.hid hgo
    clear hgo
    by_cases hlt : pos < s.size
    · have hlz : (pos : Int) < (s.size : Int) := by omega
      obtain ⟨k, rfl⟩ : ∃ k', k = k' + 1 := ⟨k - 1, by omega⟩
      have cell := HP.out pos hlt
      obtain ⟨c, hc⟩ : ∃ c, by_ s pos = c := ⟨_, rfl⟩
      have hcb := by_bd s pos
      have HC := Lib.hid hc
      rw [hc] at cell hcb
      clear hc
      have hd0 := digZ_bd c
      obtain ⟨D, hD⟩ : ∃ D, digZ c = D := ⟨_, rfl⟩
      have HD := Lib.hid (fun w => digit_any c hcb.1 hcb.2 w)
      rw [hD] at HD hd0
      have HDD := Lib.hid hD
      clear hD
      by_cases hlb : D < 10
      · have HN := Lib.hid ((numGo_step s 10 k pos n hlt (by rw [HC.out, HDD.out]; exact hlb)).symm.trans G.out)
        rw [HC.out, HDD.out] at HN
        have hm : ((min (n * 10 + D.toNat) 1114112 : Nat) : Int) = min ((n : Int) * 10 + D) 1114112 := by omega
        clear G HC HDD
        go_wp2_with (fail)
        refine (HD.out _).mono ?_
        rintro e w1 ⟨rfl, rfl⟩
        go_wp2_with (fail)
        all_goals try (exfalso; omega)
        refine (HD.out _).mono ?_
        rintro e w1 ⟨rfl, rfl⟩
        go_wp2_with (fail)
        all_goals try (exfalso; omega)
        go_round
        case rel =>
          go_light
          exact ⟨k, pos + 1, min (n * 10 + D.toNat) 1114112, by go_num, by rw [hm], HN.out, by omega, by omega, by omega, by omega⟩
        case measure => simp [intOf]; omega
      · have hans := Lib.hid ((numGo_end s 10 (k + 1) pos n (by rintro ⟨_, h⟩; rw [HC.out, HDD.out] at h; exact hlb h)).symm.trans G.out)
        have hnz : ((pos : Int) == (s.size : Int)) = false := by rw [beq_eq_false_iff_ne]; omega
        have hnz' : ¬ pos = s.size := by omega
        clear G HDD
        by_cases h1 : pos = at_
        · have hO := Lib.hid (numOut_22 s at_ n pos (.inl h1))
          have h1z : ((pos : Int) == (at_ : Int)) = true := by rw [beq_iff_eq]; omega
          clear h1
          go_wp2_with (fail)
          refine (HD.out _).mono ?_
          rintro e w1 ⟨rfl, rfl⟩
          go_wp2_with (fail)
          all_goals try (exfalso; omega)
          go_ret3
          exact ⟨ret_out (by rw [← hans.out]; exact hO.out), rfl⟩
        · have h1z : ((pos : Int) == (at_ : Int)) = false := by rw [beq_eq_false_iff_ne]; omega
          by_cases h3 : c = 59
          · subst h3
            cases hcb2 : charB (n : Int)
            · have hO := Lib.hid (numOut_21 s at_ n pos h1 hnz' HC.out hcb2)
              have IC := Lib.hid (isChar (n : Int))
              rw [hcb2] at IC
              clear hcb2 h1 hnz'
              go_wp2_with (fail)
              refine (HD.out _).mono ?_
              rintro e w1 ⟨rfl, rfl⟩
              go_wp2_with (fail)
              all_goals try (exfalso; omega)
              refine (IC.out _).mono ?_
              rintro e w1 ⟨rfl, rfl⟩
              go_wp2_with (fail)
              go_ret3
              exact ⟨ret_out (by rw [← hans.out]; exact hO.out), rfl⟩
            · have hO := Lib.hid (numOut_ok s at_ n pos h1 hnz' HC.out hcb2)
              have IC := Lib.hid (isChar (n : Int))
              rw [hcb2] at IC
              clear hcb2 h1 hnz'
              go_wp2_with (fail)
              refine (HD.out _).mono ?_
              rintro e w1 ⟨rfl, rfl⟩
              go_wp2_with (fail)
              all_goals try (exfalso; omega)
              refine (IC.out _).mono ?_
              rintro e w1 ⟨rfl, rfl⟩
              go_wp2_with (fail)
              go_ret3
              exact ⟨ret_out (by rw [← hans.out]; exact hO.out), rfl⟩
          · have hO := Lib.hid (numOut_22 s at_ n pos (.inr (.inr (by rw [HC.out]; exact h3))))
            have h3b : (c == 59) = false := by rw [beq_eq_false_iff_ne]; exact h3
            clear h1 hnz'
            go_wp2_with (fail)
            refine (HD.out _).mono ?_
            rintro e w1 ⟨rfl, rfl⟩
            go_wp2_with (fail)
            all_goals try (exfalso; omega)
            go_ret3
            exact ⟨ret_out (by rw [← hans.out]; exact hO.out), rfl⟩
    · have hans := Lib.hid ((numGo_end s 10 k pos n (by rintro ⟨h, _⟩; exact hlt h)).symm.trans G.out)
      have hO := Lib.hid (numOut_22 s at_ n pos (.inr (.inl (by omega))))
      have hz : ((pos : Int) == (s.size : Int)) = true := by rw [beq_iff_eq]; omega
      have hz2 : ¬ (pos : Int) < (s.size : Int) := by omega
      clear G hlt
      go_wp2_with (fail)
      all_goals try (exfalso; omega)
      all_goals (go_ret3; exact ⟨ret_out (by rw [← hans.out]; exact hO.out), rfl⟩)

set_option maxHeartbeats 8000000 in
set_option maxRecDepth 100000 in
theorem numbered_end (s : ByteArray) (b off cap at_ : Nat) (w : World) (hs : s.size ≤ 140737488355328) (_hat : at_ ≤ s.size) (hlt0 : ¬ at_ < s.size) (hp : ∀ j, j < s.size → w.cell? ⟨b, off + j, none⟩ = some (.int .u8 (by_ s j))) :
    Calls Tryz.prog 133 #[.slice (some ⟨b, off, none⟩) s.size cap, .int .i64 at_] w fun e w' => e = .returned (.tuple #[.int .i32 (numOut s at_ (numGo s 10 s.size at_ 0)).1, .int .i64 (numOut s at_ (numGo s 10 s.size at_ 0)).2.1, .int .i64 (numOut s at_ (numGo s 10 s.size at_ 0)).2.2]) ∧ w = w' := by
  obtain ⟨ANS, hA⟩ : ∃ A, numGo s 10 s.size at_ 0 = A := ⟨_, rfl⟩
  rw [hA]
  have HA := Lib.hid hA
  have HP := Lib.hid hp
  have hlz0 : ¬ (at_ : Int) < (s.size : Int) := by omega
  clear hA hp
  go_enter Tryz.func133, Tryz.ntmps133
  go_wp2_with (fail)
  all_goals try (exfalso; omega)
  go_loop [1, 8] (fun a i => NumRel s 10 at_ ANS a i) (fun a _ => s.size - (intOf a).toNat)
  case atStart => exact ⟨s.size, at_, 0, rfl, rfl, HA.out, by omega, Nat.le_refl _, by omega, by omega⟩
  case round =>
    obtain ⟨k, pos, n, rfl, rfl, hgo, hk, hfirst, hpos, hn⟩ := hrel
    have G := Lib.hid hgo
    clear hgo
    by_cases hlt : pos < s.size
    · exfalso; omega
    · have hans := Lib.hid ((numGo_end s 10 k pos n (by rintro ⟨h, _⟩; exact hlt h)).symm.trans G.out)
      have hO := Lib.hid (numOut_22 s at_ n pos (.inr (.inl (by omega))))
      have hz : ((pos : Int) == (s.size : Int)) = true := by rw [beq_iff_eq]; omega
      have hz2 : ¬ (pos : Int) < (s.size : Int) := by omega
      clear G hlt
      go_wp2_with (fail)
      all_goals try (exfalso; omega)
      all_goals (go_ret3; exact ⟨ret_out (by rw [← hans.out]; exact hO.out), rfl⟩)

theorem numbered_any (s : ByteArray) (b off cap at_ : Nat) (w : World) (hs : s.size ≤ 140737488355328) (hat : at_ ≤ s.size) (hp : ∀ j, j < s.size → w.cell? ⟨b, off + j, none⟩ = some (.int .u8 (by_ s j))) :
    Calls Tryz.prog 133 #[.slice (some ⟨b, off, none⟩) s.size cap, .int .i64 at_] w fun e w' => e = .returned (.tuple #[.int .i32 (numF s at_).1, .int .i64 (numF s at_).2.1, .int .i64 (numF s at_).2.2]) ∧ w = w' := by
  by_cases h : at_ < s.size
  · by_cases hx : by_ s at_ = 120
    · have e : numF s at_ = numOut s (at_ + 1) (numGo s 16 s.size (at_ + 1) 0) := by unfold numF; rw [if_pos ⟨h, hx⟩]
      rw [e]
      exact numbered_x s b off cap at_ w hs hat h hx hp
    · have e : numF s at_ = numOut s at_ (numGo s 10 s.size at_ 0) := by unfold numF; rw [if_neg (by rintro ⟨_, g⟩; exact hx g)]
      rw [e]
      exact numbered_ten s b off cap at_ w hs hat h hx hp
  · have e : numF s at_ = numOut s at_ (numGo s 10 s.size at_ 0) := by unfold numF; rw [if_neg (by rintro ⟨g, _⟩; exact h g)]
    rw [e]
    exact numbered_end s b off cap at_ w hs hat h hp
end Go.Proofs.YtcfecnleibeegaaGreatDoor
