/- Proved here: plain steps of the document's Expand: its number is held at another bound than refer's, and comes to the same; and what it answers where a word stands, or no number sign. | Proved here: what the document's Expand answers where a number in sixteens begins: just expF; the world stays as it was. -/
import Derived.Test.YtidimpepfkdcmaaGreatDoorM30
import Derived.Test.YtidimpepfkdcmaaGreatDoorM5
import Derived.BigGuardPart
namespace Go.Proofs.YtidimpepfkdcmaaGreatDoor
open Go.RowKit

theorem ret_tri64 {A : Int × Int × Int} {x y z : Int} (h : A = (x, y, z)) : Ending.returned (.tuple #[.int .i64 x, .int .i64 y, .int .i64 z]) = .returned (.tuple #[.int .i64 A.1, .int .i64 A.2.1, .int .i64 A.2.2]) := by rw [h]
theorem charB_min (r : Nat) : charB ((min r 1114112 : Nat) : Int) = charB (r : Int) := by
  unfold charB
  rw [Bool.eq_iff_iff, decide_eq_true_eq, decide_eq_true_eq]
  omega
/-- Where the document's loop stands. -/
def RefNumRel (s : ByteArray) (base first : Nat) (ANS : Nat × Nat) (a i c : Value) : Prop := ∃ k pos r : Nat, a = .int .i64 pos ∧ i = .int .i64 r ∧ c = .int .i64 ((pos : Int) - (first : Int)) ∧ numGo s base k pos (min r 1114112) = ANS ∧ s.size ≤ pos + k ∧ first ≤ pos ∧ pos ≤ s.size ∧ r ≤ 33554447
theorem out_min (s : ByteArray) (first r pos : Nat) (h1 : ¬ pos = first) (h2 : ¬ pos = s.size) (h3 : by_ s pos = 59) (hc : charB (r : Int) = true) : numOut s first (min r 1114112, pos) = ((r : Int), (pos : Int) + 1, 0) := by
  have hm : min r 1114112 = r := by
    have : charB (r : Int) = true := hc
    unfold charB at this
    have := of_decide_eq_true this
    omega
  rw [hm]
  exact numOut_ok s first r pos h1 h2 h3 hc
theorem out_min21 (s : ByteArray) (first r pos : Nat) (h1 : ¬ pos = first) (h2 : ¬ pos = s.size) (h3 : by_ s pos = 59) (hc : charB (r : Int) = false) : numOut s first (min r 1114112, pos) = (0, 0, 21) :=
  numOut_21 s first _ pos h1 h2 h3 (by rw [charB_min]; exact hc)
set_option maxHeartbeats 1000000 in
theorem refexp_word (s : ByteArray) (b off cap at_ : Nat) (c n : Int) (w : World) (hs : s.size ≤ 140737488355000) (hcap : s.size ≤ cap) (hat : at_ < s.size) (hw : wordGo s (at_ + 1) 5 = (c, n)) (hn : 0 < n) (hp : ∀ j, j < s.size → w.cell? ⟨b, off + j, none⟩ = some (.int .u8 (by_ s j))) :
    Calls Tryz.prog 54 #[.slice (some ⟨b, off, none⟩) s.size cap, .int .i64 at_] w fun e w' => e = .returned (.tuple #[.int .i64 c, .int .i64 n, .int .i64 0]) ∧ w = w' := by
  have hz : (at_ : Int) < (s.size : Int) := by omega
  have W := Lib.hid (word_some s b off cap (at_ + 1) w hs hcap (by omega) hp)
  rw [hw] at W
  clear hw hp
  go_enter Tryz.func54, Tryz.ntmps54
  go_wp2_with (fail)
  refine W.out.mono ?_
  rintro e w' ⟨rfl, rfl⟩
  go_wp2_with (fail)
  go_ret3
  exact ⟨rfl, rfl⟩
set_option maxHeartbeats 1000000 in
theorem refexp_none (s : ByteArray) (b off cap at_ : Nat) (w : World) (hs : s.size ≤ 140737488355000) (hcap : s.size ≤ cap) (hat : at_ < s.size) (hw : wordGo s (at_ + 1) 5 = (0, 0)) (h35 : ¬ (at_ + 1 < s.size ∧ by_ s (at_ + 1) = 35)) (hp : ∀ j, j < s.size → w.cell? ⟨b, off + j, none⟩ = some (.int .u8 (by_ s j))) :
    Calls Tryz.prog 54 #[.slice (some ⟨b, off, none⟩) s.size cap, .int .i64 at_] w fun e w' => e = .returned (.tuple #[.int .i64 0, .int .i64 0, .int .i64 22]) ∧ w = w' := by
  have hz : (at_ : Int) < (s.size : Int) := by omega
  have W := Lib.hid (word_some s b off cap (at_ + 1) w hs hcap (by omega) hp)
  rw [hw] at W
  by_cases hlt : at_ + 1 < s.size
  · have hz1 : (at_ : Int) + 1 < (s.size : Int) := by omega
    have c1 := hp (at_ + 1) hlt
    obtain ⟨c, hc⟩ : ∃ c, by_ s (at_ + 1) = c := ⟨_, rfl⟩
    rw [hc] at c1 h35
    have f35 : (c == 35) = false := by rw [beq_eq_false_iff_ne]; exact fun e => h35 ⟨hlt, e⟩
    clear hw hp hc h35
    go_enter Tryz.func54, Tryz.ntmps54
    go_wp2_with (fail)
    refine W.out.mono ?_
    rintro e w' ⟨rfl, rfl⟩
    go_wp2_with (fail)
    all_goals try (exfalso; omega)
    go_ret3
    exact ⟨rfl, rfl⟩
  · have hz1 : ¬ (at_ : Int) + 1 < (s.size : Int) := by omega
    clear hw hp h35 hlt
    go_enter Tryz.func54, Tryz.ntmps54
    go_wp2_with (fail)
    refine W.out.mono ?_
    rintro e w' ⟨rfl, rfl⟩
    go_wp2_with (fail)
    all_goals try (exfalso; omega)
    go_ret3
    exact ⟨rfl, rfl⟩
end Go.Proofs.YtidimpepfkdcmaaGreatDoor
namespace Go.Proofs.YtidimpepfkdcmaaGreatDoor
open Go.RowKit

set_option maxHeartbeats 8000000 in
set_option maxRecDepth 100000 in
theorem refnum_x (s : ByteArray) (b off cap at_ : Nat) (w : World) (hs : s.size ≤ 140737488355000) (hcap : s.size ≤ cap) (hlt1 : at_ + 1 < s.size) (hw : wordGo s (at_ + 1) 5 = (0, 0)) (h35 : by_ s (at_ + 1) = 35) (hlt0 : at_ + 2 < s.size) (hx : by_ s (at_ + 2) = 120) (hp : ∀ j, j < s.size → w.cell? ⟨b, off + j, none⟩ = some (.int .u8 (by_ s j))) :
    Calls Tryz.prog 54 #[.slice (some ⟨b, off, none⟩) s.size cap, .int .i64 at_] w fun e w' => e = .returned (.tuple #[.int .i64 (numOut s (at_ + 2 + 1) (numGo s 16 s.size (at_ + 2 + 1) 0)).1, .int .i64 (numOut s (at_ + 2 + 1) (numGo s 16 s.size (at_ + 2 + 1) 0)).2.1, .int .i64 (numOut s (at_ + 2 + 1) (numGo s 16 s.size (at_ + 2 + 1) 0)).2.2]) ∧ w = w' := by
  obtain ⟨ANS, hA⟩ : ∃ A, numGo s 16 s.size (at_ + 2 + 1) 0 = A := ⟨_, rfl⟩
  rw [hA]
  have HA := Lib.hid hA
  have HP := Lib.hid hp
  have hz : (at_ : Int) < (s.size : Int) := by omega
  have hz1 : (at_ : Int) + 1 < (s.size : Int) := by omega
  have c1 := hp (at_ + 1) hlt1
  rw [h35] at c1
  have W := Lib.hid (word_some s b off cap (at_ + 1) w hs hcap (by omega) hp)
  rw [hw] at W
  have hlz0 : (at_ : Int) + 2 < (s.size : Int) := by omega
  have cx := hp (at_ + 2) hlt0
  rw [hx] at cx
  clear hx
  clear hA hp hw h35
  go_enter Tryz.func54, Tryz.ntmps54
  go_wp2_with (fail)
  refine W.out.mono ?_
  rintro e w' ⟨rfl, rfl⟩
  go_wp2_with (fail)
  all_goals try (exfalso; omega)
  go_loop [9, 11, 12] (fun a i c => RefNumRel s 16 ((at_ + 2 + 1)) ANS a i c) (fun a _ _ => s.size - (intOf a).toNat)
  case atStart => exact ⟨s.size, (at_ + 2 + 1), 0, by go_num, rfl, by go_num, HA.out, by omega, Nat.le_refl _, by omega, by omega⟩
  case round =>
    obtain ⟨k, pos, r, rfl, rfl, rfl, hgo, hk, hfirst, hpos, hr⟩ := hrel
    have G := Lib.hid hgo
    clear hgo
    by_cases hlt : pos < s.size
    · have hlz : (pos : Int) < (s.size : Int) := by omega
      obtain ⟨k, rfl⟩ : ∃ k', k = k' + 1 := ⟨k - 1, by omega⟩
      have cell := HP.out pos hlt
      obtain ⟨c, hc⟩ : ∃ c, by_ s pos = c := ⟨_, rfl⟩
      have hcb := by_bd s pos
      have HC := Lib.hid hc
      rw [hc] at cell hcb
      clear hc
      have hd0 := digZ_bd c
      obtain ⟨D, hD⟩ : ∃ D, digZ c = D := ⟨_, rfl⟩
      have HX := Lib.hid (fun w => hex_any c hcb.1 hcb.2 w)
      have hX : hexZ c = if D < 16 then D else -1 := by unfold hexZ; rw [hD]
      rw [hD] at hd0
      have HDD := Lib.hid hD
      clear hD
      by_cases hlb : D < 16
      · have hx2 : hexZ c = D := by rw [hX, if_pos (by omega)]
        rw [hx2] at HX
        have HN := Lib.hid ((numGo_step s 16 k pos (min r 1114112) hlt (by rw [HC.out, HDD.out]; exact hlb)).symm.trans G.out)
        rw [HC.out, HDD.out] at HN
        clear G HC HDD hX hx2
        by_cases hr2 : r < 2097152
        · have hrz : (r : Int) < 2097152 := by omega
          have hm : min (min r 1114112 * 16 + D.toNat) 1114112 = min (16 * r + D.toNat) 1114112 := by omega
          rw [hm] at HN
          clear hm
          go_wp2_with (fail)
          refine (HX.out _).mono ?_
          rintro e w1 ⟨rfl, rfl⟩
          go_wp2_with (fail)
          all_goals try (exfalso; omega)
          refine (HX.out _).mono ?_
          rintro e w1 ⟨rfl, rfl⟩
          go_wp2_with (fail)
          all_goals try (exfalso; omega)
          refine (HX.out _).mono ?_
          rintro e w1 ⟨rfl, rfl⟩
          go_wp2_with (fail)
          all_goals try (exfalso; omega)
          go_round
          case rel =>
            go_light
            exact ⟨k, pos + 1, 16 * r + D.toNat, by go_num, by go_num, by go_num, HN.out, by omega, by omega, by omega, by omega⟩
          case measure => simp [intOf]; omega
        · have hrz : ((r : Int) < 2097152) = False := eq_false (by omega)
          have hm : min (min r 1114112 * 16 + D.toNat) 1114112 = min r 1114112 := by omega
          rw [hm] at HN
          clear hm hr2
          go_wp2_with (fail)
          refine (HX.out _).mono ?_
          rintro e w1 ⟨rfl, rfl⟩
          go_wp2_with (fail)
          all_goals try (exfalso; omega)
          refine (HX.out _).mono ?_
          rintro e w1 ⟨rfl, rfl⟩
          go_wp2_with (fail)
          all_goals try (exfalso; omega)
          go_round
          case rel =>
            go_light
            exact ⟨k, pos + 1, r, by go_num, rfl, by go_num, HN.out, by omega, by omega, by omega, hr⟩
          case measure => simp [intOf]; omega
      · have hans := Lib.hid ((numGo_end s 16 (k + 1) pos (min r 1114112) (by rintro ⟨_, h⟩; rw [HC.out, HDD.out] at h; exact hlb h)).symm.trans G.out)
        have hnz' : ¬ pos = s.size := by omega
        have hnz : ¬ (s.size : Int) ≤ (pos : Int) := by omega
        clear G HDD
        obtain ⟨X, hXX⟩ : ∃ X, hexZ c = X := ⟨_, rfl⟩
        rw [hXX] at HX hX
        have hx3 : X < 0 ∨ (0 ≤ X ∧ 16 ≤ X) := by rw [hX]; split <;> omega
        clear hX hXX
        by_cases h1 : pos = (at_ + 2 + 1)
        · have hO := Lib.hid (numOut_22 s ((at_ + 2 + 1)) (min r 1114112) pos (.inl h1))
          have h1z : ((pos : Int) - ((at_ : Int) + 2 + 1) == 0) = true := by rw [beq_iff_eq]; omega
          clear h1
          rcases hx3 with hx3 | ⟨hx3, hx4⟩
          · go_wp2_with (fail)
            refine (HX.out _).mono ?_
            rintro e w1 ⟨rfl, rfl⟩
            go_wp2_with (fail)
            all_goals try (exfalso; omega)
            go_ret3
            exact ⟨ret_tri64 (by rw [← hans.out]; exact hO.out), rfl⟩
          · go_wp2_with (fail)
            refine (HX.out _).mono ?_
            rintro e w1 ⟨rfl, rfl⟩
            go_wp2_with (fail)
            all_goals try (exfalso; omega)
            refine (HX.out _).mono ?_
            rintro e w1 ⟨rfl, rfl⟩
            go_wp2_with (fail)
            all_goals try (exfalso; omega)
            go_ret3
            exact ⟨ret_tri64 (by rw [← hans.out]; exact hO.out), rfl⟩
        · have h1z : ((pos : Int) - ((at_ : Int) + 2 + 1) == 0) = false := by rw [beq_eq_false_iff_ne]; omega
          by_cases h3 : c = 59
          · subst h3
            cases hcb2 : charB (r : Int)
            · have hO := Lib.hid (out_min21 s ((at_ + 2 + 1)) r pos h1 hnz' HC.out hcb2)
              have IC := Lib.hid (refChar (r : Int))
              rw [hcb2] at IC
              clear hcb2 h1 hnz'
              rcases hx3 with hx3 | ⟨hx3, hx4⟩
              · go_wp2_with (fail)
                refine (HX.out _).mono ?_
                rintro e w1 ⟨rfl, rfl⟩
                go_wp2_with (fail)
                all_goals try (exfalso; omega)
                refine (IC.out _).mono ?_
                rintro e w1 ⟨rfl, rfl⟩
                go_wp2_with (fail)
                all_goals try (exfalso; omega)
                go_ret3
                exact ⟨ret_tri64 (by rw [← hans.out]; exact hO.out), rfl⟩
              · go_wp2_with (fail)
                refine (HX.out _).mono ?_
                rintro e w1 ⟨rfl, rfl⟩
                go_wp2_with (fail)
                all_goals try (exfalso; omega)
                refine (HX.out _).mono ?_
                rintro e w1 ⟨rfl, rfl⟩
                go_wp2_with (fail)
                all_goals try (exfalso; omega)
                refine (IC.out _).mono ?_
                rintro e w1 ⟨rfl, rfl⟩
                go_wp2_with (fail)
                all_goals try (exfalso; omega)
                go_ret3
                exact ⟨ret_tri64 (by rw [← hans.out]; exact hO.out), rfl⟩
            · have hO := Lib.hid (out_min s ((at_ + 2 + 1)) r pos h1 hnz' HC.out hcb2)
              have IC := Lib.hid (refChar (r : Int))
              rw [hcb2] at IC
              clear hcb2 h1 hnz'
              rcases hx3 with hx3 | ⟨hx3, hx4⟩
              · go_wp2_with (fail)
                refine (HX.out _).mono ?_
                rintro e w1 ⟨rfl, rfl⟩
                go_wp2_with (fail)
                all_goals try (exfalso; omega)
                refine (IC.out _).mono ?_
                rintro e w1 ⟨rfl, rfl⟩
                go_wp2_with (fail)
                all_goals try (exfalso; omega)
                go_ret3
                exact ⟨ret_tri64 (by rw [← hans.out]; exact hO.out), rfl⟩
              · go_wp2_with (fail)
                refine (HX.out _).mono ?_
                rintro e w1 ⟨rfl, rfl⟩
                go_wp2_with (fail)
                all_goals try (exfalso; omega)
                refine (HX.out _).mono ?_
                rintro e w1 ⟨rfl, rfl⟩
                go_wp2_with (fail)
                all_goals try (exfalso; omega)
                refine (IC.out _).mono ?_
                rintro e w1 ⟨rfl, rfl⟩
                go_wp2_with (fail)
                all_goals try (exfalso; omega)
                go_ret3
                exact ⟨ret_tri64 (by rw [← hans.out]; exact hO.out), rfl⟩
          · have hO := Lib.hid (numOut_22 s ((at_ + 2 + 1)) (min r 1114112) pos (.inr (.inr (by rw [HC.out]; exact h3))))
            have h3b : (c == 59) = false := by rw [beq_eq_false_iff_ne]; exact h3
            clear h1 hnz'
            rcases hx3 with hx3 | ⟨hx3, hx4⟩
            · go_wp2_with (fail)
              refine (HX.out _).mono ?_
              rintro e w1 ⟨rfl, rfl⟩
              go_wp2_with (fail)
              all_goals try (exfalso; omega)
              go_ret3
              exact ⟨ret_tri64 (by rw [← hans.out]; exact hO.out), rfl⟩
            · go_wp2_with (fail)
              refine (HX.out _).mono ?_
              rintro e w1 ⟨rfl, rfl⟩
              go_wp2_with (fail)
              all_goals try (exfalso; omega)
              refine (HX.out _).mono ?_
              rintro e w1 ⟨rfl, rfl⟩
              go_wp2_with (fail)
              all_goals try (exfalso; omega)
              go_ret3
              exact ⟨ret_tri64 (by rw [← hans.out]; exact hO.out), rfl⟩
    · have hans := Lib.hid ((numGo_end s 16 k pos (min r 1114112) (by rintro ⟨h, _⟩; exact hlt h)).symm.trans G.out)
      have hO := Lib.hid (numOut_22 s ((at_ + 2 + 1)) (min r 1114112) pos (.inr (.inl (by omega))))
      have hz2 : ¬ (pos : Int) < (s.size : Int) := by omega
      clear G hlt
      go_wp2_with (fail)
      all_goals try (exfalso; omega)
      all_goals (go_ret3; exact ⟨ret_tri64 (by rw [← hans.out]; exact hO.out), rfl⟩)
end Go.Proofs.YtidimpepfkdcmaaGreatDoor
