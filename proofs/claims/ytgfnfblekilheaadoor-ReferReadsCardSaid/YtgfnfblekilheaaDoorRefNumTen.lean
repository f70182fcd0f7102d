/- Proved here: what the document's Expand answers where a number in tens begins: just expF; the world stays as it was. -/
import Derived.Test.YtgfnfblekilheaaDoorRefExpKit
namespace Go.Proofs.YtgfnfblekilheaaDoor
open Go.RowKit

set_option maxHeartbeats 8000000 in
set_option maxRecDepth 100000 in
theorem refnum_ten (s : ByteArray) (b off cap at_ : Nat) (w : World) (hs : s.size ≤ 140737488355000) (hcap : s.size ≤ cap) (hlt1 : at_ + 1 < s.size) (hw : wordGo s (at_ + 1) 5 = (0, 0)) (h35 : by_ s (at_ + 1) = 35) (hlt0 : at_ + 2 < s.size) (hx : by_ s (at_ + 2) ≠ 120) (hp : ∀ j, j < s.size → w.cell? ⟨b, off + j, none⟩ = some (.int .u8 (by_ s j))) :
    Calls Tryd.prog 12 #[.slice (some ⟨b, off, none⟩) s.size cap, .int .i64 at_] w fun e w' => e = .returned (.tuple #[.int .i64 (numOut s (at_ + 2) (numGo s 10 s.size (at_ + 2) 0)).1, .int .i64 (numOut s (at_ + 2) (numGo s 10 s.size (at_ + 2) 0)).2.1, .int .i64 (numOut s (at_ + 2) (numGo s 10 s.size (at_ + 2) 0)).2.2]) ∧ w = w' := by
  obtain ⟨ANS, hA⟩ : ∃ A, numGo s 10 s.size (at_ + 2) 0 = A := ⟨_, rfl⟩
  rw [hA]
  have HA := Lib.hid hA
  have HP := Lib.hid hp
  have hz : (at_ : Int) < (s.size : Int) := by omega
  have hz1 : (at_ : Int) + 1 < (s.size : Int) := by omega
  have c1 := hp (at_ + 1) hlt1
  rw [h35] at c1
  have W := Lib.hid (word_some s b off cap (at_ + 1) w hs hcap (by omega) hp)
  rw [hw] at W
  have hlz0 : (at_ : Int) + 2 < (s.size : Int) := by omega
  have cx0 := hp (at_ + 2) hlt0
  obtain ⟨y, hy⟩ : ∃ y, by_ s (at_ + 2) = y := ⟨_, rfl⟩
  rw [hy] at cx0 hx
  have f3 : (y == 120) = false := by rw [beq_eq_false_iff_ne]; exact hx
  clear hy
  clear hA hp hw h35
  go_enter Tryd.func12, Tryd.ntmps12
  go_wp2_with (fail)
  refine W.out.mono ?_
  rintro e w' ⟨rfl, rfl⟩
  go_wp2_with (fail)
  all_goals try (exfalso; omega)
  go_loop [9, 11, 12] (fun a i c => RefNumRel s 10 ((at_ + 2)) ANS a i c) (fun a _ _ => s.size - (intOf a).toNat)
  case atStart => exact ⟨s.size, (at_ + 2), 0, by go_num, rfl, by go_num, HA.out, by omega, Nat.le_refl _, by omega, by omega⟩
  case round =>
    obtain ⟨k, pos, r, rfl, rfl, rfl, hgo, hk, hfirst, hpos, hr⟩ := hrel
    have G := Lib.hid hgo
    clear hgo
    by_cases hlt : pos < s.size
    · have hlz : (pos : Int) < (s.size : Int) := by omega
      obtain ⟨k, rfl⟩ : ∃ k', k = k' + 1 := ⟨k - 1, by omega⟩
      have cell := HP.out pos hlt
      obtain ⟨c, hc⟩ : ∃ c, by_ s pos = c := ⟨_, rfl⟩
      have hcb := by_bd s pos
      have HC := Lib.hid hc
      rw [hc] at cell hcb
      clear hc
      have hd0 := digZ_bd c
      obtain ⟨D, hD⟩ : ∃ D, digZ c = D := ⟨_, rfl⟩
      have HX := Lib.hid (fun w => hex_any c hcb.1 hcb.2 w)
      have hX : hexZ c = if D < 16 then D else -1 := by unfold hexZ; rw [hD]
      rw [hD] at hd0
      have HDD := Lib.hid hD
      clear hD
      by_cases hlb : D < 10
      · have hx2 : hexZ c = D := by rw [hX, if_pos (by omega)]
        rw [hx2] at HX
        have HN := Lib.hid ((numGo_step s 10 k pos (min r 1114112) hlt (by rw [HC.out, HDD.out]; exact hlb)).symm.trans G.out)
        rw [HC.out, HDD.out] at HN
        clear G HC HDD hX hx2
        by_cases hr2 : r < 2097152
        · have hrz : (r : Int) < 2097152 := by omega
          have hm : min (min r 1114112 * 10 + D.toNat) 1114112 = min (10 * r + D.toNat) 1114112 := by omega
          rw [hm] at HN
          clear hm
          go_wp2_with (fail)
          refine (HX.out _).mono ?_
          rintro e w1 ⟨rfl, rfl⟩
          go_wp2_with (fail)
          all_goals try (exfalso; omega)
          refine (HX.out _).mono ?_
          rintro e w1 ⟨rfl, rfl⟩
          go_wp2_with (fail)
          all_goals try (exfalso; omega)
          refine (HX.out _).mono ?_
          rintro e w1 ⟨rfl, rfl⟩
          go_wp2_with (fail)
          all_goals try (exfalso; omega)
          go_round
          case rel =>
            go_light
            exact ⟨k, pos + 1, 10 * r + D.toNat, by go_num, by go_num, by go_num, HN.out, by omega, by omega, by omega, by omega⟩
          case measure => simp [intOf]; omega
        · have hrz : ((r : Int) < 2097152) = False := eq_false (by omega)
          have hm : min (min r 1114112 * 10 + D.toNat) 1114112 = min r 1114112 := by omega
          rw [hm] at HN
          clear hm hr2
          go_wp2_with (fail)
          refine (HX.out _).mono ?_
          rintro e w1 ⟨rfl, rfl⟩
          go_wp2_with (fail)
          all_goals try (exfalso; omega)
          refine (HX.out _).mono ?_
          rintro e w1 ⟨rfl, rfl⟩
          go_wp2_with (fail)
          all_goals try (exfalso; omega)
          go_round
          case rel =>
            go_light
            exact ⟨k, pos + 1, r, by go_num, rfl, by go_num, HN.out, by omega, by omega, by omega, hr⟩
          case measure => simp [intOf]; omega
      · have hans := Lib.hid ((numGo_end s 10 (k + 1) pos (min r 1114112) (by rintro ⟨_, h⟩; rw [HC.out, HDD.out] at h; exact hlb h)).symm.trans G.out)
        have hnz' : ¬ pos = s.size := by omega
        have hnz : ¬ (s.size : Int) ≤ (pos : Int) := by omega
        clear G HDD
        obtain ⟨X, hXX⟩ : ∃ X, hexZ c = X := ⟨_, rfl⟩
        rw [hXX] at HX hX
        have hx3 : X < 0 ∨ (0 ≤ X ∧ 10 ≤ X) := by rw [hX]; split <;> omega
        clear hX hXX
        by_cases h1 : pos = (at_ + 2)
        · have hO := Lib.hid (numOut_22 s ((at_ + 2)) (min r 1114112) pos (.inl h1))
          have h1z : ((pos : Int) - ((at_ : Int) + 2) == 0) = true := by rw [beq_iff_eq]; omega
          clear h1
          rcases hx3 with hx3 | ⟨hx3, hx4⟩
          · go_wp2_with (fail)
            refine (HX.out _).mono ?_
            rintro e w1 ⟨rfl, rfl⟩
            go_wp2_with (fail)
            all_goals try (exfalso; omega)
            go_ret3
            exact ⟨ret_tri64 (by rw [← hans.out]; exact hO.out), rfl⟩
          · go_wp2_with (fail)
            refine (HX.out _).mono ?_
            rintro e w1 ⟨rfl, rfl⟩
            go_wp2_with (fail)
            all_goals try (exfalso; omega)
            refine (HX.out _).mono ?_
            rintro e w1 ⟨rfl, rfl⟩
            go_wp2_with (fail)
            all_goals try (exfalso; omega)
            go_ret3
            exact ⟨ret_tri64 (by rw [← hans.out]; exact hO.out), rfl⟩
        · have h1z : ((pos : Int) - ((at_ : Int) + 2) == 0) = false := by rw [beq_eq_false_iff_ne]; omega
          by_cases h3 : c = 59
          · subst h3
            cases hcb2 : charB (r : Int)
            · have hO := Lib.hid (out_min21 s ((at_ + 2)) r pos h1 hnz' HC.out hcb2)
              have IC := Lib.hid (refChar (r : Int))
              rw [hcb2] at IC
              clear hcb2 h1 hnz'
              rcases hx3 with hx3 | ⟨hx3, hx4⟩
              · go_wp2_with (fail)
                refine (HX.out _).mono ?_
                rintro e w1 ⟨rfl, rfl⟩
                go_wp2_with (fail)
                all_goals try (exfalso; omega)
                refine (IC.out _).mono ?_
                rintro e w1 ⟨rfl, rfl⟩
                go_wp2_with (fail)
                all_goals try (exfalso; omega)
                go_ret3
                exact ⟨ret_tri64 (by rw [← hans.out]; exact hO.out), rfl⟩
              · go_wp2_with (fail)
                refine (HX.out _).mono ?_
                rintro e w1 ⟨rfl, rfl⟩
                go_wp2_with (fail)
                all_goals try (exfalso; omega)
                refine (HX.out _).mono ?_
                rintro e w1 ⟨rfl, rfl⟩
                go_wp2_with (fail)
                all_goals try (exfalso; omega)
                refine (IC.out _).mono ?_
                rintro e w1 ⟨rfl, rfl⟩
                go_wp2_with (fail)
                all_goals try (exfalso; omega)
                go_ret3
                exact ⟨ret_tri64 (by rw [← hans.out]; exact hO.out), rfl⟩
            · have hO := Lib.hid (out_min s ((at_ + 2)) r pos h1 hnz' HC.out hcb2)
              have IC := Lib.hid (refChar (r : Int))
              rw [hcb2] at IC
              clear hcb2 h1 hnz'
              rcases hx3 with hx3 | ⟨hx3, hx4⟩
              · go_wp2_with (fail)
                refine (HX.out _).mono ?_
                rintro e w1 ⟨rfl, rfl⟩
                go_wp2_with (fail)
                all_goals try (exfalso; omega)
                refine (IC.out _).mono ?_
                rintro e w1 ⟨rfl, rfl⟩
                go_wp2_with (fail)
                all_goals try (exfalso; omega)
                go_ret3
                exact ⟨ret_tri64 (by rw [← hans.out]; exact hO.out), rfl⟩
              · go_wp2_with (fail)
                refine (HX.out _).mono ?_
                rintro e w1 ⟨rfl, rfl⟩
                go_wp2_with (fail)
                all_goals try (exfalso; omega)
                refine (HX.out _).mono ?_
                rintro e w1 ⟨rfl, rfl⟩
                go_wp2_with (fail)
                all_goals try (exfalso; omega)
                refine (IC.out _).mono ?_
                rintro e w1 ⟨rfl, rfl⟩
                go_wp2_with (fail)
                all_goals try (exfalso; omega)
                go_ret3
                exact ⟨ret_tri64 (by rw [← hans.out]; exact hO.out), rfl⟩
          · have hO := Lib.hid (numOut_22 s ((at_ + 2)) (min r 1114112) pos (.inr (.inr (by rw [HC.out]; exact h3))))
            have h3b : (c == 59) = false := by rw [beq_eq_false_iff_ne]; exact h3
            clear h1 hnz'
            rcases hx3 with hx3 | ⟨hx3, hx4⟩
            · go_wp2_with (fail)
              refine (HX.out _).mono ?_
              rintro e w1 ⟨rfl, rfl⟩
              go_wp2_with (fail)
              all_goals try (exfalso; omega)
              go_ret3
              exact ⟨ret_tri64 (by rw [← hans.out]; exact hO.out), rfl⟩
            · go_wp2_with (fail)
              refine (HX.out _).mono ?_
              rintro e w1 ⟨rfl, rfl⟩
              go_wp2_with (fail)
              all_goals try (exfalso; omega)
              refine (HX.out _).mono ?_
              rintro e w1 ⟨rfl, rfl⟩
              go_wp2_with (fail)
              all_goals try (exfalso; omega)
              go_ret3
              exact ⟨ret_tri64 (by rw [← hans.out]; exact hO.out), rfl⟩
    · have hans := Lib.hid ((numGo_end s 10 k pos (min r 1114112) (by rintro ⟨h, _⟩; exact hlt h)).symm.trans G.out)
      have hO := Lib.hid (numOut_22 s ((at_ + 2)) (min r 1114112) pos (.inr (.inl (by omega))))
      have hz2 : ¬ (pos : Int) < (s.size : Int) := by omega
      clear G hlt
      go_wp2_with (fail)
      all_goals try (exfalso; omega)
      all_goals (go_ret3; exact ⟨ret_tri64 (by rw [← hans.out]; exact hO.out), rfl⟩)
end Go.Proofs.YtgfnfblekilheaaDoor
