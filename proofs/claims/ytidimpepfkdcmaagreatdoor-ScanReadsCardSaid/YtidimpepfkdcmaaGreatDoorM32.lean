/- Proved here: what the document's Expand answers where a number in tens begins: just expF; the world stays as it was. | Proved here: what the document's Expand answers where nothing stands behind a number sign: just expF; the world stays as it was. | Proved here: what the document's Expand answers within any bytes where an ampersand stands: just expF, as refer's does; the world stays as it was. | Proved here: what the document's Read needs: the row it grows by a character's bytes, and how it ends. -/
import Derived.Test.YtidimpepfkdcmaaGreatDoorM31
import Derived.Test.YtidimpepfkdcmaaGreatDoorM1
import Derived.Test.YtidimpepfkdcmaaGreatDoorM43
import Derived.Test.YtidimpepfkdcmaaGreatDoorM19
import Derived.Test.YtidimpepfkdcmaaGreatDoorM9
import Derived.BigGuardPart
namespace Go.Proofs.YtidimpepfkdcmaaGreatDoor
open Go.RowKit

set_option maxHeartbeats 8000000 in
set_option maxRecDepth 100000 in
theorem refnum_ten (s : ByteArray) (b off cap at_ : Nat) (w : World) (hs : s.size ≤ 140737488355000) (hcap : s.size ≤ cap) (hlt1 : at_ + 1 < s.size) (hw : wordGo s (at_ + 1) 5 = (0, 0)) (h35 : by_ s (at_ + 1) = 35) (hlt0 : at_ + 2 < s.size) (hx : by_ s (at_ + 2) ≠ 120) (hp : ∀ j, j < s.size → w.cell? ⟨b, off + j, none⟩ = some (.int .u8 (by_ s j))) :
    Calls Tryz.prog 54 #[.slice (some ⟨b, off, none⟩) s.size cap, .int .i64 at_] w fun e w' => e = .returned (.tuple #[.int .i64 (numOut s (at_ + 2) (numGo s 10 s.size (at_ + 2) 0)).1, .int .i64 (numOut s (at_ + 2) (numGo s 10 s.size (at_ + 2) 0)).2.1, .int .i64 (numOut s (at_ + 2) (numGo s 10 s.size (at_ + 2) 0)).2.2]) ∧ w = w' := by
  obtain ⟨ANS, hA⟩ : ∃ A, numGo s 10 s.size (at_ + 2) 0 = A := ⟨_, rfl⟩
  rw [hA]
  have HA := Lib.hid hA
  have HP := Lib.hid hp
  have hz : (at_ : Int) < (s.size : Int) := by omega
  have hz1 : (at_ : Int) + 1 < (s.size : Int) := by omega
  have c1 := hp (at_ + 1) hlt1
  rw [h35] at c1
  have W := Lib.hid (word_some s b off cap (at_ + 1) w hs hcap (by omega) hp)
  rw [hw] at W
  have hlz0 : (at_ : Int) + 2 < (s.size : Int) := by omega
  have cx0 := hp (at_ + 2) hlt0
  obtain ⟨y, hy⟩ : ∃ y, by_ s (at_ + 2) = y := ⟨_, rfl⟩
  rw [hy] at cx0 hx
  have f3 : (y == 120) = false := by rw [beq_eq_false_iff_ne]; exact hx
  clear hy
  clear hA hp hw h35
  go_enter Tryz.func54, Tryz.ntmps54
  go_wp2_with (fail)
  refine W.out.mono ?_
  rintro e w' ⟨rfl, rfl⟩
  go_wp2_with (fail)
  all_goals try (exfalso; omega)
  go_loop [9, 11, 12] (fun a i c => RefNumRel s 10 ((at_ + 2)) ANS a i c) (fun a _ _ => s.size - (intOf a).toNat)
  case atStart => exact ⟨s.size, (at_ + 2), 0, by go_num, rfl, by go_num, HA.out, by omega, Nat.le_refl _, by omega, by omega⟩
  case round =>
    obtain ⟨k, pos, r, rfl, rfl, rfl, hgo, hk, hfirst, hpos, hr⟩ := hrel
    have G := Lib.hid hgo
    clear hgo
    by_cases hlt : pos < s.size
    · have hlz : (pos : Int) < (s.size : Int) := by omega
      obtain ⟨k, rfl⟩ : ∃ k', k = k' + 1 := ⟨k - 1, by omega⟩
      have cell := HP.out pos hlt
      obtain ⟨c, hc⟩ : ∃ c, by_ s pos = c := ⟨_, rfl⟩
      have hcb := by_bd s pos
      have HC := Lib.hid hc
      rw [hc] at cell hcb
      clear hc
      have hd0 := digZ_bd c
      obtain ⟨D, hD⟩ : ∃ D, digZ c = D := ⟨_, rfl⟩
      have HX := Lib.hid (fun w => hex_any c hcb.1 hcb.2 w)
      have hX : hexZ c = if D < 16 then D else -1 := by unfold hexZ; rw [hD]
      rw [hD] at hd0
      have HDD := Lib.hid hD
      clear hD
      by_cases hlb : D < 10
      · have hx2 : hexZ c = D := by rw [hX, if_pos (by omega)]
        rw [hx2] at HX
        have HN := Lib.hid ((numGo_step s 10 k pos (min r 1114112) hlt (by rw [HC.out, HDD.out]; exact hlb)).symm.trans G.out)
        rw [HC.out, HDD.out] at HN
        clear G HC HDD hX hx2
        by_cases hr2 : r < 2097152
        · have hrz : (r : Int) < 2097152 := by omega
          have hm : min (min r 1114112 * 10 + D.toNat) 1114112 = min (10 * r + D.toNat) 1114112 := by omega
          rw [hm] at HN
          clear hm
          go_wp2_with (fail)
          refine (HX.out _).mono ?_
          rintro e w1 ⟨rfl, rfl⟩
          go_wp2_with (fail)
          all_goals try (exfalso; omega)
          refine (HX.out _).mono ?_
          rintro e w1 ⟨rfl, rfl⟩
          go_wp2_with (fail)
          all_goals try (exfalso; omega)
          refine (HX.out _).mono ?_
          rintro e w1 ⟨rfl, rfl⟩
          go_wp2_with (fail)
          all_goals try (exfalso; omega)
          go_round
          case rel =>
            go_light
            exact ⟨k, pos + 1, 10 * r + D.toNat, by go_num, by go_num, by go_num, HN.out, by omega, by omega, by omega, by omega⟩
          case measure => simp [intOf]; omega
        · have hrz : ((r : Int) < 2097152) = False := eq_false (by omega)
          have hm : min (min r 1114112 * 10 + D.toNat) 1114112 = min r 1114112 := by omega
          rw [hm] at HN
          clear hm hr2
          go_wp2_with (fail)
          refine (HX.out _).mono ?_
          rintro e w1 ⟨rfl, rfl⟩
          go_wp2_with (fail)
          all_goals try (exfalso; omega)
          refine (HX.out _).mono ?_
          rintro e w1 ⟨rfl, rfl⟩
          go_wp2_with (fail)
          all_goals try (exfalso; omega)
          go_round
          case rel =>
            go_light
            exact ⟨k, pos + 1, r, by go_num, rfl, by go_num, HN.out, by omega, by omega, by omega, hr⟩
          case measure => simp [intOf]; omega
      · have hans := Lib.hid ((numGo_end s 10 (k + 1) pos (min r 1114112) (by rintro ⟨_, h⟩; rw [HC.out, HDD.out] at h; exact hlb h)).symm.trans G.out)
        have hnz' : ¬ pos = s.size := by omega
        have hnz : ¬ (s.size : Int) ≤ (pos : Int) := by omega
        clear G HDD
        obtain ⟨X, hXX⟩ : ∃ X, hexZ c = X := ⟨_, rfl⟩
        rw [hXX] at HX hX
        have hx3 : X < 0 ∨ (0 ≤ X ∧ 10 ≤ X) := by rw [hX]; split <;> omega
        clear hX hXX
        by_cases h1 : pos = (at_ + 2)
        · have hO := Lib.hid (numOut_22 s ((at_ + 2)) (min r 1114112) pos (.inl h1))
          have h1z : ((pos : Int) - ((at_ : Int) + 2) == 0) = true := by rw [beq_iff_eq]; omega
          clear h1
          rcases hx3 with hx3 | ⟨hx3, hx4⟩
          · go_wp2_with (fail)
            refine (HX.out _).mono ?_
            rintro e w1 ⟨rfl, rfl⟩
            go_wp2_with (fail)
            all_goals try (exfalso; omega)
            go_ret3
            exact ⟨ret_tri64 (by rw [← hans.out]; exact hO.out), rfl⟩
          · go_wp2_with (fail)
            refine (HX.out _).mono ?_
            rintro e w1 ⟨rfl, rfl⟩
            go_wp2_with (fail)
            all_goals try (exfalso; omega)
            refine (HX.out _).mono ?_
            rintro e w1 ⟨rfl, rfl⟩
            go_wp2_with (fail)
            all_goals try (exfalso; omega)
            go_ret3
            exact ⟨ret_tri64 (by rw [← hans.out]; exact hO.out), rfl⟩
        · have h1z : ((pos : Int) - ((at_ : Int) + 2) == 0) = false := by rw [beq_eq_false_iff_ne]; omega
          by_cases h3 : c = 59
          · subst h3
            cases hcb2 : charB (r : Int)
            · have hO := Lib.hid (out_min21 s ((at_ + 2)) r pos h1 hnz' HC.out hcb2)
              have IC := Lib.hid (refChar (r : Int))
              rw [hcb2] at IC
              clear hcb2 h1 hnz'
              rcases hx3 with hx3 | ⟨hx3, hx4⟩
              · go_wp2_with (fail)
                refine (HX.out _).mono ?_
                rintro e w1 ⟨rfl, rfl⟩
                go_wp2_with (fail)
                all_goals try (exfalso; omega)
                refine (IC.out _).mono ?_
                rintro e w1 ⟨rfl, rfl⟩
                go_wp2_with (fail)
                all_goals try (exfalso; omega)
                go_ret3
                exact ⟨ret_tri64 (by rw [← hans.out]; exact hO.out), rfl⟩
              · go_wp2_with (fail)
                refine (HX.out _).mono ?_
                rintro e w1 ⟨rfl, rfl⟩
                go_wp2_with (fail)
                all_goals try (exfalso; omega)
                refine (HX.out _).mono ?_
                rintro e w1 ⟨rfl, rfl⟩
                go_wp2_with (fail)
                all_goals try (exfalso; omega)
                refine (IC.out _).mono ?_
                rintro e w1 ⟨rfl, rfl⟩
                go_wp2_with (fail)
                all_goals try (exfalso; omega)
                go_ret3
                exact ⟨ret_tri64 (by rw [← hans.out]; exact hO.out), rfl⟩
            · have hO := Lib.hid (out_min s ((at_ + 2)) r pos h1 hnz' HC.out hcb2)
              have IC := Lib.hid (refChar (r : Int))
              rw [hcb2] at IC
              clear hcb2 h1 hnz'
              rcases hx3 with hx3 | ⟨hx3, hx4⟩
              · go_wp2_with (fail)
                refine (HX.out _).mono ?_
                rintro e w1 ⟨rfl, rfl⟩
                go_wp2_with (fail)
                all_goals try (exfalso; omega)
                refine (IC.out _).mono ?_
                rintro e w1 ⟨rfl, rfl⟩
                go_wp2_with (fail)
                all_goals try (exfalso; omega)
                go_ret3
                exact ⟨ret_tri64 (by rw [← hans.out]; exact hO.out), rfl⟩
              · go_wp2_with (fail)
                refine (HX.out _).mono ?_
                rintro e w1 ⟨rfl, rfl⟩
                go_wp2_with (fail)
                all_goals try (exfalso; omega)
                refine (HX.out _).mono ?_
                rintro e w1 ⟨rfl, rfl⟩
                go_wp2_with (fail)
                all_goals try (exfalso; omega)
                refine (IC.out _).mono ?_
                rintro e w1 ⟨rfl, rfl⟩
                go_wp2_with (fail)
                all_goals try (exfalso; omega)
                go_ret3
                exact ⟨ret_tri64 (by rw [← hans.out]; exact hO.out), rfl⟩
          · have hO := Lib.hid (numOut_22 s ((at_ + 2)) (min r 1114112) pos (.inr (.inr (by rw [HC.out]; exact h3))))
            have h3b : (c == 59) = false := by rw [beq_eq_false_iff_ne]; exact h3
            clear h1 hnz'
            rcases hx3 with hx3 | ⟨hx3, hx4⟩
            · go_wp2_with (fail)
              refine (HX.out _).mono ?_
              rintro e w1 ⟨rfl, rfl⟩
              go_wp2_with (fail)
              all_goals try (exfalso; omega)
              go_ret3
              exact ⟨ret_tri64 (by rw [← hans.out]; exact hO.out), rfl⟩
            · go_wp2_with (fail)
              refine (HX.out _).mono ?_
              rintro e w1 ⟨rfl, rfl⟩
              go_wp2_with (fail)
              all_goals try (exfalso; omega)
              refine (HX.out _).mono ?_
              rintro e w1 ⟨rfl, rfl⟩
              go_wp2_with (fail)
              all_goals try (exfalso; omega)
              go_ret3
              exact ⟨ret_tri64 (by rw [← hans.out]; exact hO.out), rfl⟩
    · have hans := Lib.hid ((numGo_end s 10 k pos (min r 1114112) (by rintro ⟨h, _⟩; exact hlt h)).symm.trans G.out)
      have hO := Lib.hid (numOut_22 s ((at_ + 2)) (min r 1114112) pos (.inr (.inl (by omega))))
      have hz2 : ¬ (pos : Int) < (s.size : Int) := by omega
      clear G hlt
      go_wp2_with (fail)
      all_goals try (exfalso; omega)
      all_goals (go_ret3; exact ⟨ret_tri64 (by rw [← hans.out]; exact hO.out), rfl⟩)
end Go.Proofs.YtidimpepfkdcmaaGreatDoor
namespace Go.Proofs.YtidimpepfkdcmaaGreatDoor
open Go.RowKit

set_option maxHeartbeats 8000000 in
set_option maxRecDepth 100000 in
theorem refnum_end (s : ByteArray) (b off cap at_ : Nat) (w : World) (hs : s.size ≤ 140737488355000) (hcap : s.size ≤ cap) (hlt1 : at_ + 1 < s.size) (hw : wordGo s (at_ + 1) 5 = (0, 0)) (h35 : by_ s (at_ + 1) = 35) (hlt0 : ¬ at_ + 2 < s.size) (hp : ∀ j, j < s.size → w.cell? ⟨b, off + j, none⟩ = some (.int .u8 (by_ s j))) :
    Calls Tryz.prog 54 #[.slice (some ⟨b, off, none⟩) s.size cap, .int .i64 at_] w fun e w' => e = .returned (.tuple #[.int .i64 (numOut s (at_ + 2) (numGo s 10 s.size (at_ + 2) 0)).1, .int .i64 (numOut s (at_ + 2) (numGo s 10 s.size (at_ + 2) 0)).2.1, .int .i64 (numOut s (at_ + 2) (numGo s 10 s.size (at_ + 2) 0)).2.2]) ∧ w = w' := by
  obtain ⟨ANS, hA⟩ : ∃ A, numGo s 10 s.size (at_ + 2) 0 = A := ⟨_, rfl⟩
  rw [hA]
  have HA := Lib.hid hA
  have HP := Lib.hid hp
  have hz : (at_ : Int) < (s.size : Int) := by omega
  have hz1 : (at_ : Int) + 1 < (s.size : Int) := by omega
  have c1 := hp (at_ + 1) hlt1
  rw [h35] at c1
  have W := Lib.hid (word_some s b off cap (at_ + 1) w hs hcap (by omega) hp)
  rw [hw] at W
  have hlz0 : ¬ (at_ : Int) + 2 < (s.size : Int) := by omega
  clear hA hp hw h35
  go_enter Tryz.func54, Tryz.ntmps54
  go_wp2_with (fail)
  refine W.out.mono ?_
  rintro e w' ⟨rfl, rfl⟩
  go_wp2_with (fail)
  all_goals try (exfalso; omega)
  go_loop [9, 11, 12] (fun a i c => RefNumRel s 10 ((at_ + 2)) ANS a i c) (fun a _ _ => s.size - (intOf a).toNat)
  case atStart => exact ⟨s.size, (at_ + 2), 0, by go_num, rfl, by go_num, HA.out, by omega, Nat.le_refl _, by omega, by omega⟩
  case round =>
    obtain ⟨k, pos, r, rfl, rfl, rfl, hgo, hk, hfirst, hpos, hr⟩ := hrel
    have G := Lib.hid hgo
    clear hgo
    by_cases hlt : pos < s.size
    · exfalso; omega
    · have hans := Lib.hid ((numGo_end s 10 k pos (min r 1114112) (by rintro ⟨h, _⟩; exact hlt h)).symm.trans G.out)
      have hO := Lib.hid (numOut_22 s ((at_ + 2)) (min r 1114112) pos (.inr (.inl (by omega))))
      have hz2 : ¬ (pos : Int) < (s.size : Int) := by omega
      clear G hlt
      go_wp2_with (fail)
      all_goals try (exfalso; omega)
      all_goals (go_ret3; exact ⟨ret_tri64 (by rw [← hans.out]; exact hO.out), rfl⟩)
end Go.Proofs.YtidimpepfkdcmaaGreatDoor
namespace Go.Proofs.YtidimpepfkdcmaaGreatDoor
open Go.RowKit

/-- No word begins with a number sign. -/
theorem hash_none (s : ByteArray) (a : Nat) (h : a < s.size) (h35 : by_ s a = 35) : ∀ m, wordGo s a m = (0, 0)
  | 0 => rfl
  | m + 1 => by
    have hb : wB s a (4 - m) = false := by
      rw [wB_eq]
      unfold Lib.hasPrefix
      rw [drop_at s a h, get_of_by (n := 35) (by decide) h35]
      match 4 - m with
      | 0 => rfl
      | 1 => rfl
      | 2 => rfl
      | 3 => rfl
      | _ + 4 => rfl
    rw [wordGo_no s a m hb]
    exact hash_none s a h h35 m
theorem refexp_in (s : ByteArray) (b off cap at_ : Nat) (w : World) (hs : s.size ≤ 140737488355000) (hcap : s.size ≤ cap) (hat : at_ < s.size) (h38 : by_ s at_ = 38) (hp : ∀ j, j < s.size → w.cell? ⟨b, off + j, none⟩ = some (.int .u8 (by_ s j))) :
    Calls Tryz.prog 54 #[.slice (some ⟨b, off, none⟩) s.size cap, .int .i64 at_] w fun e w' => e = .returned (.tuple #[.int .i64 (expF s at_).1, .int .i64 (expF s at_).2.1, .int .i64 (expF s at_).2.2]) ∧ w = w' := by
  by_cases h35 : at_ + 1 < s.size ∧ by_ s (at_ + 1) = 35
  · have hw : wordGo s (at_ + 1) 5 = (0, 0) := hash_none s (at_ + 1) h35.1 h35.2 5
    have e : expF s at_ = numF s (at_ + 2) := by unfold expF; rw [if_pos h35]
    rw [e]
    by_cases hlt : at_ + 2 < s.size
    · by_cases hx : by_ s (at_ + 2) = 120
      · have e2 : numF s (at_ + 2) = numOut s (at_ + 2 + 1) (numGo s 16 s.size (at_ + 2 + 1) 0) := by unfold numF; rw [if_pos ⟨hlt, hx⟩]
        rw [e2]
        exact refnum_x s b off cap at_ w hs hcap h35.1 hw h35.2 hlt hx hp
      · have e2 : numF s (at_ + 2) = numOut s (at_ + 2) (numGo s 10 s.size (at_ + 2) 0) := by unfold numF; rw [if_neg (by rintro ⟨_, g⟩; exact hx g)]
        rw [e2]
        exact refnum_ten s b off cap at_ w hs hcap h35.1 hw h35.2 hlt hx hp
    · have e2 : numF s (at_ + 2) = numOut s (at_ + 2) (numGo s 10 s.size (at_ + 2) 0) := by unfold numF; rw [if_neg (by rintro ⟨g, _⟩; exact hlt g)]
      rw [e2]
      exact refnum_end s b off cap at_ w hs hcap h35.1 hw h35.2 hlt hp
  · have e : expF s at_ = namedGo s at_ 5 := by unfold expF; rw [if_neg h35]
    rw [e]
    rcases word_named s at_ hat h38 5 with ⟨h1, h2⟩ | ⟨h1, h2⟩
    · rw [h2]
      exact refexp_none s b off cap at_ w hs hcap hat h1 h35 hp
    · rw [h2]
      exact refexp_word s b off cap at_ _ _ w hs hcap hat rfl h1 hp
end Go.Proofs.YtidimpepfkdcmaaGreatDoor
namespace Go.Proofs.YtidimpepfkdcmaaGreatDoor
open Go.RowKit

/-- 'append(v, []byte(string(r))...)' at a row of the call's own. -/
theorem append_rune {w0 w : World} {g cap : Nat} {o : ByteArray} (r : Nat) (h : Owns w w0.heap.size g cap o) (hb : Below w0.heap.size w0 w) (hsz : o.size + (Utf8.encode (r : Int)).size ≤ 140737488355328) :
    ∃ kc w1 g' cap' w2, (convert 9 22 (.string (Utf8.encode (r : Int)))).run Tryz.prog w = .ok (.slice (some ⟨w.heap.size, 0, none⟩) (Utf8.encode (r : Int)).size kc) w1 ∧
      (∀ ty, (Builtin.append_ #[22, 22] ty #[.slice (some ⟨g, 0, none⟩) o.size cap, .slice (some ⟨w.heap.size, 0, none⟩) (Utf8.encode (r : Int)).size kc]).run Tryz.prog w1 = .ok (.slice (some ⟨g', 0, none⟩) (o.size + (Utf8.encode (r : Int)).size) cap') w2) ∧
      Owns w2 w0.heap.size g' cap' (o ++ Utf8.encode (r : Int)) ∧ Below w0.heap.size w0 w2 := by
  obtain ⟨kc, w1, h1, _, hb1, _, hc⟩ := bytes_of w (Utf8.encode (r : Int))
  obtain ⟨g', cap', w2, h2, ho, hb2⟩ := append_next (c := kc) (h.far hb1) (below_cat hb hb1) (fun _ => ⟨w.heap.size, 0, rfl, hc⟩) (fun e => by cases e) hsz
  exact ⟨kc, w1, g', cap', w2, h1, h2, ho, hb2⟩
def RrRel (step : Nat → Int × Int × Int) (s : ByteArray) (w : World) (ANS : List UInt8 × Nat × Int) (i v : Value) (wr : World) : Prop := ∃ (k pos g cap : Nat) (o : ByteArray), i = .int .i64 pos ∧ v = .slice (some ⟨g, 0, none⟩) o.size cap ∧ readGo step s.size k pos o.data.toList = ANS ∧ s.size ≤ pos + k ∧ pos ≤ s.size ∧ o.size ≤ pos ∧ Owns wr w.heap.size g cap o ∧ Below w.heap.size w wr
theorem list_append (o : ByteArray) (r : Nat) : (o ++ Utf8.encode (r : Int)).data.toList = o.data.toList ++ Lib.encodeRune r := by
  have h : ∀ a b : ByteArray, (a ++ b).data.toList = a.data.toList ++ b.data.toList := fun a b => by simp
  rw [h, encode_list]
theorem encode_size_list (r : Nat) : (Utf8.encode (r : Int)).size = (Lib.encodeRune r).length := by
  have h : ∀ a : ByteArray, a.size = a.data.toList.length := fun a => by simp
  rw [h, encode_list]
theorem step_right (s : ByteArray) (pos : Nat) (h0 : (rd s pos).2 ≠ 0) (hc : charB ((rd s pos).1 : Int) = true) (h60 : by_ s pos ≠ 60) (h38 : by_ s pos ≠ 38) :
    (closeB s pos = false → stepT s pos = (((rd s pos).1 : Int), ((pos + (rd s pos).2 : Nat) : Int), 0)) ∧ (by_ s pos ≠ 9 → by_ s pos ≠ 10 → by_ s pos ≠ 13 → stepV s pos = (((rd s pos).1 : Int), ((pos + (rd s pos).2 : Nat) : Int), 0)) := by
  have hn : nextF s pos = ((rd s pos).1, pos + (rd s pos).2, 0) := by unfold nextF; rw [if_neg h0, if_pos hc]
  have h := steps_next s pos h60 h38
  rw [hn] at h
  exact h
theorem rd_is {s : ByteArray} {pos n : Nat} (hn : n < 128) (h : by_ s pos = (n : Int)) : rd s pos = (n, 1) := by
  rw [rd_low s pos (by omega)]
  unfold by_ at h
  simp only [Prod.mk.injEq, and_true]
  omega
theorem rd_isnt {s : ByteArray} {pos n : Nat} (hn : n < 128) (h0 : (rd s pos).2 ≠ 0) (h : by_ s pos ≠ (n : Int)) : (((rd s pos).1 : Int) == (n : Int)) = false := by
  rw [beq_eq_false_iff_ne]
  intro e
  have := (rd_char s pos h0 (by omega)).1
  omega
end Go.Proofs.YtidimpepfkdcmaaGreatDoor
