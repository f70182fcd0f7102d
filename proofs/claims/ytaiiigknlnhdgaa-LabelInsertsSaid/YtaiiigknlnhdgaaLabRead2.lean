/- Proved here: what label's reading of one number answers. -/
import Derived.Test.YtaiiigknlnhdgaaLabRead
namespace Go.Proofs.Ytaiiigknlnhdgaa
open Go.RowKit

theorem or_bit1 (n d : Nat) (hn : n < 2 ^ 62) (hd : d < 2) : bits BinOp.or IntKind.i64 ((n : Int) * 2) (d : Int) = ((2 * n + d : Nat) : Int) := by
  have e : (n : Int) * 2 = ((2 * n : Nat) : Int) := by omega
  rw [e]
  exact or_digit n d hn hd
theorem numB_none {D : List Bool} (k : Nat) (hk : runB (D.headD false) D = k) (h : 31 < k ∨ D.length < 2 * k) : numB D = (0, 0) := by
  unfold numB
  simp only [hk]
  rw [if_pos h]
theorem numB_some {D : List Bool} (k : Nat) (c : Bool) (hc : D.headD false = c) (hk : runB c D = k) (h : ¬ (31 < k ∨ D.length < 2 * k)) : numB D = (if c then (numOf c 1 ((D.drop (k + 1)).take (k - 1)) : Int) - 1 else -(numOf c 1 ((D.drop (k + 1)).take (k - 1)) : Int), 2 * k) := by
  unfold numB
  simp only [hc, hk]
  rw [if_neg h]
theorem headD_drop (U : List Bool) (i : Nat) : (U.drop i).headD false = U.getD i false := by
  rw [List.getD_eq_getElem?_getD, ← List.head?_drop]
  cases U.drop i <;> rfl
theorem runB_pos {D : List Bool} (h : 0 < D.length) : 0 < runB (D.headD false) D := by
  cases D with
  | nil => simp at h
  | cons x l => simp only [List.headD_cons]; unfold runB; rw [if_pos rfl]; omega
set_option maxRecDepth 100000 in
set_option maxHeartbeats 4000000 in
theorem number2_any (p : Option Addr) (l : List Nat) (c : Nat) (w : World) (hl : l.length ≤ 1048576) (hlc : l.length ≤ c) (h : HoldsU w p l) (hx : ∀ x ∈ l, x < 256) (i : Nat) (hi : i < 8 * l.length) :
    Calls Try.prog 56 #[.slice p l.length c, .int .i64 (i : Int)] w fun e w' => e = .returned (.tuple #[.int .i64 (numB ((unpackB l).drop i)).1, .int .i64 ((numB ((unpackB l).drop i)).2 : Int)]) ∧ w = w' := by
  have AL := Lib.hid (alike_any p l c w hl hlc h hx i hi)
  obtain ⟨U, hU⟩ : ∃ U, unpackB l = U := ⟨_, rfl⟩
  have BT := Lib.hid (fun j (hj : j < 8 * l.length) => bitOf_any p l c w (by omega) hlc h hx j hj)
  rw [hU] at BT AL ⊢
  have hUl : U.length = 8 * l.length := by rw [← hU, unpackB_length]
  obtain ⟨n, hn⟩ : ∃ n, l.length = n := ⟨_, rfl⟩
  rw [hn] at BT AL hUl hi hl ⊢
  have hDl : (U.drop i).length = 8 * n - i := by rw [List.length_drop, hUl]
  have hpos : 0 < runB ((U.drop i).headD false) (U.drop i) := runB_pos (by omega)
  have hrl := runB_le ((U.drop i).headD false) (U.drop i)
  rw [hDl] at hrl
  obtain ⟨d, hd⟩ : ∃ d, U.getD i false = d := ⟨_, rfl⟩
  have hhd : (U.drop i).headD false = d := by rw [headD_drop, hd]
  have B0 := Lib.hid (BT.out i hi)
  rw [hd] at B0 AL
  rw [hhd] at hpos hrl
  obtain ⟨k, hk⟩ : ∃ k, runB d (U.drop i) = k + 1 := ⟨runB d (U.drop i) - 1, by omega⟩
  rw [hk] at AL hpos hrl
  have hnn : (n : Int) ≤ 1048576 := by omega
  have hii : (i : Int) < 8 * (n : Int) := by omega
  have hkk : ((k : Int) + 1) ≤ 8 * (n : Int) := by omega
  have hx1 : bits BinOp.xor IntKind.i64 ((b2n d : Nat) : Int) 1 = ((b2n (!d) : Nat) : Int) := by cases d <;> decide
  by_cases hbad : 31 < k + 1 ∨ 8 * n - i < 2 * (k + 1)
  · have hN := numB_none (D := U.drop i) (k + 1) (by rw [hhd]; exact hk) (by rw [hDl]; exact hbad)
    rw [hN]
    by_cases h31 : 31 < k + 1
    · have g1 : (31 : Int) < ((k : Int) + 1) := by omega
      clear h hx hU hn hlc hUl hd hDl hpos hrl hhd hk hbad h31 hN
      go_enter Try.func56, Try.ntmps56
      go_wp2_with (fail)
      refine (B0.out).mono ?_
      rintro e w' ⟨rfl, rfl⟩
      go_wp2_with (fail)
      refine (AL.out).mono ?_
      rintro e w' ⟨rfl, rfl⟩
      go_wp2_with (fail)
      go_ret2
      exact ⟨rfl, rfl⟩
    · have g1 : ¬ (31 : Int) < ((k : Int) + 1) := by omega
      have g2 : 8 * (n : Int) < (i : Int) + 2 * ((k : Int) + 1) := by omega
      clear h hx hU hn hlc hUl hd hDl hpos hrl hhd hk hbad h31 hN
      go_enter Try.func56, Try.ntmps56
      go_wp2_with (fail)
      refine (B0.out).mono ?_
      rintro e w' ⟨rfl, rfl⟩
      go_wp2_with (fail)
      refine (AL.out).mono ?_
      rintro e w' ⟨rfl, rfl⟩
      go_wp2_with (fail)
      go_ret2
      exact ⟨rfl, rfl⟩
  · have hN := numB_some (D := U.drop i) (k + 1) d hhd hk (by rw [hDl]; exact hbad)
    rw [Nat.add_sub_cancel] at hN
    obtain ⟨S, hS⟩ : ∃ S, ((U.drop i).drop (k + 1 + 1)).take k = S := ⟨_, rfl⟩
    rw [hS] at hN
    have hSl : S.length = k := by rw [← hS, List.length_take, List.length_drop, hDl]; omega
    have hSg : ∀ j, j < k → S.getD j false = U.getD (i + (k + 1) + 1 + j) false := by
      intro j hj
      rw [← hS]
      simp only [List.getD_eq_getElem?_getD]
      rw [List.getElem?_take_of_lt hj, List.getElem?_drop, List.getElem?_drop]
      congr 2; omega
    have hSt : ∀ j, j < k → numOf d 1 (S.take (j + 1)) = 2 * numOf d 1 (S.take j) + (if S.getD j false = d then 1 else 0) := by
      intro j hj
      rw [List.take_add_one, List.getElem?_eq_getElem (by omega), Option.toList_some, numOf_snoc, List.getD_eq_getElem?_getD, List.getElem?_eq_getElem (by omega)]
      rfl
    have hSb : ∀ j, numOf d 1 (S.take j) < 2147483648 := by
      intro j
      have h1 := numOf_lt d (S.take j)
      have h2 : (S.take j).length ≤ S.length := by rw [List.length_take]; omega
      have h3 : 2 ^ ((S.take j).length + 1) ≤ 2 ^ 31 := Nat.pow_le_pow_right (by decide) (by omega)
      have h4 : (2 : Nat) ^ 31 = 2147483648 := by decide
      omega
    have BK := Lib.hid (fun j (hj : j < k) => BT.out (i + (k + 1) + 1 + j) (by omega))
    have HS := Lib.hid (And.intro hSl (And.intro hSg (And.intro hSt hSb)))
    rw [hN]
    have g1 : ¬ (31 : Int) < ((k : Int) + 1) := by omega
    have g2 : ¬ 8 * (n : Int) < (i : Int) + 2 * ((k : Int) + 1) := by omega
    have hk1 : 1 ≤ ((k : Int) + 1) := by omega
    have HI2 := Lib.hid (show i + 2 * (k + 1) ≤ 8 * n by omega)
    clear h hx hU hn hlc hUl hd hDl hpos hrl hhd hk hbad hN hS hSl hSg hSt hSb BT
    go_enter Try.func56, Try.ntmps56
    go_wp2_with (fail)
    refine (B0.out).mono ?_
    rintro e w' ⟨rfl, rfl⟩
    go_wp2_with (fail)
    refine (AL.out).mono ?_
    rintro e w' ⟨rfl, rfl⟩
    go_wp2_with (fail)
    go_loop [8, 32] (fun a v => ∃ j : Nat, v = .int .i64 (j : Int) ∧ j ≤ k ∧ a = .int .i64 (numOf d 1 (S.take j) : Int)) (fun _ v => k - (intOf v).toNat)
    case atStart => exact ⟨0, rfl, Nat.zero_le _, rfl⟩
    case round =>
      obtain ⟨j, rfl, hj, rfl⟩ := hrel
      by_cases hlt : j < k
      · have B1 := Lib.hid (BK.out j hlt)
        rw [← HS.out.2.1 j hlt] at B1
        have hst := HS.out.2.2.1 j hlt
        have hbd := HS.out.2.2.2 j
        generalize S.getD j false = x at *
        generalize numOf d 1 (S.take j) = m at *
        have es : ((i + (k + 1) + 1 + j : Nat) : Int) = (i : Int) + ((k : Int) + 1) + 1 + (j : Int) := by omega
        rw [es] at B1
        have h62 : (2 : Nat) ^ 62 = 4611686018427387904 := by decide
        have hx2 : bits BinOp.xor IntKind.i64 ((b2n x : Nat) : Int) ((b2n (!d) : Nat) : Int) = (((if x = d then 1 else 0 : Nat)) : Int) := by cases x <;> cases d <;> decide
        have HX2 := Lib.hid hx2
        have HM := Lib.hid (or_bit1 m (if x = d then 1 else 0) (by omega) (by split <;> decide))
        have HST := Lib.hid hst
        have hjk : (j : Int) < (k : Int) := by omega
        have HMM := Lib.hid (show (m : Int) < 2147483648 by omega)
        have hi9 : (i : Int) ≤ 8388608 := by omega
        have hk9 : (k : Int) ≤ 30 := by omega
        clear hst hbd hx2 es hlt h62 hii hkk g1 g2 hk1 hnn hx1
        go_wp2_with (fail)
        refine (B1.out).mono ?_
        rintro e w' ⟨rfl, rfl⟩
        clear hi9 B1
        have hmm := HMM.out
        go_wp2_with (fail)
        go_round
        case rel => exact ⟨j + 1, by go_num, by omega, by rw [HX2.out, HM.out, HST.out]⟩
        case measure => simp [intOf]; omega
      · obtain rfl : j = k := by omega
        have hall : S.take j = S := List.take_of_length_le (by rw [HS.out.1]; exact Nat.le_refl _)
        have hbd := HS.out.2.2.2 j
        rw [hall] at hbd ⊢
        obtain ⟨m, hm⟩ : ∃ m, numOf d 1 S = m := ⟨_, rfl⟩
        rw [hm] at hbd ⊢
        have HMM := Lib.hid hm
        have hmm : (m : Int) ≤ 2147483647 := by omega
        have hk9 : (j : Int) ≤ 30 := by omega
        clear hm hii hnn hall g1 g2 hx1 hbd hk1 hkk
        cases d
        · have hq : (((b2n (!false) : Nat) : Int) == 1) = true := rfl
          go_wp2_with (fail)
          go_ret2
          refine ⟨?_, rfl⟩
          rw [HMM.out]
          rfl
        · have hq : (((b2n (!true) : Nat) : Int) == 1) = false := rfl
          go_wp2_with (fail)
          go_ret2
          refine ⟨?_, rfl⟩
          rw [HMM.out]
          rfl
end Go.Proofs.Ytaiiigknlnhdgaa
