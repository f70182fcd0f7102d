/- Proved here: what the document's row and bits write: the bits of a number as signs. -/
import Derived.Test.YtaiiigknlnhdgaaLabRef
import Derived.Laws.DeepStrings4
namespace Go.Proofs.Ytaiiigknlnhdgaa
open Go.RowKit

def sgn (b : Bool) : UInt8 := if b then 49 else 48
/-- Bits as signs. -/
def strB (l : List Bool) : ByteArray := ⟨(l.map sgn).toArray⟩
theorem strB_size (l : List Bool) : (strB l).size = l.length := by
  show ((l.map sgn).toArray).size = _
  simp
theorem strB_app (a b : List Bool) : strB a ++ strB b = strB (a ++ b) := by
  apply ByteArray.ext
  simp [strB, ByteArray.data_append]
theorem strB_one : (⟨#[49]⟩ : ByteArray) = strB [true] := rfl
theorem strB_nought : (⟨#[48]⟩ : ByteArray) = strB [false] := rfl
theorem strB_nil : (⟨#[]⟩ : ByteArray) = strB [] := rfl
theorem strB_list (l : List Bool) : (strB l).data.toList = l.map sgn := by simp [strB]
theorem strB_get (l : List Bool) (i : Nat) (h : i < l.length) : (strB l).get! i = sgn (l.getD i false) := by
  show (l.map sgn).toArray[i]! = _
  rw [getElem!_pos _ _ (by simpa using h)]
  simp [List.getD_eq_getElem?_getD, List.getElem?_eq_getElem h]
theorem strB_tail (b : Bool) (l : List Bool) : (strB (b :: l)).extract 1 (l.length + 1) = strB l := by
  apply ByteArray.ext
  simp [strB, ByteArray.data_extract]
  rw [List.take_of_length_le (by simp)]
def RwRel (n : Nat) (v3 v4 : Value) : Prop := ∃ (j m : Nat) (z : ByteArray), v3 = .string z ∧ v4 = .int .i64 (m : Int) ∧ z.size ≤ 31 ∧ m ≤ n ∧ Hid (z = strB (lowB n j) ∧ m = n / 2 ^ j ∧ j ≤ digN n)
def RwRel2 (k : Nat) (v5 v6 : Value) : Prop := ∃ (i : Nat) (z : ByteArray), v5 = .string z ∧ v6 = .int .i64 ((i : Int) + 1) ∧ i ≤ k ∧ z.size ≤ 31 ∧ Hid (z = strB (List.replicate i true))
set_option maxRecDepth 100000 in
set_option maxHeartbeats 8000000 in
theorem row_any (n : Nat) (h0 : 0 < n) (hn : n < 2147483648) (w : World) : Calls Try.prog 55 #[.int .i64 (n : Int)] w fun e w' => e = .returned (.string (strB (List.replicate (digN n - 1) true ++ false :: lowB n (digN n - 1)))) ∧ w = w' := by
  have h31 : (2 : Nat) ^ 31 = 2147483648 := by decide
  have h64 : (2 : Nat) ^ 31 < 2 ^ 64 := by decide
  have hd := digN_bounds h0 (by omega)
  have hd1 := bitLen_pos h0 (by omega)
  have hd31 : digN n ≤ 31 := digN_le (by omega) (by decide)
  have HD := Lib.hid (And.intro hd (And.intro hd1 hd31))
  have gn : (n : Int) ≤ 2147483647 := by omega
  clear hd hd1 hd31 h31 h64 h0 hn
  go_enter Try.func55, Try.ntmps55
  go_wp2_with (fail)
  go_loop [3, 4] (fun v3 v4 => RwRel n v3 v4) (fun _ v4 => (intOf v4).toNat)
  case atStart => exact ⟨0, n, ⟨#[]⟩, rfl, rfl, by decide, Nat.le_refl _, Lib.hid ⟨rfl, by simp, Nat.zero_le _⟩⟩
  case round =>
    obtain ⟨j, m, z, rfl, rfl, hz, hmn, HR⟩ := hrel
    by_cases hm : 0 < m
    · have hj : j < digN n := by
        obtain ⟨_, hm2, hj⟩ := HR.out
        rcases Nat.lt_or_ge j (digN n) with h | h
        · exact h
        · exfalso
          have h2 : 2 ^ digN n ≤ 2 ^ j := Nat.pow_le_pow_right (by decide) h
          have h3 := HD.out.1.2
          have : n / 2 ^ j = 0 := Nat.div_eq_of_lt (by omega)
          omega
      have g1 : (0 : Int) < (m : Int) := by omega
      have g2 : (m : Int) ≤ 2147483647 := by omega
      have hb : n.testBit j = decide (m % 2 = 1) := by
        rw [Nat.testBit_eq_decide_div_mod_eq, ← HR.out.2.1]
      have hm2 : n / 2 ^ (j + 1) = m / 2 := by rw [Nat.pow_succ, ← Nat.div_div_eq_div_mul, ← HR.out.2.1]
      have hzs : z.size = j := by rw [HR.out.1, strB_size, lowB_length]
      have HJ := Lib.hid (And.intro hj (And.intro hm2 hzs))
      have z1 : ¬ 1 + z.size > 9223372036854775807 := by omega
      rcases Nat.mod_two_eq_zero_or_one m with h | h
      · have t1 : ((m : Int) % 2 == 1) = false := by rw [beq_eq_false_iff_ne]; omega
        have HB := Lib.hid (show strB (lowB n (j + 1)) = ⟨#[48]⟩ ++ z by rw [lowB, hb, HR.out.1, strB_nought, strB_app, h]; rfl)
        clear hb hm2 hzs hj
        go_wp2_with (fail)
        go_round
        case rel =>
          obtain ⟨e1, e2, e3⟩ := HJ.out
          exact ⟨j + 1, m / 2, ⟨#[48]⟩ ++ z, rfl, by go_num, by rw [← HB.out, strB_size, lowB_length]; have := HD.out.2.2; omega, by omega, Lib.hid ⟨HB.out.symm, e2.symm, by omega⟩⟩
        case measure => simp [intOf]; omega
      · have t1 : ((m : Int) % 2 == 1) = true := by rw [beq_iff_eq]; omega
        have HB := Lib.hid (show strB (lowB n (j + 1)) = ⟨#[49]⟩ ++ z by rw [lowB, hb, HR.out.1, strB_one, strB_app, h]; rfl)
        clear hb hm2 hzs hj
        go_wp2_with (fail)
        go_round
        case rel =>
          obtain ⟨e1, e2, e3⟩ := HJ.out
          exact ⟨j + 1, m / 2, ⟨#[49]⟩ ++ z, rfl, by go_num, by rw [← HB.out, strB_size, lowB_length]; have := HD.out.2.2; omega, by omega, Lib.hid ⟨HB.out.symm, e2.symm, by omega⟩⟩
        case measure => simp [intOf]; omega
    · have hm0 : m = 0 := by omega
      subst hm0
      have hj : j = digN n := by
        obtain ⟨_, hm2, hj⟩ := HR.out
        have : n < 2 ^ j := by
          rcases Nat.lt_or_ge n (2 ^ j) with h | h
          · exact h
          · have := (Nat.le_div_iff_mul_le (Nat.two_pow_pos j)).2 (show 1 * 2 ^ j ≤ n by omega)
            omega
        have h31 := HD.out.2.2
        have := digN_le this (by omega)
        omega
      obtain ⟨k, hk⟩ : ∃ k, digN n = k + 1 := ⟨digN n - 1, by have := HD.out.2.1; omega⟩
      have hzs : z.size = k + 1 := by rw [HR.out.1, strB_size, lowB_length]; omega
      have HZ := Lib.hid (And.intro (show z = strB (lowB n (k + 1)) by rw [HR.out.1, hj, hk]) (And.intro hk hzs))
      have gk : (k : Int) ≤ 30 := by omega
      clear hj hk HR
      go_wp2_with (fail)
      go_loop [5, 6] (fun v5 v6 => RwRel2 k v5 v6) (fun _ v6 => k + 1 - (intOf v6).toNat)
      case atStart => exact ⟨0, ⟨#[]⟩, rfl, by go_num, Nat.zero_le _, by decide, Lib.hid rfl⟩
      case round =>
        obtain ⟨i, y, rfl, rfl, hi, hy, HY⟩ := hrel
        have gi : (i : Int) ≤ 30 := by omega
        by_cases hik : i < k
        · have g1 : (i : Int) < (k : Int) := by omega
          have y1 : ¬ y.size + 1 > 9223372036854775807 := by omega
          have HB := Lib.hid (show strB (List.replicate (i + 1) true) = y ++ ⟨#[49]⟩ by rw [HY.out, strB_one, strB_app, List.replicate_succ'])
          have HI := Lib.hid hik
          clear hik hi
          go_wp2_with (fail)
          go_round
          case rel =>
            have hk30 := HZ.out.2.2
            exact ⟨i + 1, y ++ ⟨#[49]⟩, rfl, by go_num, by have := HI.out; omega, by rw [← HB.out, strB_size, List.length_replicate]; have := HI.out; omega, Lib.hid HB.out.symm⟩
          case measure => have := HI.out; simp [intOf]; omega
        · obtain rfl : i = k := by omega
          clear hik hi
          have y1 : ¬ y.size + 1 > 9223372036854775807 := by omega
          go_wp2_with (fail)
          go_ret
          obtain ⟨e1, e2, e3⟩ := HZ.out
          refine ⟨?_, rfl⟩
          have h1 : digN n - 1 = i := by omega
          have h2 : y ++ ⟨#[48]⟩ ++ z.extract 1 (i + 1) = strB (List.replicate (digN n - 1) true ++ false :: lowB n (digN n - 1)) := by
            rw [h1, HY.out, e1, lowB]
            have h3 := strB_tail (n.testBit i) (lowB n i)
            rw [lowB_length] at h3
            rw [h3, strB_nought, strB_app, strB_app]
            simp
          rw [← h2]
          rfl
/-! ## bits -/
theorem sgn_not (b : Bool) : (if sgn b = 48 then (49 : UInt8) else 48) = sgn (!b) := by cases b <;> rfl
def BtRel (t : ByteArray) (T : List Bool) (v3 v5 : Value) : Prop := ∃ (i : Nat) (z : ByteArray), v3 = .string z ∧ v5 = .int .i64 (i : Int) ∧ i ≤ T.length ∧ z.size = i + 1 ∧ Hid (z = strB (false :: (T.take i).map not) ∧ t = strB T)
set_option maxRecDepth 100000 in
set_option maxHeartbeats 8000000 in
theorem bits_any (v : Int) (h : InB v) (w : World) : Calls Try.prog 32 #[.int .i64 v] w fun e w' => e = .returned (.string (strB (bitsV v))) ∧ w = w' := by
  obtain ⟨h1, h2⟩ : -1073741824 ≤ v ∧ v ≤ 1073741824 := id h
  have hd31 := digN_31 h
  have hsm := rowN_small h
  have h31 : (2 : Nat) ^ 31 = 2147483648 := by decide
  have RW := Lib.hid (fun W => row_any (rowN v) (rowN_pos v) (by omega) W)
  obtain ⟨k, hk⟩ : ∃ k, digN (rowN v) = k + 1 := ⟨digN (rowN v) - 1, by omega⟩
  rw [hk, Nat.add_sub_cancel] at RW
  by_cases q : 0 ≤ v
  · have hrow : ((rowN v : Nat) : Int) = v + 1 := by unfold rowN; rw [if_neg (by omega)]; omega
    have hbits : bitsV v = true :: (List.replicate k true ++ false :: lowB (rowN v) k) := by
      unfold bitsV
      rw [hk, Nat.add_sub_cancel, decide_eq_true q, decide_eq_false (show ¬ v < 0 by omega), List.replicate_succ, map_true]; rfl
    rw [hrow] at RW
    rw [hbits]
    obtain ⟨R, hR⟩ : ∃ R, List.replicate k true ++ false :: lowB (rowN v) k = R := ⟨_, rfl⟩
    have hRl : R.length ≤ 62 := by rw [← hR]; simp [lowB_length]; omega
    rw [hR] at RW ⊢
    have z1 : ¬ 1 + (strB R).size > 9223372036854775807 := by rw [strB_size]; omega
    have HB := Lib.hid (show (⟨#[49]⟩ : ByteArray) ++ strB R = strB (true :: R) by rw [strB_one, strB_app]; rfl)
    generalize strB R = z at *
    clear h hk hd31 hsm h31 hrow hbits hR hRl
    go_enter Try.func32, Try.ntmps32
    go_wp2_with (fail)
    refine (RW.out _).mono ?_
    rintro e w' ⟨rfl, rfl⟩
    go_wp2_with (fail)
    go_ret
    refine ⟨?_, rfl⟩
    rw [← HB.out]
    rfl
  · have hrow : ((rowN v : Nat) : Int) = -v := by unfold rowN; rw [if_pos (by omega)]; omega
    have hbits : bitsV v = false :: (List.replicate k true ++ false :: lowB (rowN v) k).map not := by
      unfold bitsV
      rw [hk, Nat.add_sub_cancel, decide_eq_false q, decide_eq_true (show v < 0 by omega), List.replicate_succ]
      have e : (fun b : Bool => b == false) = not := by funext b; cases b <;> rfl
      rw [e]; simp
    rw [hrow] at RW
    rw [hbits]
    obtain ⟨R, hR⟩ : ∃ R, List.replicate k true ++ false :: lowB (rowN v) k = R := ⟨_, rfl⟩
    have hRl : R.length ≤ 62 := by rw [← hR]; simp [lowB_length]; omega
    rw [hR] at RW ⊢
    obtain ⟨t, ht⟩ : ∃ t, strB R = t := ⟨_, rfl⟩
    have hts : t.size = R.length := by rw [← ht, strB_size]
    rw [ht] at RW
    have HT := Lib.hid (And.intro ht hRl)
    have gR : (R.length : Int) ≤ 62 := by omega
    clear h hk hd31 hsm h31 hrow hbits hR hRl ht
    go_enter Try.func32, Try.ntmps32
    go_wp2_with (fail)
    refine (RW.out _).mono ?_
    rintro e w' ⟨rfl, rfl⟩
    go_wp2_with (fail)
    go_loop [3, 5] (fun v3 v5 => BtRel t R v3 v5) (fun _ v5 => R.length - (intOf v5).toNat)
    case atStart => exact ⟨0, ⟨#[48]⟩, rfl, rfl, Nat.zero_le _, rfl, Lib.hid ⟨rfl, HT.out.1.symm⟩⟩
    case round =>
      obtain ⟨i, z, rfl, rfl, hi, hz, HZ⟩ := hrel
      have z1 : ¬ z.size + 1 > 9223372036854775807 := by have := HT.out.2; omega
      by_cases hlt : i < R.length
      · have hg : t.get! i = sgn (R.getD i false) := by rw [HZ.out.2, strB_get _ _ hlt]
        have hlt' : i < t.size := by omega
        have gi : (i : Int) < (R.length : Int) := by omega
        have hg2 : t[i]'hlt' = sgn (R.getD i false) := by
          rw [← hg]
          show t.data[i]'hlt' = t.data[i]!
          rw [getElem!_pos]
        have hst : strB (false :: (R.take (i + 1)).map not) = z ++ strB [!(R.getD i false)] := by
          have e1 : R.take (i + 1) = R.take i ++ [R[i]'hlt] := by rw [List.take_add_one, List.getElem?_eq_getElem hlt]; rfl
          have e2 : R.getD i false = R[i]'hlt := by rw [List.getD_eq_getElem?_getD, List.getElem?_eq_getElem hlt]; rfl
          rw [HZ.out.1, strB_app, e1, e2, List.map_append, List.cons_append]
          rfl
        have HI := Lib.hid (And.intro hlt HZ.out.2)
        generalize R.getD i false = b at *
        cases b
        · have hq : (((t[i]'hlt').toNat : Int) == 48) = true := by rw [hg2]; rfl
          have HS := Lib.hid hst
          clear hst hg hg2 hlt
          go_wp2_with (fail)
          go_round
          case rel => exact ⟨i + 1, z ++ ⟨#[49]⟩, rfl, by go_num, by have := HI.out.1; omega, by rw [ByteArray.size_append, hz]; rfl, Lib.hid ⟨by rw [HS.out]; rfl, HI.out.2⟩⟩
          case measure => have := HI.out.1; simp [intOf]; omega
        · have hq : (((t[i]'hlt').toNat : Int) == 48) = false := by rw [hg2]; rfl
          have HS := Lib.hid hst
          clear hst hg hg2 hlt
          go_wp2_with (fail)
          go_round
          case rel => exact ⟨i + 1, z ++ ⟨#[48]⟩, rfl, by go_num, by have := HI.out.1; omega, by rw [ByteArray.size_append, hz]; rfl, Lib.hid ⟨by rw [HS.out]; rfl, HI.out.2⟩⟩
          case measure => have := HI.out.1; simp [intOf]; omega
      · obtain rfl : i = R.length := by omega
        go_wp2_with (fail)
        go_ret
        refine ⟨?_, rfl⟩
        have e := HZ.out.1
        rw [List.take_of_length_le (Nat.le_refl _)] at e
        rw [← e]; rfl
end Go.Proofs.Ytaiiigknlnhdgaa
