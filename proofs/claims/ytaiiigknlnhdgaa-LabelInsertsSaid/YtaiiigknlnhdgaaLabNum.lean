/- Proved here: label's calls on single numbers: which is odd, its row, its digits, the odd numbers beside it. -/
import Derived.Test.YtaiiigknlnhdgaaLabPack
import Derived.Test.YtaiiigknlnhdgaaNumsOwn
import Derived.Test.YtaiiigknlnhdgaaShelfL
import Derived.Laws.BitsAllLaws
namespace Go.Proofs.Ytaiiigknlnhdgaa
open Go.RowKit

theorem or_odd (x : Nat) : x ||| 1 = x - x % 2 + 1 := by
  rcases Nat.mod_two_eq_zero_or_one x with h | h
  · rw [nat_join 1 x 1 (by simpa using h) (by decide)]; omega
  · obtain ⟨y, rfl⟩ : ∃ y, x = y + 1 := ⟨x - 1, by omega⟩
    have e : y + 1 = y ||| 1 := (nat_join 1 y 1 (by simp; omega) (by decide)).symm
    have e2 : (y + 1) ||| 1 = y + 1 := by
      conv => lhs; rw [e, Nat.or_assoc, Nat.or_self]
      exact e.symm
    rw [e2]; omega
theorem and_one (x : Int) : bits .and .i64 x 1 = x % 2 := by
  have h1 : (BitVec.ofInt 64 1).toNat = 2 ^ 1 - 1 := by decide
  have key : (BitVec.ofInt 64 x &&& BitVec.ofInt 64 1).toNat = (x % ((2 ^ 64 : Nat) : Int)).toNat % 2 ^ 1 := by
    rw [BitVec.toNat_and, BitVec.toNat_ofInt, h1, Nat.and_two_pow_sub_one_eq_mod]
  show IntKind.i64.wrap ((BitVec.ofInt 64 x &&& BitVec.ofInt 64 1).toNat : Nat) = x % 2
  rw [key, IntKind.wrap_i64]
  omega
theorem or_one (x : Int) (h0 : -9223372036854775808 ≤ x) (h1 : x ≤ 9223372036854775807) : bits .or .i64 x 1 = x - x % 2 + 1 := by
  have e1 : (BitVec.ofInt 64 1).toNat = 1 := by decide
  have key : (BitVec.ofInt 64 x ||| BitVec.ofInt 64 1).toNat = (x % ((2 ^ 64 : Nat) : Int)).toNat - (x % ((2 ^ 64 : Nat) : Int)).toNat % 2 + 1 := by
    rw [BitVec.toNat_or, BitVec.toNat_ofInt, e1, or_odd]
  show IntKind.i64.wrap ((BitVec.ofInt 64 x ||| BitVec.ofInt 64 1).toNat : Nat) = _
  rw [key, IntKind.wrap_i64]
  omega
theorem or_digit (n d : Nat) (hn : n < 2 ^ 62) (hd : d < 2) : bits .or .i64 ((2 * n : Nat) : Int) (d : Int) = ((2 * n + d : Nat) : Int) := by
  have hn' : n < 4611686018427387904 := hn
  have e1 : (BitVec.ofInt 64 (d : Int)).toNat = d := ofInt_u64 d (by omega)
  have e2 : (BitVec.ofInt 64 ((2 * n : Nat) : Int)).toNat = 2 * n := ofInt_u64 (2 * n) (by omega)
  show IntKind.i64.wrap ((BitVec.ofInt 64 ((2 * n : Nat) : Int) ||| BitVec.ofInt 64 (d : Int)).toNat : Nat) = _
  rw [BitVec.toNat_or, e1, e2, nat_join 1 (2 * n) d (by simp) (by simpa using hd), IntKind.wrap_i64]
  omega
theorem xor_digit (a b : Nat) (ha : a < 2) (hb : b < 2) : bits .xor .i64 (a : Int) (b : Int) = ((if a = b then 0 else 1 : Nat) : Int) := by
  rcases (show a = 0 ∨ a = 1 by omega) with rfl | rfl <;> rcases (show b = 0 ∨ b = 1 by omega) with rfl | rfl <;> decide

theorem isOdd_any (x : Int) (w : World) : Calls Try.prog 39 #[.int .i64 x] w fun e w' => e = .returned (.bool (oddI x)) ∧ w = w' := by
  go_enter Try.func39, Try.ntmps39
  go_wp2_with (fail)
  go_ret
  exact ⟨ret_b (by unfold oddI; rw [and_one]), rfl⟩
theorem rowOf_any (v : Int) (h : InB v) (w : World) : Calls Try.prog 52 #[.int .i64 v] w fun e w' => e = .returned (.tuple #[.int .i64 (rowN v : Int), .int .i64 (if v < 0 then 1 else 0)]) ∧ w = w' := by
  obtain ⟨h1, h2⟩ : -1073741824 ≤ v ∧ v ≤ 1073741824 := h
  unfold rowN
  by_cases q : v < 0
  · rw [if_pos q, if_pos q, show ((v.natAbs : Nat) : Int) = -v by omega]
    go_enter Try.func52, Try.ntmps52
    go_wp2_with (fail)
    go_ret2
    exact ⟨rfl, rfl⟩
  · rw [if_neg q, if_neg q, show ((v.natAbs + 1 : Nat) : Int) = v + 1 by omega]
    go_enter Try.func52, Try.ntmps52
    go_wp2_with (fail)
    go_ret2
    exact ⟨rfl, rfl⟩
theorem digits_any (n : Nat) (hn : n < 2 ^ 32) (w : World) : Calls Try.prog 53 #[.int .i64 (n : Int)] w fun e w' => e = .returned (.int .i64 (digN n : Int)) ∧ w = w' := by
  have h2 : n < 4294967296 := hn
  have C := Lib.hid (Try.bits_Len (n : Int) w (by omega) (by omega))
  go_enter Try.func53, Try.ntmps53
  go_wp2_with (go_at_call 63; refine (C.out).mono ?_; rintro e w' ⟨rfl, rfl⟩)
  go_ret
  exact ⟨rfl, rfl⟩
def oddUp (v : Int) : Int := v + 1 - (v + 1) % 2 + 1
def oddDn (v : Int) : Int := v - 2 - (v - 2) % 2 + 1
theorem oddAbove_any (v : Int) (h : InB v) (w : World) : Calls Try.prog 61 #[.int .i64 v] w fun e w' => e = .returned (.int .i64 (oddUp v)) ∧ w = w' := by
  obtain ⟨h1, h2⟩ : -1073741824 ≤ v ∧ v ≤ 1073741824 := h
  go_enter Try.func61, Try.ntmps61
  go_wp2_with (fail)
  go_ret
  exact ⟨ret_i (by unfold oddUp; rw [or_one _ (by omega) (by omega)]), rfl⟩
theorem oddBelow_any (v : Int) (h : InB v) (w : World) : Calls Try.prog 62 #[.int .i64 v] w fun e w' => e = .returned (.int .i64 (oddDn v)) ∧ w = w' := by
  obtain ⟨h1, h2⟩ : -1073741824 ≤ v ∧ v ≤ 1073741824 := h
  go_enter Try.func62, Try.ntmps62
  go_wp2_with (fail)
  go_ret
  exact ⟨ret_i (by unfold oddDn; rw [or_one _ (by omega) (by omega)]), rfl⟩
end Go.Proofs.Ytaiiigknlnhdgaa
