/- Proved here: what the program's sum answers, and its numbers in bytes and bytes of numbers. -/
import Derived.Test.YtlkffignbjpfcaaSumPlain
import Derived.Laws.Bits64
import Derived.BigGuardPart
namespace Go.Proofs.Ytlkffignbjpfcaa
open Go.RowKit

theorem u32_of (n : Nat) (h : n < 4294967296) : (BitVec.ofInt 32 (n : Int)).toNat = n := by
  rw [BitVec.ofInt_natCast, BitVec.toNat_ofNat]; exact Nat.mod_eq_of_lt (by omega)
theorem wrap_u32 (n : Int) : IntKind.u32.wrap n = n % 4294967296 := by simp [IntKind.wrap, IntKind.bits, IntKind.signed]
theorem xor_u32 (a b : Nat) (ha : a < 4294967296) (hb : b < 4294967296) : bits .xor .u32 (a : Int) (b : Int) = ((a ^^^ b : Nat) : Int) := by
  have hx : a ^^^ b < 2 ^ 32 := Nat.xor_lt_two_pow (by omega) (by omega)
  show IntKind.u32.wrap ((BitVec.ofInt 32 (a : Int) ^^^ BitVec.ofInt 32 (b : Int)).toNat : Int) = _
  rw [BitVec.toNat_xor, u32_of a ha, u32_of b hb, wrap_u32]
  omega
theorem and1_u32 (a : Nat) (ha : a < 4294967296) : bits .and .u32 (a : Int) 1 = ((a % 2 : Nat) : Int) := by
  show IntKind.u32.wrap ((BitVec.ofInt 32 (a : Int) &&& BitVec.ofInt 32 1).toNat : Int) = _
  rw [BitVec.toNat_and, u32_of a ha, show (BitVec.ofInt 32 1).toNat = 2 ^ 1 - 1 by decide, Nat.and_two_pow_sub_one_eq_mod, wrap_u32]
  omega
theorem not_u32 (a : Nat) (ha : a < 4294967296) : bits .xor .u32 IntKind.u32.max (a : Int) = ((4294967295 - a : Nat) : Int) := by
  have e : (4294967295 : Nat) ^^^ a = 4294967295 - a := by
    have h1 : (BitVec.allOnes 32 ^^^ BitVec.ofNat 32 a).toNat = (~~~ BitVec.ofNat 32 a).toNat := by rw [BitVec.allOnes_xor]
    rw [BitVec.toNat_xor, BitVec.toNat_not, BitVec.toNat_ofNat, Nat.mod_eq_of_lt (show a < 2 ^ 32 by omega)] at h1
    exact h1
  rw [show IntKind.u32.max = ((4294967295 : Nat) : Int) by rfl, xor_u32 _ _ (by decide) ha, e]
theorem or_u64 (a b : Nat) (ha : a < 72057594037927936) (hb : b < 256) : bits .or .u64 ((a : Int) * 256) (b : Int) = ((a * 256 + b : Nat) : Int) := by
  have e : a * 256 ||| b = a * 256 + b := by
    have := Nat.shiftLeft_add_eq_or_of_lt (show b < 2 ^ 8 by omega) a
    rw [Nat.shiftLeft_eq] at this
    exact this.symm
  have h1 : (BitVec.ofInt 64 ((a : Int) * 256)).toNat = a * 256 := by
    rw [show (a : Int) * 256 = ((a * 256 : Nat) : Int) by omega, BitVec.ofInt_natCast, BitVec.toNat_ofNat]; exact Nat.mod_eq_of_lt (by omega)
  have h2 : (BitVec.ofInt 64 (b : Int)).toNat = b := by
    rw [BitVec.ofInt_natCast, BitVec.toNat_ofNat]; exact Nat.mod_eq_of_lt (by omega)
  show IntKind.u64.wrap ((BitVec.ofInt 64 ((a : Int) * 256) ||| BitVec.ofInt 64 (b : Int)).toNat : Int) = _
  rw [BitVec.toNat_or, h1, h2, e, IntKind.wrap_u64]
  omega
theorem take_more (s : ByteArray) (k : Nat) (h : k < s.size) : (bl s).take (k + 1) = (bl s).take k ++ [s.get! k] := by
  have h1 := bl_get s k h
  rw [List.take_add_one, h1]; rfl
theorem take_whole (s : ByteArray) : (bl s).take s.size = bl s := by rw [← bl_length, List.take_length]

set_option maxRecDepth 100000 in
set_option maxHeartbeats 4000000 in
theorem sum_any (p : Option Addr) (s : ByteArray) (n c : Nat) (w : World) (hn : s.size = n) (hs : n ≤ 4611686018427387904) (hp : HoldsB w p s) :
    Calls Try.prog 69 #[.slice p n c] w fun e w' => e = .returned (.int .u32 (sumN (bl s) : Nat)) ∧ w = w' := by
  have hn' : (n : Int) ≤ 4611686018427387904 := by omega
  have HN := Lib.hid hn
  clear hn hs
  go_enter Try.func69, Try.ntmps69
  go_wp2_with (fail)
  go_loop [3, 9] (fun a i => ∃ k : Nat, i = .int .i64 (k : Int) ∧ k ≤ n ∧ a = .int .u32 ((sumG 4294967295 ((bl s).take k) : Nat) : Int)) (fun _ i => n - (intOf i).toNat)
  case atStart => exact ⟨0, rfl, Nat.zero_le _, rfl⟩
  case round =>
    obtain ⟨k, rfl, hk, rfl⟩ := hrel
    have hX := sumG_lt ((bl s).take k) (show 4294967295 < 4294967296 by decide)
    have hst : k < n → sumG 4294967295 ((bl s).take (k + 1)) = byteN (sumG 4294967295 ((bl s).take k)) (s.get! k).toNat := fun h => by
      rw [take_more s k (by rw [HN.out]; exact h), sumG_snoc]
    have HE := Lib.hid (show k = n → sumG 4294967295 ((bl s).take k) = sumG 4294967295 (bl s) from fun h => by rw [h, ← HN.out, take_whole])
    have HST := Lib.hid hst
    clear hst
    generalize sumG 4294967295 ((bl s).take k) = X at *
    by_cases hlt : k < n
    · obtain ⟨b, off, rfl, hc⟩ := hp (by rw [HN.out]; omega)
      have hcell := hc k (by rw [HN.out]; exact hlt)
      have hb : (s.get! k).toNat < 256 := UInt8.toNat_lt _
      have hst := HST.out hlt
      clear HST hp hc
      generalize (s.get! k).toNat = y at *
      have hx1 := xor_u32 X y hX (by omega)
      have hY : X ^^^ y < 4294967296 := Nat.xor_lt_two_pow (n := 32) hX (by omega)
      have HS := Lib.hid (show sumG 4294967295 ((bl s).take (k + 1)) = stepsN 8 (X ^^^ y) from hst)
      clear hst
      have hy9 : (y : Int) < 256 := by omega
      go_wp2_with (fail)
      go_loop [3, 17] (fun a i => ∃ j : Nat, i = .int .i64 (j : Int) ∧ j ≤ 8 ∧ a = .int .u32 ((stepsN j (X ^^^ y) : Nat) : Int)) (fun _ i => 8 - (intOf i).toNat)
      case atStart => exact ⟨0, rfl, Nat.zero_le _, rfl⟩
      case round =>
        obtain ⟨j, rfl, hj, rfl⟩ := hrel
        by_cases hlj : j < 8
        · have hZ := stepsN_lt j hY
          have hnx : stepsN (j + 1) (X ^^^ y) = stepN (stepsN j (X ^^^ y)) := rfl
          generalize stepsN j (X ^^^ y) = Z at *
          have a1 := and1_u32 Z hZ
          have h2 : Z % 2 < 2 := Nat.mod_lt _ (by decide)
          have a2 := xor_u32 (Z / 2) (Z % 2 * 3988292384) (by omega) (by omega)
          have e2 : ((Z % 2 * 3988292384 : Nat) : Int) = ((Z % 2 : Nat) : Int) * 3988292384 := by omega
          have e3 : ((Z / 2 : Nat) : Int) = (Z : Int) / 2 := by omega
          rw [e2, e3] at a2
          have hm0 : (0 : Int) ≤ ((Z % 2 : Nat) : Int) := by omega
          have hm1 : ((Z % 2 : Nat) : Int) ≤ 1 := by omega
          have HX := Lib.hid hnx
          clear hnx e2 e3 h2
          go_wp2_with (fail)
          go_round
          case rel => exact ⟨j + 1, by go_num, by omega, by rw [HX.out]; unfold stepN; rw [← a2]; first | rfl | go_num⟩
          case measure => simp [intOf]; omega
        · obtain rfl : j = 8 := by omega
          go_wp2_with (fail)
          go_round
          case rel => exact ⟨k + 1, by go_num, by omega, by rw [HS.out]⟩
          case measure => simp [intOf]; omega
    · obtain rfl : k = n := by omega
      have hq := not_u32 X hX
      have HQ := Lib.hid hq
      go_wp2_with (fail)
      go_ret
      refine ⟨?_, by first | rfl | trivial⟩
      unfold sumN
      rw [← HE.out (by first | rfl | trivial)]
      first | exact ret_i hq | (rw [← hq]; rfl)
end Go.Proofs.Ytlkffignbjpfcaa
