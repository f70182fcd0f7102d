/- Proved here: a page, or a head, one of whose bytes is turned, is no page, and no head; no program is named. -/
import Derived.Test.YtlkffignbjpfcaaPagePlain
import Derived.Test.YtlkffignbjpfcaaTakeHead
namespace Go.Proofs.Ytlkffignbjpfcaa

theorem stepsN_add (a : Nat) : ∀ (b c : Nat), stepsN (a + b) c = stepsN a (stepsN b c) := by
  intro b c
  induction a with
  | zero => rw [Nat.zero_add]; rfl
  | succ a ih => rw [Nat.succ_add, stepsN, stepsN, ih]
theorem sum_zeros (n : Nat) : ∀ c, sumG c (zL n) = stepsN (8 * n) c := by
  induction n with
  | zero => intro c; rfl
  | succ n ih =>
    intro c
    show sumG (byteN c 0) (zL n) = _
    rw [ih]
    unfold byteN
    rw [Nat.xor_zero, ← stepsN_add, Nat.mul_succ]
/-- Where two states run side by side, they never differ in the low byte alone. -/
def farB : Nat → Nat → Nat → Bool
  | 0, _, _ => true
  | k + 1, s, t => (decide (256 ≤ s ^^^ t)) && farB k (stepsN 8 s) (stepsN 8 t)
theorem far_at : ∀ (k s t a : Nat), farB k s t = true → a < k → 256 ≤ (stepsN (8 * a) s) ^^^ (stepsN (8 * a) t)
  | 0, _, _, _, _, h => absurd h (Nat.not_lt_zero _)
  | k + 1, s, t, 0, h, _ => by
    unfold farB at h
    rw [Bool.and_eq_true, decide_eq_true_eq] at h
    exact h.1
  | k + 1, s, t, a + 1, h, hk => by
    unfold farB at h
    rw [Bool.and_eq_true] at h
    have := far_at k _ _ a h.2 (by omega)
    rwa [← stepsN_add, ← stepsN_add, ← Nat.mul_succ] at this
theorem far_all : farB 508 4294967295 235298351 = true := by decide +kernel
theorem zero_end : stepsN (8 * 508) 235298351 = 4294967295 := by decide +kernel
theorem zero_sum : sumN (zL 508) = 263941460 := by
  unfold sumN
  rw [sum_zeros]
  decide +kernel
theorem far_point : ∃ T, T < 4294967296 ∧ farB 508 4294967295 T = true ∧ stepsN (8 * 508) T = 4294967295 := ⟨235298351, by decide, far_all, zero_end⟩
theorem one_sum (a b : Nat) (h : a + b = 507) (x : UInt8) : sumN (zL a ++ x :: zL b) ≠ 0 := by
  intro e
  have hx := UInt8.toNat_lt x
  have hS := stepsN_lt (8 * a) (show 4294967295 < 4294967296 by decide)
  have e1 : sumG 4294967295 (zL a ++ x :: zL b) = stepsN (8 * (b + 1)) (stepsN (8 * a) 4294967295 ^^^ x.toNat) := by
    rw [sumG_append, sum_zeros]
    show sumG (byteN (stepsN (8 * a) 4294967295) x.toNat) (zL b) = _
    rw [sum_zeros]
    unfold byteN
    rw [← stepsN_add, Nat.mul_succ]
  have hlt : sumG 4294967295 (zL a ++ x :: zL b) < 4294967296 := sumG_lt _ (by decide)
  unfold sumN at e
  have e2 : sumG 4294967295 (zL a ++ x :: zL b) = 4294967295 := by omega
  obtain ⟨T, hT, hF, hE⟩ := far_point
  have e5 : stepsN (8 * (b + 1)) (stepsN (8 * a) 4294967295 ^^^ x.toNat) = stepsN (8 * (b + 1)) (stepsN (8 * a) T) := by
    rw [← stepsN_add, show 8 * (b + 1) + 8 * a = 8 * 508 by omega, hE, ← e1, e2]
  have e3 := stepsN_inj (8 * (b + 1)) (Nat.xor_lt_two_pow (n := 32) hS (by omega)) (stepsN_lt (8 * a) hT) e5
  have e4 := far_at 508 4294967295 T a hF (by omega)
  rw [← e3, ← Nat.xor_assoc, Nat.xor_self, Nat.zero_xor] at e4
  omega
theorem set_zeros (n k : Nat) (h : k < n) (x : UInt8) : (zL n).set k x = zL k ++ x :: zL (n - k - 1) := by
  unfold zL
  rw [List.set_eq_take_append_cons_drop, if_pos (by rw [List.length_replicate]; exact h), List.take_replicate, List.drop_replicate, show min k n = k by omega, show n - (k + 1) = n - k - 1 by omega]
/-- A row of 512 bytes, all but one of which are noughts, stands not behind its sum. -/
theorem one_unsealed (k : Nat) (hk : k < 512) (x : UInt8) : sealed ((zL 512).set k x) = false := by
  unfold sealed
  rw [decide_eq_false_iff_not]
  by_cases h4 : k < 4
  · have e1 : ((zL 512).set k x).drop 4 = zL 508 := by rw [List.drop_set, if_pos h4, zL_drop]
    have e2 : ((zL 512).set k x).take 4 = (zL 4).set k x := by rw [List.take_set, zL_take]; rfl
    rw [e1, e2, zero_sum]
    have hx := UInt8.toNat_lt x
    rcases (show k = 0 ∨ k = 1 ∨ k = 2 ∨ k = 3 by omega) with rfl | rfl | rfl | rfl
    · show ((((0 * 256 + x.toNat) * 256 + 0) * 256 + 0) * 256 + 0) ≠ 263941460
      omega
    · show ((((0 * 256 + 0) * 256 + x.toNat) * 256 + 0) * 256 + 0) ≠ 263941460
      omega
    · show ((((0 * 256 + 0) * 256 + 0) * 256 + x.toNat) * 256 + 0) ≠ 263941460
      omega
    · show ((((0 * 256 + 0) * 256 + 0) * 256 + 0) * 256 + x.toNat) ≠ 263941460
      omega
  · have e1 : ((zL 512).set k x).drop 4 = (zL 508).set (k - 4) x := by rw [List.drop_set, if_neg h4, zL_drop]
    have e2 : ((zL 512).set k x).take 4 = zL 4 := by rw [List.take_set_of_le (by omega), zL_take]; rfl
    rw [e1, e2, val_zero, set_zeros 508 (k - 4) (by omega)]
    exact fun e => one_sum (k - 4) (508 - (k - 4) - 1) (by omega) x e.symm
/-- A page one of whose bytes is turned. -/
theorem turned_page (n m st : Nat) (p : List UInt8) (hp : p.length ≤ 496) (k : Nat) (hk : k < 512) (x : UInt8) (hx : (pageL n st p)[k]? ≠ some x) : takeR m ((pageL n st p).set k x) = ([], 0, 10) := by
  have hl := pageL_length (n := n) (stamp := st) hp
  have hs : sealed (pageL n st p) = true := sealed_seal _
  unfold takeR
  rw [if_neg (by rw [List.length_set, hl]; simp)]
  have hb : blankL ((pageL n st p).set k x) = false := by
    cases h : blankL ((pageL n st p).set k x) with
    | false => rfl
    | true =>
      exfalso
      rw [blank_iff, List.length_set, hl] at h
      have hk' : k < (pageL n st p).length := by omega
      have e : pageL n st p = (zL 512).set k (pageL n st p)[k] := by rw [← h, List.set_set, List.set_getElem_self]
      rw [e, one_unsealed k hk] at hs
      cases hs
  rw [hb, if_neg (by simp), sealed_turned hs (by omega) (by omega) hx, if_pos rfl]
theorem head_parts (g st : Nat) : ((headL g st).drop 8).take 4 = numL g 4 ∧ ((headL g st).drop 12).take 8 = numL st 8 := by
  have h4 : (headL g st).drop 4 = fillL (litL ++ (numL g 4 ++ numL st 8)) 60 := List.drop_left' (numL_length _ 4)
  have h8 : (headL g st).drop 8 = numL g 4 ++ (numL st 8 ++ zL 44) := by
    have : (headL g st).drop 8 = ((headL g st).drop 4).drop 4 := by rw [List.drop_drop]
    have hlc : (litL ++ (numL g 4 ++ numL st 8)).length = 16 := by simp [litL, numL_length]
    rw [this, h4]
    unfold fillL
    rw [hlc, List.append_assoc, List.append_assoc]
    exact List.drop_left' rfl
  have h12 : (headL g st).drop 12 = numL st 8 ++ zL 44 := by
    have : (headL g st).drop 12 = ((headL g st).drop 8).drop 4 := by rw [List.drop_drop]
    rw [this, h8]
    exact List.drop_left' (numL_length _ 4)
  exact ⟨by rw [h8]; exact List.take_left' (numL_length _ 4), by rw [h12]; exact List.take_left' (numL_length _ 8)⟩
/-- What was laid of a head is taken. -/
theorem take_head (g st : Nat) (h1 : 1 ≤ g) (h2 : g ≤ 4294967295) (hst : st < 18446744073709551616) : headR (headL g st) = (g, st, 0) := by
  obtain ⟨e4, e8⟩ := head_parts g st
  have v4 : valN (numL g 4) = g := by rw [val_num]; exact Nat.mod_eq_of_lt (by omega)
  have v8 : valN (numL st 8) = st := by rw [val_num]; exact Nat.mod_eq_of_lt (by omega)
  unfold headR
  rw [if_neg (by rw [headL_length]; simp), if_neg (by rw [show headL g st = sealL _ from rfl, sealed_seal]; simp), e4, e8, v4, v8, if_pos ⟨h1, rfl⟩]
theorem turned_head (g st : Nat) (k : Nat) (hk : k < 64) (x : UInt8) (hx : (headL g st)[k]? ≠ some x) : headR ((headL g st).set k x) = (0, 0, 10) := by
  have hl := headL_length g st
  have hs : sealed (headL g st) = true := sealed_seal _
  unfold headR
  rw [if_neg (by rw [List.length_set, hl]; simp), sealed_turned hs (by omega) (by omega) hx, if_pos rfl]
end Go.Proofs.Ytlkffignbjpfcaa
