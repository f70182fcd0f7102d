/- Proved here: labels in plain words: the bits of their numbers, what is read of bits; no program is named. -/
import Derived.Test.YtaiiigknlnhdgaaOrdPlain
import Derived.Lib.BitFns
namespace Go.Proofs.Ytaiiigknlnhdgaa

def oddI (v : Int) : Bool := v % 2 == 1
/-- The n whose row a number has. -/
def rowN (v : Int) : Nat := if v < 0 then v.natAbs else v.natAbs + 1
theorem rowN_pos (v : Int) : 0 < rowN v := by unfold rowN; split <;> omega
/-- How many binary digits. -/
def digN (n : Nat) : Nat := Lib.bitLen n
/-- The last m binary digits of n, the highest first. -/
def lowB (n : Nat) : Nat → List Bool
  | 0 => []
  | m + 1 => n.testBit m :: lowB n m
theorem lowB_length (n : Nat) : ∀ m, (lowB n m).length = m
  | 0 => rfl
  | m + 1 => by rw [lowB, List.length_cons, lowB_length n m]
/-- The bits of a number: c is the first of them. -/
def bitsV (v : Int) : List Bool :=
  List.replicate (digN (rowN v)) (decide (0 ≤ v)) ++ (decide (v < 0)) :: (lowB (rowN v) (digN (rowN v) - 1)).map (fun b => b == decide (0 ≤ v))
def bitsL (l : List Int) : List Bool := l.flatMap bitsV

/-! ## binary digits -/
theorem bitLen_pos {n : Nat} (h : 0 < n) (hn : n < 2 ^ 64) : 0 < digN n := by
  unfold digN
  rw [Lib.bitLen_half n (by omega) hn]; omega
theorem digN_two {n : Nat} : ∀ k, 2 ^ k ≤ n → n < 2 ^ (k + 1) → k < 64 → digN n = k + 1 := by
  intro k h1 h2 h3
  have h64 : 2 ^ (k + 1) ≤ 2 ^ 64 := Nat.pow_le_pow_right (by decide) (by omega)
  unfold digN
  rw [Lib.bitLen_shift k n h1 (by omega)]
  have e : n / 2 ^ k = 1 := by
    have hp : 0 < 2 ^ k := Nat.two_pow_pos k
    apply Nat.le_antisymm
    · have : n / 2 ^ k < 2 := (Nat.div_lt_iff_lt_mul hp).2 (by rw [Nat.mul_comm, ← Nat.pow_succ]; exact h2)
      omega
    · exact (Nat.le_div_iff_mul_le hp).2 (by omega)
  rw [e]; rfl
theorem digN_log {n : Nat} (h : 0 < n) (hn : n < 2 ^ 64) : digN n = n.log2 + 1 := by
  have h1 := Nat.log2_self_le (n := n) (by omega)
  have h2 := Nat.lt_log2_self (n := n)
  refine digN_two _ h1 h2 ?_
  have := (Nat.log2_lt (n := n) (k := 64) (by omega)).2 hn
  exact this
theorem digN_bounds {n : Nat} (h : 0 < n) (hn : n < 2 ^ 64) : 2 ^ (digN n - 1) ≤ n ∧ n < 2 ^ digN n := by
  rw [digN_log h hn]
  exact ⟨by simpa using Nat.log2_self_le (n := n) (by omega), Nat.lt_log2_self (n := n)⟩
theorem digN_le {n k : Nat} (h : n < 2 ^ k) (hk : k ≤ 64) : digN n ≤ k := Lib.bitLen_le n k hk h
/-- What a label's numbers may be. -/
def InB (v : Int) : Prop := -1073741824 ≤ v ∧ v ≤ 1073741824
theorem rowN_small {v : Int} (h : InB v) : rowN v < 2 ^ 31 := by
  have : (2 : Nat) ^ 31 = 2147483648 := by decide
  unfold InB at h
  unfold rowN; split <;> omega
theorem digN_31 {v : Int} (h : InB v) : 1 ≤ digN (rowN v) ∧ digN (rowN v) ≤ 31 := by
  have h1 := rowN_small h
  have : (2 : Nat) ^ 31 < 2 ^ 64 := by decide
  exact ⟨bitLen_pos (rowN_pos v) (by omega), digN_le h1 (by omega)⟩
theorem bitsV_length {v : Int} (h : InB v) : (bitsV v).length = 2 * digN (rowN v) := by
  have := digN_31 h
  unfold bitsV
  simp [lowB_length]
  omega

/-! ## reading -/
/-- How many of the first bits are c. -/
def runB (c : Bool) : List Bool → Nat
  | [] => 0
  | b :: l => if b = c then runB c l + 1 else 0
theorem runB_le (c : Bool) : ∀ l, runB c l ≤ l.length
  | [] => Nat.le_refl _
  | b :: l => by
    have := runB_le c l
    unfold runB; split <;> simp <;> omega
theorem runB_rep (c : Bool) (r : List Bool) : ∀ k, runB c (List.replicate k c ++ (!c) :: r) = k
  | 0 => by simp [runB]
  | k + 1 => by
    rw [List.replicate_succ, List.cons_append]
    unfold runB
    rw [if_pos rfl, runB_rep c r k]
theorem runB_all (c : Bool) : ∀ k, runB c (List.replicate k c) = k
  | 0 => rfl
  | k + 1 => by
    rw [List.replicate_succ]
    unfold runB
    rw [if_pos rfl, runB_all c k]
/-- The number that has these digits behind acc. -/
def numOf (c : Bool) (acc : Nat) : List Bool → Nat
  | [] => acc
  | b :: l => numOf c (2 * acc + (if b = c then 1 else 0)) l
/-- The number whose bits begin here, and how many these are: none, if they are no number's. -/
def numB (l : List Bool) : Int × Nat :=
  let c := l.headD false
  let k := runB c l
  if 31 < k ∨ l.length < 2 * k then (0, 0)
  else (if c then (numOf c 1 ((l.drop (k + 1)).take (k - 1)) : Int) - 1 else -(numOf c 1 ((l.drop (k + 1)).take (k - 1)) : Int), 2 * k)
def numsB : Nat → List Bool → List Int
  | 0, _ => []
  | f + 1, l => if l.length = 0 then [] else if (numB l).2 = 0 then [] else (numB l).1 :: numsB f (l.drop (numB l).2)

theorem numOf_low (c : Bool) (n : Nat) : ∀ m acc, numOf c acc ((lowB n m).map (fun b => b == c)) = acc * 2 ^ m + n % 2 ^ m
  | 0, acc => by simp [lowB, numOf, Nat.mod_one]
  | m + 1, acc => by
    rw [lowB, List.map_cons, numOf, numOf_low c n m]
    have e : n % 2 ^ (m + 1) = (if n.testBit m then 1 else 0) * 2 ^ m + n % 2 ^ m := by
      rw [Nat.testBit_eq_decide_div_mod_eq, Nat.pow_succ, Nat.mod_mul]
      have := Nat.mod_two_eq_zero_or_one (n / 2 ^ m)
      rcases this with h | h <;> simp [h] <;> omega
    have e2 : (if (n.testBit m == c) = c then 1 else 0) = (if n.testBit m = true then 1 else 0 : Nat) := by
      cases c <;> cases n.testBit m <;> rfl
    rw [e, e2, Nat.pow_succ, Nat.add_mul]
    generalize 2 ^ m = p
    have : 2 * acc * p = acc * (p * 2) := by rw [Nat.mul_comm 2 acc, Nat.mul_assoc, Nat.mul_comm 2 p]
    omega
theorem numB_bits {v : Int} (h : InB v) (r : List Bool) : numB (bitsV v ++ r) = (v, 2 * digN (rowN v)) := by
  obtain ⟨h1, h2⟩ := digN_31 h
  have hl := bitsV_length h
  have hs := rowN_small h
  have hp := rowN_pos v
  have hb := digN_bounds hp (by have : (2 : Nat) ^ 31 < 2 ^ 64 := by decide
                                omega)
  obtain ⟨c, hc⟩ : ∃ c : Bool, decide (0 ≤ v) = c := ⟨_, rfl⟩
  have hc2 : decide (v < 0) = !c := by rw [← hc]; by_cases q : 0 ≤ v <;> simp [q] <;> omega
  have hh : (bitsV v ++ r).headD false = c := by
    unfold bitsV
    rw [hc]
    obtain ⟨k, hk⟩ : ∃ k, digN (rowN v) = k + 1 := ⟨digN (rowN v) - 1, by omega⟩
    rw [hk, List.replicate_succ]; rfl
  have hr : runB c (bitsV v ++ r) = digN (rowN v) := by
    unfold bitsV
    rw [hc, hc2, List.append_assoc, List.cons_append]
    exact runB_rep _ _ _
  unfold numB
  simp only [hh, hr]
  rw [if_neg (by rw [List.length_append, hl]; omega)]
  have hd : ((bitsV v ++ r).drop (digN (rowN v) + 1)).take (digN (rowN v) - 1) = (lowB (rowN v) (digN (rowN v) - 1)).map (fun b => b == c) := by
    unfold bitsV
    rw [hc, List.append_assoc, List.drop_append]
    simp only [List.length_replicate]
    rw [List.drop_eq_nil_of_le (by simp), show digN (rowN v) + 1 - digN (rowN v) = 1 by omega, List.nil_append, List.cons_append, List.drop_succ_cons, List.drop_zero, List.take_append_of_le_length (by simp [lowB_length]), List.take_of_length_le (by simp [lowB_length])]
  have hn : numOf c 1 ((lowB (rowN v) (digN (rowN v) - 1)).map (fun b => b == c)) = rowN v := by
    rw [numOf_low, Nat.one_mul]
    have e : rowN v % 2 ^ (digN (rowN v) - 1) = rowN v - 2 ^ (digN (rowN v) - 1) := by
      have h3 : 2 ^ digN (rowN v) = 2 * 2 ^ (digN (rowN v) - 1) := by
        rw [← Nat.pow_succ', show (digN (rowN v) - 1).succ = digN (rowN v) by omega]
      rw [Nat.mod_eq_sub_mod hb.1, Nat.mod_eq_of_lt (by omega)]
    omega
  rw [hd, hn]
  have hv : (if c = true then (rowN v : Int) - 1 else -(rowN v : Int)) = v := by
    unfold rowN
    by_cases q : 0 ≤ v
    · rw [← hc, if_pos (by simpa using q), if_neg (by omega)]; omega
    · rw [← hc, if_neg (by simpa using q), if_pos (by omega)]; omega
  rw [hv]
theorem numB_pad : ∀ p, (numB (List.replicate p false)).2 = 0 := by
  intro p
  have hh : (List.replicate p false).headD false = false := by cases p <;> rfl
  unfold numB
  simp only [hh, runB_all, List.length_replicate]
  split
  · rfl
  · show 2 * p = 0
    omega
theorem numsB_bits : ∀ (l : List Int) (f p : Nat), (∀ v ∈ l, InB v) → l.length < f → numsB f (bitsL l ++ List.replicate p false) = l
  | [], f + 1, p, _, _ => by
    unfold numsB
    have e : bitsL [] ++ List.replicate p false = List.replicate p false := rfl
    rw [e, numB_pad]
    simp
  | v :: l, f + 1, p, h, hf => by
    have hv := h v (by simp)
    obtain ⟨h1, h2⟩ := digN_31 hv
    have e : bitsL (v :: l) ++ List.replicate p false = bitsV v ++ (bitsL l ++ List.replicate p false) := by
      unfold bitsL; rw [List.flatMap_cons, List.append_assoc]
    rw [e]
    unfold numsB
    rw [numB_bits hv, List.length_append, bitsV_length hv, if_neg (by omega), if_neg (by show ¬ 2 * digN (rowN v) = 0; omega)]
    show v :: numsB f ((bitsV v ++ _).drop (2 * digN (rowN v))) = _
    rw [← bitsV_length hv, List.drop_left, numsB_bits l f p (fun x hx => h x (by simp [hx])) (by simpa using hf)]
theorem bitsL_length {l : List Int} (h : ∀ v ∈ l, InB v) : 2 * l.length ≤ (bitsL l).length ∧ (bitsL l).length ≤ 62 * l.length := by
  induction l with
  | nil => simp [bitsL]
  | cons v l ih =>
    have hv := h v (by simp)
    have h1 := digN_31 hv
    have h2 := bitsV_length hv
    have h3 := ih (fun x hx => h x (by simp [hx]))
    have e : bitsL (v :: l) = bitsV v ++ bitsL l := rfl
    rw [e, List.length_append, h2, List.length_cons]
    omega
end Go.Proofs.Ytaiiigknlnhdgaa
