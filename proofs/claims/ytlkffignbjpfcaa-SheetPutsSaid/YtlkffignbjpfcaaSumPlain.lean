/- Proved here: sums and numbers in bytes, pages and heads as bytes, in plain words; no program is named. -/
import Derived.Test.YtlkffignbjpfcaaByteKit
namespace Go.Proofs.Ytlkffignbjpfcaa

/-- A step of the sum. -/
def stepN (c : Nat) : Nat := (c / 2) ^^^ (c % 2 * 3988292384)
def stepsN : Nat → Nat → Nat
  | 0, c => c
  | k + 1, c => stepN (stepsN k c)
def byteN (c b : Nat) : Nat := stepsN 8 (c ^^^ b)
def sumG (c : Nat) (l : List UInt8) : Nat := l.foldl (fun c b => byteN c b.toNat) c
def sumN (l : List UInt8) : Nat := 4294967295 - sumG 4294967295 l
def valG (n : Nat) (l : List UInt8) : Nat := l.foldl (fun n b => n * 256 + b.toNat) n
def valN (l : List UInt8) : Nat := valG 0 l
/-- So many bytes of a number, the highest first. -/
def numL (v : Nat) : Nat → List UInt8
  | 0 => []
  | k + 1 => UInt8.ofNat (v / 256 ^ k) :: numL v k
def bl (s : ByteArray) : List UInt8 := s.data.toList
def ofL (l : List UInt8) : ByteArray := ⟨l.toArray⟩

theorem bl_ofL (l : List UInt8) : bl (ofL l) = l := by simp [bl, ofL]
theorem ofL_bl (s : ByteArray) : ofL (bl s) = s := by
  apply ByteArray.ext
  simp [bl, ofL]
theorem bl_length (s : ByteArray) : (bl s).length = s.size := Array.length_toList
theorem bl_append (s t : ByteArray) : bl (s ++ t) = bl s ++ bl t := by simp [bl]
theorem bl_inj {s t : ByteArray} (h : bl s = bl t) : s = t := by rw [← ofL_bl s, ← ofL_bl t, h]
theorem bl_get (s : ByteArray) (j : Nat) (hj : j < s.size) : (bl s)[j]? = some (s.get! j) := get!_of s j hj
theorem bl_zero (n : Nat) : bl (zeroB n) = List.replicate n 0 := by simp [bl, zeroB]
theorem ofL_size (l : List UInt8) : (ofL l).size = l.length := by simp [ofL, ByteArray.size]
theorem bl_extract (s : ByteArray) (i j : Nat) : bl (s.extract i j) = ((bl s).drop i).take (j - i) := by
  simp [bl, ByteArray.data_extract, Array.toList_extract, List.extract_eq_take_drop]

theorem numL_length (v : Nat) : ∀ k, (numL v k).length = k
  | 0 => rfl
  | k + 1 => by rw [numL, List.length_cons, numL_length v k]
theorem valG_append (n : Nat) (a b : List UInt8) : valG n (a ++ b) = valG (valG n a) b := by simp [valG]
theorem valG_snoc (n : Nat) (a : List UInt8) (x : UInt8) : valG n (a ++ [x]) = valG n a * 256 + x.toNat := by simp [valG]
theorem valG_lin : ∀ (l : List UInt8) (n : Nat), valG n l = n * 256 ^ l.length + valG 0 l
  | [], n => by simp [valG]
  | x :: r, n => by
    show valG (n * 256 + x.toNat) r = _ + valG (0 * 256 + x.toNat) r
    rw [valG_lin r (n * 256 + x.toNat), valG_lin r (0 * 256 + x.toNat), List.length_cons, Nat.pow_succ, Nat.zero_mul, Nat.zero_add, Nat.add_mul, Nat.mul_assoc, Nat.mul_comm 256 (256 ^ r.length)]
    omega
theorem valG_lt : ∀ (l : List UInt8), valG 0 l < 256 ^ l.length
  | [] => by simp [valG]
  | x :: r => by
    show valG (0 * 256 + x.toNat) r < _
    rw [valG_lin r, List.length_cons, Nat.pow_succ, Nat.zero_mul, Nat.zero_add]
    have h1 := valG_lt r
    have h2 := UInt8.toNat_lt x
    have h3 : (x.toNat + 1) * 256 ^ r.length ≤ 256 * 256 ^ r.length := Nat.mul_le_mul_right _ (by omega)
    rw [Nat.add_mul, Nat.one_mul] at h3
    rw [Nat.mul_comm (256 ^ r.length) 256]
    omega
theorem ofNat_toNat8 (x : Nat) : (UInt8.ofNat x).toNat = x % 256 := by simp
theorem val_num (v : Nat) : ∀ k, valN (numL v k) = v % 256 ^ k
  | 0 => by simp [numL, valN, valG, Nat.mod_one]
  | k + 1 => by
    have ih := val_num v k
    unfold valN at ih ⊢
    show valG (0 * 256 + (UInt8.ofNat (v / 256 ^ k)).toNat) (numL v k) = _
    rw [valG_lin, ih, numL_length, ofNat_toNat8, Nat.zero_mul, Nat.zero_add, Nat.pow_succ, Nat.mod_mul]
    rw [Nat.mul_comm (256 ^ k)]
    omega
theorem num_val : ∀ (l : List UInt8) (h : Nat), numL (h * 256 ^ l.length + valN l) l.length = l
  | [], _ => rfl
  | x :: r, h => by
    have e0 : valN (x :: r) = x.toNat * 256 ^ r.length + valN r := by
      show valG (0 * 256 + x.toNat) r = _
      rw [valG_lin r, Nat.zero_mul, Nat.zero_add]; rfl
    have hlt : valN r < 256 ^ r.length := valG_lt r
    have hp : 0 < 256 ^ r.length := Nat.pow_pos (by decide)
    have e1 : h * 256 ^ (x :: r).length + valN (x :: r) = (h * 256 + x.toNat) * 256 ^ r.length + valN r := by
      rw [e0, List.length_cons, Nat.pow_succ, Nat.add_mul, Nat.mul_assoc, Nat.mul_comm 256 (256 ^ r.length), Nat.add_assoc]
    rw [e1, List.length_cons, numL, num_val r]
    have e2 : ((h * 256 + x.toNat) * 256 ^ r.length + valN r) / 256 ^ r.length = h * 256 + x.toNat := by
      rw [Nat.mul_comm, Nat.mul_add_div hp, Nat.div_eq_of_lt hlt, Nat.add_zero]
    rw [e2]
    congr 1
    apply UInt8.toNat.inj
    rw [ofNat_toNat8]
    have := UInt8.toNat_lt x
    omega
theorem num_of_val (l : List UInt8) : numL (valN l) l.length = l := by
  have := num_val l 0
  rwa [Nat.zero_mul, Nat.zero_add] at this

/-! ## the sum -/
theorem stepN_lt {c : Nat} (h : c < 4294967296) : stepN c < 4294967296 := by
  unfold stepN
  refine Nat.xor_lt_two_pow (n := 32) (by omega) ?_
  have : c % 2 < 2 := Nat.mod_lt _ (by decide)
  have : c % 2 * 3988292384 ≤ 1 * 3988292384 := Nat.mul_le_mul_right _ (by omega)
  omega
theorem stepsN_lt : ∀ (k : Nat) {c : Nat}, c < 4294967296 → stepsN k c < 4294967296
  | 0, _, h => h
  | k + 1, _, h => stepN_lt (stepsN_lt k h)
theorem byteN_lt {c b : Nat} (h : c < 4294967296) (hb : b < 256) : byteN c b < 4294967296 := stepsN_lt 8 (Nat.xor_lt_two_pow (n := 32) h (by omega))
theorem sumG_lt : ∀ (l : List UInt8) {c : Nat}, c < 4294967296 → sumG c l < 4294967296
  | [], _, h => h
  | x :: r, _, h => sumG_lt r (byteN_lt h (UInt8.toNat_lt x))
theorem sumG_snoc (c : Nat) (a : List UInt8) (x : UInt8) : sumG c (a ++ [x]) = byteN (sumG c a) x.toNat := by simp [sumG]
theorem sumG_append (c : Nat) (a b : List UInt8) : sumG c (a ++ b) = sumG (sumG c a) b := by simp [sumG]
theorem sumN_lt (l : List UInt8) : sumN l < 4294967296 := by unfold sumN; omega
theorem stepN_top {c : Nat} (h : c < 4294967296) : stepN c / 2147483648 = c % 2 := by
  have h1 : c / 2 < 2 ^ 31 := by omega
  have e : stepN c / 2 ^ 31 = (c / 2) / 2 ^ 31 ^^^ (c % 2 * 3988292384) / 2 ^ 31 := by
    unfold stepN
    rw [← Nat.shiftRight_eq_div_pow, ← Nat.shiftRight_eq_div_pow, ← Nat.shiftRight_eq_div_pow, Nat.shiftRight_xor_distrib]
  have e2 : (c / 2) / 2 ^ 31 = 0 := Nat.div_eq_of_lt h1
  rw [show (2147483648 : Nat) = 2 ^ 31 from rfl, e, e2, Nat.zero_xor]
  rcases Nat.mod_two_eq_zero_or_one c with h2 | h2 <;> rw [h2] <;> rfl
theorem xor_cancel {a b c : Nat} (h : a ^^^ c = b ^^^ c) : a = b := by
  have := congrArg (· ^^^ c) h
  simpa [Nat.xor_assoc] using this
theorem stepN_inj {c d : Nat} (hc : c < 4294967296) (hd : d < 4294967296) (h : stepN c = stepN d) : c = d := by
  have h1 := stepN_top hc
  have h2 := stepN_top hd
  rw [h] at h1
  have h3 : c % 2 = d % 2 := h1.symm.trans h2
  unfold stepN at h
  rw [h3] at h
  have := xor_cancel h
  omega
theorem stepsN_inj : ∀ (k : Nat) {c d : Nat}, c < 4294967296 → d < 4294967296 → stepsN k c = stepsN k d → c = d
  | 0, _, _, _, _, h => h
  | k + 1, _, _, hc, hd, h => stepsN_inj k hc hd (stepN_inj (stepsN_lt k hc) (stepsN_lt k hd) h)
theorem byteN_inj {c d b : Nat} (hc : c < 4294967296) (hd : d < 4294967296) (hb : b < 256) (h : byteN c b = byteN d b) : c = d :=
  xor_cancel (stepsN_inj 8 (Nat.xor_lt_two_pow (n := 32) hc (by omega)) (Nat.xor_lt_two_pow (n := 32) hd (by omega)) h)
theorem byteN_inj2 {c a b : Nat} (hc : c < 4294967296) (ha : a < 256) (hb : b < 256) (h : byteN c a = byteN c b) : a = b := by
  have := stepsN_inj 8 (Nat.xor_lt_two_pow (n := 32) hc (show a < 2 ^ 32 by omega)) (Nat.xor_lt_two_pow (n := 32) hc (show b < 2 ^ 32 by omega)) h
  rw [Nat.xor_comm c a, Nat.xor_comm c b] at this
  exact xor_cancel this
theorem sumG_inj : ∀ (l : List UInt8) {c d : Nat}, c < 4294967296 → d < 4294967296 → sumG c l = sumG d l → c = d
  | [], _, _, _, _, h => h
  | x :: r, _, _, hc, hd, h => byteN_inj hc hd (UInt8.toNat_lt x) (sumG_inj r (byteN_lt hc (UInt8.toNat_lt x)) (byteN_lt hd (UInt8.toNat_lt x)) h)
/-- One byte is another: the sum is another. -/
theorem sumN_one (a b : List UInt8) {x y : UInt8} (h : sumN (a ++ x :: b) = sumN (a ++ y :: b)) : x = y := by
  have ha := sumG_lt a (show 4294967295 < 4294967296 by decide)
  have h1 := sumG_lt (a ++ x :: b) (show 4294967295 < 4294967296 by decide)
  have h2 := sumG_lt (a ++ y :: b) (show 4294967295 < 4294967296 by decide)
  unfold sumN at h
  have h3 : sumG 4294967295 (a ++ x :: b) = sumG 4294967295 (a ++ y :: b) := by omega
  rw [sumG_append, sumG_append] at h3
  have h4 := sumG_inj b (byteN_lt ha (UInt8.toNat_lt x)) (byteN_lt ha (UInt8.toNat_lt y)) h3
  exact UInt8.toNat.inj (byteN_inj2 ha (UInt8.toNat_lt x) (UInt8.toNat_lt y) h4)

/-! ## pages and heads -/
def sealL (b : List UInt8) : List UInt8 := numL (sumN b) 4 ++ b
def zL (n : Nat) : List UInt8 := List.replicate n 0
def fillL (p : List UInt8) (n : Nat) : List UInt8 := p ++ zL (n - p.length)
def pageL (n stamp : Nat) (p : List UInt8) : List UInt8 := sealL (numL n 4 ++ (numL stamp 8 ++ fillL p 496))
def headL (gen stamp : Nat) : List UInt8 := sealL (fillL ([76, 69, 67, 84] ++ (numL gen 4 ++ numL stamp 8)) 60)
/-- Do bytes stand behind their sum? -/
def sealed (b : List UInt8) : Bool := decide (valN (b.take 4) = sumN (b.drop 4))
theorem fillL_length {p : List UInt8} {n : Nat} (h : p.length ≤ n) : (fillL p n).length = n := by simp [fillL, zL]; omega
theorem sealL_length (b : List UInt8) : (sealL b).length = b.length + 4 := by simp [sealL, numL_length]; omega
theorem pageL_length {n stamp : Nat} {p : List UInt8} (h : p.length ≤ 496) : (pageL n stamp p).length = 512 := by
  rw [pageL, sealL_length]
  simp [numL_length, fillL_length h]
theorem headL_length (gen stamp : Nat) : (headL gen stamp).length = 64 := by
  rw [headL, sealL_length, fillL_length]
  simp [numL_length]
theorem sealed_iff {b : List UInt8} (h : 4 ≤ b.length) : sealed b = true ↔ sealL (b.drop 4) = b := by
  have h4 : (b.take 4).length = 4 := by simp; omega
  unfold sealed sealL
  rw [decide_eq_true_eq]
  constructor
  · intro e
    have := num_of_val (b.take 4)
    rw [h4, e] at this
    rw [this, List.take_append_drop]
  · intro e
    have e1 : b.take 4 = numL (sumN (b.drop 4)) 4 := by
      conv => lhs; rw [← e]
      rw [List.take_left' (numL_length _ 4)]
    rw [e1, val_num]
    exact Nat.mod_eq_of_lt (sumN_lt _)
theorem sealed_seal (b : List UInt8) : sealed (sealL b) = true := by
  rw [sealed_iff (by rw [sealL_length]; omega)]
  have : (sealL b).drop 4 = b := by unfold sealL; rw [List.drop_left' (numL_length _ 4)]
  rw [this]
/-- One byte turned: they stand behind their sum no more. -/
theorem sealed_turned {b : List UInt8} (hb : sealed b = true) (h4 : 4 ≤ b.length) {k : Nat} (hk : k < b.length) {x : UInt8} (hx : b[k]? ≠ some x) : sealed (b.set k x) = false := by
  cases hs : sealed (b.set k x) with
  | false => rfl
  | true =>
    exfalso
    rw [sealed_iff h4] at hb
    rw [sealed_iff (by rw [List.length_set]; exact h4)] at hs
    have hk' : b[k]? = some b[k] := List.getElem?_eq_getElem hk
    by_cases q : k < 4
    · have e1 : (b.set k x).drop 4 = b.drop 4 := by rw [List.drop_set, if_pos q]
      rw [e1, hb] at hs
      apply hx
      rw [hs, List.getElem?_set_self hk]
    · have e1 : (b.set k x).drop 4 = (b.drop 4).set (k - 4) x := by rw [List.drop_set, if_neg q]
      have e2 : (b.set k x).take 4 = b.take 4 := by rw [List.take_set_of_le (by omega)]
      have t1 : numL (sumN (b.drop 4)) 4 = b.take 4 := by
        have := congrArg (List.take 4) hb
        rwa [sealL, List.take_left' (numL_length _ 4)] at this
      have t2 : numL (sumN ((b.drop 4).set (k - 4) x)) 4 = b.take 4 := by
        have := congrArg (List.take 4) hs
        rwa [sealL, List.take_left' (numL_length _ 4), e1, e2] at this
      have t3 : sumN (b.drop 4) = sumN ((b.drop 4).set (k - 4) x) := by
        have h1 := congrArg valN (t1.trans t2.symm)
        rw [val_num, val_num, Nat.mod_eq_of_lt (sumN_lt _), Nat.mod_eq_of_lt (sumN_lt _)] at h1
        exact h1
      have hk4 : k - 4 < (b.drop 4).length := by rw [List.length_drop]; omega
      have e3 : b.drop 4 = (b.drop 4).take (k - 4) ++ (b.drop 4)[k - 4] :: (b.drop 4).drop (k - 4 + 1) := by
        rw [← List.drop_eq_getElem_cons hk4, List.take_append_drop]
      have e4 : (b.drop 4).set (k - 4) x = (b.drop 4).take (k - 4) ++ x :: (b.drop 4).drop (k - 4 + 1) := List.set_eq_take_append_cons_drop.trans (by rw [if_pos hk4])
      rw [e4] at t3
      conv at t3 => lhs; rw [e3]
      have := sumN_one _ _ t3
      apply hx
      rw [hk', ← this, List.getElem_drop]
      congr 2
      omega
end Go.Proofs.Ytlkffignbjpfcaa
