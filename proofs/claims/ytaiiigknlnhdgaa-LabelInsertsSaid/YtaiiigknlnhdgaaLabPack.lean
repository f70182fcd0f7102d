/- Proved here: bits as bytes, and bytes as bits; which of two rows of bytes stands ahead; no program is named. -/
import Derived.Test.YtaiiigknlnhdgaaLabPlain
namespace Go.Proofs.Ytaiiigknlnhdgaa

def b2n (b : Bool) : Nat := if b then 1 else 0
/-- Eight bits as a byte. -/
def byte8 (f : Nat → Bool) : Nat := 128 * b2n (f 0) + 64 * b2n (f 1) + 32 * b2n (f 2) + 16 * b2n (f 3) + 8 * b2n (f 4) + 4 * b2n (f 5) + 2 * b2n (f 6) + b2n (f 7)
theorem byte8_lt (f : Nat → Bool) : byte8 f < 256 := by
  unfold byte8 b2n
  split <;> split <;> split <;> split <;> split <;> split <;> split <;> split <;> omega
/-- The byte at a place of a row of bits, filled with 0. -/
def packAt (bs : List Bool) (j : Nat) : Nat := byte8 (fun i => bs.getD (8 * j + i) false)
def packB (bs : List Bool) : List Nat := (List.range ((bs.length + 7) / 8)).map (packAt bs)
theorem packB_length (bs : List Bool) : (packB bs).length = (bs.length + 7) / 8 := by simp [packB]
theorem packB_getD (bs : List Bool) (j : Nat) (h : j < (bs.length + 7) / 8) : (packB bs).getD j 0 = packAt bs j := by
  simp [packB, List.getD, List.getElem?_range h]
theorem packB_lt (bs : List Bool) : ∀ x ∈ packB bs, x < 256 := by
  intro x hx
  simp only [packB, List.mem_map] at hx
  obtain ⟨j, _, rfl⟩ := hx
  exact byte8_lt _
theorem byte8_same {f g : Nat → Bool} (h : ∀ i, i < 8 → f i = g i) : byte8 f = byte8 g := by
  unfold byte8
  rw [h 0 (by decide), h 1 (by decide), h 2 (by decide), h 3 (by decide), h 4 (by decide), h 5 (by decide), h 6 (by decide), h 7 (by decide)]
theorem getD_app_lt (bs : List Bool) (x : List Bool) (i : Nat) (h : i < bs.length) : (bs ++ x).getD i false = bs.getD i false := by
  simp [List.getD, List.getElem?_append_left h]
theorem getD_app_ge (bs : List Bool) (x : List Bool) (i : Nat) (h : bs.length ≤ i) : (bs ++ x).getD i false = x.getD (i - bs.length) false := by
  simp [List.getD, List.getElem?_append_right h]
theorem getD_over (bs : List Bool) (i : Nat) (h : bs.length ≤ i) : bs.getD i false = false := by
  simp [List.getD, List.getElem?_eq_none h]
/-- A bit more: the other bytes stay. -/
theorem packAt_far (bs : List Bool) (b : Bool) (j : Nat) (h : j ≠ bs.length / 8) : packAt (bs ++ [b]) j = packAt bs j := by
  refine byte8_same fun i hi => ?_
  by_cases h1 : 8 * j + i < bs.length
  · exact getD_app_lt _ _ _ h1
  · rw [getD_app_ge _ _ _ (by omega), getD_over bs _ (by omega)]
    have : 8 * j + i - bs.length ≠ 0 := by omega
    obtain ⟨k, hk⟩ : ∃ k, 8 * j + i - bs.length = k + 1 := ⟨8 * j + i - bs.length - 1, by omega⟩
    rw [hk]; rfl
theorem or_bit : ∀ (r : Nat), r < 8 → ∀ (f0 f1 f2 f3 f4 f5 f6 b : Bool),
    byte8 (fun i => if i < r then [f0, f1, f2, f3, f4, f5, f6].getD i false else false) ||| (b2n b <<< (7 - r)) =
    byte8 (fun i => if i < r then [f0, f1, f2, f3, f4, f5, f6].getD i false else if i = r then b else false) := by decide +kernel
/-- A bit more: its own byte. -/
theorem packAt_near (bs : List Bool) (b : Bool) : packAt (bs ++ [b]) (bs.length / 8) = packAt bs (bs.length / 8) ||| (b2n b <<< (7 - bs.length % 8)) := by
  have hr : bs.length % 8 < 8 := Nat.mod_lt _ (by decide)
  generalize hd : bs.length / 8 = d
  generalize hm : bs.length % 8 = r at hr
  have hn : bs.length = 8 * d + r := by omega
  have e1 : packAt bs d = byte8 (fun i => if i < r then [bs.getD (8 * d) false, bs.getD (8 * d + 1) false, bs.getD (8 * d + 2) false, bs.getD (8 * d + 3) false, bs.getD (8 * d + 4) false, bs.getD (8 * d + 5) false, bs.getD (8 * d + 6) false].getD i false else false) := by
    refine byte8_same fun i hi => ?_
    by_cases h1 : i < r
    · rw [if_pos h1]
      rcases (show i = 0 ∨ i = 1 ∨ i = 2 ∨ i = 3 ∨ i = 4 ∨ i = 5 ∨ i = 6 by omega) with rfl | rfl | rfl | rfl | rfl | rfl | rfl <;> rfl
    · rw [if_neg h1, getD_over bs _ (by omega)]
  have e2 : packAt (bs ++ [b]) d = byte8 (fun i => if i < r then [bs.getD (8 * d) false, bs.getD (8 * d + 1) false, bs.getD (8 * d + 2) false, bs.getD (8 * d + 3) false, bs.getD (8 * d + 4) false, bs.getD (8 * d + 5) false, bs.getD (8 * d + 6) false].getD i false else if i = r then b else false) := by
    refine byte8_same fun i hi => ?_
    by_cases h1 : i < r
    · rw [if_pos h1, getD_app_lt _ _ _ (by omega)]
      rcases (show i = 0 ∨ i = 1 ∨ i = 2 ∨ i = 3 ∨ i = 4 ∨ i = 5 ∨ i = 6 by omega) with rfl | rfl | rfl | rfl | rfl | rfl | rfl <;> rfl
    · rw [if_neg h1, getD_app_ge _ _ _ (by omega)]
      by_cases h2 : i = r
      · rw [if_pos h2, show 8 * d + i - bs.length = 0 by omega]; rfl
      · rw [if_neg h2]
        obtain ⟨k, hk⟩ : ∃ k, 8 * d + i - bs.length = k + 1 := ⟨8 * d + i - bs.length - 1, by omega⟩
        rw [hk]; rfl
  rw [e1, e2]
  exact (or_bit r hr _ _ _ _ _ _ _ b).symm
theorem packAt_zero (bs : List Bool) (j : Nat) (h : bs.length ≤ 8 * j) : packAt bs j = 0 := by
  have e : packAt bs j = byte8 (fun _ => false) := byte8_same fun i _ => getD_over bs _ (by omega)
  rw [e]; rfl

/-! ## bytes as bits -/
def bitAt (l : List Nat) (i : Nat) : Bool := (l.getD (i / 8) 0).testBit (7 - i % 8)
def unpackB (l : List Nat) : List Bool := (List.range (8 * l.length)).map (bitAt l)
theorem unpackB_length (l : List Nat) : (unpackB l).length = 8 * l.length := by simp [unpackB]
theorem unpackB_get (l : List Nat) (i : Nat) (h : i < 8 * l.length) : (unpackB l).getD i false = bitAt l i := by
  simp [unpackB, List.getD, List.getElem?_range h]
theorem byte8_bit : ∀ (r : Nat), r < 8 → ∀ (f0 f1 f2 f3 f4 f5 f6 f7 : Bool),
    (byte8 (fun i => [f0, f1, f2, f3, f4, f5, f6, f7].getD i false)).testBit (7 - r) = [f0, f1, f2, f3, f4, f5, f6, f7].getD r false := by decide +kernel
theorem packAt_bit (bs : List Bool) (j r : Nat) (hr : r < 8) : (packAt bs j).testBit (7 - r) = bs.getD (8 * j + r) false := by
  have e : packAt bs j = byte8 (fun i => [bs.getD (8 * j) false, bs.getD (8 * j + 1) false, bs.getD (8 * j + 2) false, bs.getD (8 * j + 3) false, bs.getD (8 * j + 4) false, bs.getD (8 * j + 5) false, bs.getD (8 * j + 6) false, bs.getD (8 * j + 7) false].getD i false) := by
    refine byte8_same fun i hi => ?_
    rcases (show i = 0 ∨ i = 1 ∨ i = 2 ∨ i = 3 ∨ i = 4 ∨ i = 5 ∨ i = 6 ∨ i = 7 by omega) with rfl | rfl | rfl | rfl | rfl | rfl | rfl | rfl <;> rfl
  rw [e, byte8_bit r hr]
  rcases (show r = 0 ∨ r = 1 ∨ r = 2 ∨ r = 3 ∨ r = 4 ∨ r = 5 ∨ r = 6 ∨ r = 7 by omega) with rfl | rfl | rfl | rfl | rfl | rfl | rfl | rfl <;> rfl
/-- What is packed is unpacked, but for what fills the last byte. -/
theorem unpack_pack (bs : List Bool) : unpackB (packB bs) = bs ++ List.replicate (8 * ((bs.length + 7) / 8) - bs.length) false := by
  have hl : (unpackB (packB bs)).length = 8 * ((bs.length + 7) / 8) := by rw [unpackB_length, packB_length]
  apply List.ext_getElem
  · rw [hl, List.length_append, List.length_replicate]; omega
  · intro i h1 h2
    rw [hl] at h1
    have e1 : (unpackB (packB bs))[i]'(by rw [hl]; exact h1) = (unpackB (packB bs)).getD i false := by simp [List.getD, List.getElem?_eq_getElem (by rw [hl]; exact h1)]
    have e2 : (bs ++ List.replicate (8 * ((bs.length + 7) / 8) - bs.length) false)[i]'h2 = (bs ++ List.replicate (8 * ((bs.length + 7) / 8) - bs.length) false).getD i false := by simp [List.getD, List.getElem?_eq_getElem h2]
    rw [e1, e2, unpackB_get _ _ (by rw [packB_length]; exact h1)]
    unfold bitAt
    rw [packB_getD _ _ (by omega), packAt_bit _ _ _ (Nat.mod_lt _ (by decide)), show 8 * (i / 8) + i % 8 = i by omega]
    by_cases h3 : i < bs.length
    · rw [getD_app_lt _ _ _ h3]
    · rw [getD_app_ge _ _ _ (by omega), getD_over bs _ (by omega)]
      simp only [List.getD, List.getElem?_replicate]
      split <;> rfl

/-! ## which stands ahead -/
/-- Two rows of bytes. -/
def cmpNs : List Nat → List Nat → Int := cmpLs (fun x y : Nat => cmpI x y)
theorem cmpNs_at : ∀ (u v : List Nat) (j : Nat), (∀ i, i < j → u.getD i 0 = v.getD i 0) → j ≤ u.length → j < v.length → (j < u.length → u.getD j 0 < v.getD j 0) → cmpNs u v = -1
  | [], [], j, _, _, h, _ => by simp at h
  | [], _ :: _, _, _, _, _, _ => rfl
  | _ :: _, [], _, _, _, h, _ => by simp at h
  | x :: u, y :: v, 0, _, _, _, h => by
    have h1 : x < y := by simpa using h (by simp)
    show lexI (cmpI x y) _ = -1
    have e : cmpI (x : Int) (y : Int) = -1 := by unfold cmpI; rw [if_pos (by omega)]
    rw [e]; rfl
  | x :: u, y :: v, j + 1, h1, h2, h3, h4 => by
    have e0 : x = y := by simpa using h1 0 (by omega)
    have ih := cmpNs_at u v j (fun i hi => by simpa using h1 (i + 1) (by omega)) (by simpa using h2) (by simpa using h3) (fun h => by simpa using h4 (by simpa using h))
    show lexI (cmpI x y) (cmpLs _ u v) = -1
    have e : cmpI (x : Int) (y : Int) = 0 := by subst e0; simp [cmpI]
    rw [e]
    exact ih
theorem byte8_less : ∀ (r : Nat), r < 8 → ∀ (f g : Nat → Bool), (∀ i, i < r → f i = g i) → f r = false → g r = true → byte8 f < byte8 g := by
  intro r hr f g h hf hg
  unfold byte8
  have hb : ∀ b, b2n b ≤ 1 := fun b => by cases b <;> decide
  have b0 := hb (f 0); have b1 := hb (f 1); have b2 := hb (f 2); have b3 := hb (f 3); have b4 := hb (f 4); have b5 := hb (f 5); have b6 := hb (f 6); have b7 := hb (f 7)
  have e0 : b2n (f r) = 0 := by rw [hf]; rfl
  have e1 : b2n (g r) = 1 := by rw [hg]; rfl
  rcases (show r = 0 ∨ r = 1 ∨ r = 2 ∨ r = 3 ∨ r = 4 ∨ r = 5 ∨ r = 6 ∨ r = 7 by omega) with rfl | rfl | rfl | rfl | rfl | rfl | rfl | rfl
  · omega
  · rw [h 0 (by omega)]; omega
  · rw [h 0 (by omega), h 1 (by omega)]; omega
  · rw [h 0 (by omega), h 1 (by omega), h 2 (by omega)]; omega
  · rw [h 0 (by omega), h 1 (by omega), h 2 (by omega), h 3 (by omega)]; omega
  · rw [h 0 (by omega), h 1 (by omega), h 2 (by omega), h 3 (by omega), h 4 (by omega)]; omega
  · rw [h 0 (by omega), h 1 (by omega), h 2 (by omega), h 3 (by omega), h 4 (by omega), h 5 (by omega)]; omega
  · rw [h 0 (by omega), h 1 (by omega), h 2 (by omega), h 3 (by omega), h 4 (by omega), h 5 (by omega), h 6 (by omega)]; omega
/-- The first bit that differs says it. -/
theorem pack_less (a b : List Bool) (p : Nat) (h : ∀ i, i < p → a.getD i false = b.getD i false) (ha : a.getD p false = false) (hb : b.getD p false = true) : cmpNs (packB a) (packB b) = -1 := by
  have hp : p < b.length := by
    rcases Nat.lt_or_ge p b.length with h1 | h1
    · exact h1
    · rw [getD_over b p h1] at hb; cases hb
  have same : ∀ i, i < p / 8 → packAt a i = packAt b i := fun i hi => byte8_same fun k hk => h _ (by omega)
  have less : packAt a (p / 8) < packAt b (p / 8) := by
    refine byte8_less (p % 8) (Nat.mod_lt _ (by decide)) _ _ (fun i hi => h _ (by omega)) ?_ ?_
    · show a.getD (8 * (p / 8) + p % 8) false = false
      rw [show 8 * (p / 8) + p % 8 = p by omega]; exact ha
    · show b.getD (8 * (p / 8) + p % 8) false = true
      rw [show 8 * (p / 8) + p % 8 = p by omega]; exact hb
  by_cases hj : p / 8 ≤ (a.length + 7) / 8
  · refine cmpNs_at _ _ (p / 8) (fun i hi => ?_) (by rw [packB_length]; exact hj) (by rw [packB_length]; omega) (fun h1 => ?_)
    · rw [packB_getD _ _ (by omega), packB_getD _ _ (by omega), same i hi]
    · rw [packB_length] at h1
      rw [packB_getD _ _ h1, packB_getD _ _ (by omega)]; exact less
  · refine cmpNs_at _ _ ((a.length + 7) / 8) (fun i hi => ?_) (by rw [packB_length]; exact Nat.le_refl _) (by rw [packB_length]; omega) (fun h1 => ?_)
    · rw [packB_getD _ _ (by omega), packB_getD _ _ (by omega), same i (by omega)]
    · rw [packB_length] at h1; omega

/-! ## numbers' bits -/
/-- One row of bits stands ahead of another one at some place. -/
def LtB (a b : List Bool) : Prop := ∃ c x y, a = c ++ false :: x ∧ b = c ++ true :: y
theorem LtB.cons {a b : List Bool} (t : Bool) (h : LtB a b) : LtB (t :: a) (t :: b) := by
  obtain ⟨c, x, y, rfl, rfl⟩ := h
  exact ⟨t :: c, x, y, rfl, rfl⟩
theorem LtB.pre {a b : List Bool} (c : List Bool) (h : LtB a b) : LtB (c ++ a) (c ++ b) := by
  obtain ⟨d, x, y, rfl, rfl⟩ := h
  exact ⟨c ++ d, x, y, by simp, by simp⟩
theorem low_less (n m : Nat) : ∀ k, n % 2 ^ k < m % 2 ^ k → LtB (lowB n k) (lowB m k) ∧ LtB ((lowB m k).map (fun b => b == false)) ((lowB n k).map (fun b => b == false))
  | 0, h => by simp [Nat.mod_one] at h
  | k + 1, h => by
    have e : ∀ n, n % 2 ^ (k + 1) = (if n.testBit k then 1 else 0) * 2 ^ k + n % 2 ^ k := by
      intro n
      rw [Nat.testBit_eq_decide_div_mod_eq, Nat.pow_succ, Nat.mod_mul]
      rcases Nat.mod_two_eq_zero_or_one (n / 2 ^ k) with h | h <;> simp [h] <;> omega
    rw [e n, e m] at h
    have hn : n % 2 ^ k < 2 ^ k := Nat.mod_lt _ (Nat.two_pow_pos k)
    have hm : m % 2 ^ k < 2 ^ k := Nat.mod_lt _ (Nat.two_pow_pos k)
    rw [lowB, lowB, List.map_cons, List.map_cons]
    cases h1 : n.testBit k <;> cases h2 : m.testBit k <;> rw [h1, h2] at h <;> simp only [Bool.false_eq_true, if_false, if_true, Nat.zero_mul, Nat.one_mul, Nat.zero_add] at h
    · obtain ⟨i1, i2⟩ := low_less n m k h
      exact ⟨i1.cons _, i2.cons _⟩
    · exact ⟨⟨[], _, _, rfl, rfl⟩, ⟨[], _, _, rfl, rfl⟩⟩
    · omega
    · obtain ⟨i1, i2⟩ := low_less n m k (by omega)
      exact ⟨i1.cons _, i2.cons _⟩
theorem map_true (l : List Bool) : l.map (fun b => b == true) = l := by simp
theorem bitsV_less {v w : Int} (hv : InB v) (hw : InB w) (h : v < w) : LtB (bitsV v) (bitsV w) := by
  have hpv := rowN_pos v
  have hpw := rowN_pos w
  have h31 : (2 : Nat) ^ 31 < 2 ^ 64 := by decide
  have bv := digN_bounds hpv (by have := rowN_small hv; omega)
  have bw := digN_bounds hpw (by have := rowN_small hw; omega)
  obtain ⟨kv, hkv⟩ : ∃ k, digN (rowN v) = k + 1 := ⟨digN (rowN v) - 1, by have := digN_31 hv; omega⟩
  obtain ⟨kw, hkw⟩ : ∃ k, digN (rowN w) = k + 1 := ⟨digN (rowN w) - 1, by have := digN_31 hw; omega⟩
  rw [hkv, Nat.add_sub_cancel] at bv
  rw [hkw, Nat.add_sub_cancel] at bw
  unfold bitsV
  rw [hkv, hkw, Nat.add_sub_cancel, Nat.add_sub_cancel]
  by_cases q : 0 ≤ v
  · have q2 : 0 ≤ w := by omega
    have hrow : rowN v < rowN w := by unfold rowN; rw [if_neg (by omega), if_neg (by omega)]; omega
    rw [decide_eq_true q, decide_eq_true q2, decide_eq_false (show ¬ v < 0 by omega), decide_eq_false (show ¬ w < 0 by omega), map_true, map_true]
    have hle : kv ≤ kw := by
      rcases Nat.lt_or_ge kw kv with h1 | h1
      · have : 2 ^ (kw + 1) ≤ 2 ^ kv := Nat.pow_le_pow_right (by decide) (by omega)
        omega
      · exact h1
    rcases Nat.eq_or_lt_of_le hle with rfl | hlt
    · refine LtB.pre _ (LtB.cons _ (low_less _ _ _ ?_).1)
      have h1 : 2 ^ (kv + 1) = 2 * 2 ^ kv := Nat.pow_succ'
      rw [Nat.mod_eq_sub_mod bv.1, Nat.mod_eq_sub_mod bw.1, Nat.mod_eq_of_lt (by omega), Nat.mod_eq_of_lt (by omega)]
      omega
    · refine ⟨List.replicate (kv + 1) true, lowB (rowN v) kv, List.replicate (kw - kv - 1) true ++ false :: lowB (rowN w) kw, rfl, ?_⟩
      rw [show kw + 1 = (kv + 1) + ((kw - kv - 1) + 1) by omega, ← List.replicate_append_replicate, List.append_assoc, List.replicate_succ (n := kw - kv - 1), List.cons_append]
  · by_cases q2 : 0 ≤ w
    · rw [decide_eq_false q, decide_eq_true q2]
      exact ⟨[], _, _, by rw [List.replicate_succ]; rfl, by rw [List.replicate_succ]; rfl⟩
    · have hrow : rowN w < rowN v := by unfold rowN; rw [if_pos (by omega), if_pos (by omega)]; omega
      rw [decide_eq_false q, decide_eq_false q2, decide_eq_true (show v < 0 by omega), decide_eq_true (show w < 0 by omega)]
      have hle : kw ≤ kv := by
        rcases Nat.lt_or_ge kv kw with h1 | h1
        · have : 2 ^ (kv + 1) ≤ 2 ^ kw := Nat.pow_le_pow_right (by decide) (by omega)
          omega
        · exact h1
      rcases Nat.eq_or_lt_of_le hle with rfl | hlt
      · refine LtB.pre _ (LtB.cons _ (low_less _ _ _ ?_).2)
        have h1 : 2 ^ (kw + 1) = 2 * 2 ^ kw := Nat.pow_succ'
        rw [Nat.mod_eq_sub_mod bv.1, Nat.mod_eq_sub_mod bw.1, Nat.mod_eq_of_lt (by omega), Nat.mod_eq_of_lt (by omega)]
        omega
      · refine ⟨List.replicate (kw + 1) false, List.replicate (kv - kw - 1) false ++ true :: (lowB (rowN v) kv).map (fun b => b == false), (lowB (rowN w) kw).map (fun b => b == false), ?_, rfl⟩
        rw [show kv + 1 = (kw + 1) + ((kv - kw - 1) + 1) by omega, ← List.replicate_append_replicate, List.append_assoc, List.replicate_succ (n := kv - kw - 1), List.cons_append]
/-- No number's bits are noughts alone. -/
theorem bitsV_one {v : Int} (hv : InB v) : ∃ p, (∀ i, i < p → (bitsV v).getD i false = false) ∧ (bitsV v).getD p false = true := by
  obtain ⟨k, hk⟩ : ∃ k, digN (rowN v) = k + 1 := ⟨digN (rowN v) - 1, by have := digN_31 hv; omega⟩
  unfold bitsV
  rw [hk]
  by_cases q : 0 ≤ v
  · refine ⟨0, fun i hi => by omega, ?_⟩
    rw [decide_eq_true q, List.replicate_succ]; rfl
  · refine ⟨k + 1, fun i hi => ?_, ?_⟩
    · rw [decide_eq_false q, getD_app_lt _ _ _ (by simpa using hi)]
      simp [List.getD, hi]
    · rw [getD_app_ge _ _ _ (by simp), List.length_replicate, Nat.sub_self, decide_eq_true (show v < 0 by omega)]; rfl
/-- The first bit at which two labels' bits differ. -/
theorem bitsL_less : ∀ (l m : List Int), (∀ v ∈ l, InB v) → (∀ v ∈ m, InB v) → cmpN l m = -1 →
    ∃ p, (∀ i, i < p → (bitsL l).getD i false = (bitsL m).getD i false) ∧ (bitsL l).getD p false = false ∧ (bitsL m).getD p false = true
  | [], [], _, _, h => by simp [cmpN, cmpLs] at h
  | _ :: _, [], _, _, h => by simp [cmpN, cmpLs] at h
  | [], w :: m, _, hm, _ => by
    obtain ⟨p, h1, h2⟩ := bitsV_one (hm w (by simp))
    have hp : p < (bitsV w).length := by
      rcases Nat.lt_or_ge p (bitsV w).length with h | h
      · exact h
      · rw [getD_over _ _ h] at h2; cases h2
    have e : bitsL (w :: m) = bitsV w ++ bitsL m := rfl
    refine ⟨p, fun i hi => ?_, rfl, ?_⟩
    · rw [e, getD_app_lt _ _ _ (by omega), h1 i hi]; rfl
    · rw [e, getD_app_lt _ _ _ hp]; exact h2
  | v :: l, w :: m, hl, hm, h => by
    have e1 : bitsL (v :: l) = bitsV v ++ bitsL l := rfl
    have e2 : bitsL (w :: m) = bitsV w ++ bitsL m := rfl
    have hs : lexI (cmpI v w) (cmpN l m) = -1 := h
    have r := cmpI_ord.rng v w
    by_cases q : cmpI v w = 0
    · have hvw : v = w := by unfold cmpI at q; split at q <;> (try split at q) <;> omega
      subst hvw
      unfold lexI at hs
      rw [if_pos q] at hs
      obtain ⟨p, h1, h2, h3⟩ := bitsL_less l m (fun x hx => hl x (by simp [hx])) (fun x hx => hm x (by simp [hx])) hs
      refine ⟨(bitsV v).length + p, fun i hi => ?_, ?_, ?_⟩
      · rw [e1, e2]
        by_cases q2 : i < (bitsV v).length
        · rw [getD_app_lt _ _ _ q2, getD_app_lt _ _ _ q2]
        · rw [getD_app_ge _ _ _ (by omega), getD_app_ge _ _ _ (by omega)]; exact h1 _ (by omega)
      · rw [e1, getD_app_ge _ _ _ (by omega), Nat.add_sub_cancel_left]; exact h2
      · rw [e2, getD_app_ge _ _ _ (by omega), Nat.add_sub_cancel_left]; exact h3
    · unfold lexI at hs
      rw [if_neg q] at hs
      have hvw : v < w := by unfold cmpI at hs; split at hs <;> (try split at hs) <;> omega
      obtain ⟨c, x, y, f1, f2⟩ := bitsV_less (hl v (by simp)) (hm w (by simp)) hvw
      rw [e1, e2, f1, f2, List.append_assoc, List.append_assoc]
      refine ⟨c.length, fun i hi => ?_, ?_, ?_⟩
      · rw [getD_app_lt _ _ _ hi, getD_app_lt _ _ _ hi]
      · rw [getD_app_ge _ _ _ (Nat.le_refl _), Nat.sub_self]; rfl
      · rw [getD_app_ge _ _ _ (Nat.le_refl _), Nat.sub_self]; rfl
/-- THE BYTES OF TWO LABELS STAND AS THE LABELS DO. -/
theorem bytes_order (l m : List Int) (hl : ∀ v ∈ l, InB v) (hm : ∀ v ∈ m, InB v) : cmpNs (packB (bitsL l)) (packB (bitsL m)) = cmpN l m := by
  have hnat : IsOrd cmpNs := cmpLs_ord (cmpI_ord.via fun x : Nat => (x : Int))
  rcases cmpN_ord.rng l m with h | h | h
  · obtain ⟨p, h1, h2, h3⟩ := bitsL_less l m hl hm h
    rw [h]; exact pack_less _ _ p h1 h2 h3
  · obtain rfl := cmpN_same _ _ h
    rw [h]
    have := hnat.anti (packB (bitsL l)) (packB (bitsL l))
    omega
  · have h' : cmpN m l = -1 := by have := cmpN_ord.anti l m; omega
    obtain ⟨p, h1, h2, h3⟩ := bitsL_less m l hm hl h'
    have e := pack_less _ _ p h1 h2 h3
    have := hnat.anti (packB (bitsL m)) (packB (bitsL l))
    rw [h]; omega
end Go.Proofs.Ytaiiigknlnhdgaa
