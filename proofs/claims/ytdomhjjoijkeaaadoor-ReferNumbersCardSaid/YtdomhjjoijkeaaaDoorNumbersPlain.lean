/- Proved here: plain facts: what a reference stands for that is written in digits, in tens or in sixteens; no program is named. -/
import Derived.Test.YtdomhjjoijkeaaaDoorDigits
namespace Go.Proofs.YtdomhjjoijkeaaaDoor
open Go.RowKit

theorem min_step (base a d : Nat) (hb : 1 ≤ base) : min (min a 1114112 * base + d) 1114112 = min (a * base + d) 1114112 := by
  by_cases h : a ≤ 1114112
  · rw [Nat.min_eq_left h]
  · have h1 : min a 1114112 = 1114112 := Nat.min_eq_right (by omega)
    have h2 : 1114112 ≤ 1114112 * base := Nat.le_mul_of_pos_right _ hb
    have h3 : a ≤ a * base := Nat.le_mul_of_pos_right _ hb
    rw [h1, Nat.min_eq_right (by omega), Nat.min_eq_right (by omega)]
theorem numGo_val (t : ByteArray) (base : Nat) (hb : 1 ≤ base) (hb2 : base ≤ 16) (r : List UInt8) : ∀ (l : List UInt8) (pos acc fuel : Nat), t.data.toList.drop pos = l ++ 59 :: r → (∀ y ∈ l, digZ (y.toNat : Int) < base) → t.size ≤ pos + fuel → numGo t base fuel pos (min acc 1114112) = (min (valL base acc l) 1114112, pos + l.length)
  | [], pos, acc, fuel, h, _, _ => by
    obtain ⟨hp, b, _⟩ := by_list h
    rw [numGo_end _ _ _ _ _ (by
      rintro ⟨_, e⟩
      rw [b, show ((59 : UInt8).toNat : Int) = 59 from rfl] at e
      have : digZ 59 = 16 := by decide
      omega)]
    rfl
  | x :: l, pos, acc, fuel, h, hd, hf => by
    obtain ⟨hp, b, h2⟩ := by_list h
    obtain ⟨fuel, rfl⟩ : ∃ f, fuel = f + 1 := ⟨fuel - 1, by omega⟩
    have hx := hd x (by simp)
    have hz := digZ_bd (x.toNat : Int)
    rw [numGo_step _ _ _ _ _ hp (by rw [b]; exact hx), b, min_step base acc _ hb]
    rw [numGo_val t base hb hb2 r l (pos + 1) _ fuel h2 (fun y hy => hd y (by simp [hy])) (by omega)]
    show (_, pos + 1 + l.length) = (_, pos + (l.length + 1))
    rw [show pos + 1 + l.length = pos + (l.length + 1) by omega]
    rfl
/-- What is told of a number. -/
def numSays (n pos : Nat) : Int × Int × Int := if charB (n : Int) = true then ((n : Int), (pos : Int), 0) else (0, 0, 21)
theorem char_big {n : Nat} (h : ¬ n ≤ 1114111) : charB (n : Int) = false := by
  unfold charB
  rw [decide_eq_false_iff_not]
  omega
theorem numOut_val (t : ByteArray) (first : Nat) (l r : List UInt8) (n : Nat) (h : t.data.toList.drop first = l ++ 59 :: r) (hl : 0 < l.length) : numOut t first (min n 1114112, first + l.length) = numSays n (first + l.length + 1) := by
  have h2 : t.data.toList.drop (first + l.length) = 59 :: r := by rw [← List.drop_drop, h]; simp
  obtain ⟨hp, b, _⟩ := by_list h2
  unfold numOut numSays
  rw [if_neg (by simp only [not_or]; refine ⟨by omega, by omega, ?_⟩; rw [b]; decide)]
  simp only
  by_cases hn : n ≤ 1114111
  · rw [Nat.min_eq_left (by omega)]
    rfl
  · rw [Nat.min_eq_right (by omega), if_neg (by decide), if_neg (by rw [char_big hn]; decide)]
theorem exp_ten (t : ByteArray) (pos n : Nat) (l r : List UInt8) (h : t.data.toList.drop pos = 38 :: 35 :: (l ++ 59 :: r)) (hl : 0 < l.length) (hd : ∀ y ∈ l, digZ (y.toNat : Int) < (10 : Nat)) (hv : valL 10 0 l = n) : expF t pos = numSays n (pos + 2 + l.length + 1) := by
  obtain ⟨l0, b0, h1⟩ := by_list h
  obtain ⟨l1, b1, h2⟩ := by_list h1
  have hx : ¬ (pos + 2 < t.size ∧ by_ t (pos + 2) = 120) := by
    rintro ⟨_, e⟩
    cases l with
    | nil => cases hl
    | cons x l =>
      obtain ⟨_, b2, _⟩ := by_list h2
      have := hd x (by simp)
      rw [← b2, show pos + 1 + 1 = pos + 2 from rfl, e] at this
      revert this
      decide
  unfold expF
  rw [if_pos ⟨l1, b1⟩]
  unfold numF
  rw [if_neg hx]
  have := numGo_val t 10 (by decide) (by decide) r l (pos + 2) 0 t.size h2 hd (by omega)
  rw [show min 0 1114112 = 0 from rfl] at this
  rw [this, hv, numOut_val t (pos + 2) l r n h2 hl]
theorem exp_sixteen (t : ByteArray) (pos n : Nat) (l r : List UInt8) (h : t.data.toList.drop pos = 38 :: 35 :: 120 :: (l ++ 59 :: r)) (hl : 0 < l.length) (hd : ∀ y ∈ l, digZ (y.toNat : Int) < (16 : Nat)) (hv : valL 16 0 l = n) : expF t pos = numSays n (pos + 3 + l.length + 1) := by
  obtain ⟨l0, b0, h1⟩ := by_list h
  obtain ⟨l1, b1, h2⟩ := by_list h1
  obtain ⟨l2, b2, h3⟩ := by_list h2
  unfold expF
  rw [if_pos ⟨l1, b1⟩]
  unfold numF
  rw [if_pos ⟨l2, b2⟩]
  have := numGo_val t 16 (by decide) (by decide) r l (pos + 3) 0 t.size h3 hd (by omega)
  rw [show min 0 1114112 = 0 from rfl] at this
  rw [show pos + 2 + 1 = pos + 3 from rfl, this, hv, numOut_val t (pos + 3) l r n h3 hl]
end Go.Proofs.YtdomhjjoijkeaaaDoor
