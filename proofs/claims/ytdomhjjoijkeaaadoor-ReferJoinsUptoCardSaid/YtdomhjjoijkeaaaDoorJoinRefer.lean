/- Proved here: plain facts: two texts, or two values, that are right are read as both behind one another, unless ]]> stands across them; no program is named. -/
import Derived.Test.YtdomhjjoijkeaaaDoorStepPlain
import Derived.Test.YtdomhjjoijkeaaaDoorJoinPlain
import Derived.Test.YtdomhjjoijkeaaaDoorWritePlain
namespace Go.Proofs.YtdomhjjoijkeaaaDoor
open Go.RowKit

/-- A step's answer, so much farther on. -/
def farther (n : Nat) (r : Int × Int × Int) : Int × Int × Int := if r.2.2 = 0 then (r.1, (n : Int) + r.2.1, 0) else r
theorem by_left (a b : ByteArray) (j : Nat) (h : j < a.size) : by_ (a ++ b) j = by_ a j := by unfold by_; rw [get!_left a b j h]
theorem by_right (a b : ByteArray) (j : Nat) : by_ (a ++ b) (a.size + j) = by_ b j := by unfold by_; rw [get!_right a b j]
theorem size_cat (a b : ByteArray) : (a ++ b).size = a.size + b.size := ByteArray.size_append
theorem drop_left (a b : ByteArray) (pos : Nat) (h : pos ≤ a.size) : (a ++ b).data.toList.drop pos = a.data.toList.drop pos ++ b.data.toList := by
  have e : (a ++ b).data.toList = a.data.toList ++ b.data.toList := by simp
  rw [e, List.drop_append_of_le_length (by simpa using h)]
theorem drop_right (a b : ByteArray) (pos : Nat) : (a ++ b).data.toList.drop (a.size + pos) = b.data.toList.drop pos := by
  have e : (a ++ b).data.toList = a.data.toList ++ b.data.toList := by simp
  rw [e, show a.size + pos = a.data.toList.length + pos by simp, List.drop_append]
  simp
/-- Numbers. -/
theorem numGo_fuel (s : ByteArray) (base : Nat) : ∀ (f g pos n : Nat), s.size ≤ pos + f → s.size ≤ pos + g → numGo s base f pos n = numGo s base g pos n := by
  intro f
  induction f with
  | zero =>
    intro g pos n h1 h2
    rw [numGo_end s base g pos n (by rintro ⟨e, _⟩; omega), numGo_end s base 0 pos n (by rintro ⟨e, _⟩; omega)]
  | succ f ih =>
    intro g pos n h1 h2
    by_cases h : pos < s.size ∧ digZ (by_ s pos) < base
    · obtain ⟨g, rfl⟩ : ∃ g', g = g' + 1 := ⟨g - 1, by omega⟩
      rw [numGo_step _ _ _ _ _ h.1 h.2, numGo_step _ _ _ _ _ h.1 h.2]
      exact ih g (pos + 1) _ (by omega) (by omega)
    · rw [numGo_end _ _ _ _ _ h, numGo_end _ _ _ _ _ h]
theorem numGo_left (a b : ByteArray) (base : Nat) : ∀ (f g pos n : Nat), a.size ≤ pos + f → (a ++ b).size ≤ pos + g → (numGo a base f pos n).2 < a.size → numGo (a ++ b) base g pos n = numGo a base f pos n := by
  intro f
  induction f with
  | zero =>
    intro g pos n h1 h2 h3
    change pos < a.size at h3
    omega
  | succ f ih =>
    intro g pos n h1 h2 h3
    have hs := size_cat a b
    by_cases hp : pos < a.size
    · by_cases h : digZ (by_ a pos) < base
      · obtain ⟨g, rfl⟩ : ∃ g', g = g' + 1 := ⟨g - 1, by omega⟩
        rw [numGo_step _ _ _ _ _ hp h] at h3 ⊢
        rw [numGo_step _ _ _ _ _ (by omega) (by rw [by_left a b pos hp]; exact h), by_left a b pos hp]
        exact ih g (pos + 1) _ (by omega) (by omega) h3
      · rw [numGo_end a _ _ _ _ (by rintro ⟨_, e⟩; exact h e), numGo_end (a ++ b) _ _ _ _ (by rw [by_left a b pos hp]; rintro ⟨_, e⟩; exact h e)]
    · rw [numGo_end a _ _ _ _ (by rintro ⟨e, _⟩; exact hp e)] at h3
      exact absurd h3 hp
theorem numGo_right (a b : ByteArray) (base : Nat) : ∀ (f pos n : Nat), numGo (a ++ b) base f (a.size + pos) n = ((numGo b base f pos n).1, a.size + (numGo b base f pos n).2) := by
  intro f
  induction f with
  | zero => intro pos n; rfl
  | succ f ih =>
    intro pos n
    have hs := size_cat a b
    by_cases h : pos < b.size ∧ digZ (by_ b pos) < base
    · rw [numGo_step b _ _ _ _ h.1 h.2, numGo_step (a ++ b) _ _ _ _ (by omega) (by rw [by_right]; exact h.2), by_right]
      exact ih (pos + 1) _
    · rw [numGo_end b _ _ _ _ h, numGo_end (a ++ b) _ _ _ _ (by rw [by_right]; rintro ⟨e, g⟩; exact h ⟨by omega, g⟩)]
theorem numOut_fit {s : ByteArray} {first : Nat} {r : Nat × Nat} (h : (numOut s first r).2.2 = 0) : r.2 ≠ first ∧ r.2 ≠ s.size ∧ by_ s r.2 = 59 ∧ charB r.1 = true := by
  unfold numOut at h
  split at h
  · exact absurd h (by decide)
  · rename_i g
    simp only [not_or, ne_eq, Decidable.not_not] at g
    split at h
    · rename_i g2
      exact ⟨g.1, g.2.1, g.2.2, g2⟩
    · exact absurd h (by decide)
theorem numOut_left (a b : ByteArray) (base first : Nat) (hf : first ≤ a.size) (h : (numOut a first (numGo a base a.size first 0)).2.2 = 0) : numOut (a ++ b) first (numGo (a ++ b) base (a ++ b).size first 0) = numOut a first (numGo a base a.size first 0) := by
  obtain ⟨h1, h2, h3, h4⟩ := numOut_fit h
  have hb := numGo_bd a base a.size first 0 hf
  have hs := size_cat a b
  rw [numGo_left a b base a.size (a ++ b).size first 0 (by omega) (by omega) (by omega)]
  generalize numGo a base a.size first 0 = r at *
  have n1 : ¬ (r.2 = first ∨ r.2 = (a ++ b).size ∨ by_ (a ++ b) r.2 ≠ 59) := by
    rw [by_left a b r.2 (by omega)]
    omega
  have n2 : ¬ (r.2 = first ∨ r.2 = a.size ∨ by_ a r.2 ≠ 59) := by omega
  unfold numOut
  rw [if_neg n1, if_neg n2]
theorem numOut_right (a b : ByteArray) (base first : Nat) : numOut (a ++ b) (a.size + first) (numGo (a ++ b) base (a ++ b).size (a.size + first) 0) = farther a.size (numOut b first (numGo b base b.size first 0)) := by
  have hs := size_cat a b
  rw [numGo_right, numGo_fuel b base (a ++ b).size b.size first 0 (by omega) (by omega)]
  generalize numGo b base b.size first 0 = r
  unfold numOut
  simp only [by_right]
  by_cases g : r.2 = first ∨ r.2 = b.size ∨ by_ b r.2 ≠ 59
  · rw [if_pos g, if_pos (by omega)]
    rfl
  · rw [if_neg g, if_neg (by omega)]
    by_cases c : charB (r.1 : Int) = true
    · rw [if_pos c, if_pos c]
      unfold farther
      rw [if_pos rfl]
      simp only [Prod.mk.injEq, and_true, true_and]
      omega
    · rw [if_neg c, if_neg c]
      rfl
/-- Names. -/
theorem words_apart : ∀ i, i < 5 → ∀ j, j < 5 → (wordOf i).data.toList <+: (wordOf j).data.toList → i = j := by decide
theorem words_one {l : List UInt8} {i j : Nat} (hi : i < 5) (hj : j < 5) (h1 : (wordOf i).data.toList <+: l) (h2 : (wordOf j).data.toList <+: l) : i = j := by
  rcases Nat.le_total (wordOf i).data.toList.length (wordOf j).data.toList.length with h | h
  · exact words_apart i hi j hj (List.prefix_of_prefix_length_le h1 h2 h)
  · exact (words_apart j hj i hi (List.prefix_of_prefix_length_le h2 h1 h)).symm
theorem pfx_iff (s : ByteArray) (at_ k : Nat) : pfxB s at_ k = true ↔ (wordOf k).data.toList <+: s.data.toList.drop at_ := by
  unfold pfxB Lib.hasPrefix
  exact List.isPrefixOf_iff_prefix
theorem named_which (s : ByteArray) (at_ : Nat) : ∀ m, m ≤ 5 → (namedGo s at_ m).2.2 = 0 → ∃ k, k < 5 ∧ 5 ≤ k + m ∧ pfxB s at_ k = true ∧ namedGo s at_ m = (charOf k, (at_ : Int) + ((wordOf k).size : Int), 0)
  | 0, _, h => absurd (show (22 : Int) = 0 from h) (by decide)
  | m + 1, hm, h => by
    rw [namedGo] at h ⊢
    by_cases g : pfxB s at_ (4 - m) = true
    · rw [if_pos g]
      exact ⟨4 - m, by omega, by omega, g, rfl⟩
    · rw [if_neg g] at h ⊢
      obtain ⟨k, h1, h2, h3, h4⟩ := named_which s at_ m (by omega) h
      exact ⟨k, h1, by omega, h3, h4⟩
theorem named_is (s : ByteArray) (at_ k : Nat) (hk : k < 5) (h : pfxB s at_ k = true) : ∀ m, m ≤ 5 → 5 ≤ k + m → namedGo s at_ m = (charOf k, (at_ : Int) + ((wordOf k).size : Int), 0)
  | 0, _, h2 => by omega
  | m + 1, hm, h2 => by
    rw [namedGo]
    by_cases g : pfxB s at_ (4 - m) = true
    · have e := words_one hk (by omega) ((pfx_iff s at_ k).1 h) ((pfx_iff s at_ (4 - m)).1 g)
      rw [if_pos g, ← e]
    · rw [if_neg g]
      refine named_is s at_ k hk h m (by omega) ?_
      by_cases e : k = 4 - m
      · rw [e] at h
        exact absurd h g
      · omega
theorem named_right (a b : ByteArray) (at_ : Nat) : ∀ m, namedGo (a ++ b) (a.size + at_) m = farther a.size (namedGo b at_ m)
  | 0 => rfl
  | m + 1 => by
    rw [namedGo, namedGo]
    have e : pfxB (a ++ b) (a.size + at_) (4 - m) = pfxB b at_ (4 - m) := by unfold pfxB; rw [drop_right]
    rw [e]
    split
    · unfold farther
      rw [if_pos rfl]
      simp only [Prod.mk.injEq, and_true, true_and]
      omega
    · exact named_right a b at_ m
/-- References. -/
theorem exp_left (a b : ByteArray) (at_ : Nat) (hat : at_ < a.size) (h : (expF a at_).2.2 = 0) : expF (a ++ b) at_ = expF a at_ := by
  have hs := size_cat a b
  unfold expF at h ⊢
  by_cases g : at_ + 1 < a.size ∧ by_ a (at_ + 1) = 35
  · have g' : at_ + 1 < (a ++ b).size ∧ by_ (a ++ b) (at_ + 1) = 35 := ⟨by omega, by rw [by_left a b _ g.1]; exact g.2⟩
    rw [if_pos g] at h
    rw [if_pos g, if_pos g']
    unfold numF at h ⊢
    by_cases g2 : at_ + 2 < a.size
    · have eb := by_left a b (at_ + 2) g2
      by_cases g3 : by_ a (at_ + 2) = 120
      · have c1 : at_ + 2 < a.size ∧ by_ a (at_ + 2) = 120 := ⟨g2, g3⟩
        have c2 : at_ + 2 < (a ++ b).size ∧ by_ (a ++ b) (at_ + 2) = 120 := ⟨by omega, eb.trans g3⟩
        rw [if_pos c1] at h
        rw [if_pos c1, if_pos c2]
        exact numOut_left a b 16 (at_ + 2 + 1) (by omega) h
      · have c1 : ¬ (at_ + 2 < a.size ∧ by_ a (at_ + 2) = 120) := fun e => g3 e.2
        have c2 : ¬ (at_ + 2 < (a ++ b).size ∧ by_ (a ++ b) (at_ + 2) = 120) := fun e => g3 (eb.symm.trans e.2)
        rw [if_neg c1] at h
        rw [if_neg c1, if_neg c2]
        exact numOut_left a b 10 (at_ + 2) (by omega) h
    · exfalso
      have c1 : ¬ (at_ + 2 < a.size ∧ by_ a (at_ + 2) = 120) := fun e => g2 e.1
      rw [if_neg c1] at h
      obtain ⟨h1, _⟩ := numOut_fit h
      rw [numGo_end _ _ _ _ _ (fun e => g2 e.1)] at h1
      exact h1 rfl
  · rw [if_neg g] at h
    obtain ⟨k, h1, h2, h3, h4⟩ := named_which a at_ 5 (by omega) h
    have hl := pfx_le (s := a) (p := (wordOf k).data.toList) h3
    have hl2 := wordOf_len k
    have g' : ¬ (at_ + 1 < (a ++ b).size ∧ by_ (a ++ b) (at_ + 1) = 35) := fun e => g ⟨by omega, (by_left a b (at_ + 1) (by omega)).symm.trans e.2⟩
    rw [if_neg g, if_neg g', h4]
    refine named_is (a ++ b) at_ k h1 ?_ 5 (by omega) (by omega)
    rw [pfx_iff, drop_left a b at_ (by omega)]
    exact ((pfx_iff a at_ k).1 h3).trans (List.prefix_append _ _)
theorem exp_right (a b : ByteArray) (at_ : Nat) : expF (a ++ b) (a.size + at_) = farther a.size (expF b at_) := by
  have hs := size_cat a b
  have e1 : by_ (a ++ b) (a.size + at_ + 1) = by_ b (at_ + 1) := by_right a b (at_ + 1)
  have e2 : by_ (a ++ b) (a.size + at_ + 2) = by_ b (at_ + 2) := by_right a b (at_ + 2)
  unfold expF
  rw [e1]
  by_cases g : at_ + 1 < b.size ∧ by_ b (at_ + 1) = 35
  · have g' : a.size + at_ + 1 < (a ++ b).size ∧ by_ b (at_ + 1) = 35 := ⟨by omega, g.2⟩
    rw [if_pos g, if_pos g']
    unfold numF
    rw [e2]
    by_cases g2 : at_ + 2 < b.size ∧ by_ b (at_ + 2) = 120
    · have c2 : a.size + at_ + 2 < (a ++ b).size ∧ by_ b (at_ + 2) = 120 := ⟨by omega, g2.2⟩
      rw [if_pos g2, if_pos c2]
      exact numOut_right a b 16 (at_ + 2 + 1)
    · have c2 : ¬ (a.size + at_ + 2 < (a ++ b).size ∧ by_ b (at_ + 2) = 120) := fun e => g2 ⟨by omega, e.2⟩
      rw [if_neg g2, if_neg c2]
      exact numOut_right a b 10 (at_ + 2)
  · have g' : ¬ (a.size + at_ + 1 < (a ++ b).size ∧ by_ b (at_ + 1) = 35) := fun e => g ⟨by omega, e.2⟩
    rw [if_neg g, if_neg g']
    exact named_right a b at_ 5
theorem next_left (a b : ByteArray) (pos : Nat) (h : pos < a.size) (h0 : (nextF a pos).2.2 = 0) : nextF (a ++ b) pos = nextF a pos := by
  have hr : (rd a pos).2 ≠ 0 := by
    intro e
    unfold nextF at h0
    rw [if_pos e] at h0
    cases h0
  unfold nextF
  rw [rd_left a b pos h hr]
theorem next_right (a b : ByteArray) (p : Nat) : ((((nextF (a ++ b) (a.size + p)).1 : Int), ((nextF (a ++ b) (a.size + p)).2.1 : Int), ((nextF (a ++ b) (a.size + p)).2.2 : Int)) : Int × Int × Int) = farther a.size (((nextF b p).1 : Int), ((nextF b p).2.1 : Int), ((nextF b p).2.2 : Int)) := by
  unfold nextF
  rw [rd_right]
  split
  · rfl
  · split
    · rw [farther, if_pos (show (((0 : Nat) : Int)) = 0 from rfl)]
      simp only [Prod.mk.injEq, true_and]
      refine ⟨by omega, rfl⟩
    · rfl
theorem both_left (a b : ByteArray) (pos : Nat) (h : pos < a.size) (h0 : (bothF a pos).2.2 = 0) : bothF (a ++ b) pos = bothF a pos := by
  unfold bothF at h0 ⊢
  rw [by_left a b pos h]
  by_cases g : by_ a pos = 60
  · rw [if_pos g] at h0
    cases h0
  · rw [if_neg g] at h0 ⊢
    rw [if_neg g]
    by_cases g2 : by_ a pos = 38
    · rw [if_pos g2] at h0 ⊢
      rw [if_pos g2]
      exact exp_left a b pos h h0
    · rw [if_neg g2] at h0 ⊢
      rw [if_neg g2, next_left a b pos h (by simp only at h0; omega)]
theorem both_right (a b : ByteArray) (p : Nat) : bothF (a ++ b) (a.size + p) = farther a.size (bothF b p) := by
  unfold bothF
  rw [by_right]
  split
  · rfl
  · split
    · exact exp_right a b p
    · exact next_right a b p

/-- What is asked of a way of reading: what is right ahead of the end stays so with more behind, unless C; behind another text all stands so much farther on. -/
structure JoinOk (C : Prop) (step : ByteArray → Nat → Int × Int × Int) : Prop where
  left : ∀ (a b : ByteArray) (pos : Nat), pos < a.size → (step a pos).2.2 = 0 → step (a ++ b) pos = step a pos ∨ (C ∧ step (a ++ b) pos = (0, 0, 23) ∧ a.size ≤ pos + 2 ∧ by_ (a ++ b) pos = 93)
  right : ∀ (a b : ByteArray) (p : Nat), step (a ++ b) (a.size + p) = farther a.size (step b p)
  ok : ∀ (s : ByteArray) (pos : Nat), pos < s.size → StepOk s.size pos (step s pos)
theorem joinV : JoinOk False stepV where
  left a b pos h h0 := by
    refine .inl ?_
    unfold stepV at h0 ⊢
    rw [by_left a b pos h]
    split
    · rfl
    · rename_i g
      rw [if_neg g] at h0
      exact both_left a b pos h h0
  right a b p := by
    unfold stepV
    rw [by_right]
    split
    · unfold farther
      rw [if_pos rfl]
      simp only [Prod.mk.injEq, and_true, true_and]
      omega
    · exact both_right a b p
  ok := stepV_ok
theorem joinT : JoinOk True stepT where
  left a b pos h h0 := by
    have hs := size_cat a b
    unfold stepT at h0 ⊢
    cases hc : closeB (a ++ b) pos
    · refine .inl ?_
      have hca : closeB a pos = false := by
        rw [Bool.eq_false_iff]
        intro e
        rw [e] at h0
        cases h0
      rw [hca] at h0 ⊢
      exact both_left a b pos h h0
    · have hca : closeB a pos = false := by
        rw [Bool.eq_false_iff]
        intro e
        rw [e] at h0
        cases h0
      refine .inr ⟨trivial, rfl, ?_, ?_⟩
      · rcases Nat.lt_or_ge (pos + 2) a.size with g | g
        · exfalso
          rw [← Bool.not_eq_true] at hca
          apply hca
          unfold closeB Lib.hasPrefix at hc ⊢
          rw [drop_left a b pos (by omega)] at hc
          rw [List.isPrefixOf_iff_prefix] at hc ⊢
          refine List.prefix_of_prefix_length_le hc (List.prefix_append _ _) ?_
          simp
          omega
        · exact g
      · unfold closeB Lib.hasPrefix at hc
        rw [drop_at (a ++ b) pos (by omega), List.isPrefixOf_iff_prefix] at hc
        obtain ⟨r, hr⟩ := hc
        injection hr with e1 _
        unfold by_
        rw [← e1]
        rfl
  right a b p := by
    unfold stepT
    have e : closeB (a ++ b) (a.size + p) = closeB b p := by unfold closeB; rw [drop_right]
    rw [e]
    split
    · rfl
    · exact both_right a b p
  ok := stepT_ok

theorem readGo_fuel {step : Nat → Int × Int × Int} {n : Nat} (ok : ∀ pos, pos < n → StepOk n pos (step pos)) : ∀ (f g pos : Nat) (out : List UInt8), n ≤ pos + f → n ≤ pos + g → readGo step n f pos out = readGo step n g pos out := by
  intro f
  induction f with
  | zero =>
    intro g pos out h1 h2
    rw [readGo_end step n g pos out (by omega), readGo_end step n 0 pos out (by omega)]
  | succ f ih =>
    intro g pos out h1 h2
    by_cases h : pos < n
    · obtain ⟨g, rfl⟩ : ∃ g', g = g' + 1 := ⟨g - 1, by omega⟩
      by_cases e : (step pos).2.2 = 0
      · have hk := ok pos h e
        rw [readGo_step _ _ _ _ _ h e, readGo_step _ _ _ _ _ h e]
        exact ih g _ _ (by omega) (by omega)
      · rw [readGo_bad _ _ _ _ _ h e, readGo_bad _ _ _ _ _ h e]
    · rw [readGo_end _ _ _ _ _ h, readGo_end _ _ _ _ _ h]
/-- The second text, behind the first. -/
theorem join_right {C : Prop} {step : ByteArray → Nat → Int × Int × Int} (J : JoinOk C step) (a b : ByteArray) : ∀ (f pos : Nat) (out0 out : List UInt8), b.size ≤ pos + f → (readGo (step b) b.size f pos out).2.2 = 0 → readGo (step (a ++ b)) (a ++ b).size f (a.size + pos) (out0 ++ out) = (out0 ++ (readGo (step b) b.size f pos out).1, 0, 0) := by
  intro f
  have hs := size_cat a b
  induction f with
  | zero => intro pos out0 out h h0; rfl
  | succ f ih =>
    intro pos out0 out h h0
    by_cases hp : pos < b.size
    · by_cases e : (step b pos).2.2 = 0
      · have hk := J.ok b pos hp e
        have hr := J.right a b pos
        unfold farther at hr
        rw [if_pos e] at hr
        rw [readGo_step _ _ _ _ _ hp e] at h0 ⊢
        rw [readGo_step _ _ _ _ _ (by omega) (by rw [hr]), hr]
        simp only
        rw [show ((a.size : Int) + (step b pos).2.1).toNat = a.size + (step b pos).2.1.toNat by omega, List.append_assoc]
        exact ih _ _ _ (by omega) h0
      · rw [readGo_bad _ _ _ _ _ hp e] at h0
        exact absurd h0 e
    · rw [readGo_end (step b) _ _ _ _ hp, readGo_end _ _ _ _ _ (by omega)]
theorem join_left {C : Prop} {step : ByteArray → Nat → Int × Int × Int} (J : JoinOk C step) (a b : ByteArray) (hb : (readF (step b) b.size).2.2 = 0) : ∀ (f g pos : Nat) (out : List UInt8), a.size ≤ pos + f → pos ≤ a.size → (a ++ b).size ≤ pos + g → (readGo (step a) a.size f pos out).2.2 = 0 →
    readGo (step (a ++ b)) (a ++ b).size g pos out = ((readGo (step a) a.size f pos out).1 ++ (readF (step b) b.size).1, 0, 0) ∨ (C ∧ ∃ k, readGo (step (a ++ b)) (a ++ b).size g pos out = ([], k, 23) ∧ k < a.size ∧ a.size ≤ k + 2 ∧ by_ (a ++ b) k = 93) := by
  have hs := size_cat a b
  intro f
  induction f with
  | zero =>
    intro g pos out h1 h2 h3 h4
    refine .inl ?_
    obtain rfl : pos = a.size := by omega
    have := join_right J a b b.size 0 out [] (by omega) hb
    rw [List.append_nil, Nat.add_zero] at this
    rw [readGo_fuel (fun p hp => J.ok (a ++ b) p hp) g b.size a.size out (by omega) (by omega), this]
    rfl
  | succ f ih =>
    intro g pos out h1 h2 h3 h4
    by_cases hp : pos < a.size
    · by_cases e : (step a pos).2.2 = 0
      · have hk := J.ok a pos hp e
        obtain ⟨g, rfl⟩ : ∃ g', g = g' + 1 := ⟨g - 1, by omega⟩
        rcases J.left a b pos hp e with hl | ⟨hc, hl, h5, h6⟩
        · rw [readGo_step (step a) _ _ _ _ hp e] at h4 ⊢
          rw [readGo_step _ _ _ _ _ (by omega) (by rw [hl]; exact e), hl]
          exact ih g _ _ (by omega) (by omega) (by omega) h4
        · refine .inr ⟨hc, pos, ?_, hp, h5, h6⟩
          rw [readGo_bad _ _ _ _ _ (by omega) (by rw [hl]; decide), hl]
      · rw [readGo_bad _ _ _ _ _ hp e] at h4
        exact absurd h4 e
    · refine .inl ?_
      obtain rfl : pos = a.size := by omega
      rw [readGo_end (step a) _ _ _ _ hp]
      have := join_right J a b b.size 0 out [] (by omega) hb
      rw [List.append_nil, Nat.add_zero] at this
      rw [readGo_fuel (fun p hp => J.ok (a ++ b) p hp) g b.size a.size out (by omega) (by omega), this]
      rfl
theorem join_all {C : Prop} {step : ByteArray → Nat → Int × Int × Int} (J : JoinOk C step) (a b : ByteArray) (ha : (readF (step a) a.size).2.2 = 0) (hb : (readF (step b) b.size).2.2 = 0) :
    readF (step (a ++ b)) (a ++ b).size = ((readF (step a) a.size).1 ++ (readF (step b) b.size).1, 0, 0) ∨ (C ∧ ∃ k, readF (step (a ++ b)) (a ++ b).size = ([], k, 23) ∧ k < a.size ∧ a.size ≤ k + 2 ∧ by_ (a ++ b) k = 93) :=
  join_left J a b hb a.size (a ++ b).size 0 [] (by omega) (by omega) (by omega) ha
theorem readGo_len {step : Nat → Int × Int × Int} {n : Nat} (ok : ∀ pos, pos < n → StepOk n pos (step pos)) : ∀ (f pos : Nat) (out : List UInt8), out.length ≤ pos → pos ≤ n → (readGo step n f pos out).1.length ≤ n := by
  intro f
  induction f with
  | zero => intro pos out h1 h2; exact Nat.le_trans h1 h2
  | succ f ih =>
    intro pos out h1 h2
    by_cases h : pos < n
    · by_cases e : (step pos).2.2 = 0
      · have hk := ok pos h e
        rw [readGo_step _ _ _ _ _ h e]
        exact ih _ _ (by rw [List.length_append]; omega) (by omega)
      · rw [readGo_bad _ _ _ _ _ h e]
        exact Nat.zero_le _
    · rw [readGo_end _ _ _ _ _ h]
      exact Nat.le_trans h1 h2
theorem readF_size {C : Prop} {step : ByteArray → Nat → Int × Int × Int} (J : JoinOk C step) (s : ByteArray) : (⟨(readF (step s) s.size).1.toArray⟩ : ByteArray).size ≤ s.size := by
  have := readGo_len (J.ok s) s.size 0 [] (Nat.zero_le _) (Nat.zero_le _)
  show (readF (step s) s.size).1.toArray.size ≤ s.size
  rw [List.size_toArray]
  exact this
end Go.Proofs.YtdomhjjoijkeaaaDoor
