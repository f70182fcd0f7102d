/- Proved here: plain facts on kids' labels that are put in one after the other: they stand in their order, and each one's parent is theirs. -/
import Derived.Test.YtaiiigknlnhdgaaKidsKit
namespace Go.Proofs.Ytaiiigknlnhdgaa
open Go.RowKit

def noKid : KidV := (none, 0, [])
/-- Kids' labels of up, each ahead of the next. -/
def GoodKids (up : List Int) (ks : List KidV) : Prop :=
  (∀ (i : Nat) k, ks[i]? = some k → checkP k.2.2 = 0 ∧ upP k.2.2 = up ∧ 0 < k.2.2.length) ∧ (∀ (i : Nat) a b, ks[i]? = some a → ks[i + 1]? = some b → cmpN a.2.2 b.2.2 = -1)
def lK (ks : List KidV) (i : Nat) : KidV := if 0 < i then ks.getD (i - 1) noKid else noKid
def rK (ks : List KidV) (i : Nat) : KidV := ks.getD i noKid
def insK (ks : List KidV) (i : Nat) (n : KidV) : List KidV := ks.take i ++ [n] ++ ks.drop i
theorem kid_at {ks : List KidV} {i : Nat} (h : i < ks.length) : ks[i]? = some (ks.getD i noKid) := by
  rw [List.getD_eq_getElem?_getD, List.getElem?_eq_getElem h]; rfl
theorem lK_some {ks : List KidV} {i : Nat} (hi : i ≤ ks.length) (h : 0 < i) : ks[i - 1]? = some (lK ks i) := by
  unfold lK
  rw [if_pos h]
  exact kid_at (by omega)
theorem rK_none {ks : List KidV} {i : Nat} (hi : ¬ i < ks.length) : rK ks i = noKid := by
  unfold rK
  rw [List.getD_eq_getElem?_getD, List.getElem?_eq_none (by omega)]; rfl
theorem kid_beside {up : List Int} {ks : List KidV} (h : GoodKids up ks) {i : Nat} {k : KidV} (hk : ks[i]? = some k) : besideP up k.2.2 = true := by
  obtain ⟨h1, h2, _⟩ := h.1 i k hk
  unfold besideP
  rw [decide_eq_true h1, decide_eq_true h2]
  simp
theorem ins_may {up : List Int} {ks : List KidV} (hu : checkP up = 0) (h : GoodKids up ks) {i : Nat} (hi : i ≤ ks.length) : mayP up (lK ks i).2.2 (rK ks i).2.2 = true := by
  have hl : besideP up (lK ks i).2.2 = true := by
    by_cases h0 : 0 < i
    · exact kid_beside h (lK_some hi h0)
    · have e : lK ks i = noKid := by unfold lK; rw [if_neg h0]
      rw [e]; rfl
  have hr : besideP up (rK ks i).2.2 = true := by
    by_cases h0 : i < ks.length
    · exact kid_beside h (kid_at h0)
    · rw [rK_none h0]; rfl
  have ho : orderP (lK ks i).2.2 (rK ks i).2.2 = true := by
    by_cases h0 : 0 < i
    · by_cases h1 : i < ks.length
      · have hc := h.2 (i - 1) _ _ (lK_some hi h0) (by rw [show i - 1 + 1 = i by omega]; exact kid_at h1)
        unfold orderP rK
        rw [hc]; simp
      · rw [rK_none h1]
        unfold orderP noKid
        simp
    · have e : lK ks i = noKid := by unfold lK; rw [if_neg h0]
      rw [e]
      unfold orderP noKid
      simp
  unfold mayP
  rw [decide_eq_true hu, hl, hr, ho]; rfl
theorem insK_at (ks : List KidV) (i : Nat) (n : KidV) (hi : i ≤ ks.length) (j : Nat) : (insK ks i n)[j]? = if j < i then ks[j]? else if j = i then some n else ks[j - 1]? := by
  unfold insK
  have hl : (ks.take i).length = i := by rw [List.length_take]; omega
  by_cases h1 : j < i
  · rw [if_pos h1, List.append_assoc, List.getElem?_append_left (by omega), List.getElem?_take_of_lt h1]
  · rw [if_neg h1]
    by_cases h2 : j = i
    · rw [if_pos h2, List.append_assoc, List.getElem?_append_right (by omega), hl, h2, Nat.sub_self]
      rfl
    · rw [if_neg h2, List.getElem?_append_right (by simp; omega), List.length_append, hl, List.getElem?_drop]
      congr 1
      simp; omega
theorem insK_length (ks : List KidV) (i : Nat) (n : KidV) (hi : i ≤ ks.length) : (insK ks i n).length = ks.length + 1 := by
  unfold insK
  simp; omega
theorem ins_good {up : List Int} {ks : List KidV} (hu : checkP up = 0) (h : GoodKids up ks) {i : Nat} (hi : i ≤ ks.length) {n : KidV} (hn : n.2.2 = newP up (lK ks i).2.2 (rK ks i).2.2) (hk : checkP n.2.2 = 0) : GoodKids up (insK ks i n) := by
  have hm := ins_may hu h hi
  obtain ⟨_, nf2, _, nf4, nf5, nf6⟩ := new_facts hm
  rw [← hn] at nf2 nf4 nf5 nf6
  have hlen : 0 < n.2.2.length := by
    unfold aboveP at nf4
    rw [Bool.and_eq_true, decide_eq_true_iff] at nf4
    omega
  refine ⟨fun j k hj => ?_, fun j a b ha hb => ?_⟩
  · rw [insK_at ks i n hi] at hj
    split at hj
    · exact h.1 _ _ hj
    · split at hj
      · cases hj; exact ⟨hk, nf2, hlen⟩
      · exact h.1 _ _ hj
  · rw [insK_at ks i n hi] at ha hb
    by_cases c1 : j + 1 < i
    · rw [if_pos (by omega)] at ha
      rw [if_pos c1] at hb
      exact h.2 _ _ _ ha hb
    · by_cases c2 : j + 1 = i
      · rw [if_pos (by omega)] at ha
        rw [if_neg (by omega), if_pos c2] at hb
        cases hb
        have e : lK ks i = a := by
          have := lK_some hi (show 0 < i by omega)
          rw [show i - 1 = j by omega, ha] at this
          exact (Option.some.inj this).symm
        rw [e] at nf5
        exact nf5 (h.1 _ _ ha).2.2
      · by_cases c3 : j = i
        · rw [if_neg (by omega), if_pos c3] at ha
          rw [if_neg (by omega), if_neg (by omega), show j + 1 - 1 = i by omega] at hb
          cases ha
          have hil : i < ks.length := (List.getElem?_eq_some_iff.1 hb).1
          have e : rK ks i = b := by
            have := kid_at (ks := ks) hil
            rw [hb] at this
            exact (Option.some.inj this).symm
          rw [e] at nf6
          exact nf6 (h.1 _ _ hb).2.2
        · rw [if_neg (by omega), if_neg c3] at ha
          rw [if_neg (by omega), if_neg (by omega), show j + 1 - 1 = j - 1 + 1 by omega] at hb
          exact h.2 _ _ _ ha hb
theorem ins_first : betP [] [] [] = ([1], 0) := by decide +kernel
/-- What Between tells where a kid is put in. -/
theorem ins_bet {up : List Int} {ks : List KidV} (hu : checkP up = 0) (h : GoodKids up ks) {i : Nat} (hi : i ≤ ks.length) :
    (betP up (lK ks i).2.2 (rK ks i).2.2 = (newP up (lK ks i).2.2 (rK ks i).2.2, 0) ∧ checkP (newP up (lK ks i).2.2 (rK ks i).2.2) = 0) ∨ (betP up (lK ks i).2.2 (rK ks i).2.2 = ([], 5) ∧ (up.length = 0 → ks ≠ [])) := by
  have hm := ins_may hu h hi
  by_cases hk : checkP (newP up (lK ks i).2.2 (rK ks i).2.2) = 0
  · exact .inl ⟨by unfold betP; rw [if_pos hm, if_pos hk], hk⟩
  · have hb : betP up (lK ks i).2.2 (rK ks i).2.2 = ([], 5) := by unfold betP; rw [if_pos hm, if_neg hk]
    refine .inr ⟨hb, fun h0 hks => ?_⟩
    obtain rfl : up = [] := List.eq_nil_of_length_eq_zero h0
    subst hks
    obtain rfl : i = 0 := by simpa using hi
    have e1 : lK [] 0 = noKid := rfl
    have e2 : rK [] 0 = noKid := rfl
    rw [e1, e2] at hb
    have := ins_first
    unfold noKid at hb
    rw [this] at hb
    cases hb
theorem kids_less {up : List Int} {ks : List KidV} (h : GoodKids up ks) {j : Nat} {a b : KidV} (ha : ks[j]? = some a) (hb : ks[j + 1]? = some b) : Op.bytesLess (strU (packB (bitsL a.2.2))).toList (strU (packB (bitsL b.2.2))).toList = true := by
  rw [strU_less (packB_lt _) (packB_lt _), bytes_order _ _ (checkP_ok (h.1 _ _ ha).1).1 (checkP_ok (h.1 _ _ hb).1).1, h.2 _ _ _ ha hb]
  rfl
end Go.Proofs.Ytaiiigknlnhdgaa
