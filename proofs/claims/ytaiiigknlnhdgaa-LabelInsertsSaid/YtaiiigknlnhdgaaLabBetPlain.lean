/- Proved here: in plain words, what a new kid's label is, and that it stands where it should; no function of the program is walked. -/
import Derived.Test.YtaiiigknlnhdgaaNumsCat
namespace Go.Proofs.Ytaiiigknlnhdgaa

theorem oddI_iff (v : Int) : oddI v = true ↔ v % 2 = 1 := by unfold oddI; rw [beq_iff_eq]
theorem oddI_not (v : Int) : oddI v = false ↔ v % 2 = 0 := by
  unfold oddI; rw [beq_eq_false_iff_ne]; omega
/-- Even numbers, and an odd one at the end. -/
def lvlB : List Int → Bool
  | [] => false
  | [x] => oddI x
  | x :: y :: l => !oddI x && lvlB (y :: l)
theorem lvl_ne {l : List Int} (h : lvlB l = true) : l ≠ [] := by rintro rfl; cases h
theorem lvl_odd {x : Int} {l : List Int} (h : lvlB (x :: l) = true) (ho : oddI x = true) : l = [] := by
  cases l with
  | nil => rfl
  | cons y l => simp [lvlB, ho] at h
theorem lvl_even {x : Int} {l : List Int} (h : lvlB (x :: l) = true) (ho : oddI x = false) : lvlB l = true := by
  cases l with
  | nil => simp [lvlB, ho] at h
  | cons y l => simpa [lvlB, ho] using h
theorem lvl_cons {x : Int} {l : List Int} (ho : oddI x = false) (h : lvlB l = true) : lvlB (x :: l) = true := by
  cases l with
  | nil => cases h
  | cons y l => simp [lvlB, ho]; exact h
/-- What two levels both begin with is even. -/
theorem lvl_same {x : Int} {l m : List Int} (h1 : lvlB (x :: l) = true) (h2 : lvlB (x :: m) = true) (hc : cmpN (x :: l) (x :: m) = -1) : oddI x = false ∧ lvlB l = true ∧ lvlB m = true ∧ cmpN l m = -1 := by
  have e : cmpN (x :: l) (x :: m) = cmpN l m := by
    show lexI (cmpI x x) (cmpN l m) = _
    have : cmpI x x = 0 := by simp [cmpI]
    rw [this]; rfl
  rw [e] at hc
  cases ho : oddI x
  · exact ⟨rfl, lvl_even h1 ho, lvl_even h2 ho, hc⟩
  · rw [lvl_odd h1 ho, lvl_odd h2 ho] at hc
    exact absurd hc (by decide)
/-! ## the new level -/
def betB : List Int → List Int → List Int
  | x :: l, y :: r => if x = y then x :: betB l r else if oddUp x < y then [oddUp x] else if y = x + 2 then [x + 1, 1] else if oddI x then [y, oddDn (r.headD 0)] else [x, oddUp (l.headD 0)]
  | _, _ => []
theorem cmpN_head {x y : Int} {l m : List Int} (h : x < y) : cmpN (x :: l) (y :: m) = -1 := by
  show lexI (cmpI x y) (cmpN l m) = _
  have : cmpI x y = -1 := by unfold cmpI; rw [if_pos h]
  rw [this]; rfl
theorem cmpN_tail (x : Int) (l m : List Int) : cmpN (x :: l) (x :: m) = cmpN l m := by
  show lexI (cmpI x x) (cmpN l m) = _
  have : cmpI x x = 0 := by simp [cmpI]
  rw [this]; rfl
theorem cmpN_app (u l m : List Int) : cmpN (u ++ l) (u ++ m) = cmpN l m := by
  induction u with
  | nil => rfl
  | cons x u ih => rw [List.cons_append, List.cons_append, cmpN_tail, ih]
theorem cmpN_lt_head {x y : Int} {l m : List Int} (h : cmpN (x :: l) (y :: m) = -1) : x < y ∨ x = y := by
  have e : lexI (cmpI x y) (cmpN l m) = -1 := h
  unfold lexI cmpI at e
  by_cases h1 : x < y
  · exact .inl h1
  · by_cases h2 : y < x
    · rw [if_neg h1, if_pos h2, if_neg (by decide)] at e
      exact absurd e (by decide)
    · exact .inr (by omega)
theorem up_odd (v : Int) : oddI (oddUp v) = true := by rw [oddI_iff]; unfold oddUp; omega
theorem dn_odd (v : Int) : oddI (oddDn v) = true := by rw [oddI_iff]; unfold oddDn; omega
theorem up_gt (v : Int) : v < oddUp v := by unfold oddUp; omega
theorem dn_lt (v : Int) : oddDn v < v := by unfold oddDn; omega
/-- It is a level, and stands between both. -/
theorem bet_between : ∀ l r : List Int, lvlB l = true → lvlB r = true → cmpN l r = -1 → lvlB (betB l r) = true ∧ cmpN l (betB l r) = -1 ∧ cmpN (betB l r) r = -1
  | [], _, h, _, _ => by cases h
  | _ :: _, [], _, h, _ => by cases h
  | x :: l, y :: r, h1, h2, hc => by
    by_cases hxy : x = y
    · subst hxy
      obtain ⟨e0, e1, e2, e3⟩ := lvl_same h1 h2 hc
      obtain ⟨i1, i2, i3⟩ := bet_between l r e1 e2 e3
      have e : betB (x :: l) (x :: r) = x :: betB l r := by rw [betB, if_pos rfl]
      rw [e, cmpN_tail, cmpN_tail]
      exact ⟨lvl_cons e0 i1, i2, i3⟩
    · have hlt : x < y := by rcases cmpN_lt_head hc with h | h; exact h; exact absurd h hxy
      by_cases c1 : oddUp x < y
      · have e : betB (x :: l) (y :: r) = [oddUp x] := by rw [betB, if_neg hxy, if_pos c1]
        rw [e]
        exact ⟨up_odd x, cmpN_head (up_gt x), cmpN_head c1⟩
      · by_cases c2 : y = x + 2
        · have e : betB (x :: l) (y :: r) = [x + 1, 1] := by rw [betB, if_neg hxy, if_neg c1, if_pos c2]
          rw [e]
          have hx1 : oddI (x + 1) = false := by rw [oddI_not]; unfold oddUp at c1; omega
          exact ⟨lvl_cons hx1 (by decide), cmpN_head (by omega), cmpN_head (by omega)⟩
        · have hy : y = x + 1 := by unfold oddUp at c1; omega
          cases ho : oddI x
          · have e : betB (x :: l) (y :: r) = [x, oddUp (l.headD 0)] := by rw [betB, if_neg hxy, if_neg c1, if_neg c2, ho]; rfl
            rw [e]
            have hl := lvl_even h1 ho
            cases l with
            | nil => cases hl
            | cons z l =>
              exact ⟨lvl_cons ho (up_odd _), by rw [cmpN_tail]; exact cmpN_head (up_gt z), cmpN_head hlt⟩
          · have e : betB (x :: l) (y :: r) = [y, oddDn (r.headD 0)] := by rw [betB, if_neg hxy, if_neg c1, if_neg c2, ho]; rfl
            rw [e]
            have hy0 : oddI y = false := by rw [oddI_not]; rw [oddI_iff] at ho; omega
            have hr := lvl_even h2 hy0
            cases r with
            | nil => cases hr
            | cons z r =>
              exact ⟨lvl_cons hy0 (dn_odd _), cmpN_head hlt, by rw [cmpN_tail]; exact cmpN_head (dn_lt z)⟩
theorem bet_drop : ∀ (l r : List Int) (k : Nat), l.take k = r.take k → k ≤ l.length → k ≤ r.length → betB l r = l.take k ++ betB (l.drop k) (r.drop k)
  | l, r, 0, _, _, _ => by simp
  | [], _, k + 1, _, h, _ => by simp at h
  | _ :: _, [], k + 1, _, _, h => by simp at h
  | x :: l, y :: r, k + 1, h, h1, h2 => by
    have e : x = y ∧ l.take k = r.take k := by simpa using h
    obtain ⟨rfl, e2⟩ := e
    have ih := bet_drop l r k e2 (by simpa using h1) (by simpa using h2)
    rw [betB, if_pos rfl, ih]; rfl
theorem bet_length : ∀ l r : List Int, (betB l r).length ≤ l.length + 1
  | [], _ => by simp [betB]
  | _ :: _, [] => by simp [betB]
  | x :: l, y :: r => by
    have := bet_length l r
    rw [betB]
    split
    · simp; omega
    · split
      · simp
      · split
        · simp
        · split <;> simp
/-! ## parents -/
theorem upN_drop (l : List Int) : ∀ k, k < l.length → lvlB (l.drop k) = true → lvlB (l.drop (upN l k)) = true
  | 0, _, h => h
  | k + 1, hk, h => by
    unfold upN
    split
    · exact h
    · rename_i ho
      refine upN_drop l k (by omega) ?_
      rw [drop_getD (by omega : k < l.length)]
      exact lvl_cons (by simpa using ho) h
theorem up_level {l : List Int} (hne : l ≠ []) (hlast : lastOdd l = true) : lvlB (l.drop (upN l (l.length - 1))) = true ∧ upN l (l.length - 1) < l.length := by
  have hpos : 0 < l.length := List.length_pos_iff.2 hne
  refine ⟨upN_drop l _ (by omega) ?_, by have := upN_le l (l.length - 1); omega⟩
  rw [drop_getD (by omega : l.length - 1 < l.length), List.drop_eq_nil_of_le (by omega)]
  unfold lastOdd at hlast
  rw [decide_eq_false (by omega), Bool.false_or] at hlast
  exact hlast
/-- A label is its parent and a level. -/
theorem up_split {l up : List Int} (hne : l ≠ []) (hlast : lastOdd l = true) (hu : upP l = up) : l = up ++ l.drop up.length ∧ lvlB (l.drop up.length) = true ∧ up.length < l.length := by
  obtain ⟨h1, h2⟩ := up_level hne hlast
  have hl : up.length = upN l (l.length - 1) := by rw [← hu]; unfold upP; rw [List.length_take]; omega
  rw [hl]
  refine ⟨?_, h1, h2⟩
  conv => lhs; rw [← List.take_append_drop (upN l (l.length - 1)) l]
  rw [← hu]; rfl
theorem upN_app (u s : List Int) (hu : lastOdd u = true) : ∀ k, k < s.length → (∀ j, j < k → oddI (s.getD j 0) = false) → upN (u ++ s) (u.length + k) = u.length
  | 0, _, _ => by
    cases hl : u.length with
    | zero => rfl
    | succ n =>
      show upN (u ++ s) (n + 1) = n + 1
      unfold upN
      have e : (u ++ s).getD n 0 = u.getD n 0 := by
        rw [List.getD_eq_getElem?_getD, List.getD_eq_getElem?_getD, List.getElem?_append_left (by omega)]
      unfold lastOdd at hu
      rw [hl, decide_eq_false (by omega), Bool.false_or, Nat.add_sub_cancel] at hu
      rw [e, hu]; rfl
  | k + 1, hk, h => by
    show upN (u ++ s) ((u.length + k) + 1) = _
    unfold upN
    have e : (u ++ s).getD (u.length + k) 0 = s.getD k 0 := by
      rw [List.getD_eq_getElem?_getD, List.getD_eq_getElem?_getD, List.getElem?_append_right (by omega), Nat.add_sub_cancel_left]
    rw [e, h k (by omega)]
    simp only [Bool.false_eq_true, if_false]
    exact upN_app u s hu k (by omega) (fun j hj => h j (by omega))
theorem lvl_getD : ∀ (s : List Int), lvlB s = true → ∀ j, j < s.length - 1 → oddI (s.getD j 0) = false
  | [], _, j, h => by simp at h
  | [x], _, j, h => by simp at h
  | x :: y :: l, h, 0, _ => by
    have : oddI x = false := by simp [lvlB] at h; exact h.1
    exact this
  | x :: y :: l, h, j + 1, hj => by
    have h2 : lvlB (y :: l) = true := by simp [lvlB] at h; exact h.2
    have := lvl_getD (y :: l) h2 j (by simp at hj ⊢; omega)
    simpa using this
theorem up_of {u s : List Int} (hu : lastOdd u = true) (hs : lvlB s = true) : upP (u ++ s) = u := by
  have hpos : 0 < s.length := List.length_pos_iff.2 (lvl_ne hs)
  unfold upP
  have e : (u ++ s).length - 1 = u.length + (s.length - 1) := by rw [List.length_append]; omega
  rw [e, upN_app u s hu (s.length - 1) (by omega) (lvl_getD s hs)]
  simp
theorem lvl_last : ∀ (s : List Int), lvlB s = true → oddI (s.getD (s.length - 1) 0) = true
  | [], h => by cases h
  | [x], h => h
  | x :: y :: l, h => by
    have h2 : lvlB (y :: l) = true := by simp [lvlB] at h; exact h.2
    have := lvl_last (y :: l) h2
    simpa using this
theorem last_of {u s : List Int} (hs : lvlB s = true) : lastOdd (u ++ s) = true := by
  have hpos : 0 < s.length := List.length_pos_iff.2 (lvl_ne hs)
  unfold lastOdd
  have e : (u ++ s).getD ((u ++ s).length - 1) 0 = s.getD (s.length - 1) 0 := by
    rw [List.getD_eq_getElem?_getD, List.getD_eq_getElem?_getD, List.getElem?_append_right (by rw [List.length_append]; omega), List.length_append, show u.length + s.length - 1 - u.length = s.length - 1 by omega]
  rw [e, lvl_last s hs]; simp
theorem lev_level : ∀ (s : List Int), lvlB s = true → levP s = 1
  | [], h => by cases h
  | [x], h => by
    have : oddI x = true := h
    simp [levP, this]
  | x :: y :: l, h => by
    have h1 : oddI x = false := by simp [lvlB] at h; exact h.1
    have h2 : lvlB (y :: l) = true := by simp [lvlB] at h; exact h.2
    have := lev_level (y :: l) h2
    unfold levP at this ⊢
    rw [List.filter_cons, h1]
    simpa using this
theorem lev_app (u s : List Int) : levP (u ++ s) = levP u + levP s := by unfold levP; simp
/-! ## Between -/
def besideP (up l : List Int) : Bool := decide (l.length = 0) || (decide (checkP l = 0) && decide (upP l = up))
def orderP (l r : List Int) : Bool := decide (l.length = 0) || decide (r.length = 0) || decide (cmpN l r < 0)
def behindP (up kid : List Int) : List Int := if kid.length = 0 then [] else kid.drop up.length
def roomP (l r : List Int) : List Int := if 0 < l.length then (if 0 < r.length then betB l r else [oddUp (l.getD 0 0)]) else if 0 < r.length then [oddDn (r.getD 0 0)] else [1]
def mayP (up l r : List Int) : Bool := decide (checkP up = 0) && besideP up l && besideP up r && orderP l r
def newP (up l r : List Int) : List Int := up ++ roomP (behindP up l) (behindP up r)
/-- The new label and the error. -/
def betP (up l r : List Int) : List Int × Int := if mayP up l r then (if checkP (newP up l r) = 0 then (newP up l r, 0) else ([], 5)) else ([], 1)
theorem beside_facts {up l : List Int} (h : besideP up l = true) : behindP up l = [] ∧ l = [] ∨ checkP l = 0 ∧ l ≠ [] ∧ upP l = up ∧ l = up ++ behindP up l ∧ lvlB (behindP up l) = true := by
  unfold besideP at h
  unfold behindP
  by_cases h0 : l.length = 0
  · left; rw [if_pos h0]; exact ⟨rfl, List.eq_nil_of_length_eq_zero h0⟩
  · right
    rw [decide_eq_false h0, Bool.false_or, Bool.and_eq_true, decide_eq_true_iff, decide_eq_true_iff] at h
    rw [if_neg h0]
    have hne : l ≠ [] := fun e => h0 (by rw [e]; rfl)
    obtain ⟨s1, s2, _⟩ := up_split hne (checkP_ok h.1).2.1 h.2
    exact ⟨h.1, hne, h.2, s1, s2⟩
/-- WHAT A NEW LABEL IS: a kid's of the same parent, between both, one level below. -/
theorem new_facts {up l r : List Int} (h : mayP up l r = true) : lvlB (roomP (behindP up l) (behindP up r)) = true ∧ upP (newP up l r) = up ∧ levP (newP up l r) = levP up + 1 ∧ aboveP up (newP up l r) = true ∧
    (0 < l.length → cmpN l (newP up l r) = -1) ∧ (0 < r.length → cmpN (newP up l r) r = -1) := by
  unfold mayP at h
  rw [Bool.and_eq_true, Bool.and_eq_true, Bool.and_eq_true, decide_eq_true_iff] at h
  obtain ⟨⟨⟨hup, hl⟩, hr⟩, ho⟩ := h
  have hul := (checkP_ok hup).2.1
  have key : lvlB (roomP (behindP up l) (behindP up r)) = true ∧ (0 < l.length → cmpN l (newP up l r) = -1) ∧ (0 < r.length → cmpN (newP up l r) r = -1) := by
    unfold newP
    rcases beside_facts hl with ⟨e1, rfl⟩ | ⟨_, hne1, _, s1, v1⟩
    · rcases beside_facts hr with ⟨e2, rfl⟩ | ⟨_, hne2, _, s2, v2⟩
      · rw [e1]
        exact ⟨by decide, fun h => by simp at h, fun h => by simp at h⟩
      · obtain ⟨z, t, hz⟩ := List.exists_cons_of_ne_nil (lvl_ne v2)
        have hroom : roomP (behindP up []) (behindP up r) = [oddDn z] := by
          unfold roomP; rw [e1, hz]; rfl
        rw [hroom]
        refine ⟨dn_odd z, fun h => by simp at h, fun _ => ?_⟩
        conv => lhs; arg 2; rw [s2, hz]
        rw [cmpN_app]
        exact cmpN_head (dn_lt z)
    · obtain ⟨y, t1, hy⟩ := List.exists_cons_of_ne_nil (lvl_ne v1)
      rcases beside_facts hr with ⟨e2, rfl⟩ | ⟨_, hne2, _, s2, v2⟩
      · have hroom : roomP (behindP up l) (behindP up []) = [oddUp y] := by
          unfold roomP; rw [e2, hy]; rfl
        rw [hroom]
        refine ⟨up_odd y, fun _ => ?_, fun h => by simp at h⟩
        conv => lhs; arg 1; rw [s1, hy]
        rw [cmpN_app]
        exact cmpN_head (up_gt y)
      · obtain ⟨z, t2, hz⟩ := List.exists_cons_of_ne_nil (lvl_ne v2)
        have hroom : roomP (behindP up l) (behindP up r) = betB (behindP up l) (behindP up r) := by
          unfold roomP; rw [hy, hz]; rfl
        have hc : cmpN (behindP up l) (behindP up r) = -1 := by
          have hlr : cmpN l r = -1 := by
            unfold orderP at ho
            rw [decide_eq_false (by have := List.length_pos_iff.2 hne1; omega), decide_eq_false (by have := List.length_pos_iff.2 hne2; omega)] at ho
            have h1 : cmpN l r < 0 := by simpa using ho
            have := cmpN_ord.rng l r
            omega
          rw [s1, s2, cmpN_app] at hlr
          exact hlr
        obtain ⟨b1, b2, b3⟩ := bet_between _ _ v1 v2 hc
        rw [hroom]
        refine ⟨b1, fun _ => ?_, fun _ => ?_⟩
        · conv => lhs; arg 1; rw [s1]
          rw [cmpN_app]; exact b2
        · conv => lhs; arg 2; rw [s2]
          rw [cmpN_app]; exact b3
  refine ⟨key.1, up_of hul key.1, ?_, ?_, key.2⟩
  · unfold newP; rw [lev_app, lev_level _ key.1]
  · have hpos : 0 < (roomP (behindP up l) (behindP up r)).length := List.length_pos_iff.2 (lvl_ne key.1)
    unfold aboveP newP
    rw [List.length_append, decide_eq_true (by omega), List.take_left, decide_eq_true rfl]; rfl
end Go.Proofs.Ytaiiigknlnhdgaa
