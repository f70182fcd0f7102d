/- Proved here: groups that were laid on sectors one behind the other are read as they were laid; a sector that is none of these ends it; no program is named. -/
import Derived.Test.YtggchfmglaijgaaTapeReads
namespace Go.Proofs.Ytggchfmglaijgaa
open Go.RowKit

theorem sector_split (gen place group behind : Nat) (l : List UInt8) : ∃ a : List UInt8, a.length = 4 ∧ sectorL gen place group behind l = a ++ (numL gen 4 ++ (numL place 2 ++ (numL group 2 ++ (numL behind 2 ++ (numL l.length 2 ++ (l ++ zL (60 - (12 + l.length)))))))) := by
  refine ⟨numL (sumN (fillL (markL gen place group behind l) 60)) 4, numL_length _ _, ?_⟩
  unfold sectorL sealL fillL
  rw [markL_length]
  unfold markL
  simp only [List.append_assoc]
theorem beh_sector (gen place group behind : Nat) (l : List UInt8) (h : behind < 65536) : behL (sectorL gen place group behind l) = behind := by
  obtain ⟨a, ha, e⟩ := sector_split gen place group behind l
  unfold behL
  rw [e, show a ++ (numL gen 4 ++ (numL place 2 ++ (numL group 2 ++ (numL behind 2 ++ (numL l.length 2 ++ (l ++ zL (60 - (12 + l.length)))))))) = (a ++ (numL gen 4 ++ (numL place 2 ++ numL group 2))) ++ (numL behind 2 ++ (numL l.length 2 ++ (l ++ zL (60 - (12 + l.length))))) by simp only [List.append_assoc],
    List.drop_left' (by simp only [List.length_append, numL_length, ha]), List.take_left' (numL_length _ _), val_num]
  exact Nat.mod_eq_of_lt (by omega)
theorem siz_sector (gen place group behind : Nat) (l : List UInt8) (h : l.length ≤ 48) : sizL (sectorL gen place group behind l) = l.length := by
  obtain ⟨a, ha, e⟩ := sector_split gen place group behind l
  unfold sizL
  rw [e, show a ++ (numL gen 4 ++ (numL place 2 ++ (numL group 2 ++ (numL behind 2 ++ (numL l.length 2 ++ (l ++ zL (60 - (12 + l.length)))))))) = (a ++ (numL gen 4 ++ (numL place 2 ++ (numL group 2 ++ numL behind 2)))) ++ (numL l.length 2 ++ (l ++ zL (60 - (12 + l.length)))) by simp only [List.append_assoc],
    List.drop_left' (by simp only [List.length_append, numL_length, ha]), List.take_left' (numL_length _ _), val_num]
  exact Nat.mod_eq_of_lt (by omega)
theorem part_sector (gen place group behind : Nat) (l : List UInt8) (h : l.length ≤ 48) : partL (sectorL gen place group behind l) = l := by
  obtain ⟨a, ha, e⟩ := sector_split gen place group behind l
  unfold partL
  rw [siz_sector _ _ _ _ _ h, e, show a ++ (numL gen 4 ++ (numL place 2 ++ (numL group 2 ++ (numL behind 2 ++ (numL l.length 2 ++ (l ++ zL (60 - (12 + l.length)))))))) = (a ++ (numL gen 4 ++ (numL place 2 ++ (numL group 2 ++ (numL behind 2 ++ numL l.length 2))))) ++ (l ++ zL (60 - (12 + l.length))) by simp only [List.append_assoc],
    List.drop_left' (by simp only [List.length_append, numL_length, ha]), List.take_left' rfl]
def genL (l : List UInt8) : Nat := valN ((l.drop 4).take 4)
theorem gen_sector (gen place group behind : Nat) (l : List UInt8) (h : gen < 4294967296) : genL (sectorL gen place group behind l) = gen := by
  obtain ⟨a, ha, e⟩ := sector_split gen place group behind l
  unfold genL
  rw [e, List.drop_left' ha, List.take_left' (numL_length _ _), val_num]
  exact Nat.mod_eq_of_lt h
/-- A sector of another generation ends it. -/
theorem fit_gen {gen : Nat} {M : RM} {l : List UInt8} (hg : gen < 4294967296) (h : genL l ≠ gen) : M.fit gen l = false := by
  unfold RM.fit
  rw [Bool.and_eq_false_iff]
  right
  rw [beq_eq_false_iff_ne]
  intro e
  apply h
  rw [e, gen_sector _ _ _ _ _ hg]
/-- A sector behind another sum ends it. -/
theorem fit_sum {gen : Nat} {M : RM} {l : List UInt8} (h : sealed l = false) : M.fit gen l = false := by
  unfold RM.fit
  rw [Bool.and_eq_false_iff]
  right
  rw [beq_eq_false_iff_ne]
  intro e
  rw [e] at h
  unfold sectorL at h
  rw [sealed_seal] at h
  cases h
theorem reads_stop {gen : Nat} {M : RM} {l : List UInt8} (h : M.fit gen l = false) (r : List (List UInt8)) : readsM gen M (l :: r) = M := by
  rw [readsM, if_neg (by rw [h]; decide)]

/-! ## groups -/
def partAt (l : List UInt8) (i : Nat) : List UInt8 := (l.drop (48 * i)).take 48
def secAt (gen place group count : Nat) (l : List UInt8) (i : Nat) : List UInt8 := sectorL gen (place + i) group (count - 1 - i) (partAt l i)
def groupL (gen place group : Nat) (l : List UInt8) : List (List UInt8) := (List.range (countS l.length)).map (secAt gen place group (countS l.length) l)
theorem groupL_length (gen place group : Nat) (l : List UInt8) : (groupL gen place group l).length = countS l.length := by simp [groupL]
theorem countS_pos (n : Nat) : 0 < countS n := by unfold countS; omega
theorem countS_le (n : Nat) : n ≤ 48 * countS n := by unfold countS; omega
theorem countS_in {n i : Nat} (h : i + 1 < countS n) : 48 * (i + 1) < n := by unfold countS at h; omega
theorem countS_last {n i : Nat} (h : i + 1 = countS n) (hi : 0 < i) : 48 * i < n := by unfold countS at h; omega
theorem partAt_length (l : List UInt8) (i : Nat) : (partAt l i).length = min 48 (l.length - 48 * i) := by simp [partAt]
theorem partAt_le (l : List UInt8) (i : Nat) : (partAt l i).length ≤ 48 := by rw [partAt_length]; omega
/-- A reader between two groups. -/
structure Clean (R : RM) : Prop where
  missing : R.missing = 0
  begun : R.begun = ⟨#[]⟩
/-- Behind i sectors of a group. -/
def midR (R : RM) (l : List UInt8) (i : Nat) : RM := if i = 0 then R else ⟨R.groups, R.used, ofL (l.take (48 * i)), R.taken + i, countS l.length - i⟩
def doneR (R : RM) (l : List UInt8) : RM := ⟨R.groups ++ [ofL l], R.taken + countS l.length, ⟨#[]⟩, R.taken + countS l.length, 0⟩
theorem doneR_clean (R : RM) (l : List UInt8) : Clean (doneR R l) := ⟨rfl, rfl⟩
theorem mid_taken (R : RM) (l : List UInt8) (i : Nat) : (midR R l i).taken = R.taken + i := by
  unfold midR
  split
  · rename_i h; rw [h]; rfl
  · rfl
theorem mid_groups (R : RM) (l : List UInt8) (i : Nat) : (midR R l i).groups = R.groups := by unfold midR; split <;> rfl
theorem mid_used (R : RM) (l : List UInt8) (i : Nat) : (midR R l i).used = R.used := by unfold midR; split <;> rfl
theorem mid_missing {R : RM} (hc : Clean R) (l : List UInt8) (i : Nat) : (midR R l i).missing = if i = 0 then 0 else countS l.length - i := by
  unfold midR
  split
  · exact hc.missing
  · rfl
theorem mid_begun {R : RM} (hc : Clean R) (l : List UInt8) (i : Nat) : (midR R l i).begun = ofL (l.take (48 * i)) := by
  unfold midR
  split
  · rename_i h; rw [hc.begun, h]; rfl
  · rfl
theorem mid_fit {R : RM} (hc : Clean R) (gen : Nat) (l : List UInt8) (hl : countS l.length ≤ 65536) (i : Nat) (hi : i < countS l.length) :
    (midR R l i).fit gen (secAt gen R.taken R.groups.length (countS l.length) l i) = true := by
  have hB : behL (secAt gen R.taken R.groups.length (countS l.length) l i) = countS l.length - 1 - i := beh_sector _ _ _ _ _ (by omega)
  have hS : sizL (secAt gen R.taken R.groups.length (countS l.length) l i) = (partAt l i).length := siz_sector _ _ _ _ _ (partAt_le l i)
  have hP : partL (secAt gen R.taken R.groups.length (countS l.length) l i) = partAt l i := part_sector _ _ _ _ _ (partAt_le l i)
  unfold RM.fit
  rw [hB, hS, hP, mid_taken, mid_groups, mid_missing hc]
  have e : (secAt gen R.taken R.groups.length (countS l.length) l i == sectorL gen (R.taken + i) R.groups.length (countS l.length - 1 - i) (partAt l i)) = true := by
    rw [beq_iff_eq]; rfl
  rw [e, Bool.and_true]
  unfold fitsP
  rw [partAt_length]
  by_cases h0 : i = 0
  · subst h0
    rw [if_pos rfl, if_neg (by omega)]
    by_cases hb : 0 < countS l.length - 1 - 0
    · rw [if_pos hb, decide_eq_true_eq]
      have := countS_in (n := l.length) (i := 0) (by omega)
      omega
    · rw [if_neg hb, if_neg (by omega), decide_eq_true_eq]; omega
  · rw [if_neg h0, if_neg (by omega)]
    by_cases hb : 0 < countS l.length - 1 - i
    · rw [if_pos hb, decide_eq_true_eq]
      have := countS_in (n := l.length) (i := i) (by omega)
      omega
    · have := countS_last (n := l.length) (i := i) (by omega) (by omega)
      rw [if_neg hb, if_neg (by omega), decide_eq_true_eq]; omega
theorem mid_next {R : RM} (hc : Clean R) (gen : Nat) (l : List UInt8) (hl : countS l.length ≤ 65536) (i : Nat) (hi : i < countS l.length) :
    (midR R l i).next (secAt gen R.taken R.groups.length (countS l.length) l i) = if i + 1 < countS l.length then midR R l (i + 1) else doneR R l := by
  have hB : behL (secAt gen R.taken R.groups.length (countS l.length) l i) = countS l.length - 1 - i := beh_sector _ _ _ _ _ (by omega)
  have hP : partL (secAt gen R.taken R.groups.length (countS l.length) l i) = partAt l i := part_sector _ _ _ _ _ (partAt_le l i)
  have hg : (midR R l i).grown (secAt gen R.taken R.groups.length (countS l.length) l i) = ofL (l.take (48 * (i + 1))) := by
    unfold RM.grown
    rw [hP, mid_begun hc, ← ofL_append]
    unfold partAt
    rw [show 48 * (i + 1) = 48 * i + 48 by omega, List.take_add]
  unfold RM.next
  rw [hB, hg, mid_groups, mid_used, mid_taken]
  by_cases h : i + 1 < countS l.length
  · rw [if_neg (by omega), if_pos h]
    unfold midR
    rw [if_neg (by omega), show countS l.length - 1 - i = countS l.length - (i + 1) by omega, Nat.add_assoc]
  · have e : l.take (48 * (i + 1)) = l := List.take_of_length_le (by rw [show i + 1 = countS l.length by omega]; exact countS_le l.length)
    rw [if_pos (by omega), if_neg h, e]
    unfold doneR
    rw [show R.taken + i + 1 = R.taken + countS l.length by omega]
theorem reads_mid {R : RM} (hc : Clean R) (gen : Nat) (l : List UInt8) (hl : countS l.length ≤ 65536) : ∀ (j : Nat) (rest : List (List UInt8)), j < countS l.length →
    readsM gen R ((groupL gen R.taken R.groups.length l).take j ++ rest) = readsM gen (midR R l j) rest
  | 0, rest, _ => by
    rw [List.take_zero, List.nil_append]
    rfl
  | j + 1, rest, h => by
    have hj : j < (groupL gen R.taken R.groups.length l).length := by rw [groupL_length]; omega
    have e : (groupL gen R.taken R.groups.length l)[j] = secAt gen R.taken R.groups.length (countS l.length) l j := by simp [groupL]
    rw [List.take_succ_eq_append_getElem hj, List.append_assoc, List.singleton_append, reads_mid hc gen l hl j _ (by omega), e, readsM, if_pos (mid_fit hc gen l hl j (by omega)), mid_next hc gen l hl j (by omega), if_pos h]
theorem reads_group {R : RM} (hc : Clean R) (gen : Nat) (l : List UInt8) (hl : countS l.length ≤ 65536) (rest : List (List UInt8)) :
    readsM gen R (groupL gen R.taken R.groups.length l ++ rest) = readsM gen (doneR R l) rest := by
  have hp := countS_pos l.length
  have hj : countS l.length - 1 < (groupL gen R.taken R.groups.length l).length := by rw [groupL_length]; omega
  have e : (groupL gen R.taken R.groups.length l)[countS l.length - 1] = secAt gen R.taken R.groups.length (countS l.length) l (countS l.length - 1) := by simp [groupL]
  have e2 : groupL gen R.taken R.groups.length l = (groupL gen R.taken R.groups.length l).take (countS l.length - 1) ++ [(groupL gen R.taken R.groups.length l)[countS l.length - 1]] := by
    rw [← List.take_succ_eq_append_getElem hj, List.take_of_length_le (by rw [groupL_length]; omega)]
  rw [e2, List.append_assoc, List.singleton_append, reads_mid hc gen l hl _ _ (by omega), e, readsM, if_pos (mid_fit hc gen l hl _ (by omega)), mid_next hc gen l hl _ (by omega), if_neg (by omega)]

/-! ## a log -/
def logL (gen : Nat) : Nat → Nat → List (List UInt8) → List (List UInt8)
  | _, _, [] => []
  | place, group, l :: r => groupL gen place group l ++ logL gen (place + countS l.length) (group + 1) r
def placesL : List (List UInt8) → Nat
  | [] => 0
  | l :: r => countS l.length + placesL r
theorem logL_length (gen : Nat) : ∀ (gs : List (List UInt8)) (place group : Nat), (logL gen place group gs).length = placesL gs
  | [], _, _ => rfl
  | l :: r, place, group => by rw [logL, List.length_append, groupL_length, logL_length gen r, placesL]
theorem logL_append (gen : Nat) : ∀ (a b : List (List UInt8)) (place group : Nat), logL gen place group (a ++ b) = logL gen place group a ++ logL gen (place + placesL a) (group + a.length) b
  | [], b, place, group => rfl
  | l :: r, b, place, group => by
    rw [List.cons_append, logL, logL_append gen r b, logL, List.append_assoc, placesL, List.length_cons]
    rw [show place + countS l.length + placesL r = place + (countS l.length + placesL r) by omega, show group + 1 + r.length = group + (r.length + 1) by omega]
theorem placesL_append : ∀ (a b : List (List UInt8)), placesL (a ++ b) = placesL a + placesL b
  | [], b => by simp [placesL]
  | l :: r, b => by rw [List.cons_append, placesL, placesL_append r b, placesL]; omega
def doneAll (R : RM) (gs : List (List UInt8)) : RM := gs.foldl doneR R
theorem doneAll_clean {R : RM} (hc : Clean R) : ∀ (gs : List (List UInt8)), Clean (doneAll R gs) := by
  intro gs
  induction gs generalizing R with
  | nil => exact hc
  | cons l r ih => exact ih (doneR_clean R l)
theorem doneAll_groups : ∀ (gs : List (List UInt8)) (R : RM), (doneAll R gs).groups = R.groups ++ gs.map ofL
  | [], R => by simp [doneAll]
  | l :: r, R => by
    show (doneAll (doneR R l) r).groups = _
    rw [doneAll_groups r]
    simp [doneR]
theorem doneAll_taken : ∀ (gs : List (List UInt8)) (R : RM), (doneAll R gs).taken = R.taken + placesL gs
  | [], R => rfl
  | l :: r, R => by
    show (doneAll (doneR R l) r).taken = _
    rw [doneAll_taken r, placesL]
    show R.taken + countS l.length + _ = _
    omega
theorem doneAll_used : ∀ (gs : List (List UInt8)) (R : RM), R.used = R.taken → (doneAll R gs).used = R.taken + placesL gs
  | [], R, h => h
  | l :: r, R, _ => by
    show (doneAll (doneR R l) r).used = _
    rw [doneAll_used r _ rfl, placesL]
    show R.taken + countS l.length + _ = _
    omega
theorem reads_log (gen : Nat) : ∀ (gs : List (List UInt8)) (R : RM) (rest : List (List UInt8)), Clean R → (∀ l ∈ gs, countS l.length ≤ 65536) →
    readsM gen R (logL gen R.taken R.groups.length gs ++ rest) = readsM gen (doneAll R gs) rest
  | [], R, rest, _, _ => rfl
  | l :: r, R, rest, hc, h => by
    rw [logL, List.append_assoc, reads_group hc gen l (h l (by simp))]
    have e := reads_log gen r (doneR R l) rest (doneR_clean R l) (fun x hx => h x (by simp [hx]))
    have e2 : (doneR R l).groups.length = R.groups.length + 1 := by simp [doneR]
    rw [e2] at e
    exact e
end Go.Proofs.Ytggchfmglaijgaa
