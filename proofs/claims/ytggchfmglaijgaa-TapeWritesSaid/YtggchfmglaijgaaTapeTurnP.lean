/- Proved here: what a reader tells of a log one of whose sectors is none any more; what stands on a drum's sectors behind an Append; no program is named. -/
import Derived.Test.YtggchfmglaijgaaTapeReads
namespace Go.Proofs.Ytggchfmglaijgaa
open Go.RowKit

theorem sector_split (gen place group behind : Nat) (l : List UInt8) : ∃ a : List UInt8, a.length = 4 ∧ sectorL gen place group behind l = a ++ (numL gen 4 ++ (numL place 2 ++ (numL group 2 ++ (numL behind 2 ++ (numL l.length 2 ++ (l ++ zL (60 - (12 + l.length)))))))) := by
  refine ⟨numL (sumN (fillL (markL gen place group behind l) 60)) 4, numL_length _ _, ?_⟩
  unfold sectorL sealL fillL
  rw [markL_length]
  unfold markL
  simp only [List.append_assoc]
theorem beh_sector (gen place group behind : Nat) (l : List UInt8) (h : behind < 65536) : behL (sectorL gen place group behind l) = behind := by
  obtain ⟨a, ha, e⟩ := sector_split gen place group behind l
  unfold behL
  rw [e, show a ++ (numL gen 4 ++ (numL place 2 ++ (numL group 2 ++ (numL behind 2 ++ (numL l.length 2 ++ (l ++ zL (60 - (12 + l.length)))))))) = (a ++ (numL gen 4 ++ (numL place 2 ++ numL group 2))) ++ (numL behind 2 ++ (numL l.length 2 ++ (l ++ zL (60 - (12 + l.length))))) by simp only [List.append_assoc],
    List.drop_left' (by simp only [List.length_append, numL_length, ha]), List.take_left' (numL_length _ _), val_num]
  exact Nat.mod_eq_of_lt (by omega)
theorem siz_sector (gen place group behind : Nat) (l : List UInt8) (h : l.length ≤ 48) : sizL (sectorL gen place group behind l) = l.length := by
  obtain ⟨a, ha, e⟩ := sector_split gen place group behind l
  unfold sizL
  rw [e, show a ++ (numL gen 4 ++ (numL place 2 ++ (numL group 2 ++ (numL behind 2 ++ (numL l.length 2 ++ (l ++ zL (60 - (12 + l.length)))))))) = (a ++ (numL gen 4 ++ (numL place 2 ++ (numL group 2 ++ numL behind 2)))) ++ (numL l.length 2 ++ (l ++ zL (60 - (12 + l.length)))) by simp only [List.append_assoc],
    List.drop_left' (by simp only [List.length_append, numL_length, ha]), List.take_left' (numL_length _ _), val_num]
  exact Nat.mod_eq_of_lt (by omega)
theorem part_sector (gen place group behind : Nat) (l : List UInt8) (h : l.length ≤ 48) : partL (sectorL gen place group behind l) = l := by
  obtain ⟨a, ha, e⟩ := sector_split gen place group behind l
  unfold partL
  rw [siz_sector _ _ _ _ _ h, e, show a ++ (numL gen 4 ++ (numL place 2 ++ (numL group 2 ++ (numL behind 2 ++ (numL l.length 2 ++ (l ++ zL (60 - (12 + l.length)))))))) = (a ++ (numL gen 4 ++ (numL place 2 ++ (numL group 2 ++ (numL behind 2 ++ numL l.length 2))))) ++ (l ++ zL (60 - (12 + l.length))) by simp only [List.append_assoc],
    List.drop_left' (by simp only [List.length_append, numL_length, ha]), List.take_left' rfl]
def genL (l : List UInt8) : Nat := valN ((l.drop 4).take 4)
theorem gen_sector (gen place group behind : Nat) (l : List UInt8) (h : gen < 4294967296) : genL (sectorL gen place group behind l) = gen := by
  obtain ⟨a, ha, e⟩ := sector_split gen place group behind l
  unfold genL
  rw [e, List.drop_left' ha, List.take_left' (numL_length _ _), val_num]
  exact Nat.mod_eq_of_lt h
/-- A sector of another generation ends it. -/
theorem fit_gen {gen : Nat} {M : RM} {l : List UInt8} (hg : gen < 4294967296) (h : genL l ≠ gen) : M.fit gen l = false := by
  unfold RM.fit
  rw [Bool.and_eq_false_iff]
  right
  rw [beq_eq_false_iff_ne]
  intro e
  apply h
  rw [e, gen_sector _ _ _ _ _ hg]
/-- A sector behind another sum ends it. -/
theorem fit_sum {gen : Nat} {M : RM} {l : List UInt8} (h : sealed l = false) : M.fit gen l = false := by
  unfold RM.fit
  rw [Bool.and_eq_false_iff]
  right
  rw [beq_eq_false_iff_ne]
  intro e
  rw [e] at h
  unfold sectorL at h
  rw [sealed_seal] at h
  cases h
theorem reads_stop {gen : Nat} {M : RM} {l : List UInt8} (h : M.fit gen l = false) (r : List (List UInt8)) : readsM gen M (l :: r) = M := by
  rw [readsM, if_neg (by rw [h]; decide)]

/-! ## groups -/
def partAt (l : List UInt8) (i : Nat) : List UInt8 := (l.drop (48 * i)).take 48
def secAt (gen place group count : Nat) (l : List UInt8) (i : Nat) : List UInt8 := sectorL gen (place + i) group (count - 1 - i) (partAt l i)
def groupL (gen place group : Nat) (l : List UInt8) : List (List UInt8) := (List.range (countS l.length)).map (secAt gen place group (countS l.length) l)
theorem groupL_length (gen place group : Nat) (l : List UInt8) : (groupL gen place group l).length = countS l.length := by simp [groupL]
theorem countS_pos (n : Nat) : 0 < countS n := by unfold countS; omega
theorem countS_le (n : Nat) : n ≤ 48 * countS n := by unfold countS; omega
theorem countS_in {n i : Nat} (h : i + 1 < countS n) : 48 * (i + 1) < n := by unfold countS at h; omega
theorem countS_last {n i : Nat} (h : i + 1 = countS n) (hi : 0 < i) : 48 * i < n := by unfold countS at h; omega
theorem partAt_length (l : List UInt8) (i : Nat) : (partAt l i).length = min 48 (l.length - 48 * i) := by simp [partAt]
theorem partAt_le (l : List UInt8) (i : Nat) : (partAt l i).length ≤ 48 := by rw [partAt_length]; omega
/-- A reader between two groups. -/
structure Clean (R : RM) : Prop where
  missing : R.missing = 0
  begun : R.begun = ⟨#[]⟩
/-- Behind i sectors of a group. -/
def midR (R : RM) (l : List UInt8) (i : Nat) : RM := if i = 0 then R else ⟨R.groups, R.used, ofL (l.take (48 * i)), R.taken + i, countS l.length - i⟩
def doneR (R : RM) (l : List UInt8) : RM := ⟨R.groups ++ [ofL l], R.taken + countS l.length, ⟨#[]⟩, R.taken + countS l.length, 0⟩
theorem doneR_clean (R : RM) (l : List UInt8) : Clean (doneR R l) := ⟨rfl, rfl⟩
theorem mid_taken (R : RM) (l : List UInt8) (i : Nat) : (midR R l i).taken = R.taken + i := by
  unfold midR
  split
  · rename_i h; rw [h]; rfl
  · rfl
theorem mid_groups (R : RM) (l : List UInt8) (i : Nat) : (midR R l i).groups = R.groups := by unfold midR; split <;> rfl
theorem mid_used (R : RM) (l : List UInt8) (i : Nat) : (midR R l i).used = R.used := by unfold midR; split <;> rfl
theorem mid_missing {R : RM} (hc : Clean R) (l : List UInt8) (i : Nat) : (midR R l i).missing = if i = 0 then 0 else countS l.length - i := by
  unfold midR
  split
  · exact hc.missing
  · rfl
theorem mid_begun {R : RM} (hc : Clean R) (l : List UInt8) (i : Nat) : (midR R l i).begun = ofL (l.take (48 * i)) := by
  unfold midR
  split
  · rename_i h; rw [hc.begun, h]; rfl
  · rfl
theorem mid_fit {R : RM} (hc : Clean R) (gen : Nat) (l : List UInt8) (hl : countS l.length ≤ 65536) (i : Nat) (hi : i < countS l.length) :
    (midR R l i).fit gen (secAt gen R.taken R.groups.length (countS l.length) l i) = true := by
  have hB : behL (secAt gen R.taken R.groups.length (countS l.length) l i) = countS l.length - 1 - i := beh_sector _ _ _ _ _ (by omega)
  have hS : sizL (secAt gen R.taken R.groups.length (countS l.length) l i) = (partAt l i).length := siz_sector _ _ _ _ _ (partAt_le l i)
  have hP : partL (secAt gen R.taken R.groups.length (countS l.length) l i) = partAt l i := part_sector _ _ _ _ _ (partAt_le l i)
  unfold RM.fit
  rw [hB, hS, hP, mid_taken, mid_groups, mid_missing hc]
  have e : (secAt gen R.taken R.groups.length (countS l.length) l i == sectorL gen (R.taken + i) R.groups.length (countS l.length - 1 - i) (partAt l i)) = true := by
    rw [beq_iff_eq]; rfl
  rw [e, Bool.and_true]
  unfold fitsP
  rw [partAt_length]
  by_cases h0 : i = 0
  · subst h0
    rw [if_pos rfl, if_neg (by omega)]
    by_cases hb : 0 < countS l.length - 1 - 0
    · rw [if_pos hb, decide_eq_true_eq]
      have := countS_in (n := l.length) (i := 0) (by omega)
      omega
    · rw [if_neg hb, if_neg (by omega), decide_eq_true_eq]; omega
  · rw [if_neg h0, if_neg (by omega)]
    by_cases hb : 0 < countS l.length - 1 - i
    · rw [if_pos hb, decide_eq_true_eq]
      have := countS_in (n := l.length) (i := i) (by omega)
      omega
    · have := countS_last (n := l.length) (i := i) (by omega) (by omega)
      rw [if_neg hb, if_neg (by omega), decide_eq_true_eq]; omega
theorem mid_next {R : RM} (hc : Clean R) (gen : Nat) (l : List UInt8) (hl : countS l.length ≤ 65536) (i : Nat) (hi : i < countS l.length) :
    (midR R l i).next (secAt gen R.taken R.groups.length (countS l.length) l i) = if i + 1 < countS l.length then midR R l (i + 1) else doneR R l := by
  have hB : behL (secAt gen R.taken R.groups.length (countS l.length) l i) = countS l.length - 1 - i := beh_sector _ _ _ _ _ (by omega)
  have hP : partL (secAt gen R.taken R.groups.length (countS l.length) l i) = partAt l i := part_sector _ _ _ _ _ (partAt_le l i)
  have hg : (midR R l i).grown (secAt gen R.taken R.groups.length (countS l.length) l i) = ofL (l.take (48 * (i + 1))) := by
    unfold RM.grown
    rw [hP, mid_begun hc, ← ofL_append]
    unfold partAt
    rw [show 48 * (i + 1) = 48 * i + 48 by omega, List.take_add]
  unfold RM.next
  rw [hB, hg, mid_groups, mid_used, mid_taken]
  by_cases h : i + 1 < countS l.length
  · rw [if_neg (by omega), if_pos h]
    unfold midR
    rw [if_neg (by omega), show countS l.length - 1 - i = countS l.length - (i + 1) by omega, Nat.add_assoc]
  · have e : l.take (48 * (i + 1)) = l := List.take_of_length_le (by rw [show i + 1 = countS l.length by omega]; exact countS_le l.length)
    rw [if_pos (by omega), if_neg h, e]
    unfold doneR
    rw [show R.taken + i + 1 = R.taken + countS l.length by omega]
theorem reads_mid {R : RM} (hc : Clean R) (gen : Nat) (l : List UInt8) (hl : countS l.length ≤ 65536) : ∀ (j : Nat) (rest : List (List UInt8)), j < countS l.length →
    readsM gen R ((groupL gen R.taken R.groups.length l).take j ++ rest) = readsM gen (midR R l j) rest
  | 0, rest, _ => by
    rw [List.take_zero, List.nil_append]
    rfl
  | j + 1, rest, h => by
    have hj : j < (groupL gen R.taken R.groups.length l).length := by rw [groupL_length]; omega
    have e : (groupL gen R.taken R.groups.length l)[j] = secAt gen R.taken R.groups.length (countS l.length) l j := by simp [groupL]
    rw [List.take_succ_eq_append_getElem hj, List.append_assoc, List.singleton_append, reads_mid hc gen l hl j _ (by omega), e, readsM, if_pos (mid_fit hc gen l hl j (by omega)), mid_next hc gen l hl j (by omega), if_pos h]
theorem reads_group {R : RM} (hc : Clean R) (gen : Nat) (l : List UInt8) (hl : countS l.length ≤ 65536) (rest : List (List UInt8)) :
    readsM gen R (groupL gen R.taken R.groups.length l ++ rest) = readsM gen (doneR R l) rest := by
  have hp := countS_pos l.length
  have hj : countS l.length - 1 < (groupL gen R.taken R.groups.length l).length := by rw [groupL_length]; omega
  have e : (groupL gen R.taken R.groups.length l)[countS l.length - 1] = secAt gen R.taken R.groups.length (countS l.length) l (countS l.length - 1) := by simp [groupL]
  have e2 : groupL gen R.taken R.groups.length l = (groupL gen R.taken R.groups.length l).take (countS l.length - 1) ++ [(groupL gen R.taken R.groups.length l)[countS l.length - 1]] := by
    rw [← List.take_succ_eq_append_getElem hj, List.take_of_length_le (by rw [groupL_length]; omega)]
  rw [e2, List.append_assoc, List.singleton_append, reads_mid hc gen l hl _ _ (by omega), e, readsM, if_pos (mid_fit hc gen l hl _ (by omega)), mid_next hc gen l hl _ (by omega), if_neg (by omega)]

/-! ## a log -/
def logL (gen : Nat) : Nat → Nat → List (List UInt8) → List (List UInt8)
  | _, _, [] => []
  | place, group, l :: r => groupL gen place group l ++ logL gen (place + countS l.length) (group + 1) r
def placesL : List (List UInt8) → Nat
  | [] => 0
  | l :: r => countS l.length + placesL r
theorem logL_length (gen : Nat) : ∀ (gs : List (List UInt8)) (place group : Nat), (logL gen place group gs).length = placesL gs
  | [], _, _ => rfl
  | l :: r, place, group => by rw [logL, List.length_append, groupL_length, logL_length gen r, placesL]
theorem logL_append (gen : Nat) : ∀ (a b : List (List UInt8)) (place group : Nat), logL gen place group (a ++ b) = logL gen place group a ++ logL gen (place + placesL a) (group + a.length) b
  | [], b, place, group => rfl
  | l :: r, b, place, group => by
    rw [List.cons_append, logL, logL_append gen r b, logL, List.append_assoc, placesL, List.length_cons]
    rw [show place + countS l.length + placesL r = place + (countS l.length + placesL r) by omega, show group + 1 + r.length = group + (r.length + 1) by omega]
theorem placesL_append : ∀ (a b : List (List UInt8)), placesL (a ++ b) = placesL a + placesL b
  | [], b => by simp [placesL]
  | l :: r, b => by rw [List.cons_append, placesL, placesL_append r b, placesL]; omega
def doneAll (R : RM) (gs : List (List UInt8)) : RM := gs.foldl doneR R
theorem doneAll_clean {R : RM} (hc : Clean R) : ∀ (gs : List (List UInt8)), Clean (doneAll R gs) := by
  intro gs
  induction gs generalizing R with
  | nil => exact hc
  | cons l r ih => exact ih (doneR_clean R l)
theorem doneAll_groups : ∀ (gs : List (List UInt8)) (R : RM), (doneAll R gs).groups = R.groups ++ gs.map ofL
  | [], R => by simp [doneAll]
  | l :: r, R => by
    show (doneAll (doneR R l) r).groups = _
    rw [doneAll_groups r]
    simp [doneR]
theorem doneAll_taken : ∀ (gs : List (List UInt8)) (R : RM), (doneAll R gs).taken = R.taken + placesL gs
  | [], R => rfl
  | l :: r, R => by
    show (doneAll (doneR R l) r).taken = _
    rw [doneAll_taken r, placesL]
    show R.taken + countS l.length + _ = _
    omega
theorem doneAll_used : ∀ (gs : List (List UInt8)) (R : RM), R.used = R.taken → (doneAll R gs).used = R.taken + placesL gs
  | [], R, h => h
  | l :: r, R, _ => by
    show (doneAll (doneR R l) r).used = _
    rw [doneAll_used r _ rfl, placesL]
    show R.taken + countS l.length + _ = _
    omega
theorem reads_log (gen : Nat) : ∀ (gs : List (List UInt8)) (R : RM) (rest : List (List UInt8)), Clean R → (∀ l ∈ gs, countS l.length ≤ 65536) →
    readsM gen R (logL gen R.taken R.groups.length gs ++ rest) = readsM gen (doneAll R gs) rest
  | [], R, rest, _, _ => rfl
  | l :: r, R, rest, hc, h => by
    rw [logL, List.append_assoc, reads_group hc gen l (h l (by simp))]
    have e := reads_log gen r (doneR R l) rest (doneR_clean R l) (fun x hx => h x (by simp [hx]))
    have e2 : (doneR R l).groups.length = R.groups.length + 1 := by simp [doneR]
    rw [e2] at e
    exact e
end Go.Proofs.Ytggchfmglaijgaa
namespace Go.Proofs.Ytggchfmglaijgaa
open Go.RowKit

def endsL : Nat → List (List UInt8) → List Nat
  | _, [] => []
  | place, l :: r => (place + countS l.length) :: endsL (place + countS l.length) r
theorem endsL_length : ∀ (gs : List (List UInt8)) (place : Nat), (endsL place gs).length = gs.length
  | [], _ => rfl
  | l :: r, place => by rw [endsL, List.length_cons, endsL_length r, List.length_cons]
theorem endsL_snoc : ∀ (gs : List (List UInt8)) (place : Nat) (l : List UInt8), endsL place (gs ++ [l]) = endsL place gs ++ [place + placesL gs + countS l.length]
  | [], place, l => rfl
  | x :: r, place, l => by
    rw [List.cons_append, endsL, endsL_snoc r, endsL, List.cons_append, placesL]
    rw [show place + countS x.length + placesL r + countS l.length = place + (countS x.length + placesL r) + countS l.length by omega]
/-- How many groups stand ahead of a sector. -/
def aheadL (j : Nat) (ends : List Nat) : Nat := (ends.takeWhile (fun e => decide (e ≤ j))).length
theorem turned (gen j0 : Nat) : ∀ (gs : List (List UInt8)) (R : RM) (j : Nat) (l' : List UInt8) (rest : List (List UInt8)), Clean R → (∀ l ∈ gs, countS l.length ≤ 65536) → j < placesL gs → sealed l' = false → R.taken + j = j0 →
    (readsM gen R ((logL gen R.taken R.groups.length gs).set j l' ++ rest)).groups.length = R.groups.length + aheadL j0 (endsL R.taken gs)
  | [], R, j, l', rest, _, _, h, _, _ => absurd h (Nat.not_lt_zero j)
  | l :: r, R, j, l', rest, hc, hs, h, hl, hj0 => by
    have hcl := hs l (by simp)
    rw [logL]
    by_cases hj : j < countS l.length
    · have hg : j < (groupL gen R.taken R.groups.length l).length := by rw [groupL_length]; exact hj
      rw [List.set_append_left _ _ hg, List.set_eq_take_append_cons_drop, if_pos hg, List.append_assoc, List.append_assoc, reads_mid hc gen l hcl j _ hj, List.cons_append, reads_stop (fit_sum hl), mid_groups]
      unfold aheadL
      rw [endsL, List.takeWhile_cons_of_neg (by rw [decide_eq_true_eq]; omega)]
      rfl
    · have hg : ¬ j < (groupL gen R.taken R.groups.length l).length := by rw [groupL_length]; exact hj
      rw [List.set_append_right _ _ (by omega), List.append_assoc, reads_group hc gen l hcl, groupL_length]
      have e2 : (doneR R l).groups.length = R.groups.length + 1 := by simp [doneR]
      have ih := turned gen j0 r (doneR R l) (j - countS l.length) l' rest (doneR_clean R l) (fun x hx => hs x (by simp [hx])) (by rw [placesL] at h; omega) hl (by show R.taken + countS l.length + _ = _; omega)
      rw [e2] at ih
      rw [show (readsM gen (doneR R l) ((logL gen (R.taken + countS l.length) (R.groups.length + 1) r).set (j - countS l.length) l' ++ rest)).groups.length = _ from ih]
      unfold aheadL
      rw [endsL, List.takeWhile_cons_of_pos (by rw [decide_eq_true_eq]; omega), List.length_cons]
      show R.groups.length + 1 + (List.takeWhile _ (endsL (R.taken + countS l.length) r)).length = _
      omega

/-! ## on a drum -/
theorem still_write {M : DM} (h : Still M) (n : Nat) (s : ByteArray) : Still (M.write n s) ∧ (M.write n s).steps = M.steps + 1 ∧ (M.write n s).loose.length = M.loose.length + 1 := by
  rw [DM.write_yes _ h.off]
  refine ⟨⟨?_, ?_⟩, ?_, ?_⟩
  · show (DM.step _).fuse = none
    rw [DM.step_fuse _ h.off, h.fuse]; rfl
  · show (DM.step _).down = false
    rw [DM.step_down _ h.off, h.down]
  · show (DM.step _).steps = _
    rw [DM.step_steps _ h.off]
  · show (_ ++ [_]).length = _
    rw [List.length_append]; rfl
theorem still_flush {M : DM} (h : Still M) : Still M.flush ∧ M.flush.steps = M.steps + 1 ∧ M.flush.loose = [] ∧ M.flush.safe = M.now ∧ M.flush.now = M.now := by
  rw [M.flush_yes h.off]
  refine ⟨⟨?_, ?_⟩, ?_, rfl, rfl, rfl⟩
  · show (DM.step _).fuse = none
    rw [DM.step_fuse _ h.off, h.fuse]; rfl
  · show (DM.step _).down = false
    rw [DM.step_down _ h.off, h.down]
  · show (DM.step _).steps = _
    rw [DM.step_steps _ h.off]
theorem still_step {M : DM} (h : Still M) : Still M.step ∧ M.step.steps = M.steps + 1 ∧ M.step.loose.length = M.loose.length := by
  rw [show M.step = M.bump 1 from DM.bump_step h 0]
  exact ⟨h.bump 1, rfl, rfl⟩
theorem fullB_whole {s : ByteArray} (h : s.size = 64) : fullB s = s := by
  unfold fullB
  rw [h]
  apply ByteArray.ext
  simp [zeroB]
theorem write_now {M : DM} (h : M.off = false) (n : Nat) (s : ByteArray) (hs : s.size = 64) : (M.write n s).now = M.now.set n s := by
  rw [M.write_yes h]
  show layM M.step.safe (M.loose ++ [(n, fullB s)]) = _
  rw [layM_snoc, M.step_safe, fullB_whole hs]
  rfl
theorem laid_now (M : DM) (lo used gen groups : Nat) (l : List UInt8) (A B : List ByteArray) (hn : M.now = A ++ B) (hA : A.length = lo + used) : ∀ k, k ≤ B.length → (∀ j, j < k → (laidM M lo used gen groups (countS l.length) l j).off = false) →
    (laidM M lo used gen groups (countS l.length) l k).now = A ++ (((List.range k).map (fun i => ofL (secAt gen used groups (countS l.length) l i))) ++ B.drop k)
  | 0, _, _ => hn
  | k + 1, hk, ho => by
    have ih := laid_now M lo used gen groups l A B hn hA k (by omega) (fun j hj => ho j (by omega))
    have hsz : (ofL (sectorL gen (used + k) groups (countS l.length - 1 - k) (partAt l k))).size = 64 := by rw [ofL_size, sectorL_length _ _ _ _ _ (partAt_le l k)]
    rw [laidM, show (l.drop (48 * k)).take 48 = partAt l k from rfl, write_now (ho k (by omega)) _ _ hsz, ih]
    rw [List.set_append_right _ _ (by omega), hA, show lo + used + k - (lo + used) = k by omega]
    congr 1
    have hr : ((List.range k).map (fun i => ofL (secAt gen used groups (countS l.length) l i))).length = k := by simp
    rw [List.set_append_right _ _ (by omega), hr, Nat.sub_self, List.drop_eq_getElem_cons (by omega), List.set_cons_zero, List.range_succ, List.map_append, List.append_assoc]
    rfl
theorem laid_all (M : DM) (lo used gen groups : Nat) (l : List UInt8) (A B : List ByteArray) (hn : M.now = A ++ B) (hA : A.length = lo + used) (hk : countS l.length ≤ B.length) (ho : ∀ j, j < countS l.length → (laidM M lo used gen groups (countS l.length) l j).off = false) :
    (laidM M lo used gen groups (countS l.length) l (countS l.length)).now = A ++ ((groupL gen used groups l).map ofL ++ B.drop (countS l.length)) := by
  rw [laid_now M lo used gen groups l A B hn hA _ hk ho]
  unfold groupL
  rw [List.map_map]
  rfl
theorem new_now (n : Nat) : (newM n).now = List.replicate n (zeroB 64) := rfl
theorem map_bl_ofL (L : List (List UInt8)) : (L.map ofL).map bl = L := by
  rw [List.map_map]
  conv => rhs; rw [← List.map_id L]
  apply List.map_congr_left
  intro x _
  exact bl_ofL x
theorem logL_sealed (gen : Nat) : ∀ (gs : List (List UInt8)) (place group : Nat), ∀ x ∈ logL gen place group gs, sealed x = true ∧ x.length = 64
  | [], _, _, x, h => by cases h
  | l :: r, place, group, x, h => by
    rw [logL] at h
    rcases List.mem_append.1 h with h | h
    · unfold groupL at h
      obtain ⟨i, _, rfl⟩ := List.mem_map.1 h
      exact ⟨sealed_seal _, sectorL_length _ _ _ _ _ (partAt_le l i)⟩
    · exact logL_sealed gen r _ _ x h
theorem countS_places {l : List UInt8} : ∀ {gs : List (List UInt8)}, l ∈ gs → countS l.length ≤ placesL gs
  | x :: r, h => by
    rw [placesL]
    rcases List.mem_cons.1 h with rfl | h
    · omega
    · have := countS_places h; omega
theorem turned_drum {M M2 : DM} {gs : List (List UInt8)} (hX : placesL gs ≤ 60) (hnow : M.now = (logL 3 0 0 gs).map ofL ++ List.replicate (60 - placesL gs) (zeroB 64)) {kk : Nat} (hk : kk < placesL gs) {l' : List UInt8} (hl : sealed l' = false) (h2 : M2.now = M.now.set kk (ofL l')) :
    (readsM 3 newR (logOf M2 0 60)).groups.length = aheadL kk (endsL 0 gs) := by
  have hlen : (logL 3 0 0 gs).length = placesL gs := logL_length 3 gs 0 0
  have e : logOf M2 0 60 = (logL 3 0 0 gs).set kk l' ++ List.replicate (60 - placesL gs) (bl (zeroB 64)) := by
    unfold logOf
    rw [h2, hnow, List.set_append_left _ _ (by rw [List.length_map, hlen]; exact hk), List.drop_zero, List.take_of_length_le (by rw [List.length_append, List.length_set, List.length_map, hlen, List.length_replicate]; omega), List.map_append, List.map_set, map_bl_ofL, bl_ofL, List.map_replicate]
  rw [e]
  have h := turned 3 kk gs newR kk l' (List.replicate (60 - placesL gs) (bl (zeroB 64))) ⟨rfl, rfl⟩ (fun l hl => by have := countS_places hl; omega) hk hl (Nat.zero_add kk)
  rw [show newR.groups.length = 0 from rfl, Nat.zero_add] at h
  exact h
theorem now_at {M : DM} {gs : List (List UInt8)} (hnow : M.now = (logL 3 0 0 gs).map ofL ++ List.replicate (60 - placesL gs) (zeroB 64)) {kk : Nat} (hk : kk < placesL gs) :
    sealed (bl (M.now.getD kk ⟨#[]⟩)) = true ∧ (bl (M.now.getD kk ⟨#[]⟩)).length = 64 := by
  have hlen : (logL 3 0 0 gs).length = placesL gs := logL_length 3 gs 0 0
  have hk2 : kk < ((logL 3 0 0 gs).map ofL).length := by rw [List.length_map, hlen]; exact hk
  rw [hnow, List.getD_eq_getElem?_getD, List.getElem?_append_left hk2, List.getElem?_eq_getElem hk2, Option.getD_some, List.getElem_map, bl_ofL]
  exact logL_sealed 3 gs 0 0 _ (List.getElem_mem _)
theorem ahead_at (j : Nat) (ends : List Nat) (n : Nat) (hn : n ≤ ends.length) (h1 : ∀ i (h : i < ends.length), i < n → ends[i] ≤ j) (h2 : ∀ h : n < ends.length, ¬ ends[n] ≤ j) : aheadL j ends = n := by
  induction ends generalizing n with
  | nil => unfold aheadL; simp at hn; rw [hn]; rfl
  | cons e r ih =>
    unfold aheadL
    cases n with
    | zero =>
      rw [List.takeWhile_cons_of_neg (by rw [decide_eq_true_eq]; exact h2 (by simp))]
      rfl
    | succ n =>
      rw [List.takeWhile_cons_of_pos (by rw [decide_eq_true_eq]; exact h1 0 (by simp) (by omega)), List.length_cons]
      have := ih n (by simpa using hn) (fun i h hi => h1 (i + 1) (Nat.succ_lt_succ h) (by omega)) (fun h => h2 (Nat.succ_lt_succ h))
      unfold aheadL at this
      rw [this]
end Go.Proofs.Ytggchfmglaijgaa
