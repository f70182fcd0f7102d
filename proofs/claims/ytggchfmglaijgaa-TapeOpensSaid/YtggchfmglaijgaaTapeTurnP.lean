/- Proved here: what a reader tells of a log one of whose sectors is none any more; what stands on a drum's sectors behind an Append; no program is named. -/
import Derived.Test.YtggchfmglaijgaaTapeLog
namespace Go.Proofs.Ytggchfmglaijgaa
open Go.RowKit

def endsL : Nat → List (List UInt8) → List Nat
  | _, [] => []
  | place, l :: r => (place + countS l.length) :: endsL (place + countS l.length) r
theorem endsL_length : ∀ (gs : List (List UInt8)) (place : Nat), (endsL place gs).length = gs.length
  | [], _ => rfl
  | l :: r, place => by rw [endsL, List.length_cons, endsL_length r, List.length_cons]
theorem endsL_snoc : ∀ (gs : List (List UInt8)) (place : Nat) (l : List UInt8), endsL place (gs ++ [l]) = endsL place gs ++ [place + placesL gs + countS l.length]
  | [], place, l => rfl
  | x :: r, place, l => by
    rw [List.cons_append, endsL, endsL_snoc r, endsL, List.cons_append, placesL]
    rw [show place + countS x.length + placesL r + countS l.length = place + (countS x.length + placesL r) + countS l.length by omega]
/-- How many groups stand ahead of a sector. -/
def aheadL (j : Nat) (ends : List Nat) : Nat := (ends.takeWhile (fun e => decide (e ≤ j))).length
theorem turned (gen j0 : Nat) : ∀ (gs : List (List UInt8)) (R : RM) (j : Nat) (l' : List UInt8) (rest : List (List UInt8)), Clean R → (∀ l ∈ gs, countS l.length ≤ 65536) → j < placesL gs → sealed l' = false → R.taken + j = j0 →
    (readsM gen R ((logL gen R.taken R.groups.length gs).set j l' ++ rest)).groups.length = R.groups.length + aheadL j0 (endsL R.taken gs)
  | [], R, j, l', rest, _, _, h, _, _ => absurd h (Nat.not_lt_zero j)
  | l :: r, R, j, l', rest, hc, hs, h, hl, hj0 => by
    have hcl := hs l (by simp)
    rw [logL]
    by_cases hj : j < countS l.length
    · have hg : j < (groupL gen R.taken R.groups.length l).length := by rw [groupL_length]; exact hj
      rw [List.set_append_left _ _ hg, List.set_eq_take_append_cons_drop, if_pos hg, List.append_assoc, List.append_assoc, reads_mid hc gen l hcl j _ hj, List.cons_append, reads_stop (fit_sum hl), mid_groups]
      unfold aheadL
      rw [endsL, List.takeWhile_cons_of_neg (by rw [decide_eq_true_eq]; omega)]
      rfl
    · have hg : ¬ j < (groupL gen R.taken R.groups.length l).length := by rw [groupL_length]; exact hj
      rw [List.set_append_right _ _ (by omega), List.append_assoc, reads_group hc gen l hcl, groupL_length]
      have e2 : (doneR R l).groups.length = R.groups.length + 1 := by simp [doneR]
      have ih := turned gen j0 r (doneR R l) (j - countS l.length) l' rest (doneR_clean R l) (fun x hx => hs x (by simp [hx])) (by rw [placesL] at h; omega) hl (by show R.taken + countS l.length + _ = _; omega)
      rw [e2] at ih
      rw [show (readsM gen (doneR R l) ((logL gen (R.taken + countS l.length) (R.groups.length + 1) r).set (j - countS l.length) l' ++ rest)).groups.length = _ from ih]
      unfold aheadL
      rw [endsL, List.takeWhile_cons_of_pos (by rw [decide_eq_true_eq]; omega), List.length_cons]
      show R.groups.length + 1 + (List.takeWhile _ (endsL (R.taken + countS l.length) r)).length = _
      omega

/-! ## on a drum -/
theorem still_write {M : DM} (h : Still M) (n : Nat) (s : ByteArray) : Still (M.write n s) ∧ (M.write n s).steps = M.steps + 1 ∧ (M.write n s).loose.length = M.loose.length + 1 := by
  rw [DM.write_yes _ h.off]
  refine ⟨⟨?_, ?_⟩, ?_, ?_⟩
  · show (DM.step _).fuse = none
    rw [DM.step_fuse _ h.off, h.fuse]; rfl
  · show (DM.step _).down = false
    rw [DM.step_down _ h.off, h.down]
  · show (DM.step _).steps = _
    rw [DM.step_steps _ h.off]
  · show (_ ++ [_]).length = _
    rw [List.length_append]; rfl
theorem still_flush {M : DM} (h : Still M) : Still M.flush ∧ M.flush.steps = M.steps + 1 ∧ M.flush.loose = [] ∧ M.flush.safe = M.now ∧ M.flush.now = M.now := by
  rw [M.flush_yes h.off]
  refine ⟨⟨?_, ?_⟩, ?_, rfl, rfl, rfl⟩
  · show (DM.step _).fuse = none
    rw [DM.step_fuse _ h.off, h.fuse]; rfl
  · show (DM.step _).down = false
    rw [DM.step_down _ h.off, h.down]
  · show (DM.step _).steps = _
    rw [DM.step_steps _ h.off]
theorem still_step {M : DM} (h : Still M) : Still M.step ∧ M.step.steps = M.steps + 1 ∧ M.step.loose.length = M.loose.length := by
  rw [show M.step = M.bump 1 from DM.bump_step h 0]
  exact ⟨h.bump 1, rfl, rfl⟩
theorem fullB_whole {s : ByteArray} (h : s.size = 64) : fullB s = s := by
  unfold fullB
  rw [h]
  apply ByteArray.ext
  simp [zeroB]
theorem write_now {M : DM} (h : M.off = false) (n : Nat) (s : ByteArray) (hs : s.size = 64) : (M.write n s).now = M.now.set n s := by
  rw [M.write_yes h]
  show layM M.step.safe (M.loose ++ [(n, fullB s)]) = _
  rw [layM_snoc, M.step_safe, fullB_whole hs]
  rfl
theorem laid_now (M : DM) (lo used gen groups : Nat) (l : List UInt8) (A B : List ByteArray) (hn : M.now = A ++ B) (hA : A.length = lo + used) : ∀ k, k ≤ B.length → (∀ j, j < k → (laidM M lo used gen groups (countS l.length) l j).off = false) →
    (laidM M lo used gen groups (countS l.length) l k).now = A ++ (((List.range k).map (fun i => ofL (secAt gen used groups (countS l.length) l i))) ++ B.drop k)
  | 0, _, _ => hn
  | k + 1, hk, ho => by
    have ih := laid_now M lo used gen groups l A B hn hA k (by omega) (fun j hj => ho j (by omega))
    have hsz : (ofL (sectorL gen (used + k) groups (countS l.length - 1 - k) (partAt l k))).size = 64 := by rw [ofL_size, sectorL_length _ _ _ _ _ (partAt_le l k)]
    rw [laidM, show (l.drop (48 * k)).take 48 = partAt l k from rfl, write_now (ho k (by omega)) _ _ hsz, ih]
    rw [List.set_append_right _ _ (by omega), hA, show lo + used + k - (lo + used) = k by omega]
    congr 1
    have hr : ((List.range k).map (fun i => ofL (secAt gen used groups (countS l.length) l i))).length = k := by simp
    rw [List.set_append_right _ _ (by omega), hr, Nat.sub_self, List.drop_eq_getElem_cons (by omega), List.set_cons_zero, List.range_succ, List.map_append, List.append_assoc]
    rfl
theorem laid_all (M : DM) (lo used gen groups : Nat) (l : List UInt8) (A B : List ByteArray) (hn : M.now = A ++ B) (hA : A.length = lo + used) (hk : countS l.length ≤ B.length) (ho : ∀ j, j < countS l.length → (laidM M lo used gen groups (countS l.length) l j).off = false) :
    (laidM M lo used gen groups (countS l.length) l (countS l.length)).now = A ++ ((groupL gen used groups l).map ofL ++ B.drop (countS l.length)) := by
  rw [laid_now M lo used gen groups l A B hn hA _ hk ho]
  unfold groupL
  rw [List.map_map]
  rfl
theorem new_now (n : Nat) : (newM n).now = List.replicate n (zeroB 64) := rfl
theorem map_bl_ofL (L : List (List UInt8)) : (L.map ofL).map bl = L := by
  rw [List.map_map]
  conv => rhs; rw [← List.map_id L]
  apply List.map_congr_left
  intro x _
  exact bl_ofL x
theorem logL_sealed (gen : Nat) : ∀ (gs : List (List UInt8)) (place group : Nat), ∀ x ∈ logL gen place group gs, sealed x = true ∧ x.length = 64
  | [], _, _, x, h => by cases h
  | l :: r, place, group, x, h => by
    rw [logL] at h
    rcases List.mem_append.1 h with h | h
    · unfold groupL at h
      obtain ⟨i, _, rfl⟩ := List.mem_map.1 h
      exact ⟨sealed_seal _, sectorL_length _ _ _ _ _ (partAt_le l i)⟩
    · exact logL_sealed gen r _ _ x h
theorem countS_places {l : List UInt8} : ∀ {gs : List (List UInt8)}, l ∈ gs → countS l.length ≤ placesL gs
  | x :: r, h => by
    rw [placesL]
    rcases List.mem_cons.1 h with rfl | h
    · omega
    · have := countS_places h; omega
theorem turned_drum {M M2 : DM} {gs : List (List UInt8)} (hX : placesL gs ≤ 60) (hnow : M.now = (logL 3 0 0 gs).map ofL ++ List.replicate (60 - placesL gs) (zeroB 64)) {kk : Nat} (hk : kk < placesL gs) {l' : List UInt8} (hl : sealed l' = false) (h2 : M2.now = M.now.set kk (ofL l')) :
    (readsM 3 newR (logOf M2 0 60)).groups.length = aheadL kk (endsL 0 gs) := by
  have hlen : (logL 3 0 0 gs).length = placesL gs := logL_length 3 gs 0 0
  have e : logOf M2 0 60 = (logL 3 0 0 gs).set kk l' ++ List.replicate (60 - placesL gs) (bl (zeroB 64)) := by
    unfold logOf
    rw [h2, hnow, List.set_append_left _ _ (by rw [List.length_map, hlen]; exact hk), List.drop_zero, List.take_of_length_le (by rw [List.length_append, List.length_set, List.length_map, hlen, List.length_replicate]; omega), List.map_append, List.map_set, map_bl_ofL, bl_ofL, List.map_replicate]
  rw [e]
  have h := turned 3 kk gs newR kk l' (List.replicate (60 - placesL gs) (bl (zeroB 64))) ⟨rfl, rfl⟩ (fun l hl => by have := countS_places hl; omega) hk hl (Nat.zero_add kk)
  rw [show newR.groups.length = 0 from rfl, Nat.zero_add] at h
  exact h
theorem now_at {M : DM} {gs : List (List UInt8)} (hnow : M.now = (logL 3 0 0 gs).map ofL ++ List.replicate (60 - placesL gs) (zeroB 64)) {kk : Nat} (hk : kk < placesL gs) :
    sealed (bl (M.now.getD kk ⟨#[]⟩)) = true ∧ (bl (M.now.getD kk ⟨#[]⟩)).length = 64 := by
  have hlen : (logL 3 0 0 gs).length = placesL gs := logL_length 3 gs 0 0
  have hk2 : kk < ((logL 3 0 0 gs).map ofL).length := by rw [List.length_map, hlen]; exact hk
  rw [hnow, List.getD_eq_getElem?_getD, List.getElem?_append_left hk2, List.getElem?_eq_getElem hk2, Option.getD_some, List.getElem_map, bl_ofL]
  exact logL_sealed 3 gs 0 0 _ (List.getElem_mem _)
theorem ahead_at (j : Nat) (ends : List Nat) (n : Nat) (hn : n ≤ ends.length) (h1 : ∀ i (h : i < ends.length), i < n → ends[i] ≤ j) (h2 : ∀ h : n < ends.length, ¬ ends[n] ≤ j) : aheadL j ends = n := by
  induction ends generalizing n with
  | nil => unfold aheadL; simp at hn; rw [hn]; rfl
  | cons e r ih =>
    unfold aheadL
    cases n with
    | zero =>
      rw [List.takeWhile_cons_of_neg (by rw [decide_eq_true_eq]; exact h2 (by simp))]
      rfl
    | succ n =>
      rw [List.takeWhile_cons_of_pos (by rw [decide_eq_true_eq]; exact h1 0 (by simp) (by omega)), List.length_cons]
      have := ih n (by simpa using hn) (fun i h hi => h1 (i + 1) (Nat.succ_lt_succ h) (by omega)) (fun h => h2 (Nat.succ_lt_succ h))
      unfold aheadL at this
      rw [this]
end Go.Proofs.Ytggchfmglaijgaa
