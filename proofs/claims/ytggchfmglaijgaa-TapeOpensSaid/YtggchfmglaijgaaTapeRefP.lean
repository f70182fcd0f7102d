/- Proved here: what the document's reader of groups finds is what the program's reader finds, plainly. -/
import Derived.Test.YtggchfmglaijgaaTapeLog
namespace Go.Proofs.Ytggchfmglaijgaa
open Go.RowKit

theorem drop_group (gen base g : Nat) (l : List UInt8) (i : Nat) (hi : i < countS l.length) : (groupL gen base g l).drop i = secAt gen base g (countS l.length) l i :: (groupL gen base g l).drop (i + 1) := by
  rw [List.drop_eq_getElem_cons (by rw [groupL_length]; exact hi)]
  congr 1
  simp [groupL]
theorem fit_parts {gen : Nat} {M : RM} {x : List UInt8} (h : M.fit gen x = true) : fitsP M.missing (behL x) (sizL x) = true ∧ x = sectorL gen M.taken M.groups.length (behL x) (partL x) ∧ (partL x).length = sizL x ∧ sizL x ≤ 48 := by
  have hs := fit_size h
  unfold RM.fit at h
  rw [Bool.and_eq_true, beq_iff_eq] at h
  have hp : (partL x).length ≤ 48 := by unfold partL; rw [List.length_take]; omega
  have h64 : x.length = 64 := by rw [h.2, sectorL_length _ _ _ _ _ hp]
  exact ⟨h.1, h.2, partL_length x h64 hs, hs⟩
theorem partAt_mid (a b c : List UInt8) (i : Nat) (ha : a.length = 48 * i) (hb : b.length ≤ 48) (hc : b.length = 48 ∨ c = []) : partAt (a ++ (b ++ c)) i = b := by
  unfold partAt
  rw [List.drop_left' ha]
  rcases hc with h | h
  · rw [List.take_left' h]
  · rw [h, List.append_nil, List.take_of_length_le hb]
theorem reads_mid_or (gen base : Nat) : ∀ (T : List (List UInt8)) (M : RM) (i : Nat), M.taken = base + i → M.begun.size = 48 * i → (i = 0 ↔ M.missing = 0) →
    ((readsM gen M T).groups = M.groups ∧ (readsM gen M T).used = M.used) ∨ ∃ q rest, T = (groupL gen base M.groups.length (bl M.begun ++ q)).drop i ++ rest ∧ i < countS (bl M.begun ++ q).length ∧ (M.missing ≠ 0 → countS (bl M.begun ++ q).length = i + M.missing)
  | [], M, i, _, _, _ => .inl ⟨rfl, rfl⟩
  | x :: r, M, i, ht, hb, hm => by
    by_cases hf : M.fit gen x = true
    · obtain ⟨f1, f2, f3, f4⟩ := fit_parts hf
      rw [readsM, if_pos hf]
      have hbl : (bl M.begun).length = 48 * i := by rw [bl_length, hb]
      unfold fitsP at f1
      by_cases hB : behL x = 0
      · right
        have hS : i = 0 ∨ 0 < sizL x := by
          by_cases h0 : i = 0
          · exact .inl h0
          · have hm0 : M.missing ≠ 0 := fun e => h0 (hm.2 e)
            split at f1
            · cases f1
            · rw [if_neg (by omega)] at f1
              split at f1
              · cases f1
              · rename_i h1 h2
                exact .inr (by omega)
        have hlen : (bl M.begun ++ partL x).length = 48 * i + sizL x := by rw [List.length_append, hbl, f3]
        have hcs : countS (bl M.begun ++ partL x).length = i + 1 := by rw [hlen]; unfold countS; omega
        refine ⟨partL x, r, ?_, by omega, fun hm0 => ?_⟩
        · rw [drop_group _ _ _ _ _ (by omega), List.drop_eq_nil_of_le (by rw [groupL_length, hcs]; exact Nat.le_refl _), hcs]
          have hp : partAt (bl M.begun ++ partL x) i = partL x := by
            have := partAt_mid (bl M.begun) (partL x) [] i hbl (by omega) (.inr rfl)
            rwa [List.append_nil] at this
          unfold secAt
          rw [hp, show i + 1 - 1 - i = 0 by omega, ← ht, ← hB, ← f2]
          rfl
        · split at f1
          · cases f1
          · rw [hcs]
            omega
      · have f1' : (M.missing = 0 ∨ behL x = M.missing - 1) ∧ sizL x = 48 := by
          split at f1
          · cases f1
          · rw [if_pos (by omega), decide_eq_true_eq] at f1
            exact ⟨by omega, f1⟩
        have hnx : M.next x = ⟨M.groups, M.used, M.grown x, M.taken + 1, behL x⟩ := by unfold RM.next; rw [if_neg hB]
        have hgl : bl (M.grown x) = bl M.begun ++ partL x := by unfold RM.grown; rw [bl_append, bl_ofL]
        rw [hnx]
        rcases reads_mid_or gen base r ⟨M.groups, M.used, M.grown x, M.taken + 1, behL x⟩ (i + 1) (by show M.taken + 1 = _; omega) (by
          show (M.grown x).size = _
          rw [← bl_length, hgl, List.length_append, hbl, f3]; omega) ⟨fun e => by omega, fun e => absurd e hB⟩ with h | ⟨q, rest, h1, h2, h3⟩
        · exact .inl h
        · right
          simp only [hgl, List.append_assoc] at h1 h2 h3
          have h4 := h3 hB
          refine ⟨partL x ++ q, rest, ?_, by omega, fun hm0 => by omega⟩
          rw [drop_group _ _ _ _ _ (by omega), List.cons_append, ← h1]
          congr 1
          unfold secAt
          rw [partAt_mid (bl M.begun) (partL x) q i hbl (by omega) (.inl (by omega)), h4, show i + 1 + behL x - 1 - i = behL x by omega, ← ht]
          exact f2
    · left
      rw [readsM, if_neg hf]
      exact ⟨rfl, rfl⟩
theorem reads_or {R : RM} (hc : Clean R) (gen : Nat) (T : List (List UInt8)) : ((readsM gen R T).groups = R.groups ∧ (readsM gen R T).used = R.used) ∨ ∃ l rest, T = groupL gen R.taken R.groups.length l ++ rest := by
  rcases reads_mid_or gen R.taken T R 0 rfl (by rw [hc.begun]; rfl) ⟨fun _ => hc.missing, fun _ => rfl⟩ with h | ⟨q, rest, h, _⟩
  · exact .inl h
  · refine .inr ⟨bl R.begun ++ q, rest, ?_⟩
    rw [List.drop_zero] at h
    exact h
/-- The bytes that the document's reader gathers. -/
def gathL (x : List UInt8) : List UInt8 := (x.drop 16).take (min 48 (sizL x))
def refP (T : List (List UInt8)) (i : Nat) : List UInt8 := ((T.take i).map gathL).flatten
theorem refP_zero (T : List (List UInt8)) : refP T 0 = [] := rfl
theorem refP_succ {T : List (List UInt8)} {i : Nat} (h : i < T.length) : refP T (i + 1) = refP T i ++ gathL T[i] := by
  unfold refP
  rw [List.take_succ_eq_append_getElem h, List.map_append, List.flatten_append]
  simp
theorem refP_length (T : List (List UInt8)) : ∀ i, (refP T i).length ≤ 48 * i
  | 0 => Nat.le_refl _
  | i + 1 => by
    by_cases h : i < T.length
    · rw [refP_succ h, List.length_append]
      have := refP_length T i
      have : (gathL T[i]).length ≤ 48 := by unfold gathL; rw [List.length_take]; omega
      omega
    · have e : refP T (i + 1) = refP T i := by
        unfold refP
        rw [List.take_of_length_le (by omega), List.take_of_length_le (by omega)]
      rw [e]
      have := refP_length T i
      omega
theorem group_at {gen base g : Nat} {l : List UInt8} {rest T : List (List UInt8)} (e : T = groupL gen base g l ++ rest) (i : Nat) (hi : i < countS l.length) (h : i < T.length) : T[i] = secAt gen base g (countS l.length) l i := by
  have h2 : i < (groupL gen base g l).length := by rw [groupL_length]; exact hi
  subst e
  rw [List.getElem_append_left h2]
  simp [groupL]
theorem group_len {gen base g : Nat} {l : List UInt8} {rest T : List (List UInt8)} (e : T = groupL gen base g l ++ rest) : countS l.length ≤ T.length := by
  rw [e, List.length_append, groupL_length]; omega
theorem group_gath {gen base g : Nat} {l : List UInt8} {rest T : List (List UInt8)} (e : T = groupL gen base g l ++ rest) : ∀ i, i ≤ countS l.length → refP T i = l.take (48 * i)
  | 0, _ => by rw [refP_zero]; rfl
  | i + 1, hi => by
    have hl := group_len e
    rw [refP_succ (by omega), group_gath e i (by omega), group_at e i (by omega)]
    have hs : sizL (secAt gen base g (countS l.length) l i) = (partAt l i).length := siz_sector _ _ _ _ _ (partAt_le l i)
    have hp : partL (secAt gen base g (countS l.length) l i) = partAt l i := part_sector _ _ _ _ _ (partAt_le l i)
    have hg : gathL (secAt gen base g (countS l.length) l i) = partAt l i := by
      unfold gathL
      rw [hs, Nat.min_eq_right (partAt_le l i), ← hs]
      exact hp
    rw [hg]
    unfold partAt
    rw [show 48 * (i + 1) = 48 * i + 48 by omega, List.take_add]
theorem group_all {gen base g : Nat} {l : List UInt8} {rest T : List (List UInt8)} (e : T = groupL gen base g l ++ rest) : refP T (countS l.length) = l := by
  rw [group_gath e _ (Nat.le_refl _), List.take_of_length_le (countS_le _)]
theorem group_first {gen base g : Nat} {l : List UInt8} {rest T : List (List UInt8)} (e : T = groupL gen base g l ++ rest) (h100 : T.length ≤ 1000) (h : 0 < T.length) : behL T[0] + 1 = countS l.length := by
  have hp := countS_pos l.length
  have hl := group_len e
  rw [group_at e 0 hp, secAt, beh_sector _ _ _ _ _ (by omega)]
  omega
theorem group_siz {gen base g : Nat} {l : List UInt8} {rest T : List (List UInt8)} (e : T = groupL gen base g l ++ rest) (i : Nat) (hi : i < countS l.length) (h : i < T.length) : sizL T[i] ≤ 48 := by
  rw [group_at e i hi, secAt, siz_sector _ _ _ _ _ (partAt_le l i)]
  exact partAt_le l i
/-- Where the document's reader stands. -/
def RefSt (gen : Nat) (S : List (List UInt8)) (place : Nat) (out : List (List UInt8)) : Prop := ∃ R : RM, Clean R ∧ R.used = place ∧ R.taken = place ∧ R.groups = out.map ofL ∧ readsM gen newR S = readsM gen R (S.drop place) ∧ place ≤ S.length ∧ out.length ≤ place
theorem RefSt.start (gen : Nat) (S : List (List UInt8)) : RefSt gen S 0 [] := ⟨newR, ⟨rfl, rfl⟩, rfl, rfl, rfl, by rw [List.drop_zero], Nat.zero_le _, Nat.le_refl _⟩
theorem RefSt.next {gen : Nat} {S : List (List UInt8)} {place : Nat} {out : List (List UInt8)} (h : RefSt gen S place out) (h100 : S.length ≤ 1000) {p : List UInt8} (e : (S.drop place).take (countS p.length) = groupL gen place out.length p) (hl : place + countS p.length ≤ S.length) : RefSt gen S (place + countS p.length) (out ++ [p]) := by
  obtain ⟨R, hc, h1, h2, h3, h4, h5, h6⟩ := h
  have hp := countS_pos p.length
  have hg : R.groups.length = out.length := by rw [h3, List.length_map]
  have e2 : S.drop place = groupL gen R.taken R.groups.length p ++ S.drop (place + countS p.length) := by
    rw [h2, hg, ← e, ← List.drop_drop, List.take_append_drop]
  refine ⟨doneR R p, doneR_clean R p, by show R.taken + _ = _; rw [h2], by show R.taken + _ = _; rw [h2], ?_, ?_, hl, by rw [List.length_append]; show out.length + 1 ≤ _; omega⟩
  · show R.groups ++ [ofL p] = _
    rw [h3, List.map_append]; rfl
  · rw [h4, e2, reads_group hc gen p (by omega)]
theorem RefSt.stop {gen : Nat} {S : List (List UInt8)} {place : Nat} {out : List (List UInt8)} (h : RefSt gen S place out) (no : ∀ l rest, S.drop place ≠ groupL gen place out.length l ++ rest) : (readsM gen newR S).groups = out.map ofL ∧ (readsM gen newR S).used = place := by
  obtain ⟨R, hc, h1, h2, h3, h4, h5, h6⟩ := h
  have hg : R.groups.length = out.length := by rw [h3, List.length_map]
  rcases reads_or hc gen (S.drop place) with h | ⟨l, rest, e⟩
  · rw [h4, h.1, h.2, h3, h1]
    exact ⟨rfl, rfl⟩
  · rw [h2, hg] at e
    exact absurd e (no l rest)
theorem RefSt.all {gen : Nat} {S : List (List UInt8)} {out : List (List UInt8)} (h : RefSt gen S S.length out) : (readsM gen newR S).groups = out.map ofL ∧ (readsM gen newR S).used = S.length :=
  h.stop (fun l rest e => by
    rw [List.drop_length] at e
    have h1 := congrArg List.length e
    rw [List.length_append, groupL_length, List.length_nil] at h1
    have h2 := countS_pos l.length
    omega)
end Go.Proofs.Ytggchfmglaijgaa
