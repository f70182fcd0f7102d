/- Proved here: bools in new memory. -/
import Derived.Test.YtggchfmglaijgaaTapeTurnP
import Derived.Test.YtggchfmglaijgaaDrumActs
namespace Go.Proofs.Ytggchfmglaijgaa
open Go.RowKit

theorem cut_log (gen : Nat) : ∀ (gs : List (List UInt8)) (R : RM) (m : Nat) (tail : List (List UInt8)), Clean R → (∀ l ∈ gs, countS l.length ≤ 65536) → gen < 4294967296 → m ≤ placesL gs → (tail = [] ∨ ∃ x r, tail = x :: r ∧ genL x ≠ gen) →
    ∃ w, w ≤ gs.length ∧ (readsM gen R ((logL gen R.taken R.groups.length gs).take m ++ tail)).groups = R.groups ++ (gs.take w).map ofL ∧ ∀ n, n ≤ gs.length → placesL (gs.take n) ≤ m → n ≤ w
  | [], R, m, tail, _, _, hg, _, ht => by
    refine ⟨0, Nat.le_refl _, ?_, fun n hn _ => hn⟩
    rw [logL, List.take_nil, List.nil_append, List.take_nil, List.map_nil, List.append_nil]
    rcases ht with rfl | ⟨x, r, rfl, hx⟩
    · rfl
    · rw [reads_stop (fit_gen hg hx)]
  | l :: r, R, m, tail, hc, hs, hg, hm, ht => by
    have hcl := hs l (by simp)
    have hgl : (groupL gen R.taken R.groups.length l).length = countS l.length := groupL_length _ _ _ _
    rw [logL]
    by_cases hj : m < countS l.length
    · refine ⟨0, Nat.zero_le _, ?_, fun n hn hp => ?_⟩
      · rw [List.take_append_of_le_length (by omega), reads_mid hc gen l hcl m _ hj, List.take_zero, List.map_nil, List.append_nil]
        rcases ht with rfl | ⟨x, r', rfl, hx⟩
        · rw [readsM, mid_groups]
        · rw [reads_stop (fit_gen hg hx), mid_groups]
      · cases n with
        | zero => exact Nat.le_refl _
        | succ n =>
          rw [List.take_succ_cons, placesL] at hp
          omega
    · have e2 : (doneR R l).groups.length = R.groups.length + 1 := by simp [doneR]
      obtain ⟨w, h1, h2, h3⟩ := cut_log gen r (doneR R l) (m - countS l.length) tail (doneR_clean R l) (fun x hx => hs x (by simp [hx])) hg (by rw [placesL] at hm; omega) ht
      rw [e2] at h2
      refine ⟨w + 1, by rw [List.length_cons]; omega, ?_, fun n hn hp => ?_⟩
      · rw [List.take_append, hgl, List.take_of_length_le (by omega), List.append_assoc, reads_group hc gen l hcl]
        rw [show (readsM gen (doneR R l) ((logL gen (R.taken + countS l.length) (R.groups.length + 1) r).take (m - countS l.length) ++ tail)).groups = _ from h2]
        rw [List.take_succ_cons, List.map_cons]
        show (R.groups ++ [ofL l]) ++ _ = _
        rw [List.append_assoc]; rfl
      · cases n with
        | zero => exact Nat.zero_le _
        | succ n =>
          rw [List.take_succ_cons, placesL] at hp
          rw [List.length_cons] at hn
          have := h3 n (by omega) (by omega)
          omega
theorem decomp (g : Nat) : ∀ (S FL : List (List UInt8)) (sp : Nat), (∀ j x, S[j]? = some x → FL[j]? = some x ∨ (sp ≤ j ∧ genL x ≠ g)) →
    ∃ m tail, S = FL.take m ++ tail ∧ m ≤ FL.length ∧ (tail = [] ∨ ∃ x r, tail = x :: r ∧ genL x ≠ g) ∧ (sp ≤ m ∨ S.length ≤ m)
  | [], FL, sp, _ => ⟨0, [], rfl, Nat.zero_le _, .inl rfl, .inr (Nat.le_refl _)⟩
  | x :: r, FL, sp, h => by
    rcases h 0 x rfl with h0 | ⟨h0, h1⟩
    · cases FL with
      | nil => cases h0
      | cons y FL' =>
        have e : y = x := Option.some.inj h0
        subst e
        obtain ⟨m, tail, a1, a2, a3, a4⟩ := decomp g r FL' (sp - 1) (fun j z hz => (h (j + 1) z hz).imp id (fun q => ⟨by omega, q.2⟩))
        exact ⟨m + 1, tail, by rw [List.take_succ_cons, List.cons_append, ← a1], by rw [List.length_cons]; omega, a3, a4.imp (fun q => by omega) (fun q => by rw [List.length_cons]; omega)⟩
    · exact ⟨0, x :: r, rfl, Nat.zero_le _, .inr ⟨x, r, rfl, h1⟩, .inl h0⟩
/-- What stands on the sectors behind a crash: a log's first sectors, and the others as they were, or not. -/
structure Stood (S FL : List (List UInt8)) (sp : Nat) : Prop where
  len : S.length = 38
  at_ : ∀ j x, S[j]? = some x → FL[j]? = some x ∨ (sp ≤ j ∧ genL x ≠ 7)
theorem lasts_plain {S : List (List UInt8)} {put : List (List UInt8)} {m0 safe : Nat} (h : Stood S ((logL 7 0 0 put).take m0) (placesL (put.take safe))) (hm : m0 ≤ placesL put) (hp : placesL put ≤ 38) (hs : safe ≤ put.length) (hsm : placesL (put.take safe) ≤ m0) :
    ∃ w, w ≤ put.length ∧ safe ≤ w ∧ (readsM 7 newR S).groups = (put.take w).map ofL := by
  obtain ⟨m, tail, a1, a2, a3, a4⟩ := decomp 7 S _ _ h.at_
  have hl : (logL 7 0 0 put).length = placesL put := logL_length 7 put 0 0
  have hm2 : m ≤ m0 := by rw [List.length_take, hl] at a2; omega
  rw [List.take_take, Nat.min_eq_left hm2] at a1
  obtain ⟨w, h1, h2, h3⟩ := cut_log 7 put newR m tail ⟨rfl, rfl⟩ (fun l hl => by have := countS_places hl; omega) (by decide) (by omega) a3
  refine ⟨w, h1, h3 safe hs ?_, ?_⟩
  · rcases a4 with q | q
    · exact q
    · rw [h.len] at q; omega
  · rw [a1]
    rw [show newR.groups = [] from rfl, List.nil_append] at h2
    exact h2

/-! ## a drum -/
theorem layM_mem : ∀ (l : List (Nat × ByteArray)) (s : List ByteArray) (i : Nat), (layM s l)[i]? = s[i]? ∨ ∃ x ∈ l, x.1 = i ∧ (i < s.length → (layM s l)[i]? = some x.2)
  | [], s, i => .inl rfl
  | x :: r, s, i => by
    rw [layM]
    rcases layM_mem r (s.set x.1 x.2) i with h | ⟨y, h1, h2, h3⟩
    · by_cases e : x.1 = i
      · right
        refine ⟨x, by simp, e, fun hi => ?_⟩
        rw [h, e, List.getElem?_set_self hi]
      · left
        rw [h, List.getElem?_set_ne e]
    · exact .inr ⟨y, by simp [h1], h2, fun hi => h3 (by rw [List.length_set]; exact hi)⟩
structure LInv (M : DM) (FL : List (List UInt8)) (sp : Nat) : Prop where
  nowL : ∀ j (h : j < FL.length), M.now[2 + j]? = some (ofL FL[j])
  nowO : ∀ j p, FL.length ≤ j → M.now[2 + j]? = some p → genL (bl p) ≠ 7
  safe : ∀ j p, M.safe[2 + j]? = some p → M.now[2 + j]? = some p ∨ (sp ≤ j ∧ genL (bl p) ≠ 7)
  loose : ∀ x ∈ M.loose, M.now[x.1]? = some x.2 ∧ 2 ≤ x.1 ∧ x.1 < 2 + FL.length
  fl : FL.length ≤ 38
  sp : sp ≤ FL.length
theorem LInv.same {M M' : DM} {FL : List (List UInt8)} {sp : Nat} (h : LInv M FL sp) (hs : M'.safe = M.safe) (hl : M'.loose = M.loose) : LInv M' FL sp := by
  have hn : M'.now = M.now := by unfold DM.now; rw [hs, hl]
  exact ⟨by rw [hn]; exact h.nowL, by rw [hn]; exact h.nowO, by rw [hn, hs]; exact h.safe, by rw [hn, hl]; exact h.loose, h.fl, h.sp⟩
theorem LInv.step {M : DM} {FL : List (List UInt8)} {sp : Nat} (h : LInv M FL sp) : LInv M.step FL sp := h.same M.step_safe M.step_loose
theorem LInv.write {M : DM} {FL : List (List UInt8)} {sp : Nat} (h : LInv M FL sp) (ok : M.Ok 40) (hoff : M.off = false) (x : List UInt8) (hx : x.length = 64) (hl : FL.length < 38) : LInv (M.write (2 + FL.length) (ofL x)) (FL ++ [x]) sp := by
  have hn : (M.write (2 + FL.length) (ofL x)).now = M.now.set (2 + FL.length) (ofL x) := write_now hoff _ _ (by rw [ofL_size, hx])
  have hlen := ok.nowLen
  have hsafe : (M.write (2 + FL.length) (ofL x)).safe = M.safe := by rw [M.write_yes hoff]; exact M.step_safe
  have hloose : (M.write (2 + FL.length) (ofL x)).loose = M.loose ++ [(2 + FL.length, ofL x)] := by
    rw [M.write_yes hoff]
    show M.loose ++ [(2 + FL.length, fullB (ofL x))] = _
    rw [fullB_whole (by rw [ofL_size, hx])]
  refine ⟨fun j hj => ?_, fun j p hj hp => ?_, fun j p hp => ?_, fun y hy => ?_, by rw [List.length_append]; exact hl, by rw [List.length_append]; exact Nat.le_succ_of_le h.sp⟩
  · rw [hn]
    rw [List.length_append, List.length_singleton] at hj
    by_cases e : j = FL.length
    · subst e
      rw [List.getElem?_set_self (by omega)]
      simp
    · rw [List.getElem?_set_ne (by omega), h.nowL j (by omega), List.getElem_append_left (by omega)]
  · rw [List.length_append, List.length_singleton] at hj
    rw [hn, List.getElem?_set_ne (by omega)] at hp
    exact h.nowO j p (by omega) hp
  · rw [hsafe] at hp
    rw [hn]
    by_cases e : j = FL.length
    · subst e
      right
      refine ⟨h.sp, ?_⟩
      rcases h.safe _ p hp with q | q
      · exact h.nowO _ p (Nat.le_refl _) q
      · exact q.2
    · rw [List.getElem?_set_ne (by omega)]
      exact h.safe j p hp
  · rw [hloose] at hy
    rw [hn, List.length_append, List.length_singleton]
    rcases List.mem_append.1 hy with hy | hy
    · obtain ⟨q1, q2, q3⟩ := h.loose y hy
      exact ⟨by rw [List.getElem?_set_ne (by omega)]; exact q1, q2, by omega⟩
    · rw [List.mem_singleton.1 hy]
      exact ⟨List.getElem?_set_self (by omega), by omega, by omega⟩
theorem LInv.flush {M : DM} {FL : List (List UInt8)} {sp : Nat} (h : LInv M FL sp) (hoff : M.off = false) : LInv M.flush FL FL.length := by
  have e1 : M.flush.safe = M.now := by rw [M.flush_yes hoff]
  have e2 : M.flush.loose = [] := by rw [M.flush_yes hoff]
  have e3 : M.flush.now = M.now := by unfold DM.now; rw [e1, e2]; rfl
  exact ⟨by rw [e3]; exact h.nowL, by rw [e3]; exact h.nowO, by rw [e3, e1]; exact fun j p hp => .inl hp, by rw [e2]; exact fun x hx => (by cases hx), h.fl, Nat.le_refl _⟩
theorem LInv.laid {M : DM} {FL : List (List UInt8)} {sp : Nat} (h : LInv M FL sp) (ok : M.Ok 40) (gr : Nat) (l : List UInt8) : ∀ k, FL.length + k ≤ 38 → k ≤ countS l.length → (∀ j, j < k → (laidM M 2 FL.length 7 gr (countS l.length) l j).off = false) →
    LInv (laidM M 2 FL.length 7 gr (countS l.length) l k) (FL ++ (groupL 7 FL.length gr l).take k) sp ∧ (laidM M 2 FL.length 7 gr (countS l.length) l k).Ok 40
  | 0, _, _, _ => by rw [List.take_zero, List.append_nil]; exact ⟨h, ok⟩
  | k + 1, hk, hkc, ho => by
    obtain ⟨h1, h2⟩ := h.laid ok gr l k (by omega) (by omega) (fun j hj => ho j (by omega))
    have hg : k < (groupL 7 FL.length gr l).length := by rw [groupL_length]; omega
    have e : (groupL 7 FL.length gr l)[k] = secAt 7 FL.length gr (countS l.length) l k := by simp [groupL]
    have hlen : (FL ++ (groupL 7 FL.length gr l).take k).length = FL.length + k := by rw [List.length_append, List.length_take, groupL_length]; omega
    have h64 : (secAt 7 FL.length gr (countS l.length) l k).length = 64 := sectorL_length _ _ _ _ _ (partAt_le l k)
    have h3 := h1.write h2 (ho k (by omega)) (secAt 7 FL.length gr (countS l.length) l k) h64 (by rw [hlen]; omega)
    rw [hlen, show 2 + (FL.length + k) = 2 + FL.length + k by omega] at h3
    refine ⟨?_, ?_⟩
    · rw [List.take_succ_eq_append_getElem hg, e, ← List.append_assoc]
      exact h3
    · rw [laidM]
      exact h2.write (by omega) (by rw [ofL_size]; exact Nat.le_of_eq h64)
theorem LInv.stood {M : DM} {FL : List (List UInt8)} {sp : Nat} (h : LInv M FL sp) (ok : M.Ok 40) (keep : List Bool) : Stood (logOf (M.crash keep) 2 38) FL sp := by
  have hlen : (M.crash keep).now.length = 40 := (ok.crash keep).nowLen
  refine ⟨by unfold logOf; rw [List.length_map, List.length_take, List.length_drop, hlen]; rfl, fun j x hx => ?_⟩
  unfold logOf at hx
  rw [List.getElem?_map] at hx
  obtain ⟨p, hp, rfl⟩ := Option.map_eq_some_iff.1 hx
  rw [List.getElem?_take] at hp
  split at hp
  · rename_i hj
    rw [List.getElem?_drop, DM.crash_now] at hp
    have key : M.now[2 + j]? = some p ∨ (sp ≤ j ∧ genL (bl p) ≠ 7) := by
      rcases layM_mem (keptM keep M.loose) M.safe (2 + j) with q | ⟨y, q1, q2, q3⟩
      · rw [q] at hp
        exact h.safe j p hp
      · left
        have q4 := (h.loose y (zip_mem q1)).1
        rw [q3 (by rw [ok.len]; omega)] at hp
        rw [q2] at q4
        rw [q4]
        exact hp
    rcases key with q | q
    · by_cases hj2 : j < FL.length
      · left
        rw [h.nowL j hj2] at q
        rw [List.getElem?_eq_getElem hj2, ← Option.some.inj q, bl_ofL]
      · right
        exact ⟨by have := h.sp; omega, h.nowO j p (by omega) q⟩
    · exact .inr q
  · cases hp
end Go.Proofs.Ytggchfmglaijgaa
namespace Go.Proofs.Ytggchfmglaijgaa
open Go.RowKit

theorem HoldsT.below {W W' : World} {p : Option Addr} {s : List Bool} (h : HoldsT W p s) (hb : Below W.heap.size W W') : HoldsT W' p s := h.touch (F := fun _ => False) (Touch.of_below hb) (fun _ _ hf => hf)
theorem infoBool : (Try.prog.info? 4).map (fun i => (i.zero, i.size, i.bytes)) = some (some (.bool false), 1, 1) := by kernel_rfl
def boolV (l : List Bool) : List Value := l.map Value.bool
/-- 'append([]bool{}, keep...)'. -/
theorem appendT_first {w : World} {l : List Bool} {p : Option Addr} {c : Nat} (hp : HoldsT w p l) (hnil : p = none → c = 0) (hsz : l.length ≤ 140737488355328) :
    ∃ g cap w', (∀ ty, (Builtin.append_ #[34, 34] ty #[.slice (some ⟨w.heap.size, 0, none⟩) 0 0, .slice p l.length c]).run Try.prog (w.alloc (.cells #[] 4)) = .ok (.slice (some ⟨g, 0, none⟩) l.length cap) w') ∧
      HoldsT w' (some ⟨g, 0, none⟩) l ∧ w.heap.size ≤ g ∧ Below w.heap.size w w' := by
  obtain ⟨i0, hi, hz0, hz1, hz2⟩ := info_parts infoBool
  have hb0 : Below w.heap.size w (w.alloc (.cells #[] 4)) := (Below.refl _ _).alloc (Nat.le_refl _) _
  have hown : (w.alloc (.cells #[] 4)).ownsRow w.heap.size 4 1 (.slice (some ⟨w.heap.size, 0, none⟩) 0 0) 0 [] := World.ownsRow_lit w #[] 0 (Nat.le_refl _) (by unfold maxLen; omega) rfl
  cases p with
  | none =>
    have hl : l = [] := by
      cases l with
      | nil => rfl
      | cons x r => obtain ⟨_, _, e, _⟩ := hp (by simp); cases e
    have hc := hnil rfl
    subst hl hc
    have hrun := fun ty => run_append_owned_none (P := Try.prog) (w := w.alloc (.cells #[] 4)) w.heap.size 34 ty 4 i0 1 Try.underlying34 hi _ 0 [] hown
    exact ⟨w.heap.size, 0, _, hrun, fun h => absurd h (by decide), Nat.le_refl _, hb0⟩
  | some a =>
    have hcells : ∀ j u, (boolV l)[j]? = some u → (w.alloc (.cells #[] 4)).cell? (a.add j) = some u := by
      intro j u hu
      have hj : j < l.length := by have := (List.getElem?_eq_some_iff.1 hu).1; simpa [boolV] using this
      obtain ⟨b, off, e, hc⟩ := (hp.below hb0) (by omega)
      obtain rfl := Option.some.inj e
      rw [Addr.add_mid, hc j hj, ← hu]
      simp [boolV, List.getD_eq_getElem?_getD, hj]
    obtain ⟨v', w', hrun, hown', hgrow, hne⟩ := run_append_own (P := Try.prog) (w := w.alloc (.cells #[] 4)) w.heap.size 34 34 4 i0 (.bool false) 1 1 Try.underlying34 hi hz0 hz1 hz2 rfl (by decide) _ 0 [] hown a l.length c (boolV l) (by simp [boolV]) hcells (fun u hu => by
      simp only [boolV, List.mem_map] at hu
      obtain ⟨b, _, rfl⟩ := hu
      rfl) (by unfold maxLen; omega) (by omega) (by simp)
    have hv : v' ≠ .slice none 0 0 := fun e => by
      have := (hne.1 e).1
      cases this
    rcases hown'.2 with ⟨e, _⟩ | ⟨g, cap, cur, rfl, hb, hh, hc, h1, h2, h3⟩
    · exact absurd e hv
    · have hrun' : ∀ ty, (Builtin.append_ #[34, 34] ty #[.slice (some ⟨w.heap.size, 0, none⟩) 0 0, .slice (some a) l.length c]).run Try.prog (w.alloc (.cells #[] 4)) = .ok (.slice (some ⟨g, 0, none⟩) l.length cap) w' := fun ty => by
        rw [Nat.zero_add] at hrun
        rw [← hrun]; rfl
      refine ⟨g, cap, w', hrun', fun h0 => ⟨g, 0, rfl, fun j hj => ?_⟩, hb, hb0.grown hgrow (by simp) (fun k e => by simp [Value.ownBlock] at e; omega)⟩
      have h4 := World.ownsRow.cellAt hown' j (by omega)
      rw [Nat.zero_add, h4]
      simp [boolV, List.getD_eq_getElem?_getD, hj]
end Go.Proofs.Ytggchfmglaijgaa
