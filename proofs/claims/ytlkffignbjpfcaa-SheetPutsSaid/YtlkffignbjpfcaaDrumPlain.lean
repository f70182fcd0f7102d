/- Proved here: a drum in plain words: what is written, what stands, what of it stands behind a crash; no program is named. -/
import Derived.Test.YtlkffignbjpfcaaProg
import Derived.WalkKit
import Derived.Lib.Hide
namespace Go.Proofs.Ytlkffignbjpfcaa

/-- A drum: what stands, what is loose behind it, how many steps there were, how many the fuse lets be done, whether the power is off. -/
structure DM where
  safe : List ByteArray
  loose : List (Nat × ByteArray)
  steps : Nat
  fuse : Option Nat
  down : Bool

/-- What is there behind Writes. -/
def layM (s : List ByteArray) : List (Nat × ByteArray) → List ByteArray
  | [] => s
  | x :: r => layM (s.set x.1 x.2) r
/-- The sectors as they were written last. -/
def DM.now (M : DM) : List ByteArray := layM M.safe M.loose
def zeroB (n : Nat) : ByteArray := ⟨⟨List.replicate n 0⟩⟩
def fullB (p : ByteArray) : ByteArray := p ++ zeroB (64 - p.size)
/-- Is the power off for the next step? -/
def DM.off (M : DM) : Bool := M.down || (M.fuse == some 0)
/-- A step. -/
def DM.step (M : DM) : DM := if M.off then { M with down := true } else { M with steps := M.steps + 1, fuse := M.fuse.map (· - 1) }
def DM.write (M : DM) (n : Nat) (p : ByteArray) : DM := if M.off then M.step else { M.step with loose := M.loose ++ [(n, fullB p)] }
def DM.flush (M : DM) : DM := if M.off then M.step else { M.step with safe := M.now, loose := [] }
def keptM (keep : List Bool) (loose : List (Nat × ByteArray)) : List (Nat × ByteArray) := ((keep.zip loose).filter (·.1)).map (·.2)
def DM.crash (M : DM) (keep : List Bool) : DM := { M with safe := layM M.safe (keptM keep M.loose), loose := [], fuse := none, down := false }
def newM (n : Nat) : DM := ⟨List.replicate n (zeroB 64), [], 0, none, false⟩

/-- A drum of so many sectors. -/
structure DM.Ok (M : DM) (N : Nat) : Prop where
  len : M.safe.length = N
  row : ∀ p ∈ M.safe, p.size = 64
  at_ : ∀ x ∈ M.loose, x.1 < N ∧ x.2.size = 64

theorem zeroB_size (n : Nat) : (zeroB n).size = n := by simp [zeroB, ByteArray.size]
theorem fullB_size {p : ByteArray} (h : p.size ≤ 64) : (fullB p).size = 64 := by
  unfold fullB
  rw [ByteArray.size_append, zeroB_size]; omega
theorem layM_append (l m : List (Nat × ByteArray)) : ∀ s, layM s (l ++ m) = layM (layM s l) m := by
  induction l with
  | nil => intro s; rfl
  | cons x r ih => intro s; exact ih _
theorem layM_snoc (s : List ByteArray) (l : List (Nat × ByteArray)) (n : Nat) (p : ByteArray) : layM s (l ++ [(n, p)]) = (layM s l).set n p := by rw [layM_append]; rfl
theorem layM_length (l : List (Nat × ByteArray)) : ∀ s, (layM s l).length = s.length := by
  induction l with
  | nil => intro s; rfl
  | cons x r ih => intro s; rw [layM, ih, List.length_set]
theorem layM_row (l : List (Nat × ByteArray)) : ∀ s, (∀ p ∈ s, p.size = 64) → (∀ x ∈ l, x.2.size = 64) → ∀ p ∈ layM s l, p.size = 64 := by
  induction l with
  | nil => intro s h _; exact h
  | cons x r ih =>
    intro s h hx
    refine ih _ (fun p hp => ?_) (fun y hy => hx y (by simp [hy]))
    rcases List.mem_or_eq_of_mem_set hp with h1 | rfl
    · exact h p h1
    · exact hx x (by simp)
theorem layM_out (l : List (Nat × ByteArray)) (i : Nat) : ∀ s, (∀ x ∈ l, x.1 ≠ i) → (layM s l)[i]? = s[i]? := by
  induction l with
  | nil => intro s _; rfl
  | cons x r ih =>
    intro s h
    rw [layM, ih _ (fun y hy => h y (by simp [hy])), List.getElem?_set_ne (h x (by simp))]
theorem DM.Ok.nowLen {M : DM} {N : Nat} (h : M.Ok N) : M.now.length = N := by unfold DM.now; rw [layM_length, h.len]
theorem DM.Ok.nowRow {M : DM} {N : Nat} (h : M.Ok N) : ∀ p ∈ M.now, p.size = 64 := layM_row _ _ h.row (fun x hx => (h.at_ x hx).2)
theorem take_snoc' {α : Type} (l : List α) (k : Nat) (h : k < l.length) : l.take (k + 1) = l.take k ++ [l[k]] := by
  rw [List.take_succ_eq_append_getElem h]

/-- The second way of a crash: what was loose is laid back. -/
def backM (st : List ByteArray) (nw : List ByteArray) : List (Nat × ByteArray) → List ByteArray
  | [] => nw
  | x :: r => backM st (nw.set x.1 (st.getD x.1 ⟨#[]⟩)) r
theorem backM_append (st : List ByteArray) (l m : List (Nat × ByteArray)) : ∀ nw, backM st nw (l ++ m) = backM st (backM st nw l) m := by
  induction l with
  | nil => intro s; rfl
  | cons x r ih => intro s; exact ih _
theorem backM_snoc (st nw : List ByteArray) (l : List (Nat × ByteArray)) (x : Nat × ByteArray) : backM st nw (l ++ [x]) = (backM st nw l).set x.1 (st.getD x.1 ⟨#[]⟩) := by rw [backM_append]; rfl
theorem backM_length (st : List ByteArray) (l : List (Nat × ByteArray)) : ∀ nw, (backM st nw l).length = nw.length := by
  induction l with
  | nil => intro s; rfl
  | cons x r ih => intro s; rw [backM, ih, List.length_set]
theorem backM_at (st : List ByteArray) (l : List (Nat × ByteArray)) (i : Nat) (hi : i < st.length) : ∀ nw, nw.length = st.length → (backM st nw l)[i]? = st[i]? ∨ ((∀ x ∈ l, x.1 ≠ i) ∧ (backM st nw l)[i]? = nw[i]?) := by
  induction l with
  | nil => intro nw _; exact .inr ⟨fun x h => (by cases h), rfl⟩
  | cons x r ih =>
    intro nw hn
    rcases ih (nw.set x.1 (st.getD x.1 ⟨#[]⟩)) (by rw [List.length_set, hn]) with h | ⟨h1, h2⟩
    · exact .inl h
    · by_cases q : x.1 = i
      · left
        rw [backM, h2, q, List.getElem?_set_self (by omega)]
        simp [List.getD, hi]
      · right
        refine ⟨fun y hy => ?_, by rw [backM, h2, List.getElem?_set_ne q]⟩
        rcases List.mem_cons.1 hy with rfl | hy
        · exact q
        · exact h1 y hy
theorem zip_mem {keep : List Bool} {l : List (Nat × ByteArray)} {x : Nat × ByteArray} (h : x ∈ keptM keep l) : x ∈ l := by
  unfold keptM at h
  simp only [List.mem_map, List.mem_filter] at h
  obtain ⟨⟨b, y⟩, ⟨h1, _⟩, rfl⟩ := h
  exact (List.of_mem_zip h1).2
/-- A crash, as the program makes it: of what was loose some stands, and all that was loose is laid back. -/
theorem back_all (s : List ByteArray) (l : List (Nat × ByteArray)) (keep : List Bool) : backM (layM s (keptM keep l)) (layM s l) l = layM s (keptM keep l) := by
  apply List.ext_getElem?
  intro i
  by_cases hi : i < s.length
  · rcases backM_at (layM s (keptM keep l)) l i (by rw [layM_length]; exact hi) (layM s l) (by rw [layM_length, layM_length]) with h | ⟨h1, h2⟩
    · exact h
    · rw [h2, layM_out _ _ _ h1, layM_out _ _ _ (fun x hx => h1 x (zip_mem hx))]
  · rw [List.getElem?_eq_none (by rw [backM_length, layM_length]; omega), List.getElem?_eq_none (by rw [layM_length]; omega)]
/-- What of the first k loose Writes stands. -/
def keptTo (keep : List Bool) (l : List (Nat × ByteArray)) (k : Nat) : List (Nat × ByteArray) := (((keep.zip l).take k).filter (·.1)).map (·.2)
theorem keptTo_zero (keep : List Bool) (l : List (Nat × ByteArray)) : keptTo keep l 0 = [] := rfl
theorem keptTo_all {keep : List Bool} {l : List (Nat × ByteArray)} {k : Nat} (h : min keep.length l.length ≤ k) : keptTo keep l k = keptM keep l := by
  unfold keptTo keptM
  rw [List.take_of_length_le (by rw [List.length_zip]; exact h)]
theorem keptTo_yes {keep : List Bool} {l : List (Nat × ByteArray)} {k : Nat} (h1 : k < keep.length) (h2 : k < l.length) (h : keep[k] = true) : keptTo keep l (k + 1) = keptTo keep l k ++ [l[k]] := by
  unfold keptTo
  rw [take_snoc' _ k (by rw [List.length_zip]; omega), List.filter_append, List.map_append, List.getElem_zip]
  simp [h]
theorem keptTo_no {keep : List Bool} {l : List (Nat × ByteArray)} {k : Nat} (h1 : k < keep.length) (h2 : k < l.length) (h : keep[k] = false) : keptTo keep l (k + 1) = keptTo keep l k := by
  unfold keptTo
  rw [take_snoc' _ k (by rw [List.length_zip]; omega), List.filter_append, List.map_append, List.getElem_zip]
  simp [h]

theorem newM_ok (n : Nat) : (newM n).Ok n := ⟨by simp [newM], fun p hp => by
  have := (List.mem_replicate.1 hp).2
  rw [this, zeroB_size], fun x hx => by cases hx⟩
theorem DM.Ok.step {M : DM} {N : Nat} (h : M.Ok N) : M.step.Ok N := by
  unfold DM.step
  split <;> exact ⟨h.len, h.row, h.at_⟩
theorem DM.step_safe (M : DM) : M.step.safe = M.safe := by unfold DM.step; split <;> rfl
theorem DM.step_loose (M : DM) : M.step.loose = M.loose := by unfold DM.step; split <;> rfl
theorem DM.step_now (M : DM) : M.step.now = M.now := by unfold DM.now; rw [DM.step_safe, DM.step_loose]
theorem DM.Ok.write {M : DM} {N n : Nat} {p : ByteArray} (h : M.Ok N) (hn : n < N) (hp : p.size ≤ 64) : (M.write n p).Ok N := by
  unfold DM.write
  split
  · exact h.step
  · refine ⟨h.step.len, h.step.row, fun x hx => ?_⟩
    rcases List.mem_append.1 hx with h1 | h1
    · exact h.at_ x h1
    · rw [List.mem_singleton.1 h1]
      exact ⟨hn, fullB_size hp⟩
theorem DM.Ok.flush {M : DM} {N : Nat} (h : M.Ok N) : (M.flush).Ok N := by
  unfold DM.flush
  split
  · exact h.step
  · exact ⟨h.nowLen, h.nowRow, fun x hx => by cases hx⟩
theorem DM.Ok.crash {M : DM} {N : Nat} (h : M.Ok N) (keep : List Bool) : (M.crash keep).Ok N :=
  ⟨by show (layM _ _).length = N; rw [layM_length, h.len], layM_row _ _ h.row (fun x hx => (h.at_ x (zip_mem hx)).2), fun x hx => by cases hx⟩
theorem DM.crash_now (M : DM) (keep : List Bool) : (M.crash keep).now = layM M.safe (keptM keep M.loose) := rfl
end Go.Proofs.Ytlkffignbjpfcaa
