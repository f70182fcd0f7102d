/- Proved here: what is kept in mind of a script on a tape, each byte of its sectors. -/
import Derived.Test.YtggchfmglaijgaaTapeLastK
import Derived.Test.YtggchfmglaijgaaTapeGroup
import Derived.Test.YtggchfmglaijgaaTapeAll
namespace Go.Proofs.Ytggchfmglaijgaa
open Go.RowKit

theorem append_down (W : World) (t G lo hi gen groups used : Nat) (h : W.heap[t]? = some (.cells (tapeV G lo hi gen groups used true) 118 (0, 0))) (p : Option Addr) (n c : Nat) :
    Calls Try.prog 33 #[.pointer (some ⟨t, 0, none⟩), .slice p n c] W fun e W' => e = .returned (.int .i64 9) ∧ W = W' := by
  have c6 : W.cell? ⟨t, 6, none⟩ = some (.bool true) := by rw [cell_of_row _ _ _ _ _ _ h]; rfl
  clear h
  go_enter Try.func33, Try.ntmps33
  go_wp2_with (fail)
  go_ret
  exact ⟨rfl, rfl⟩
theorem flush_down (W : World) (t G lo hi gen groups used : Nat) (h : W.heap[t]? = some (.cells (tapeV G lo hi gen groups used true) 118 (0, 0))) :
    Calls Try.prog 35 #[.pointer (some ⟨t, 0, none⟩)] W fun e W' => e = .returned (.int .i64 9) ∧ W = W' := by
  have c6 : W.cell? ⟨t, 6, none⟩ = some (.bool true) := by rw [cell_of_row _ _ _ _ _ _ h]; rfl
  clear h
  go_enter Try.func35, Try.ntmps35
  go_wp2_with (fail)
  go_ret
  exact ⟨rfl, rfl⟩
def leftZ (f : Option Nat) : Int := match f with
  | none => -1
  | some k => (k : Int)
theorem DM.step_down' {M : DM} (h : M.off = false) : M.step.down = M.down := M.step_down h
/-- Behind j Writes that were done. -/
theorem laid_fuse (M : DM) (lo used gen groups count : Nat) (l : List UInt8) (hd : M.down = false) : ∀ k, (∀ j, j < k → (laidM M lo used gen groups count l j).off = false) → (laidM M lo used gen groups count l k).down = false ∧ (laidM M lo used gen groups count l k).fuse = M.fuse.map (· - k)
  | 0, _ => ⟨hd, by
    show M.fuse = _
    cases M.fuse <;> rfl⟩
  | k + 1, h => by
    obtain ⟨a, b⟩ := laid_fuse M lo used gen groups count l hd k (fun j hj => h j (by omega))
    have ho := h k (by omega)
    rw [laidM, DM.write_yes _ ho]
    refine ⟨?_, ?_⟩
    · show (DM.step _).down = false
      rw [DM.step_down _ ho, a]
    · show (DM.step _).fuse = _
      rw [DM.step_fuse _ ho, b]
      cases M.fuse with
      | none => rfl
      | some f =>
        show some (f - k - 1) = some (f - (k + 1))
        congr 1
theorem off_iff {M : DM} (hd : M.down = false) : M.off = true ↔ M.fuse = some 0 := by
  unfold DM.off
  rw [hd, Bool.false_or, beq_iff_eq]
/-- What the law wants of the sectors behind j Writes. -/
def wantK (A : List ByteArray) (at_ : Nat) (rows : Nat → ByteArray) : Nat → List ByteArray
  | 0 => A
  | k + 1 => (wantK A at_ rows k).set (at_ + k) (rows k)
theorem laid_want (M : DM) (lo used gen groups : Nat) (l : List UInt8) : ∀ k, (∀ j, j < k → (laidM M lo used gen groups (countS l.length) l j).off = false) →
    (laidM M lo used gen groups (countS l.length) l k).now = wantK M.now (lo + used) (fun i => ofL (secAt gen used groups (countS l.length) l i)) k
  | 0, _ => rfl
  | k + 1, h => by
    have ih := laid_want M lo used gen groups l k (fun j hj => h j (by omega))
    have hsz : (ofL (sectorL gen (used + k) groups (countS l.length - 1 - k) (partAt l k))).size = 64 := by rw [ofL_size, sectorL_length _ _ _ _ _ (partAt_le l k)]
    rw [laidM, show (l.drop (48 * k)).take 48 = partAt l k from rfl, write_now (h k (by omega)) _ _ hsz, ih, wantK]
    rfl
theorem wantK_length (A : List ByteArray) (at_ : Nat) (rows : Nat → ByteArray) : ∀ k, (wantK A at_ rows k).length = A.length
  | 0 => rfl
  | k + 1 => by rw [wantK, List.length_set, wantK_length A at_ rows k]
/-- How many of count Writes are done with a fuse. -/
def doneK (f : Option Nat) (count : Nat) : Nat := match f with
  | none => count
  | some k => min k count
theorem done_all {M : DM} {lo used gen groups count : Nat} {l : List UInt8} (hd : M.down = false) (h : ∀ j, j < count → (laidM M lo used gen groups count l j).off = false) : doneK M.fuse count = count := by
  unfold doneK
  cases hf : M.fuse with
  | none => rfl
  | some f =>
    show min f count = count
    by_cases hlt : f < count
    · obtain ⟨a, b⟩ := laid_fuse M lo used gen groups count l hd f (fun j hj => h j (by omega))
      rw [hf] at b
      have h1 := h f hlt
      have h2 := (off_iff a).2 (by rw [b]; simp)
      rw [h1] at h2
      cases h2
    · omega
theorem done_cut {M : DM} {lo used gen groups count k : Nat} {l : List UInt8} (hd : M.down = false) (hk : k < count) (h : ∀ j, j < k → (laidM M lo used gen groups count l j).off = false) (ho : (laidM M lo used gen groups count l k).off = true) : M.fuse = some k ∧ doneK M.fuse count = k := by
  obtain ⟨a, b⟩ := laid_fuse M lo used gen groups count l hd k h
  have h1 := (off_iff a).1 ho
  rw [b] at h1
  cases hf : M.fuse with
  | none => rw [hf] at h1; cases h1
  | some f =>
    rw [hf] at h1
    have h2 : f - k = 0 := by simpa using h1
    have hfk : ¬ f < k := fun hlt => by
      obtain ⟨a2, b2⟩ := laid_fuse M lo used gen groups count l hd f (fun j hj => h j (by omega))
      rw [hf] at b2
      have h3 := (off_iff a2).2 (by rw [b2]; simp)
      rw [h f hlt] at h3
      cases h3
    have e : f = k := by omega
    subst e
    exact ⟨rfl, Nat.min_eq_left (by omega)⟩
/-- The rows that are wanted: in a list of the law's own, whose rows are its own too. -/
structure WantAt (wB W : World) (F : Nat → Prop) (t : Nat) (q : Option Addr) (N k : Nat) (L : List ByteArray) : Prop where
  own : ∃ Y, GroupsIn W Y (.slice q N k) L ∧ ∀ j, Y j → ¬ F j ∧ j ≠ t ∧ wB.heap.size ≤ j
  len : L.length = N
theorem WantAt.touch {wB W W' : World} {F F' : Nat → Prop} {t : Nat} {q : Option Addr} {N k : Nat} {L : List ByteArray} (h : WantAt wB W F t q N k L) (ht : Touch (WithT F t) W W') (hg : ∀ j, F' j → Grow F W W' j) : WantAt wB W' F' t q N k L := by
  obtain ⟨Y, ⟨Vs, h1, h2, h3⟩, hY⟩ := h.own
  have hnF : ∀ j, j < W.heap.size → Y j → ¬ WithT F t j := fun j _ hj f => by
    rcases f with f | f
    · exact (hY j hj).1 f
    · exact (hY j hj).2.1 f
  refine ⟨⟨fun j => Y j ∧ j < W.heap.size, ⟨Vs, owns_block h1 (fun j hj => ht.block j (h1.lt j hj).2 (hnF j (h1.lt j hj).2 (h2 j hj))), fun j hj => ⟨h2 j hj, (h1.lt j hj).2⟩, fun i hi => ?_⟩, fun j hj => ⟨fun f => ?_, (hY j hj.1).2⟩⟩, h.len⟩
  · obtain ⟨v, a1, a2, a3⟩ := h3 i hi
    exact ⟨v, a1, owns_block a2 (fun j hj => ht.block j (a2.lt j hj).2 (hnF j (a2.lt j hj).2 (a3 j hj))), fun j hj => ⟨a3 j hj, (a2.lt j hj).2⟩⟩
  · rcases hg j f with q1 | q1
    · exact (hY j hj.1).1 q1
    · omega
theorem WantAt.far {wB W W' : World} {F : Nat → Prop} {t : Nat} {q : Option Addr} {N k : Nat} {L : List ByteArray} (h : WantAt wB W F t q N k L) (hb : Below W.heap.size W W') : WantAt wB W' F t q N k L := h.touch (Touch.of_below hb) (fun _ hj => .inl hj)
/-- A row is stored. -/
theorem WantAt.store {wB W : World} {F : Nat → Prop} {t : Nat} {q : Option Addr} {N k : Nat} {L : List ByteArray} (h : WantAt wB W F t q N k L) {i : Nat} (hi : i < N) {rv : Value} {s : ByteArray} (hr : W.ownsRow 0 5 1 rv s.size (bytesV s)) (hb : ∀ j, rv.ownBlock = some j → ¬ F j ∧ j ≠ t ∧ wB.heap.size ≤ j) :
    ∃ g, q = some ⟨g, 0, none⟩ ∧ (∃ u, W.cell? ⟨g, i, none⟩ = some u) ∧ W.frozen? ⟨g, i, none⟩ = false ∧ ¬ F g ∧ g ≠ t ∧ wB.heap.size ≤ g ∧ WantAt wB (W.setCell ⟨g, i, none⟩ rv) F t q N k (L.set i s) := by
  obtain ⟨Y, ⟨Vs, h1, h2, h3⟩, hY⟩ := h.own
  rw [h.len] at h1
  obtain ⟨g, cap, e, _, hg⟩ := h1.form (by omega)
  injection e with e1 e2 e3
  subst e1 e3
  have hYg := hY g (h2 g rfl)
  have hVl : Vs.length = N := by have := h1.1; omega
  refine ⟨g, rfl, ⟨_, by rw [h1.cellAt i (by omega)]; exact List.getElem?_eq_getElem (by omega)⟩, World.ownsRow.frozenAt h1 i, hYg.1, hYg.2.1, hYg.2.2, ⟨⟨fun j => Y j ∨ rv.ownBlock = some j, ⟨Vs.set i rv, ?_, fun j hj => .inl (h2 j hj), fun m hm => ?_⟩, fun j hj => ?_⟩, by rw [List.length_set, h.len]⟩⟩
  · rw [List.length_set, h.len]
    rcases h1.2 with ⟨e, _⟩ | ⟨g', cap', cur, e, hb', hh, hc, hm, hz, ht⟩
    · cases e
    · injection e with e1 e2 e3
      injection e1 with e1
      injection e1 with e1
      subst e1
      refine ⟨by rw [List.length_set]; exact h1.1, .inr ⟨g, _, cur.setIfInBounds i rv, by rw [← e3], hb', u_row (k := i) rv hh, hc, hm, by rw [Array.size_setIfInBounds]; exact hz, ?_⟩⟩
      rw [Array.toList_setIfInBounds, List.take_set, ht]
  · rw [List.length_set] at hm
    by_cases e : i = m
    · subst e
      refine ⟨rv, by rw [List.getElem?_set_self (by omega)], ?_, fun j hj => .inr hj⟩
      rw [List.getElem_set_self]
      exact owns_block hr (fun j hj => set_other j (fun e => rows_apart h1 hr hj (by rw [e]; rfl)))
    · obtain ⟨v, a1, a2, a3⟩ := h3 m hm
      refine ⟨v, by rw [List.getElem?_set_ne e]; exact a1, ?_, fun j hj => .inl (a3 j hj)⟩
      rw [List.getElem_set_ne e]
      exact owns_block a2 (fun j hj => set_other j (fun e => rows_apart h1 a2 hj (by rw [e]; rfl)))
  · rcases hj with hj | hj
    · exact hY j hj
    · exact hb j hj
theorem WantAt.holds {wB W : World} {F : Nat → Prop} {t : Nat} {q : Option Addr} {N k : Nat} {L : List ByteArray} (h : WantAt wB W F t q N k L) : HoldsH W q L := by
  obtain ⟨Y, h1, _⟩ := h.own
  have hl := h.len
  subst hl
  exact h1.holds
end Go.Proofs.Ytggchfmglaijgaa
