/- Proved here: the state of the walk that compares each sector with what is wanted. -/
import Derived.Test.YtggchfmglaijgaaTapeWriteK
import Derived.Test.YtggchfmglaijgaaBoolKit
namespace Go.Proofs.Ytggchfmglaijgaa
open Go.RowKit

theorem Owns.stand {w w' : World} {B g cap : Nat} {s : ByteArray} (h : Owns w B g cap s) (he : w'.heap[g]? = w.heap[g]?) (hz : w.heap.size ≤ w'.heap.size) : Owns w' B g cap s :=
  ⟨owns_block h.1 (fun k hk => by
    injection hk with hk
    have e : g = k := hk
    rw [← e]; exact he), h.2.1, Nat.lt_of_lt_of_le h.2.2.1 hz, h.2.2.2⟩
theorem DW.aside {wB W W' : World} {F S : Nat → Prop} {G N : Nat} {M : DM} (d : DW wB W F G N M) (ht : Touch S W W') (hS : ∀ k, S k → ¬ F k ∧ wB.heap.size ≤ k) : DW wB W' F G N M :=
  ⟨d.drum.kept (fun j hj => ht.block j (d.drum.lt j hj) (fun e => (hS j e).1 hj)) ht.size, d.below.trans (ht.below (fun j hj => (hS j hj).2) d.below.size), d.since⟩
/-- The rows that are wanted, their blocks all below Z. -/
def WantZ (wB W : World) (F : Nat → Prop) (t : Nat) (q : Option Addr) (N k : Nat) (L : List ByteArray) (Z : Nat) : Prop := L.length = N ∧ ∃ Y, GroupsIn W Y (.slice q N k) L ∧ ∀ j, Y j → ¬ F j ∧ j ≠ t ∧ wB.heap.size ≤ j ∧ j < Z
theorem WantAt.z {wB W : World} {F : Nat → Prop} {t : Nat} {q : Option Addr} {N k : Nat} {L : List ByteArray} (h : WantAt wB W F t q N k L) : WantZ wB W F t q N k L W.heap.size := by
  obtain ⟨Y, ⟨Vs, h1, h2, h3⟩, hY⟩ := h.own
  refine ⟨h.len, fun j => Y j ∧ j < W.heap.size, ⟨Vs, h1, fun j hj => ⟨h2 j hj, (h1.lt j hj).2⟩, fun i hi => ?_⟩, fun j hj => ⟨(hY j hj.1).1, (hY j hj.1).2.1, (hY j hj.1).2.2, hj.2⟩⟩
  obtain ⟨v, a1, a2, a3⟩ := h3 i hi
  exact ⟨v, a1, a2, fun j hj => ⟨a3 j hj, (a2.lt j hj).2⟩⟩
theorem WantZ.at {wB W : World} {F : Nat → Prop} {t : Nat} {q : Option Addr} {N k : Nat} {L : List ByteArray} {Z : Nat} (h : WantZ wB W F t q N k L Z) : WantAt wB W F t q N k L := by
  obtain ⟨hl, Y, h1, h2⟩ := h
  exact ⟨⟨Y, h1, fun j hj => ⟨(h2 j hj).1, (h2 j hj).2.1, (h2 j hj).2.2.1⟩⟩, hl⟩
theorem WantZ.touch {wB W W' : World} {F F' S : Nat → Prop} {t : Nat} {q : Option Addr} {N k : Nat} {L : List ByteArray} {Z : Nat} (h : WantZ wB W F t q N k L Z) (ht : Touch S W W') (hS : ∀ j, S j → F j ∨ j = t ∨ Z ≤ j) (hF : ∀ j, F' j → F j ∨ Z ≤ j) : WantZ wB W' F' t q N k L Z := by
  obtain ⟨hl, Y, hg, hY⟩ := h
  refine ⟨hl, Y, hg.touch ht (fun j hj f => ?_), fun j hj => ⟨fun f => ?_, (hY j hj).2⟩⟩
  · rcases hS j f with e | e | e
    · exact (hY j hj).1 e
    · exact (hY j hj).2.1 e
    · have := (hY j hj).2.2.2; omega
  · rcases hF j f with e | e
    · exact (hY j hj).1 e
    · have := (hY j hj).2.2.2; omega
theorem WantZ.blk {wB W : World} {F : Nat → Prop} {t : Nat} {q : Option Addr} {N k : Nat} {L : List ByteArray} {Z : Nat} (h : WantZ wB W F t q N k L Z) : ∀ a, q = some a → a.block < Z := by
  obtain ⟨hl, Y, ⟨Vs, h1, h2, h3⟩, hY⟩ := h
  intro a ha
  subst ha
  rcases h1.2 with ⟨e, _⟩ | ⟨g, cap, cur, e, _⟩
  · cases e
  · injection e with e1 e2 e3
    injection e1 with e1
    subst e1
    exact (hY g (h2 g rfl)).2.2.2
/-- A script's state, between its steps. -/
structure WSt (wB W : World) (F : Nat → Prop) (G t n lo hi gen : Nat) (M : DM) (place g : Nat) (down : Bool) (left : Int) (i : Nat) (q : Option Addr) (k : Nat) : Prop where
  d : DW wB W F G n M
  tp : W.heap[t]? = some (.cells (tapeV G lo hi gen g place down) 118 (0, 0))
  ft : ¬ F t
  wt : wB.heap.size ≤ t
  want : WantAt wB W F t q n k M.now
  rel : down = false → M.down = false ∧ left = leftZ M.fuse
  pl : lo + place ≤ hi
  gp : g ≤ place
  st : M.steps ≤ 1000 + 100 * i
  lo9 : M.loose.length ≤ 100 * i
  fu : M.fuse.getD 0 ≤ 9223372036854775807
  lf : -1 ≤ left ∧ left ≤ 9223372036854775807
theorem WSt.far {wB W W' : World} {F : Nat → Prop} {G t n lo hi gen : Nat} {M : DM} {place g : Nat} {down : Bool} {left : Int} {i : Nat} {q : Option Addr} {k : Nat} (h : WSt wB W F G t n lo hi gen M place g down left i q k) (hb : Below W.heap.size W W') : WSt wB W' F G t n lo hi gen M place g down left i q k :=
  ⟨h.d.on hb, (hb.block _ (obj_lt h.tp)).trans h.tp, h.ft, h.wt, h.want.far hb, h.rel, h.pl, h.gp, h.st, h.lo9, h.fu, h.lf⟩
theorem WSt.later {wB W : World} {F : Nat → Prop} {G t n lo hi gen : Nat} {M : DM} {place g : Nat} {down : Bool} {left : Int} {i : Nat} {q : Option Addr} {k : Nat} (h : WSt wB W F G t n lo hi gen M place g down left i q k) : WSt wB W F G t n lo hi gen M place g down left (i + 1) q k :=
  ⟨h.d, h.tp, h.ft, h.wt, h.want, h.rel, h.pl, h.gp, by have := h.st; omega, by have := h.lo9; omega, h.fu, h.lf⟩
/-- Within a step that appends: Z is the step's own block, L what is wanted. -/
structure Pre (wB W : World) (F : Nat → Prop) (G t n lo hi gen : Nat) (M : DM) (place g : Nat) (down : Bool) (Z : Nat) (op : Array Value) (q : Option Addr) (k : Nat) (L : List ByteArray) : Prop where
  d : DW wB W F G n M
  tp : W.heap[t]? = some (.cells (tapeV G lo hi gen g place down) 118 (0, 0))
  ft : ¬ F t
  wt : wB.heap.size ≤ t
  want : WantAt wB W F t q n k L
  op : W.heap[Z]? = some (.cells op 60 (0, 0))
  zF : ¬ F Z
  zt : Z ≠ t
  qz : ∀ a, q = some a → a.block < Z
theorem Pre.far {wB W W' : World} {F : Nat → Prop} {G t n lo hi gen : Nat} {M : DM} {place g : Nat} {down : Bool} {Z : Nat} {op : Array Value} {q : Option Addr} {k : Nat} {L : List ByteArray} (h : Pre wB W F G t n lo hi gen M place g down Z op q k L) (hb : Below W.heap.size W W') : Pre wB W' F G t n lo hi gen M place g down Z op q k L :=
  ⟨h.d.on hb, (hb.block _ (obj_lt h.tp)).trans h.tp, h.ft, h.wt, h.want.far hb, (hb.block _ (obj_lt h.op)).trans h.op, h.zF, h.zt, h.qz⟩
/-- Behind Spare and Append. -/
theorem Pre.seven {wB W6 Ws W7 : World} {F : Nat → Prop} {G t n lo hi gen : Nat} {M : DM} {place g : Nat} {down : Bool} {Z : Nat} {op : Array Value} {q : Option Addr} {k : Nat} {L : List ByteArray} (h : Pre wB W6 F G t n lo hi gen M place g down Z op q k L)
    (hb : Below W6.heap.size W6 Ws) (tt : Touch (WithT F t) Ws W7) {g6 c6 : Nat} {x : ByteArray} (o : Owns Ws W6.heap.size g6 c6 x) : Owns W7 W6.heap.size g6 c6 x ∧ W7.heap[Z]? = some (.cells op 60 (0, 0)) := by
  have hg := o.2.1
  refine ⟨o.stand (tt.block g6 o.2.2.1 (fun f => ?_)) tt.size, (tt.block Z (Nat.lt_of_lt_of_le (obj_lt h.op) hb.size) (fun f => ?_)).trans ((hb.block Z (obj_lt h.op)).trans h.op)⟩
  · rcases f with f | f
    · have := h.d.drum.lt _ f; omega
    · have := obj_lt h.tp; omega
  · rcases f with f | f
    · exact h.zF f
    · exact h.zt f
theorem Pre.eight {wB W6 Ws W7 W8 : World} {F F7 : Nat → Prop} {G t n lo hi gen : Nat} {M M7 : DM} {place g : Nat} {down : Bool} {Z : Nat} {op : Array Value} {q : Option Addr} {k : Nat} {L : List ByteArray} {row : Array Value} (h : Pre wB W6 F G t n lo hi gen M place g down Z op q k L)
    (hb : Below W6.heap.size W6 Ws) (tt : Touch (WithT F t) Ws W7) (gr : ∀ j, F7 j → Grow F Ws W7 j) {g6 c6 : Nat} {x : ByteArray} (o : Owns Ws W6.heap.size g6 c6 x) (d7 : DW wB W7 F7 G n M7) (tp7 : W7.heap[t]? = some (.cells row 118 (0, 0))) (t3 : Touch (fun j => j = g6) W7 W8) :
    DW wB W8 F7 G n M7 ∧ W8.heap[t]? = some (.cells row 118 (0, 0)) ∧ ¬ F7 t ∧ WantAt wB W8 F7 t q n k L := by
  have hg := o.2.1
  have hg2 := o.2.2.1
  have htl := obj_lt h.tp
  have hs := hb.size
  have hnF : ¬ F g6 := fun f => by have := h.d.drum.lt _ f; omega
  refine ⟨d7.aside t3 (fun j e => ?_), (t3.block t (obj_lt tp7) (fun e => by omega)).trans tp7, fun f => ?_, (((h.want.z.touch (Touch.of_below (F := F) hb) (fun j f => .inl f) (fun j f => .inl f)).touch tt (fun j f => ?_) (fun j f => ?_)).touch t3 (fun j e => .inr (.inr (by omega))) (fun j f => .inl f)).at⟩
  · subst e
    refine ⟨fun f => ?_, by have := h.d.below.size; omega⟩
    rcases gr _ f with f | f
    · exact hnF f
    · omega
  · rcases gr _ f with f | f
    · exact h.ft f
    · omega
  · rcases f with f | f
    · exact .inl f
    · exact .inr (.inl f)
  · rcases gr _ f with f | f
    · exact .inl f
    · exact .inr (by omega)
/-- The rows of a group, as they are stored one after another. -/
structure LSt (wB W5 W : World) (F : Nat → Prop) (G t n lo hi gen : Nat) (M : DM) (place g : Nat) (Z : Nat) (op : Array Value) (q : Option Addr) (k : Nat) (gq : Option Addr) (gk : Nat) (rows : List ByteArray) (j : Nat) : Prop where
  p : Pre wB W F G t n lo hi gen M place g false Z op q k (wantK M.now (lo + place) (fun i => rows.getD i ⟨#[]⟩) j)
  gi : GroupsIn W (Since W5) (.slice gq rows.length gk) rows
  z5 : Z < W5.heap.size
  s5 : wB.heap.size ≤ W5.heap.size
  t5 : t < W5.heap.size
  f5 : ∀ j, F j → j < W5.heap.size
theorem LSt.next {wB W5 W : World} {F : Nat → Prop} {G t n lo hi gen : Nat} {M : DM} {place g : Nat} {Z : Nat} {op : Array Value} {q : Option Addr} {k : Nat} {gq : Option Addr} {gk : Nat} {rows : List ByteArray} {j : Nat} (h : LSt wB W5 W F G t n lo hi gen M place g Z op q k gq gk rows j) (hj : j < rows.length) (hn : lo + place + j < n) :
    ∃ v gb gw, ∃ c : Option Addr × Nat × Nat, gq = some ⟨gb, 0, none⟩ ∧ W.cell? ⟨gb, j, none⟩ = some v ∧ v = .slice c.1 c.2.1 c.2.2 ∧ q = some ⟨gw, 0, none⟩ ∧ (∃ u, W.cell? ⟨gw, lo + place + j, none⟩ = some u) ∧ W.frozen? ⟨gw, lo + place + j, none⟩ = false ∧ LSt wB W5 (W.setCell ⟨gw, lo + place + j, none⟩ v) F G t n lo hi gen M place g Z op q k gq gk rows (j + 1) := by
  obtain ⟨Vs, a1, a2, a3⟩ := h.gi
  obtain ⟨v, b1, b2, b3⟩ := a3 j hj
  obtain ⟨gb, gc, hq, _⟩ := a1.form (by omega)
  injection hq with hq1 hq2 hq3
  obtain ⟨pa, pc, hv, _⟩ := rowv_holds b2
  have hcell : W.cell? ⟨gb, j, none⟩ = some v := by
    subst hq1
    rw [a1.cellAt j (by omega), b1]
  obtain ⟨gw, hqw, c1, c2, c3, c4, c5, c6⟩ := h.p.want.store (i := lo + place + j) (s := rows[j]) hn b2 (fun x hx => by
    have h1 : W5.heap.size ≤ x := b3 x hx
    exact ⟨fun f => by have := h.f5 x f; omega, fun e => by have := h.t5; omega, by have := h.s5; omega⟩)
  have hgz : gw < Z := h.p.qz _ hqw
  have ts : Touch (fun x => x = gw) W (W.setCell ⟨gw, lo + place + j, none⟩ v) := Touch.set (F := fun x => x = gw) (Touch.refl _ _) (p := ⟨gw, lo + place + j, none⟩) rfl v
  refine ⟨v, gb, gw, (pa, _, pc), hq1, hcell, hv, hqw, c1, c2, ⟨⟨h.p.d.aside ts (fun x e => by subst e; exact ⟨c3, c5⟩), (ts.block t (obj_lt h.p.tp) (fun e => c4 e.symm)).trans h.p.tp, h.p.ft, h.p.wt, ?_, (ts.block Z (obj_lt h.p.op) (fun e => by omega)).trans h.p.op, h.p.zF, h.p.zt, h.p.qz⟩, GroupsIn.touch h.gi ts (fun x hx e => by
    have h1 : W5.heap.size ≤ x := hx
    have := h.z5
    omega), h.z5, h.s5, h.t5, h.f5⟩⟩
  have e : rows.getD j ⟨#[]⟩ = rows[j] := by rw [List.getD_eq_getElem?_getD, List.getElem?_eq_getElem hj, Option.getD_some]
  show WantAt wB _ F t q n k (List.set _ _ (rows.getD j ⟨#[]⟩))
  rw [e]
  exact c6
theorem rows_group (gen place grp : Nat) (l : List UInt8) (A : List ByteArray) (at_ : Nat) : ∀ k, k ≤ countS l.length → wantK A at_ (fun i => ((groupL gen place grp l).map ofL).getD i ⟨#[]⟩) k = wantK A at_ (fun i => ofL (secAt gen place grp (countS l.length) l i)) k
  | 0, _ => rfl
  | k + 1, h => by
    rw [wantK, wantK, rows_group gen place grp l A at_ k (by omega)]
    congr 1
    unfold groupL
    rw [List.map_map, List.getD_eq_getElem?_getD, List.getElem?_map, List.getElem?_range (by omega)]
    rfl
theorem keptM_all : ∀ (l : List (Nat × ByteArray)) (n : Nat), l.length = n → keptM (List.replicate n true) l = l
  | [], _, _ => by unfold keptM; simp
  | x :: r, 0, h => by cases h
  | x :: r, n + 1, h => by
    have ih := keptM_all r n (by simpa using h)
    unfold keptM at ih ⊢
    rw [List.replicate_succ, List.zip_cons_cons, List.filter_cons_of_pos rfl, List.map_cons, ih]
theorem crash_all (M : DM) : (M.crash (List.replicate M.loose.length true)).now = M.now := by
  rw [DM.crash_now, keptM_all _ _ rfl]
  rfl
/-- Bools of the law's own. -/
def BoolsIn (W : World) (b : Nat) (l : List Bool) : Prop := W.ownsRow 0 4 1 (.slice (some ⟨b, 0, none⟩) l.length l.length) l.length (l.map Value.bool)
theorem make_bools (w : World) (n : Nat) (hn : n ≤ 1048576) : ∃ w1, (Instr.makeSlice 34 (.int .i64 (n : Int)) (.int .i64 (n : Int))).run Try.prog w = .ok (.slice (some ⟨w.heap.size, 0, none⟩) n n) w1 ∧ BoolsIn w1 w.heap.size (List.replicate n false) ∧ Below w.heap.size w w1 := by
  obtain ⟨i0, hi, hz0, hz1, hz2⟩ := info_parts infoBool
  obtain ⟨w1, h1, h2, h3⟩ := run_make_full (P := Try.prog) (w := w) 0 34 4 i0 (.bool false) 1 Try.underlying34 hi hz0 hz1 .i64 .i64 n (by rw [hz2]; omega) (by unfold maxLen; omega) (Nat.zero_le _)
  have e : (madeCells (Value.bool false).cells (n * 1)).toList = (List.replicate n false).map Value.bool := by
    rw [Nat.mul_one, List.map_replicate]
    simp only [madeCells, Value.cells]
    refine List.eq_replicate_iff.2 ⟨by simp, fun b hb => ?_⟩
    simp [Nat.mod_one] at hb
    exact hb.2.symm
  rw [e] at h2
  refine ⟨w1, h1, ?_, ⟨h3.os, h3.tape, h3.output, h3.size, fun k hk => h3.block k hk (by simp)⟩⟩
  unfold BoolsIn
  rw [List.length_replicate]
  exact h2
theorem BoolsIn.put {W : World} {b : Nat} {l : List Bool} (h : BoolsIn W b l) (i : Nat) (x : Bool) : BoolsIn (W.setCell ⟨b, i, none⟩ (.bool x)) b (l.set i x) := by
  unfold BoolsIn at h ⊢
  rw [List.length_set, List.map_set]
  exact (World.ownsRow.stored h i (.bool x)).1
theorem BoolsIn.at {W : World} {b : Nat} {l : List Bool} (h : BoolsIn W b l) (i : Nat) (hi : i < l.length) : W.cell? ⟨b, i, none⟩ = some (.bool l[i]) ∧ W.frozen? ⟨b, i, none⟩ = false := by
  refine ⟨?_, World.ownsRow.frozenAt h i⟩
  rw [World.ownsRow.cellAt h i (by omega), List.getElem?_map, List.getElem?_eq_getElem hi]
  rfl
theorem BoolsIn.holds {W : World} {b : Nat} {l : List Bool} (h : BoolsIn W b l) : HoldsT W (some ⟨b, 0, none⟩) l := fun _ => ⟨b, 0, rfl, fun j hj => by
  rw [Nat.zero_add, (h.at j hj).1, List.getD_eq_getElem?_getD, List.getElem?_eq_getElem hj, Option.getD_some]⟩
theorem set_true (i n : Nat) (h : i < n) : (List.replicate i true ++ List.replicate (n - i) false).set i true = List.replicate (i + 1) true ++ List.replicate (n - (i + 1)) false := by
  have e : n - i = (n - (i + 1)) + 1 := by omega
  rw [List.set_append, if_neg (by simp), List.length_replicate, Nat.sub_self, e, List.replicate_succ, List.set_cons_zero, List.replicate_succ', List.append_assoc]
  rfl
theorem step_bounds2 (M : DM) : M.step.steps ≤ M.steps + 1 ∧ M.step.loose.length = M.loose.length ∧ M.step.fuse.getD 0 ≤ M.fuse.getD 0 := by
  refine ⟨?_, by rw [M.step_loose], ?_⟩
  · cases ho : M.off with
    | true => rw [M.step_no ho]; exact Nat.le_succ _
    | false => rw [M.step_steps ho]; exact Nat.le_refl _
  · cases ho : M.off with
    | true => rw [M.step_no ho]; exact Nat.le_refl _
    | false =>
      rw [M.step_fuse ho]
      cases M.fuse with
      | none => exact Nat.le_refl _
      | some k => exact Nat.sub_le k 1
theorem left_zero (f : Option Nat) : leftZ (f.map (· - 0)) = leftZ f := by
  cases f <;> rfl
theorem left_facts (f : Option Nat) (j cs : Nat) (hj : j ≤ doneK f cs) (hlt : j < cs) :
    (leftZ (f.map (· - j)) = 0 ∧ doneK f cs = j) ∨ (leftZ (f.map (· - j)) = -1 ∧ leftZ (f.map (· - (j + 1))) = -1 ∧ j + 1 ≤ doneK f cs) ∨ (0 < leftZ (f.map (· - j)) ∧ leftZ (f.map (· - (j + 1))) = leftZ (f.map (· - j)) - 1 ∧ j + 1 ≤ doneK f cs) := by
  cases f with
  | none => exact .inr (.inl ⟨rfl, rfl, hlt⟩)
  | some k =>
    have e1 : ∀ x, leftZ ((some k).map (· - x)) = ((k - x : Nat) : Int) := fun x => rfl
    have e2 : doneK (some k) cs = min k cs := rfl
    rw [e2] at hj ⊢
    rw [e1, e1]
    by_cases h : k = j
    · exact .inl ⟨by omega, by omega⟩
    · exact .inr (.inr ⟨by omega, by omega, by omega⟩)
theorem done_le (f : Option Nat) (cs : Nat) : doneK f cs ≤ cs := by
  cases f with
  | none => exact Nat.le_refl _
  | some k => exact Nat.min_le_right _ _
theorem left_bounds (f : Option Nat) (j : Nat) (h : f.getD 0 ≤ 9223372036854775807) : -1 ≤ leftZ (f.map (· - j)) ∧ leftZ (f.map (· - j)) ≤ 9223372036854775807 := by
  cases f with
  | none => exact ⟨Int.le_refl _, by show (-1 : Int) ≤ 9223372036854775807; decide⟩
  | some k =>
    have e1 : leftZ ((some k).map (· - j)) = ((k - j : Nat) : Int) := rfl
    have e2 : (some k).getD 0 = k := rfl
    rw [e1]
    rw [e2] at h
    omega
theorem left_off {M : DM} (hd : M.down = false) : leftZ M.fuse = 0 ↔ M.off = true := by
  rw [off_iff hd]
  cases hf : M.fuse with
  | none => exact ⟨fun e => (by cases e), fun e => (by cases e)⟩
  | some k =>
    show ((k : Nat) : Int) = 0 ↔ _
    refine ⟨fun e => ?_, fun e => ?_⟩
    · congr 1; omega
    · injection e with e; omega
section Next
variable {wB W W8 : World} {F F7 : Nat → Prop} {G t n lo hi gen : Nat} {M : DM} {place g : Nat} {down : Bool} {left : Int} {i : Nat} {q : Option Addr} {k : Nat}
theorem WSt.on8 (h : WSt wB W F G t n lo hi gen M place g down left i q k) (E : DW wB W8 F7 G n M ∧ W8.heap[t]? = some (.cells (tapeV G lo hi gen g place down) 118 (0, 0)) ∧ ¬ F7 t ∧ WantAt wB W8 F7 t q n k M.now) : WSt wB W8 F7 G t n lo hi gen M place g down left (i + 1) q k :=
  ⟨E.1, E.2.1, E.2.2.1, h.wt, E.2.2.2, h.rel, h.pl, h.gp, by have := h.st; omega, by have := h.lo9; omega, h.fu, h.lf⟩
theorem WSt.all8 (h : WSt wB W F G t n lo hi gen M place g false left i q k) (l : List UInt8) (hfit : lo + place + countS l.length ≤ hi) (hhi : hi ≤ 60) (on : ∀ j, j < countS l.length → (laidM M lo place gen g (countS l.length) l j).off = false)
    (E : DW wB W8 F7 G n (laidM M lo place gen g (countS l.length) l (countS l.length)) ∧ W8.heap[t]? = some (.cells (tapeV G lo hi gen (g + 1) (place + countS l.length) false) 118 (0, 0)) ∧ ¬ F7 t ∧ WantAt wB W8 F7 t q n k (wantK M.now (lo + place) (fun i => ((groupL gen place g l).map ofL).getD i ⟨#[]⟩) (countS l.length))) :
    WSt wB W8 F7 G t n lo hi gen (laidM M lo place gen g (countS l.length) l (countS l.length)) (place + countS l.length) (g + 1) false (leftZ (M.fuse.map (· - countS l.length))) (i + 1) q k := by
  have hb := laid_bounds M lo place gen g (countS l.length) l (countS l.length)
  obtain ⟨a1, a2⟩ := laid_fuse M lo place gen g (countS l.length) l (h.rel rfl).1 _ on
  have hw := E.2.2.2
  rw [rows_group _ _ _ _ _ _ _ (Nat.le_refl _), ← laid_want M lo place gen g l _ on] at hw
  have hc := countS_pos l.length
  refine ⟨E.1, E.2.1, E.2.2.1, h.wt, hw, fun _ => ⟨a1, by rw [a2]⟩, by omega, by have := h.gp; omega, ?_, ?_, ?_, left_bounds _ _ h.fu⟩
  · have := h.st; have := hb.1; omega
  · have := h.lo9; have := hb.2.2; omega
  · have := h.fu; have := hb.2.1; omega
theorem WSt.cut8 (h : WSt wB W F G t n lo hi gen M place g false left i q k) (l : List UInt8) (hfit : lo + place + countS l.length ≤ hi) (hhi : hi ≤ 60) {kk : Nat} (hk : kk < countS l.length) (on : ∀ j, j < kk → (laidM M lo place gen g (countS l.length) l j).off = false)
    (E : DW wB W8 F7 G n (laidM M lo place gen g (countS l.length) l kk).step ∧ W8.heap[t]? = some (.cells (tapeV G lo hi gen g place true) 118 (0, 0)) ∧ ¬ F7 t ∧ WantAt wB W8 F7 t q n k (wantK M.now (lo + place) (fun i => ((groupL gen place g l).map ofL).getD i ⟨#[]⟩) kk)) :
    WSt wB W8 F7 G t n lo hi gen (laidM M lo place gen g (countS l.length) l kk).step place g true 0 (i + 1) q k := by
  have hb := laid_bounds M lo place gen g (countS l.length) l kk
  have hs := step_bounds2 (laidM M lo place gen g (countS l.length) l kk)
  have hw := E.2.2.2
  rw [rows_group _ _ _ _ _ _ _ (Nat.le_of_lt hk), ← laid_want M lo place gen g l _ on] at hw
  refine ⟨E.1, E.2.1, E.2.2.1, h.wt, by rw [DM.step_now]; exact hw, fun e => (by cases e), h.pl, h.gp, ?_, ?_, ?_, by decide⟩
  · have := h.st; have := hb.1; have := hs.1; omega
  · have := h.lo9; have := hb.2.2; have := hs.2.1; omega
  · have := h.fu; have := hb.2.1; have := hs.2.2; omega
theorem WSt.flushed (h : WSt wB W F G t n lo hi gen M place g false left i q k) (hoff : M.off = false) (d : DW wB W8 F G n M.flush) (tt : Touch F W W8) {left' : Int} (hl : (0 < left → left' = left - 1) ∧ (¬ 0 < left → left' = left)) :
    WSt wB W8 F G t n lo hi gen M.flush place g false left' (i + 1) q k := by
  have hr := h.rel rfl
  have hf : M.flush = { M.step with safe := M.now, loose := [] } := M.flush_yes hoff
  have hnow : M.flush.now = M.now := by rw [hf]; rfl
  have hfu : M.flush.fuse = M.fuse.map (· - 1) := by rw [hf]; exact M.step_fuse hoff
  have hdn : M.flush.down = M.down := by rw [hf]; exact M.step_down hoff
  have hs := step_bounds2 M
  have hl2 := h.lf
  have hne : left ≠ 0 := fun e => by
    have := (left_off hr.1).1 (by rw [← hr.2]; exact e)
    rw [hoff] at this; cases this
  refine ⟨d, (tt.block t (obj_lt h.tp) h.ft).trans h.tp, h.ft, h.wt, by rw [hnow]; exact h.want.touch (tt.mono (fun j hj => .inl hj)) (fun j hj => .inl hj), fun _ => ⟨by rw [hdn]; exact hr.1, ?_⟩, h.pl, h.gp, ?_, ?_, ?_, ?_⟩
  · rw [hfu]
    cases hq : M.fuse with
    | none =>
      have e : left = -1 := by rw [hr.2, hq]; rfl
      have := hl.2 (by omega)
      rw [this, e]; rfl
    | some x =>
      have e : left = (x : Int) := by rw [hr.2, hq]; rfl
      have := hl.1 (by omega)
      show left' = ((x - 1 : Nat) : Int)
      omega
  · rw [hf]; show M.step.steps ≤ _; have := h.st; have := hs.1; omega
  · rw [hf]; exact Nat.zero_le _
  · rw [hf]; show M.step.fuse.getD 0 ≤ _; have := h.fu; have := hs.2.2; omega
  · by_cases h0 : 0 < left
    · have := hl.1 h0; omega
    · have := hl.2 h0; omega
theorem WSt.fell (h : WSt wB W F G t n lo hi gen M place g false left i q k) (hoff : M.off = true) (d : DW wB W8 F G n M.flush) (tt : Touch (WithT F t) W W8) (tp : W8.heap[t]? = some (.cells (tapeV G lo hi gen g place true) 118 (0, 0))) : WSt wB W8 F G t n lo hi gen M.flush place g true left (i + 1) q k := by
  have hf : M.flush = M.step := M.flush_no hoff
  have hs := step_bounds2 M
  rw [hf] at d ⊢
  exact ⟨d, tp, h.ft, h.wt, by rw [M.step_now]; exact h.want.touch tt (fun j hj => .inl hj), fun e => (by cases e), h.pl, h.gp, by have := h.st; have := hs.1; omega, by have := h.lo9; have := hs.2.1; omega, by have := h.fu; have := hs.2.2; omega, h.lf⟩
theorem WSt.fused (h : WSt wB W F G t n lo hi gen M place g down left i q k) {x : Nat} (hx : x ≤ 9223372036854775807) (d : DW wB W8 F G n (M.fused x)) (tt : Touch (Only G) W W8) : WSt wB W8 F G t n lo hi gen (M.fused x) place g down (x : Int) (i + 1) q k := by
  have tF : Touch F W W8 := tt.mono (only_F h.d.drum.fG)
  exact ⟨d, (tF.block t (obj_lt h.tp) h.ft).trans h.tp, h.ft, h.wt, h.want.touch (tF.mono (fun j hj => .inl hj)) (fun j hj => .inl hj), fun e => ⟨(h.rel e).1, rfl⟩, h.pl, h.gp, by have := h.st; show M.steps ≤ _; omega, by have := h.lo9; show M.loose.length ≤ _; omega, hx, by omega⟩
theorem WSt.less (h : WSt wB W F G t n lo hi gen M place g true left i q k) {left' : Int} (hl : (0 < left → left' = left - 1) ∧ (¬ 0 < left → left' = left)) : WSt wB W F G t n lo hi gen M place g true left' (i + 1) q k :=
  ⟨h.d, h.tp, h.ft, h.wt, h.want, fun e => (by cases e), h.pl, h.gp, by have := h.st; omega, by have := h.lo9; omega, h.fu, by
    have hl2 := h.lf
    by_cases h0 : 0 < left
    · have := hl.1 h0; omega
    · have := hl.2 h0; omega⟩
end Next
end Go.Proofs.Ytggchfmglaijgaa
