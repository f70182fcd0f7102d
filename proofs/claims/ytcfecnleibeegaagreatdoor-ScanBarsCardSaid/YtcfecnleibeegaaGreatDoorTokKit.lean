/- Proved here: a token, or a pair, as a result's cells; how a walk of the scanner keeps the reader and the result's block. -/
import Derived.Test.YtcfecnleibeegaaGreatDoorReader9
import Derived.Laws.ResultCell
namespace Go.Proofs.YtcfecnleibeegaaGreatDoor
open Go.RowKit

abbrev tokV (kind at_ : Int) (name : ByteArray) (pairs : Value) (text : ByteArray) (refs : Int) : Value := .agg #[.int .i64 kind, .int .i64 at_, .string name, pairs, .string text, .int .i64 refs]
/-- A token laid into its six cells. -/
def setTok (w : World) (G : Nat) (kind at_ : Int) (name : ByteArray) (pairs : Value) (text : ByteArray) (refs : Int) : World :=
  (((((w.setCell ⟨G, 0, none⟩ (.int .i64 kind)).setCell ⟨G, 1, none⟩ (.int .i64 at_)).setCell ⟨G, 2, none⟩ (.string name)).setCell ⟨G, 3, none⟩ pairs).setCell ⟨G, 4, none⟩ (.string text)).setCell ⟨G, 5, none⟩ (.int .i64 refs)
theorem setCell_row {w : World} {G k : Nat} {row : Array Value} {T : TypeId} (v : Value) (h : w.heap[G]? = some (.cells row T)) : (w.setCell ⟨G, k, none⟩ v).heap[G]? = some (.cells (row.setIfInBounds k v) T) ∧ w.grownBy (w.setCell ⟨G, k, none⟩ v) (some G) := by
  constructor
  · show (w.heap.modify G _)[G]? = _
    rw [Array.getElem?_modify, if_pos rfl, h]
    rfl
  · refine ⟨rfl, rfl, rfl, by simp [World.setCell], fun i _ hi => ?_⟩
    have : G ≠ i := fun e => hi (by rw [e])
    simp [World.setCell, Array.getElem?_modify, this]
theorem setTok_row {w : World} {G : Nat} {a0 a1 a2 a3 a4 a5 : Value} {T : TypeId} (kind at_ : Int) (name : ByteArray) (pairs : Value) (text : ByteArray) (refs : Int) (h : w.heap[G]? = some (.cells #[a0, a1, a2, a3, a4, a5] T)) :
    (setTok w G kind at_ name pairs text refs).heap[G]? = some (.cells #[.int .i64 kind, .int .i64 at_, .string name, pairs, .string text, .int .i64 refs] T) ∧ w.grownBy (setTok w G kind at_ name pairs text refs) (some G) := by
  obtain ⟨r0, m0⟩ := setCell_row (k := 0) (.int .i64 kind) h
  obtain ⟨r1, m1⟩ := setCell_row (k := 1) (.int .i64 at_) r0
  obtain ⟨r2, m2⟩ := setCell_row (k := 2) (.string name) r1
  obtain ⟨r3, m3⟩ := setCell_row (k := 3) pairs r2
  obtain ⟨r4, m4⟩ := setCell_row (k := 4) (.string text) r3
  obtain ⟨r5, m5⟩ := setCell_row (k := 5) (.int .i64 refs) r4
  exact ⟨r5, Moved.trans (Moved.trans (Moved.trans (Moved.trans (Moved.trans m0 m1) m2) m3) m4) m5⟩
theorem Moved.past {R G : Nat} {w a b : World} (h : Moved R w a) (g : a.grownBy b (some G)) (hG : w.heap.size ≤ G) : Moved R w b :=
  ⟨g.os.trans h.os, g.tape.trans h.tape, g.output.trans h.output, Nat.le_trans h.size g.size, fun k hk hr => (g.block k (Nat.lt_of_lt_of_le hk h.size) (fun e => by injection e with e; omega)).trans (h.block k hk hr)⟩
theorem Rd.past {R G k : Nat} {a b : World} {v : Value} (h : Rd a R v k) (g : a.grownBy b (some G)) (hne : R ≠ G) : Rd b R v k := by
  have hR : R < a.heap.size := (Array.getElem?_eq_some_iff.1 h).1
  unfold Rd at h ⊢
  rw [g.block R hR (fun e => by injection e with e; exact hne e)]
  exact h
abbrev TOK0 : Obj := .cells #[Value.int IntKind.i64 0, Value.int IntKind.i64 0, Value.string { data := #[] }, Value.slice none 0 0, Value.string { data := #[] }, Value.int IntKind.i64 0] 41
abbrev PAIR0 : Obj := .cells #[Value.string { data := #[] }, Value.string { data := #[] }] 53
theorem six_cells {w : World} {G : Nat} {a0 a1 a2 a3 a4 a5 : Value} {T : TypeId} (h : w.heap[G]? = some (.cells #[a0, a1, a2, a3, a4, a5] T)) :
    (w.cell? ⟨G, 0, none⟩ = some a0 ∧ w.cell? ⟨G, 1, none⟩ = some a1 ∧ w.cell? ⟨G, 2, none⟩ = some a2 ∧ w.cell? ⟨G, 3, none⟩ = some a3 ∧ w.cell? ⟨G, 4, none⟩ = some a4 ∧ w.cell? ⟨G, 5, none⟩ = some a5) ∧
    (w.frozen? ⟨G, 0, none⟩ = false ∧ w.frozen? ⟨G, 1, none⟩ = false ∧ w.frozen? ⟨G, 2, none⟩ = false ∧ w.frozen? ⟨G, 3, none⟩ = false ∧ w.frozen? ⟨G, 4, none⟩ = false ∧ w.frozen? ⟨G, 5, none⟩ = false) := by
  refine ⟨⟨?_, ?_, ?_, ?_, ?_, ?_⟩, ⟨?_, ?_, ?_, ?_, ?_, ?_⟩⟩
  all_goals first
    | (rw [cell_of_row _ _ _ _ _ _ h]; rfl)
    | simp [World.frozen?, h]
theorem two_cells {w : World} {G : Nat} {a0 a1 : Value} {T : TypeId} (h : w.heap[G]? = some (.cells #[a0, a1] T)) :
    (w.cell? ⟨G, 0, none⟩ = some a0 ∧ w.cell? ⟨G, 1, none⟩ = some a1) ∧ (w.frozen? ⟨G, 0, none⟩ = false ∧ w.frozen? ⟨G, 1, none⟩ = false) := by
  refine ⟨⟨?_, ?_⟩, ⟨?_, ?_⟩⟩
  all_goals first
    | (rw [cell_of_row _ _ _ _ _ _ h]; rfl)
    | simp [World.frozen?, h]
/-- A pair laid into its two cells. -/
def setPair (w : World) (G : Nat) (n v : ByteArray) : World := (w.setCell ⟨G, 0, none⟩ (.string n)).setCell ⟨G, 1, none⟩ (.string v)
theorem setPair_row {w : World} {G : Nat} {a0 a1 : Value} {T : TypeId} (n v : ByteArray) (h : w.heap[G]? = some (.cells #[a0, a1] T)) :
    (setPair w G n v).heap[G]? = some (.cells #[.string n, .string v] T) ∧ w.grownBy (setPair w G n v) (some G) := by
  obtain ⟨r0, m0⟩ := setCell_row (k := 0) (.string n) h
  obtain ⟨r1, m1⟩ := setCell_row (k := 1) (.string v) r0
  exact ⟨r1, Moved.trans m0 m1⟩
/-- A walk that began at w with the reader R stands at W: the block O of its result (made first) is as it was made; the reader is at j. -/
structure St (O : Obj) (w0 w W : World) (R b off cap : Nat) (t : ByteArray) (j : Nat) : Prop where
  env : Env w0 R b off cap t
  old : Below w0.heap.size w0 w
  rd : Rd W R (rv b off cap t) j
  mv : Moved R w W
  out : W.heap[w.heap.size]? = some O
  lt : R < w.heap.size
theorem St.first {O : Obj} {w0 w W : World} {R b off cap j : Nat} {t : ByteArray} (E : Env w0 R b off cap t) (hB : Below w0.heap.size w0 w) (h : Rd w R (rv b off cap t) j) (hW : w.alloc O = W) : St O w0 w W R b off cap t j := by
  have hb : Below w.heap.size w W := by rw [← hW]; exact (Below.refl _ _).alloc (Nat.le_refl _) _
  exact ⟨E, hB, h.below hb, Moved.of_below hb, by rw [← hW]; exact heap_alloc_new w _, (Array.getElem?_eq_some_iff.1 h).1⟩
theorem St.below {O : Obj} {w0 w W : World} {R b off cap j : Nat} {t : ByteArray} (S : St O w0 w W R b off cap t j) : Below w0.heap.size w0 W := S.env.go S.old S.mv
theorem St.le {O : Obj} {w0 w W : World} {R b off cap j : Nat} {t : ByteArray} (S : St O w0 w W R b off cap t j) : w.heap.size < W.heap.size := (Array.getElem?_eq_some_iff.1 S.out).1
theorem St.moved {O : Obj} {w0 w W W' : World} {R b off cap j j' : Nat} {t : ByteArray} (S : St O w0 w W R b off cap t j) (hr : Rd W' R (rv b off cap t) j') (hm : Moved R W W') : St O w0 w W' R b off cap t j' := by
  refine ⟨S.env, S.old, hr, S.mv.trans hm, ?_, S.lt⟩
  rw [hm.block _ S.le (fun e => by injection e with e; have := S.lt; omega)]
  exact S.out
theorem St.grew {O : Obj} {w0 w W W' : World} {R b off cap j : Nat} {t : ByteArray} (S : St O w0 w W R b off cap t j) (hb : Below W.heap.size W W') : St O w0 w W' R b off cap t j :=
  S.moved (S.rd.below hb) (Moved.of_below hb)
theorem St.txt {O : Obj} {w0 w W : World} {R b off cap j : Nat} {t : ByteArray} (S : St O w0 w W R b off cap t j) : Txt W b off cap t := S.env.at_ S.below
/-- The result laid: what is true of the world then. -/
theorem St.laid {O : Obj} {w0 w W W' : World} {R b off cap j : Nat} {t : ByteArray} (S : St O w0 w W R b off cap t j) (m : W.grownBy W' (some w.heap.size)) : Rd W' R (rv b off cap t) j ∧ Moved R w W' :=
  ⟨S.rd.past m (by have := S.lt; omega), S.mv.past m (Nat.le_refl _)⟩
end Go.Proofs.YtcfecnleibeegaaGreatDoor
