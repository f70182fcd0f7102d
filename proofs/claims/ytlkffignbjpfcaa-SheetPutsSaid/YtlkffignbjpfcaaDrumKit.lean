/- Proved here: how a drum lies in memory, and that it stays where other blocks change. -/
import Derived.Test.YtlkffignbjpfcaaByteKit
import Derived.Deep.MidRow
namespace Go.Proofs.Ytlkffignbjpfcaa
open Go.RowKit

/-- Rows of 64 bytes, one behind the other, in block g. -/
structure RowsAt (W : World) (g N : Nat) (L : List ByteArray) : Prop where
  len : L.length = N
  row : ∀ i (h : i < L.length), L[i].size = 64 ∧ W.rangeAt g (i * 64) (bytesV L[i])
  room : W.there g 0 (N * 64)

/-- Blocks but those in F stand; no world's own count goes back. -/
structure Touch (F : Nat → Prop) (W W' : World) : Prop where
  os : W'.os = W.os
  tape : W'.tape = W.tape
  output : W'.output = W.output
  size : W.heap.size ≤ W'.heap.size
  block : ∀ k, k < W.heap.size → ¬ F k → W'.heap[k]? = W.heap[k]?
theorem Touch.refl (F : Nat → Prop) (W : World) : Touch F W W := ⟨rfl, rfl, rfl, Nat.le_refl _, fun _ _ _ => rfl⟩
theorem Touch.of_below {F : Nat → Prop} {W W' : World} (h : Below W.heap.size W W') : Touch F W W' := ⟨h.os, h.tape, h.output, h.size, fun k hk _ => h.block k hk⟩
theorem Touch.below {F : Nat → Prop} {W W' : World} {B : Nat} (h : Touch F W W') (hF : ∀ k, F k → B ≤ k) (hB : B ≤ W.heap.size) : Below B W W' := ⟨h.os, h.tape, h.output, h.size, fun k hk => h.block k (by omega) (fun f => by have := hF k f; omega)⟩
/-- F and what was made since. -/
def Grow (F : Nat → Prop) (W W' : World) (k : Nat) : Prop := F k ∨ (W.heap.size ≤ k ∧ k < W'.heap.size)
theorem Touch.trans {F F' : Nat → Prop} {a b c : World} (h : Touch F a b) (k : Touch F' b c) (hF : ∀ k, F' k → Grow F a b k) : Touch F a c :=
  ⟨k.os.trans h.os, k.tape.trans h.tape, k.output.trans h.output, Nat.le_trans h.size k.size, fun i hi hn => (k.block i (by have := h.size; omega) (fun f => by
    rcases hF i f with h1 | h1
    · exact hn h1
    · omega)).trans (h.block i hi hn)⟩
theorem Touch.mono {F F' : Nat → Prop} {a b : World} (h : Touch F a b) (hF : ∀ k, F k → F' k) : Touch F' a b := ⟨h.os, h.tape, h.output, h.size, fun k hk hn => h.block k hk (fun f => hn (hF k f))⟩
theorem Touch.drew {F : Nat → Prop} {a b : World} (h : Touch F a b) : Touch F a b.drew := ⟨h.os, h.tape, h.output, h.size, h.block⟩
theorem Touch.set {F : Nat → Prop} {a b : World} (h : Touch F a b) {p : Addr} (hp : F p.block) (v : Value) : Touch F a (b.setCell p v) :=
  ⟨h.os, h.tape, h.output, by show _ ≤ (b.heap.modify _ _).size; simpa using h.size, fun k hk hn => (Below.heap_setCell b p v k (fun e => hn (e ▸ hp))).trans (h.block k hk hn)⟩
theorem Touch.alloc {F : Nat → Prop} {a b : World} (h : Touch F a b) (o : Obj) : Touch F a (b.alloc o) :=
  ⟨h.os, h.tape, h.output, by simp; have := h.size; omega, fun k hk hn => (Below.heap_alloc b o k (by have := h.size; omega)).trans (h.block k hk hn)⟩
theorem heap_setCells (b : Nat) : ∀ (vs : List Value) (o : Nat) (w : World) (k : Nat), k ≠ b → (w.setCells b o vs).heap[k]? = w.heap[k]?
  | [], _, _, _, _ => rfl
  | v :: r, o, w, k, h => by
    rw [World.setCells, heap_setCells b r (o + 1) _ k h]
    exact Below.heap_setCell w _ v k h
theorem size_setCells (b : Nat) : ∀ (vs : List Value) (o : Nat) (w : World), (w.setCells b o vs).heap.size = w.heap.size
  | [], _, _ => rfl
  | v :: r, o, w => by
    rw [World.setCells, size_setCells b r (o + 1) _]
    show (w.heap.modify _ _).size = _
    simp
theorem rest_setCells (b : Nat) : ∀ (vs : List Value) (o : Nat) (w : World), (w.setCells b o vs).os = w.os ∧ (w.setCells b o vs).tape = w.tape ∧ (w.setCells b o vs).output = w.output
  | [], _, _ => ⟨rfl, rfl, rfl⟩
  | v :: r, o, w => by
    rw [World.setCells]
    exact rest_setCells b r (o + 1) _
theorem Touch.sets {F : Nat → Prop} {a w : World} (h : Touch F a w) {b : Nat} (hb : F b) (o : Nat) (vs : List Value) : Touch F a (w.setCells b o vs) := by
  obtain ⟨h1, h2, h3⟩ := rest_setCells b vs o w
  exact ⟨h1.trans h.os, h2.trans h.tape, h3.trans h.output, by rw [size_setCells]; exact h.size, fun k hk hn => (heap_setCells b vs o w k (fun e => hn (e ▸ hb))).trans (h.block k hk hn)⟩
theorem Touch.grown {F : Nat → Prop} {a w w' : World} {row : Option Nat} (h : Touch F a w) (hg : w.grownBy w' row) (hr : ∀ k, row = some k → F k ∨ a.heap.size ≤ k) : Touch F a w' :=
  ⟨hg.os.trans h.os, hg.tape.trans h.tape, hg.output.trans h.output, Nat.le_trans h.size hg.size, fun k hk hn => (hg.block k (by have := h.size; omega) (fun e => by
    rcases hr k e.symm with h1 | h1
    · exact hn h1
    · omega)).trans (h.block k hk hn)⟩

theorem range_block {W W' : World} {g o : Nat} {cs : List Value} (h : W.rangeAt g o cs) (he : W'.heap[g]? = W.heap[g]?) : W'.rangeAt g o cs := fun j v hv => by
  rw [World.cell?_of_block (w := W) he]
  exact h j v hv
theorem there_block {W W' : World} {g o n : Nat} (h : W.there g o n) (he : W'.heap[g]? = W.heap[g]?) : W'.there g o n := fun j hj => by
  rw [World.cell?_of_block (w := W) he, World.frozen?_of_block (w := W) he]
  exact h j hj
theorem RowsAt.block {W W' : World} {g N : Nat} {L : List ByteArray} (h : RowsAt W g N L) (he : W'.heap[g]? = W.heap[g]?) : RowsAt W' g N L :=
  ⟨h.len, fun i hi => ⟨(h.row i hi).1, range_block (h.row i hi).2 he⟩, there_block h.room he⟩
theorem RowsAt.there {W : World} {g N : Nat} {L : List ByteArray} (h : RowsAt W g N L) {i : Nat} (hi : i < N) : W.there g (i * 64) 64 := fun j hj => by
  have := h.room (i * 64 + j) (by omega)
  rwa [Nat.zero_add] at this
theorem bytesV_len {p : ByteArray} (h : p.size = 64) : (bytesV p).length = 64 := by rw [bytesV_length, h]
/-- A row is written. -/
theorem RowsAt.set {W : World} {g N : Nat} {L : List ByteArray} (h : RowsAt W g N L) {n : Nat} (hn : n < N) {p : ByteArray} (hp : p.size = 64) : RowsAt (W.setCells g (n * 64) (bytesV p)) g N (L.set n p) := by
  have hl := h.len
  refine ⟨by rw [List.length_set, hl], fun i hi => ?_, ?_⟩
  · rw [List.length_set] at hi
    rw [List.getElem_set]
    by_cases q : n = i
    · subst q
      rw [if_pos rfl]
      exact ⟨hp, World.rangeAt_setCells_same W g (n * 64) _ (by rw [bytesV_len hp]; exact h.there hn)⟩
    · rw [if_neg q]
      refine ⟨(h.row i hi).1, World.rangeAt_setCells_apart (h.row i hi).2 g (n * 64) _ (.inr ?_)⟩
      rw [bytesV_len hp, bytesV_len (h.row i hi).1]
      omega
  · intro j hj
    exact ⟨World.isSome_setCells g _ _ _ _ (h.room j hj).1, by rw [World.frozen?_setCells]; exact (h.room j hj).2⟩

/-- A Write as it lies in memory. -/
def writeV (x : Nat × ByteArray) : List Value := .int .i64 (x.1 : Int) :: bytesV x.2
def loosesV (l : List (Nat × ByteArray)) : List Value := l.flatMap writeV
/-- A drum's pieces: its block, the rows', the Writes'. -/
structure DrumAt (W : World) (F : Nat → Prop) (G : Nat) (N : Nat) (M : DM) (gn gs cn cs : Nat) (q : Option Addr) (c : Nat) : Prop where
  blk : W.heap[G]? = some (.cells #[.slice (some ⟨gn, 0, none⟩) N cn, .slice (some ⟨gs, 0, none⟩) N cs, .slice q M.loose.length c, .int .i64 (M.steps : Int), .bool M.fuse.isSome, .int .i64 ((M.fuse.getD 0 : Nat) : Int), .bool M.down] 76)
  ok : M.Ok N
  now : RowsAt W gn N M.now
  safe : RowsAt W gs N M.safe
  loose : W.ownsRow 0 87 65 (.slice q M.loose.length c) M.loose.length (loosesV M.loose)
  fG : F G
  fn : F gn
  fs : F gs
  fq : ∀ k, (Value.slice q M.loose.length c).ownBlock = some k → F k
  lt : ∀ k, F k → k < W.heap.size
  apart : G ≠ gn ∧ G ≠ gs ∧ gn ≠ gs ∧ ∀ k, (Value.slice q M.loose.length c).ownBlock = some k → k ≠ G ∧ k ≠ gn ∧ k ≠ gs
  big : N ≤ 16384 ∧ N ≤ cn ∧ N ≤ cs ∧ 0 < N
  nil : M.loose = [] → q = none
def Drum (W : World) (F : Nat → Prop) (G N : Nat) (M : DM) : Prop := ∃ gn gs cn cs q c, DrumAt W F G N M gn gs cn cs q c
end Go.Proofs.Ytlkffignbjpfcaa
