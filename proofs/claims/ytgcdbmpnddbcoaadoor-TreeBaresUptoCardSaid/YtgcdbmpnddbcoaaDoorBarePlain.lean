/- Proved here: trees without their comments and instructions, in plain words; how the law's bare stands in a round. -/
import Derived.Test.YtgcdbmpnddbcoaaDoorNodesRow
namespace Go.Proofs.YtgcdbmpnddbcoaaDoor
open Go.RowKit Go.Shelf

/-- A kid that is left. -/
def leftK (k : PT) : Bool := !(k.kind == 4) && !(k.kind == 5)
mutual
def bareP : PT → PT | .node k u l a x ks => .node k u l a x (bareL ks)
def bareL : List PT → List PT
  | [] => []
  | t :: r => if leftK t then bareP t :: bareL r else bareL r
end
theorem bareP_kids (t : PT) : (bareP t).kids = bareL t.kids := by cases t; rw [bareP]; rfl
theorem bareP_kind (t : PT) : (bareP t).kind = t.kind := by cases t; rw [bareP]; rfl
theorem bareP_uri (t : PT) : (bareP t).uri = t.uri := by cases t; rw [bareP]; rfl
theorem bareP_loc (t : PT) : (bareP t).loc = t.loc := by cases t; rw [bareP]; rfl
theorem bareP_attrs (t : PT) : (bareP t).attrs = t.attrs := by cases t; rw [bareP]; rfl
theorem bareP_text (t : PT) : (bareP t).text = t.text := by cases t; rw [bareP]; rfl
theorem bareL_cons (t : PT) (r : List PT) : bareL (t :: r) = if leftK t then bareP t :: bareL r else bareL r := by rw [bareL]
theorem bareL_cat (a b : List PT) : bareL (a ++ b) = bareL a ++ bareL b := by
  induction a with
  | nil => rw [bareL]; rfl
  | cons t r ih =>
    rw [List.cons_append, bareL_cons, bareL_cons, ih]
    split <;> rfl
theorem bareL_snoc (a : List PT) (t : PT) : bareL (a ++ [t]) = bareL a ++ (if leftK t then [bareP t] else []) := by
  rw [bareL_cat, bareL_cons, bareL]
theorem bareL_len (a : List PT) : (bareL a).length ≤ a.length := by
  induction a with
  | nil => rw [bareL]; exact Nat.le_refl _
  | cons t r ih =>
    rw [bareL_cons]
    split
    · rw [List.length_cons, List.length_cons]; omega
    · rw [List.length_cons]; omega
theorem set_row5 {w : World} {G k : Nat} {row : Array Value} {T : TypeId} (v : Value) (h : w.heap[G]? = some (.cells row T)) : (w.setCell ⟨G, k, none⟩ v).heap[G]? = some (.cells (row.setIfInBounds k v) T) := by
  show (w.heap.modify G _)[G]? = _
  rw [Array.getElem?_modify, if_pos rfl, h]
  rfl
theorem set_oth5 {w : World} {p : Addr} {v : Value} {k : Nat} (h : k ≠ p.block) : (w.setCell p v).heap[k]? = w.heap[k]? := Below.heap_setCell w p v k h
/-- What a tree stands on: blocks that were there at the start, or such as came since. -/
def Outside (n0 n : Nat) (W W' : World) : Prop := ∀ k, k < W.heap.size → (k < n0 ∨ n ≤ k) → W'.heap[k]? = W.heap[k]?
/-- What bare answers: a tree without comments and instructions. -/
def BareOut (n0 : Nat) (w : World) (t : AT) (e : Ending) (W : World) : Prop := ∃ T pa ca pk ck, e = .returned (nodeV T pa ca pk ck) ∧ T.plain = bareP t.plain ∧ Below w.heap.size w W ∧ ∀ W', Outside n0 w.heap.size W W' → PartsAt W' T pa ca pk ck ∧ KidsAt W' T
/-- How bare stands in a round. -/
structure BSt (n0 : Nat) (w : World) (kd : Int) (u l s : ByteArray) (pa : Option Addr) (la ca : Nat) (q : Option Addr) (c : Nat) (zs : List KN) (W : World) : Prop where
  below : Below w.heap.size w W
  box : W.heap[w.heap.size]? = some (.cells #[.int .i64 kd, .string u, .string l, .slice pa la ca, .slice q zs.length c, .string s] 27)
  res : W.heap[w.heap.size + 1]? = some (.cells #[.int .i64 0, .string ⟨#[]⟩, .string ⟨#[]⟩, .slice none 0 0, .slice none 0 0, .string ⟨#[]⟩] 27)
  own : OwnN W (w.heap.size + 2) q c zs
  stand : ∀ W', (∀ k, k < W.heap.size → (k < n0 ∨ (w.heap.size + 2 ≤ k ∧ q ≠ some ⟨k, 0, none⟩)) → W'.heap[k]? = W.heap[k]?) → StandN W' zs
theorem BSt.far {n0 : Nat} {w : World} {kd : Int} {u l s : ByteArray} {pa : Option Addr} {la ca : Nat} {q : Option Addr} {c : Nat} {zs : List KN} {W W' : World} (h : BSt n0 w kd u l s pa la ca q c zs W) (k : Below W.heap.size W W') : BSt n0 w kd u l s pa la ca q c zs W' where
  below := h.below.trans (k.mono h.below.size)
  box := (k.block _ (it_lt h.box)).trans h.box
  res := (k.block _ (it_lt h.res)).trans h.res
  own := h.own.below k
  stand := fun X hX => h.stand X (fun j hj hs => (hX j (Nat.lt_of_lt_of_le hj k.size) hs).trans (k.block j hj))
/-- A kid more. -/
theorem BSt.more {n0 : Nat} {w : World} {kd : Int} {u l s : ByteArray} {pa : Option Addr} {la ca : Nat} {q : Option Addr} {c : Nat} {zs : List KN} {V W W2 : World} {t : AT} {z : KN} (hn0 : n0 ≤ w.heap.size) (hV : BSt n0 w kd u l s pa la ca q c zs V)
    (hz : ∀ W', Outside n0 V.heap.size W W' → PartsAt W' z.t z.pa z.ca z.pk z.ck ∧ KidsAt W' z.t) (hb : Below V.heap.size V W) (hW2 : W.alloc (.cells z.enc.toArray 27) = W2) (hsz : zs.length + 1 ≤ 8388608) :
    ∃ q' c' W3, (∀ ty, (Builtin.append_ #[25, 25] ty #[.slice q zs.length c, .slice (some ⟨W.heap.size, 0, none⟩) 1 1]).run Tryd.prog W2 = .ok (.slice q' (zs.length + 1) c') W3) ∧
      BSt n0 w kd u l s pa la ca q' c' (zs ++ [z]) (W3.setCell ⟨w.heap.size, 4, none⟩ (.slice q' (zs.length + 1) c')) ∧ Below w.heap.size w W3 ∧ (∀ k, k < W2.heap.size → V.heap.size ≤ k → W3.heap[k]? = W2.heap[k]?) ∧
      W3.heap[w.heap.size]? = some (.cells #[.int .i64 kd, .string u, .string l, .slice pa la ca, .slice q zs.length c, .string s] 27) := by
  have hW := hV.far hb
  have b2 : Below W.heap.size W W2 := by rw [← hW2]; exact (Below.refl _ _).alloc (Nat.le_refl _) _
  have h2 := hW.far b2
  have hrow : W2.heap[W.heap.size]? = some (.cells z.enc.toArray 27 (0, 0)) := by rw [← hW2]; exact heap_alloc_new _ _
  have hs2 : W2.heap.size = W.heap.size + 1 := by rw [← hW2]; simp
  have hsV := hb.size
  have hres := it_lt hV.res
  obtain ⟨q', c', W3, hrun, hown, hgrow, hq'⟩ := appendN (m := 1) h2.own (RowN.one hrow) (by omega) (by simpa using hsz)
  have hlen : (zs ++ [z]).length = zs.length + 1 := by simp
  rw [hlen] at hrun
  have hqb : ∀ k, (Value.slice q zs.length c).ownBlock = some k → w.heap.size + 2 ≤ k ∧ k < V.heap.size ∧ q = some ⟨k, 0, none⟩ := fun k hk => by
    cases q with
    | none => cases hk
    | some a =>
      have e : a.block = k := by simpa [Value.ownBlock] using hk
      obtain ⟨b, off, sp⟩ := a
      subst e
      rcases hV.own.1.2 with ⟨e1, _⟩ | ⟨g, cap, cur, e1, hbb, hh, _⟩
      · cases e1
      · injection e1 with e2
        injection e2 with e2
        injection e2 with e3 e4 e5
        subst e3 e4 e5
        exact ⟨hbb, it_lt hh, rfl⟩
  have keep : ∀ k, k < W2.heap.size → q ≠ some ⟨k, 0, none⟩ → W3.heap[k]? = W2.heap[k]? := fun k hk hne => hgrow.block k hk (fun e => hne (hqb k e.symm).2.2)
  have hB0 : q ≠ some ⟨w.heap.size, 0, none⟩ := fun e => by
    have := (hV.own.block _ _ e).1
    omega
  have hB1 : q ≠ some ⟨w.heap.size + 1, 0, none⟩ := fun e => by
    have := (hV.own.block _ _ e).1
    omega
  have hq0 : ∀ k, q' = some ⟨k, 0, none⟩ → w.heap.size + 2 ≤ k := fun k e => (hown.block _ _ e).1
  have b3 : Below w.heap.size w W3 := ⟨hgrow.os.trans h2.below.os, hgrow.tape.trans h2.below.tape, hgrow.output.trans h2.below.output, Nat.le_trans h2.below.size hgrow.size, fun k hk => (keep k (by have := h2.below.size; omega) (fun e => by have := (hV.own.block _ _ e).1; omega)).trans (h2.below.block k hk)⟩
  refine ⟨q', c', W3, hrun, ⟨b3.setCell (p := ⟨w.heap.size, 4, none⟩) (Nat.le_refl _) _, ?_, ?_, ?_, ?_⟩, b3, fun k hk hV' => keep k hk (fun e => by have := (hV.own.block _ _ e).2.1; omega), (keep _ (it_lt h2.box) hB0).trans h2.box⟩
  · rw [hlen]
    have := set_row5 (k := 4) (.slice q' (zs.length + 1) c') ((keep _ (it_lt h2.box) hB0).trans h2.box)
    simpa using this
  · exact (set_oth5 (by show w.heap.size + 1 ≠ w.heap.size; omega)).trans ((keep _ (it_lt h2.res) hB1).trans h2.res)
  · exact hown.keep (fun g e => set_oth5 (by have := hq0 g e; show g ≠ w.heap.size; omega))
  · intro X hX
    have size4 : (W3.setCell ⟨w.heap.size, 4, none⟩ (.slice q' (zs.length + 1) c')).heap.size = W3.heap.size := by simp [World.setCell]
    have agree : ∀ k, k < W2.heap.size → (k < n0 ∨ (w.heap.size + 2 ≤ k ∧ q ≠ some ⟨k, 0, none⟩)) → q' ≠ some ⟨k, 0, none⟩ → X.heap[k]? = W2.heap[k]? := fun k hk hs hne => by
      have hk3 : k < W3.heap.size := Nat.lt_of_lt_of_le hk hgrow.size
      have hkw : k ≠ w.heap.size := by rcases hs with h | h <;> omega
      have hqk : q ≠ some ⟨k, 0, none⟩ := by
        rcases hs with h | h
        · exact fun e => by have := (hV.own.block _ _ e).1; omega
        · exact h.2
      refine (hX k (by rw [size4]; exact hk3) ?_).trans ((set_oth5 hkw).trans (keep k hk hqk))
      rcases hs with h | h
      · exact .inl h
      · exact .inr ⟨h.1, hne⟩
    have newq : ∀ k, q' = some ⟨k, 0, none⟩ → q ≠ some ⟨k, 0, none⟩ → k = W2.heap.size := fun k e hne => (hq' k e).resolve_left hne
    intro y hy
    rcases List.mem_append.1 hy with hy | hy
    · refine h2.stand X (fun k hk hs => agree k hk hs (fun e => ?_)) y hy
      rcases hs with h | h
      · have := hq0 k e; omega
      · have := newq k e h.2; omega
    · rw [List.mem_singleton.1 hy]
      refine hz X (fun k hk hs => (agree k (by omega) ?_ (fun e => ?_)).trans (b2.block k hk))
      · rcases hs with h | h
        · exact .inl h
        · exact .inr ⟨by omega, fun e => by have := (hqb k (by rw [e]; rfl)).2.1; omega⟩
      · rcases hs with h | h
        · have := hq0 k e; omega
        · have := newq k e (fun e2 => by have := (hqb k (by rw [e2]; rfl)).2.1; omega)
          omega
/-- What bare leaves behind. -/
theorem BSt.out {n0 : Nat} {w : World} {kd : Int} {u l s : ByteArray} {pa : Option Addr} {la : List AttrM} {ca : Nat} {q : Option Addr} {c : Nat} {zs : List KN} {W w0 : World} (h : BSt n0 w kd u l s pa la.length ca q c zs W) (hn : zs.length ≤ 8388608) (h0 : w0.heap.size = n0) (hw0 : Below w0.heap.size w0 w)
    (hA : AttrsAt w0 pa la) (hac : la.length ≤ ca) (han : pa = none → ca = 0) (hk : -9223372036854775808 ≤ kd ∧ kd ≤ 9223372036854775807) (hu : u.size ≤ 140737488351232) (hl : l.size ≤ 140737488351232) (hs : s.size ≤ 140737488351232) (hal : la.length ≤ 140737488351232) (he : ∀ a ∈ la, a.uri.size ≤ 140737488351232 ∧ a.loc.size ≤ 140737488351232 ∧ a.val.size ≤ 140737488351232)
    {W4 : World} (h4 : ∀ k, k ≠ w.heap.size + 1 → k < W.heap.size → W4.heap[k]? = W.heap[k]?) (h4s : W4.heap.size = W.heap.size) :
    ∀ W', Outside n0 w.heap.size W4 W' → PartsAt W' (.node 0 0 kd u l la s (kidsOf q zs)) pa ca q c ∧ KidsAt W' (.node 0 0 kd u l la s (kidsOf q zs)) := fun W' hW' => by
  have hwn : n0 ≤ w.heap.size := by rw [← h0]; exact hw0.size
  have hws := h.below.size
  have hst : Stay w0 W' := fun a v hc => by
    have hlt := World.block_lt_of_cell? _ _ hc
    have e1 := hw0.block a.block hlt
    have e2 := h.below.block a.block (by omega)
    have e3 := h4 a.block (by omega) (by omega)
    have e4 := hW' a.block (by omega) (.inl (by omega))
    exact (World.cell?_of_block (e4.trans (e3.trans (e2.trans e1)))).trans hc
  have hown : OwnN W' (w.heap.size + 2) q c zs := h.own.keep (fun g e => by
    have := h.own.block _ _ e
    exact (hW' g (by omega) (.inr (by omega))).trans (h4 g (by omega) (by omega)))
  have hstand : StandN W' zs := h.stand W' (fun k hk' hs' => (hW' k (by omega) (by rcases hs' with x | x; exact .inl x; exact .inr (by omega))).trans (h4 k (by rcases hs' with x | x <;> omega) hk'))
  exact ⟨kidsOf_parts hown hn (hA.stay hst) hac han hk hu hl hs hal he 0 0, kidsOf_tree hown hstand⟩
end Go.Proofs.YtgcdbmpnddbcoaaDoor
