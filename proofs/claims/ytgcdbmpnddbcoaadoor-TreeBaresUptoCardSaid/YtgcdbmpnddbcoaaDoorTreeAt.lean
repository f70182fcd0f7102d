/- Proved here: how a tree lies in memory; that it lies there still where other blocks are written. -/
import Derived.Test.YtgcdbmpnddbcoaaDoorTreePlain
namespace Go.Proofs.YtgcdbmpnddbcoaaDoor
open Go.RowKit

/-- Attributes as they lie. -/
def AttrsAt (W : World) (p : Option Addr) (l : List AttrM) : Prop :=
  0 < l.length → ∃ b off, p = some ⟨b, off, none⟩ ∧ ∀ j (h : j < l.length), W.cell? ⟨b, off + j * 3, none⟩ = some (.string l[j].uri) ∧ W.cell? ⟨b, off + j * 3 + 1, none⟩ = some (.string l[j].loc) ∧ W.cell? ⟨b, off + j * 3 + 2, none⟩ = some (.string l[j].val)
/-- What a node's three lists and texts are, wherever the node itself lies. -/
structure PartsAt (W : World) (t : AT) (pa : Option Addr) (ca : Nat) (pk : Option Addr) (ck : Nat) : Prop where
  attrs : AttrsAt W pa t.attrs
  acap : t.attrs.length ≤ ca
  anil : pa = none → ca = 0
  kids : 0 < t.kids.length → ∃ kb ko, pk = some ⟨kb, ko, none⟩ ∧ ∀ i (h : i < t.kids.length), t.kids[i].b = kb ∧ t.kids[i].o = ko + i * 6
  kcap : t.kids.length ≤ ck
  knil : pk = none → ck = 0
  kind : -9223372036854775808 ≤ t.kind ∧ t.kind ≤ 9223372036854775807
  uri : t.uri.size ≤ 140737488351232
  loc : t.loc.size ≤ 140737488351232
  text : t.text.size ≤ 140737488351232
  asz : t.attrs.length ≤ 140737488351232
  ksz : t.kids.length ≤ 140737488351232
  each : ∀ a ∈ t.attrs, a.uri.size ≤ 140737488351232 ∧ a.loc.size ≤ 140737488351232 ∧ a.val.size ≤ 140737488351232
/-- A node where it lies. -/
def NodeAt (W : World) (t : AT) : Prop := ∃ pa ca pk ck, PartsAt W t pa ca pk ck ∧
  W.cell? ⟨t.b, t.o, none⟩ = some (.int .i64 t.kind) ∧ W.cell? ⟨t.b, t.o + 1, none⟩ = some (.string t.uri) ∧ W.cell? ⟨t.b, t.o + 2, none⟩ = some (.string t.loc) ∧
  W.cell? ⟨t.b, t.o + 3, none⟩ = some (.slice pa t.attrs.length ca) ∧ W.cell? ⟨t.b, t.o + 4, none⟩ = some (.slice pk t.kids.length ck) ∧ W.cell? ⟨t.b, t.o + 5, none⟩ = some (.string t.text)
def TreeAt (W : World) (t : AT) : Prop := ∀ x ∈ t.all, NodeAt W x
/-- All kids' trees: what a node that is handed over by its value stands on. -/
def KidsAt (W : World) (t : AT) : Prop := ∀ k ∈ t.kids, TreeAt W k
/-- Cells stand. -/
def Stay (W W' : World) : Prop := ∀ a v, W.cell? a = some v → W'.cell? a = some v
theorem Stay.below {W W' : World} (h : Below W.heap.size W W') : Stay W W' := fun a v hc => (h.cell (World.block_lt_of_cell? _ _ hc)).trans hc
theorem Stay.trans {A B C : World} (h : Stay A B) (k : Stay B C) : Stay A C := fun a v hc => k a v (h a v hc)
theorem AttrsAt.stay {W W' : World} {p : Option Addr} {l : List AttrM} (h : AttrsAt W p l) (s : Stay W W') : AttrsAt W' p l := fun h0 => by
  obtain ⟨b, off, e, hc⟩ := h h0
  exact ⟨b, off, e, fun j hj => ⟨s _ _ (hc j hj).1, s _ _ (hc j hj).2.1, s _ _ (hc j hj).2.2⟩⟩
theorem PartsAt.stay {W W' : World} {t : AT} {pa : Option Addr} {ca : Nat} {pk : Option Addr} {ck : Nat} (h : PartsAt W t pa ca pk ck) (s : Stay W W') : PartsAt W' t pa ca pk ck :=
  { h with attrs := h.attrs.stay s }
theorem NodeAt.stay {W W' : World} {t : AT} (h : NodeAt W t) (s : Stay W W') : NodeAt W' t := by
  obtain ⟨pa, ca, pk, ck, h0, h1, h2, h3, h4, h5, h6⟩ := h
  exact ⟨pa, ca, pk, ck, h0.stay s, s _ _ h1, s _ _ h2, s _ _ h3, s _ _ h4, s _ _ h5, s _ _ h6⟩
theorem TreeAt.stay {W W' : World} {t : AT} (h : TreeAt W t) (s : Stay W W') : TreeAt W' t := fun x hx => (h x hx).stay s
theorem TreeAt.below {W W' : World} {t : AT} (h : TreeAt W t) (b : Below W.heap.size W W') : TreeAt W' t := h.stay (Stay.below b)
theorem KidsAt.stay {W W' : World} {t : AT} (h : KidsAt W t) (s : Stay W W') : KidsAt W' t := fun k hk => (h k hk).stay s
theorem TreeAt.top {W : World} {t : AT} (h : TreeAt W t) : NodeAt W t := h t t.self_mem
theorem TreeAt.kid {W : World} {t k : AT} (h : TreeAt W t) (hk : k ∈ t.kids) : TreeAt W k := fun x hx => h x (AT.kid_mem hk x hx)
theorem TreeAt.kids {W : World} {t : AT} (h : TreeAt W t) : KidsAt W t := fun _ hk => h.kid hk
theorem TreeAt.mk {W : World} {t : AT} (h : NodeAt W t) (hk : KidsAt W t) : TreeAt W t := fun x hx => by
  rw [AT.all_eq, AT.alls_eq] at hx
  rcases List.mem_cons.1 hx with rfl | hx
  · exact h
  · obtain ⟨k, h1, h2⟩ := List.mem_flatMap.1 hx
    exact hk k h1 x h2
/-- Where a node's kid lies. -/
theorem PartsAt.kid {W : World} {t : AT} {pa : Option Addr} {ca : Nat} {pk : Option Addr} {ck : Nat} (h : PartsAt W t pa ca pk ck) {i : Nat} (hi : i < t.kids.length) : ∃ kb ko, pk = some ⟨kb, ko, none⟩ ∧ t.kids[i].ptr = .pointer (some ⟨kb, ko + i * 6, none⟩) := by
  obtain ⟨kb, ko, e, hk⟩ := h.kids (by omega)
  obtain ⟨e1, e2⟩ := hk i hi
  exact ⟨kb, ko, e, by unfold AT.ptr; rw [e1, e2]⟩
/-- The value of a node. -/
def nodeV (t : AT) (pa : Option Addr) (ca : Nat) (pk : Option Addr) (ck : Nat) : Value := .agg #[.int .i64 t.kind, .string t.uri, .string t.loc, .slice pa t.attrs.length ca, .slice pk t.kids.length ck, .string t.text]
def nodeC (t : AT) (pa : Option Addr) (ca : Nat) (pk : Option Addr) (ck : Nat) : Array Value := #[.int .i64 t.kind, .string t.uri, .string t.loc, .slice pa t.attrs.length ca, .slice pk t.kids.length ck, .string t.text]
/-- A node that has been laid into a block of its own. -/
theorem NodeAt.boxed {W : World} {t : AT} {pa : Option Addr} {ca : Nat} {pk : Option Addr} {ck : Nat} {D : Nat} {T : TypeId} (h : PartsAt W t pa ca pk ck) (hD : W.heap[D]? = some (.cells (nodeC t pa ca pk ck) T (0, 0))) (hb : t.b = D) (ho : t.o = 0) : NodeAt W t := by
  refine ⟨pa, ca, pk, ck, h, ?_, ?_, ?_, ?_, ?_, ?_⟩ <;> (rw [hb, ho, cell_of_row _ _ _ _ _ _ hD]; rfl)
/-- A node with its kids that is told by its value, put into a block. -/
theorem put_parts {W : World} {t : AT} {pa : Option Addr} {ca : Nat} {pk : Option Addr} {ck : Nat} (b o : Nat) (h : PartsAt W t pa ca pk ck) : PartsAt W (t.put b o) pa ca pk ck := by
  cases t
  exact ⟨h.attrs, h.acap, h.anil, h.kids, h.kcap, h.knil, h.kind, h.uri, h.loc, h.text, h.asz, h.ksz, h.each⟩
theorem put_kids (t : AT) (b o : Nat) : (t.put b o).kids = t.kids := by cases t; rfl
theorem put_b (t : AT) (b o : Nat) : (t.put b o).b = b := by cases t; rfl
theorem put_o (t : AT) (b o : Nat) : (t.put b o).o = o := by cases t; rfl
theorem put_c (t : AT) (b o : Nat) (pa : Option Addr) (ca : Nat) (pk : Option Addr) (ck : Nat) : nodeC (t.put b o) pa ca pk ck = nodeC t pa ca pk ck := by cases t; rfl
theorem TreeAt.boxed {W : World} {t : AT} {pa : Option Addr} {ca : Nat} {pk : Option Addr} {ck : Nat} {D : Nat} {T : TypeId} (h : PartsAt W t pa ca pk ck) (hk : KidsAt W t) (hD : W.heap[D]? = some (.cells (nodeC t pa ca pk ck) T (0, 0))) : TreeAt W (t.put D 0) :=
  TreeAt.mk (NodeAt.boxed (put_parts D 0 h) (by rw [put_c]; exact hD) (put_b t D 0) (put_o t D 0)) (fun k hk' => hk k (by rwa [put_kids] at hk'))
end Go.Proofs.YtgcdbmpnddbcoaaDoor
