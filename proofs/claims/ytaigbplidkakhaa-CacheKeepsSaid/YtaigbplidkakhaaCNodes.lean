/- Proved here: entries of a cache as they lie in memory; link, unlink, newRing. -/
import Derived.Test.YtaigbplidkakhaaCPlain
import Derived.Test.YtaigbplidkakhaaCFind
import Derived.Laws.Rows
import Derived.Deep.RegionHeld3
import Derived.Handy
import Derived.Lib.Hide
namespace Go.Proofs.Ytaigbplidkakhaa
open Go.RowKit

theorem heap_lt {w : World} {k : Nat} {o : Obj} (h : w.heap[k]? = some o) : k < w.heap.size := by
  rcases Nat.lt_or_ge k w.heap.size with h1 | h1
  · exact h1
  · rw [Array.getElem?_eq_none h1] at h; cases h
theorem bcat {a b c : World} (h : Below a.heap.size a b) (k : Below b.heap.size b c) : Below a.heap.size a c := h.trans (k.mono h.size)
/-- Only these blocks were written, of those that were there. -/
structure Tch (F : Nat → Prop) (W W' : World) : Prop where
  os : W'.os = W.os
  tape : W'.tape = W.tape
  output : W'.output = W.output
  size : W.heap.size ≤ W'.heap.size
  block : ∀ k, k < W.heap.size → ¬ F k → W'.heap[k]? = W.heap[k]?
theorem Tch.refl (F : Nat → Prop) (W : World) : Tch F W W := ⟨rfl, rfl, rfl, Nat.le_refl _, fun _ _ _ => rfl⟩
theorem Tch.of_below {F : Nat → Prop} {W W' : World} (h : Below W.heap.size W W') : Tch F W W' := ⟨h.os, h.tape, h.output, h.size, fun k hk _ => h.block k hk⟩
theorem Tch.trans {F : Nat → Prop} {a b c : World} (h : Tch F a b) (k : Tch F b c) : Tch F a c :=
  ⟨k.os.trans h.os, k.tape.trans h.tape, k.output.trans h.output, Nat.le_trans h.size k.size, fun i hi hn => (k.block i (Nat.lt_of_lt_of_le hi h.size) hn).trans (h.block i hi hn)⟩
theorem Tch.mono {F F' : Nat → Prop} {a b : World} (h : Tch F a b) (hF : ∀ k, F k → F' k) : Tch F' a b := ⟨h.os, h.tape, h.output, h.size, fun k hk hn => h.block k hk (fun f => hn (hF k f))⟩
theorem Tch.below {F : Nat → Prop} {W W' : World} {B : Nat} (h : Tch F W W') (hF : ∀ k, F k → B ≤ k) (hB : B ≤ W.heap.size) : Below B W W' := ⟨h.os, h.tape, h.output, h.size, fun k hk => h.block k (by omega) (fun f => by have := hF k f; omega)⟩
theorem set_oth {w : World} {p : Addr} {v : Value} {k : Nat} (h : k ≠ p.block) : (w.setCell p v).heap[k]? = w.heap[k]? := Below.heap_setCell w p v k h
theorem set_sz {w : World} {p : Addr} {v : Value} : (w.setCell p v).heap.size = w.heap.size := by simp
theorem Tch.set {F : Nat → Prop} {a b : World} (h : Tch F a b) {p : Addr} (hp : F p.block) (v : Value) : Tch F a (b.setCell p v) :=
  ⟨h.os, h.tape, h.output, by rw [set_sz]; exact h.size, fun k hk hn => (set_oth (fun e => hn (by rw [e]; exact hp))).trans (h.block k hk hn)⟩
theorem row_put {w : World} {g k : Nat} {C : Array Value} {t : TypeId} (v : Value) (h : w.heap[g]? = some (.cells C t (0, 0))) : (w.setCell ⟨g, k, none⟩ v).heap[g]? = some (.cells (C.setIfInBounds k v) t (0, 0)) := by
  show (w.heap.modify g _)[g]? = _
  rw [Array.getElem?_modify, if_pos rfl, h]
  rfl
abbrev PV (a : Nat) : Value := .pointer (some ⟨a, 0, none⟩)
/-- What an entry holds beside its neighbours: key, value, dirty, pins. -/
structure EntV where
  k : Value
  v : Value
  d : Bool
  p : Nat
def entC (x : EntV) (b a : Value) : Array Value := #[x.k, x.v, .bool x.d, .int .i64 (x.p : Int), b, a]
def Nodes (E : TypeId) (W : World) (S : Nat → Prop) (B : Nat → EntV) (nx pv : Nat → Nat) : Prop := ∀ a, S a → W.heap[a]? = some (.cells (entC (B a) (PV (pv a)) (PV (nx a))) E (0, 0))
theorem Nodes.mono {E : TypeId} {W : World} {S S' : Nat → Prop} {B : Nat → EntV} {nx pv : Nat → Nat} (h : Nodes E W S B nx pv) (hS : ∀ a, S' a → S a) : Nodes E W S' B nx pv := fun a ha => h a (hS a ha)
theorem Nodes.tch {E : TypeId} {W W' : World} {S F : Nat → Prop} {B : Nat → EntV} {nx pv : Nat → Nat} (h : Nodes E W S B nx pv) (t : Tch F W W') (hF : ∀ a, S a → ¬ F a) : Nodes E W' S B nx pv := fun a ha => (t.block a (heap_lt (h a ha)) (hF a ha)).trans (h a ha)
theorem Nodes.below {E : TypeId} {W W' : World} {S : Nat → Prop} {B : Nat → EntV} {nx pv : Nat → Nat} (h : Nodes E W S B nx pv) (hb : Below W.heap.size W W') : Nodes E W' S B nx pv := h.tch (Tch.of_below (F := fun _ => False) hb) (fun _ _ => id)
theorem Nodes.setNx {E : TypeId} {W : World} {S : Nat → Prop} {B : Nat → EntV} {nx pv : Nat → Nat} (h : Nodes E W S B nx pv) {x : Nat} (y : Nat) (hx : S x) : Nodes E (W.setCell ⟨x, 5, none⟩ (PV y)) S B (upd nx x y) pv := fun a ha => by
  by_cases e : a = x
  · subst e
    rw [row_put _ (h a ha), upd_same]
    rfl
  · rw [set_oth e, h a ha, upd_other _ _ e]
theorem Nodes.setPv {E : TypeId} {W : World} {S : Nat → Prop} {B : Nat → EntV} {nx pv : Nat → Nat} (h : Nodes E W S B nx pv) {x : Nat} (y : Nat) (hx : S x) : Nodes E (W.setCell ⟨x, 4, none⟩ (PV y)) S B nx (upd pv x y) := fun a ha => by
  by_cases e : a = x
  · subst e
    rw [row_put _ (h a ha), upd_same]
    rfl
  · rw [set_oth e, h a ha, upd_other _ _ e]
theorem Nodes.cells {E : TypeId} {W : World} {S : Nat → Prop} {B : Nat → EntV} {nx pv : Nat → Nat} (h : Nodes E W S B nx pv) {a : Nat} (ha : S a) :
    W.cell? ⟨a, 0, none⟩ = some (B a).k ∧ W.cell? ⟨a, 1, none⟩ = some (B a).v ∧ W.cell? ⟨a, 2, none⟩ = some (.bool (B a).d) ∧ W.cell? ⟨a, 3, none⟩ = some (.int .i64 ((B a).p : Int)) ∧ W.cell? ⟨a, 4, none⟩ = some (PV (pv a)) ∧ W.cell? ⟨a, 5, none⟩ = some (PV (nx a)) ∧ ∀ j, W.frozen? ⟨a, j, none⟩ = false := by
  have hb := h a ha
  refine ⟨?_, ?_, ?_, ?_, ?_, ?_, fun j => frozen_of_row _ _ _ _ _ hb⟩ <;> (rw [cell_of_row _ _ _ _ _ _ hb]; rfl)
set_option maxHeartbeats 2000000 in
theorem linkS (W : World) (S : Nat → Prop) (B : Nat → EntV) (nx pv : Nat → Nat) (e r : Nat) (b0 a0 : Value) (h : Nodes 98 W S B nx pv) (hr : S r) (hl : S (pv r)) (he : ¬ S e) (hb : W.heap[e]? = some (.cells (entC (B e) b0 a0) 98 (0, 0))) :
    Calls Try.prog 75 #[PV e, PV r] W fun x W' => x = .returned (.tuple #[]) ∧ Nodes 98 W' (fun a => S a ∨ a = e) B (upd (upd nx e r) (pv r) e) (upd (upd pv e (pv r)) r e) ∧ Tch (fun a => S a ∨ a = e) W W' ∧ W'.heap.size = W.heap.size := by
  obtain ⟨_, _, _, _, c4, _, fr⟩ := h.cells hr
  obtain ⟨_, _, _, _, _, d5, fl⟩ := h.cells hl
  have f4 := fr 4
  have f5 := fl 5
  have k4 : W.cell? ⟨e, 4, none⟩ = some b0 := by rw [cell_of_row _ _ _ _ _ _ hb]; rfl
  have k5 : W.cell? ⟨e, 5, none⟩ = some a0 := by rw [cell_of_row _ _ _ _ _ _ hb]; rfl
  have g4 : W.frozen? ⟨e, 4, none⟩ = false := frozen_of_row _ _ _ _ _ hb
  have g5 : W.frozen? ⟨e, 5, none⟩ = false := frozen_of_row _ _ _ _ _ hb
  have ne1 : ¬ e = r := fun h => he (h ▸ hr)
  have ne2 : ¬ e = pv r := fun h => he (h ▸ hl)
  have ne3 : ¬ r = e := fun h => ne1 h.symm
  have ne4 : ¬ pv r = e := fun h => ne2 h.symm
  obtain ⟨q, hq⟩ : ∃ q, pv r = q := ⟨_, rfl⟩
  have HH := Lib.hid (And.intro h (And.intro hr (And.intro hl (And.intro he (And.intro hb hq)))))
  have N0 : Nodes 98 ((W.setCell ⟨e, 4, none⟩ (PV (pv r))).setCell ⟨e, 5, none⟩ (PV r)) (fun a => S a ∨ a = e) B (upd nx e r) (upd pv e (pv r)) := fun a ha => by
    by_cases ea : a = e
    · subst ea
      rw [row_put _ (row_put _ hb), upd_same, upd_same]
      rfl
    · rw [set_oth ea, set_oth ea, h a (ha.resolve_right ea), upd_other _ _ ea, upd_other _ _ ea]
  have N2 := (N0.setNx e (.inl hl)).setPv e (.inl hr)
  have HN := Lib.hid N2
  rw [hq] at c4 d5 f5 ne2 ne4 HN ⊢
  clear h hr hl he hb hq fr fl N0 N2
  go_enter Try.func75, Try.ntmps75
  by_cases hqr : q = r
  · subst hqr
    go_wp2_with (fail)
    go_returns
    refine ⟨rfl, HN.out, ?_, ?_⟩
    · exact ((((Tch.refl _ _).set (.inr rfl) _).set (.inr rfl) _).set (.inl HH.out.2.1) _).set (.inl HH.out.2.1) _
    · rw [set_sz, set_sz, set_sz, set_sz]
  · have hrq : ¬ r = q := fun h => hqr h.symm
    have HQ := Lib.hid (show S q from HH.out.2.2.2.2.2 ▸ HH.out.2.2.1)
    go_wp2_with (fail)
    go_returns
    refine ⟨rfl, HN.out, ?_, ?_⟩
    · exact ((((Tch.refl _ _).set (.inr rfl) _).set (.inr rfl) _).set (.inl HQ.out) _).set (.inl HH.out.2.1) _
    · rw [set_sz, set_sz, set_sz, set_sz]
set_option maxHeartbeats 2000000 in
theorem linkI (W : World) (S : Nat → Prop) (B : Nat → EntV) (nx pv : Nat → Nat) (e r : Nat) (b0 a0 : Value) (h : Nodes 74 W S B nx pv) (hr : S r) (hl : S (pv r)) (he : ¬ S e) (hb : W.heap[e]? = some (.cells (entC (B e) b0 a0) 74 (0, 0))) :
    Calls Try.prog 64 #[PV e, PV r] W fun x W' => x = .returned (.tuple #[]) ∧ Nodes 74 W' (fun a => S a ∨ a = e) B (upd (upd nx e r) (pv r) e) (upd (upd pv e (pv r)) r e) ∧ Tch (fun a => S a ∨ a = e) W W' ∧ W'.heap.size = W.heap.size := by
  obtain ⟨_, _, _, _, c4, _, fr⟩ := h.cells hr
  obtain ⟨_, _, _, _, _, d5, fl⟩ := h.cells hl
  have f4 := fr 4
  have f5 := fl 5
  have k4 : W.cell? ⟨e, 4, none⟩ = some b0 := by rw [cell_of_row _ _ _ _ _ _ hb]; rfl
  have k5 : W.cell? ⟨e, 5, none⟩ = some a0 := by rw [cell_of_row _ _ _ _ _ _ hb]; rfl
  have g4 : W.frozen? ⟨e, 4, none⟩ = false := frozen_of_row _ _ _ _ _ hb
  have g5 : W.frozen? ⟨e, 5, none⟩ = false := frozen_of_row _ _ _ _ _ hb
  have ne1 : ¬ e = r := fun h => he (h ▸ hr)
  have ne2 : ¬ e = pv r := fun h => he (h ▸ hl)
  have ne3 : ¬ r = e := fun h => ne1 h.symm
  have ne4 : ¬ pv r = e := fun h => ne2 h.symm
  obtain ⟨q, hq⟩ : ∃ q, pv r = q := ⟨_, rfl⟩
  have HH := Lib.hid (And.intro h (And.intro hr (And.intro hl (And.intro he (And.intro hb hq)))))
  have N0 : Nodes 74 ((W.setCell ⟨e, 4, none⟩ (PV (pv r))).setCell ⟨e, 5, none⟩ (PV r)) (fun a => S a ∨ a = e) B (upd nx e r) (upd pv e (pv r)) := fun a ha => by
    by_cases ea : a = e
    · subst ea
      rw [row_put _ (row_put _ hb), upd_same, upd_same]
      rfl
    · rw [set_oth ea, set_oth ea, h a (ha.resolve_right ea), upd_other _ _ ea, upd_other _ _ ea]
  have N2 := (N0.setNx e (.inl hl)).setPv e (.inl hr)
  have HN := Lib.hid N2
  rw [hq] at c4 d5 f5 ne2 ne4 HN ⊢
  clear h hr hl he hb hq fr fl N0 N2
  go_enter Try.func64, Try.ntmps64
  by_cases hqr : q = r
  · subst hqr
    go_wp2_with (fail)
    go_returns
    refine ⟨rfl, HN.out, ?_, ?_⟩
    · exact ((((Tch.refl _ _).set (.inr rfl) _).set (.inr rfl) _).set (.inl HH.out.2.1) _).set (.inl HH.out.2.1) _
    · rw [set_sz, set_sz, set_sz, set_sz]
  · have hrq : ¬ r = q := fun h => hqr h.symm
    have HQ := Lib.hid (show S q from HH.out.2.2.2.2.2 ▸ HH.out.2.2.1)
    go_wp2_with (fail)
    go_returns
    refine ⟨rfl, HN.out, ?_, ?_⟩
    · exact ((((Tch.refl _ _).set (.inr rfl) _).set (.inr rfl) _).set (.inl HQ.out) _).set (.inl HH.out.2.1) _
    · rw [set_sz, set_sz, set_sz, set_sz]
set_option maxHeartbeats 4000000 in
theorem unlinkS (W : World) (S : Nat → Prop) (B : Nat → EntV) (nx pv : Nat → Nat) (e : Nat) (h : Nodes 98 W S B nx pv) (he : S e) (hx : S (pv e)) (hy : S (nx e)) (nex : pv e ≠ e) (ney : nx e ≠ e) :
    Calls Try.prog 76 #[PV e] W fun x W' => x = .returned (.tuple #[]) ∧ Nodes 98 W' S B (upd nx (pv e) (nx e)) (upd pv (nx e) (pv e)) ∧ Tch S W W' ∧ W'.heap.size = W.heap.size := by
  obtain ⟨_, _, _, _, c4, c5, _⟩ := h.cells he
  obtain ⟨_, _, _, _, _, x5, fx⟩ := h.cells hx
  obtain ⟨_, _, _, _, y4, _, fy⟩ := h.cells hy
  have f5 := fx 5
  have f4 := fy 4
  have HN := Lib.hid (((h.setNx (nx e) hx).setPv (pv e) hy))
  have HT := Lib.hid (show Tch S W ((W.setCell ⟨pv e, 5, none⟩ (PV (nx e))).setCell ⟨nx e, 4, none⟩ (PV (pv e))) from ((Tch.refl _ _).set hx _).set hy _)
  obtain ⟨x, hxx⟩ : ∃ x, pv e = x := ⟨_, rfl⟩
  obtain ⟨y, hyy⟩ : ∃ y, nx e = y := ⟨_, rfl⟩
  rw [hxx] at c4 x5 f5 nex HN HT ⊢
  rw [hyy] at c5 y4 f4 ney HN HT ⊢
  have ne1 : ¬ e = x := fun h => nex h.symm
  have ne2 : ¬ e = y := fun h => ney h.symm
  clear h he hx hy hxx hyy fx fy
  go_enter Try.func76, Try.ntmps76
  go_region_held3 (fun w' => w'.cell? ⟨e, 4, none⟩ = some (PV x) ∧ w'.cell? ⟨e, 5, none⟩ = some (PV y)) (first | assumption | go_keep) (fail)
  try simp only [Exit.inBlock, Exit.then]
  refine bodyPost_end (results_none rfl _ _ _) rfl ?_
  refine ⟨rfl, HN.out, ⟨HT.out.os, HT.out.tape, HT.out.output, HT.out.size, HT.out.block⟩, ?_⟩
  show ((W.setCell _ _).setCell _ _).heap.size = _
  rw [set_sz, set_sz]
set_option maxHeartbeats 2000000 in
theorem newRingS (W : World) : Calls Try.prog 53 #[] W fun x W' => x = .returned (PV W.heap.size) ∧ (∃ y : EntV, W'.heap[W.heap.size]? = some (.cells (entC y (PV W.heap.size) (PV W.heap.size)) 98 (0, 0))) ∧ Below W.heap.size W W' ∧ W'.heap.size = W.heap.size + 1 := by
  go_enter Try.func53, Try.ntmps53
  go_wp2_with (fail)
  go_ret
  exact ⟨rfl, ⟨⟨.string ⟨#[]⟩, .int .i64 0, false, 0⟩, heap_alloc_new _ _⟩, (Below.refl _ _).alloc (Nat.le_refl _) _, by simp⟩
set_option maxHeartbeats 4000000 in
theorem unlinkI (W : World) (S : Nat → Prop) (B : Nat → EntV) (nx pv : Nat → Nat) (e : Nat) (h : Nodes 74 W S B nx pv) (he : S e) (hx : S (pv e)) (hy : S (nx e)) (nex : pv e ≠ e) (ney : nx e ≠ e) :
    Calls Try.prog 63 #[PV e] W fun x W' => x = .returned (.tuple #[]) ∧ Nodes 74 W' S B (upd nx (pv e) (nx e)) (upd pv (nx e) (pv e)) ∧ Tch S W W' ∧ W'.heap.size = W.heap.size := by
  obtain ⟨_, _, _, _, c4, c5, _⟩ := h.cells he
  obtain ⟨_, _, _, _, _, x5, fx⟩ := h.cells hx
  obtain ⟨_, _, _, _, y4, _, fy⟩ := h.cells hy
  have f5 := fx 5
  have f4 := fy 4
  have HN := Lib.hid (((h.setNx (nx e) hx).setPv (pv e) hy))
  have HT := Lib.hid (show Tch S W ((W.setCell ⟨pv e, 5, none⟩ (PV (nx e))).setCell ⟨nx e, 4, none⟩ (PV (pv e))) from ((Tch.refl _ _).set hx _).set hy _)
  obtain ⟨x, hxx⟩ : ∃ x, pv e = x := ⟨_, rfl⟩
  obtain ⟨y, hyy⟩ : ∃ y, nx e = y := ⟨_, rfl⟩
  rw [hxx] at c4 x5 f5 nex HN HT ⊢
  rw [hyy] at c5 y4 f4 ney HN HT ⊢
  have ne1 : ¬ e = x := fun h => nex h.symm
  have ne2 : ¬ e = y := fun h => ney h.symm
  clear h he hx hy hxx hyy fx fy
  go_enter Try.func63, Try.ntmps63
  go_region_held3 (fun w' => w'.cell? ⟨e, 4, none⟩ = some (PV x) ∧ w'.cell? ⟨e, 5, none⟩ = some (PV y)) (first | assumption | go_keep) (fail)
  try simp only [Exit.inBlock, Exit.then]
  refine bodyPost_end (results_none rfl _ _ _) rfl ?_
  refine ⟨rfl, HN.out, ⟨HT.out.os, HT.out.tape, HT.out.output, HT.out.size, HT.out.block⟩, ?_⟩
  show ((W.setCell _ _).setCell _ _).heap.size = _
  rw [set_sz, set_sz]
set_option maxHeartbeats 2000000 in
theorem newRingI (W : World) : Calls Try.prog 34 #[] W fun x W' => x = .returned (PV W.heap.size) ∧ (∃ y : EntV, W'.heap[W.heap.size]? = some (.cells (entC y (PV W.heap.size) (PV W.heap.size)) 74 (0, 0))) ∧ Below W.heap.size W W' ∧ W'.heap.size = W.heap.size + 1 := by
  go_enter Try.func34, Try.ntmps34
  go_wp2_with (fail)
  go_ret
  exact ⟨rfl, ⟨⟨.int .i64 0, .int .i64 0, false, 0⟩, heap_alloc_new _ _⟩, (Below.refl _ _).alloc (Nat.le_refl _) _, by simp⟩
end Go.Proofs.Ytaigbplidkakhaa
