/- Proved here: what the walk of TrailUps leans on: plain facts on going up, and how the trails at hand lie in memory. -/
import Derived.Test.YtpcdcndniibalaaDoorLawTOrders
namespace Go.Proofs.YtpcdcndniibalaaDoor
open Go.RowKit

/-- What a trail is under: itself, or what it stands in. -/
def Anc (t a : Tr) : Prop := t = a ∨ (t.attr = false ∧ t.steps <+: a.steps)
def remT (t : Tr) : Nat := t.steps.length + (if t.attr then 1 else 0)
theorem cmpT_self (a : Tr) : cmpT a a = 0 := by have := cmpT_ord.anti a a; omega
theorem anc_under {t a : Tr} (h : Anc t a) : underT t a = true := by
  rcases h with rfl | ⟨h1, h2⟩
  · unfold underT
    cases t.attr
    · simp
    · rw [if_pos rfl, cmpT_self]; rfl
  · unfold underT
    rw [h1]; simpa using h2
theorem anc_over {t a b : Tr} (h : Anc t a) (hb : underT b t = true) : underT b a = true := by
  rcases h with rfl | ⟨h1, h2⟩
  · exact hb
  · unfold underT at hb ⊢
    cases hab : b.attr
    · rw [hab] at hb
      simp only [Bool.false_eq_true, if_false, decide_eq_true_eq] at hb ⊢
      exact hb.trans h2
    · rw [hab] at hb
      rw [if_pos rfl] at hb
      have e : cmpT b t = 0 := by simpa using hb
      unfold cmpT lexI at e
      split at e
      · unfold cmpTail at e
        rw [hab, h1] at e
        simp at e
      · rename_i hn
        exact absurd e hn
theorem up_facts {t a : Tr} (h : Anc t a) : ((upT t).2 = true → underT (upT t).1 t = true ∧ cmpT (upT t).1 t = -1 ∧ remT (upT t).1 + 1 = remT t) ∧ (upT t).1.attr = false ∧ Anc (upT t).1 a ∧ ((upT t).2 = false → remT t = 0) := by
  have hpre : (t.attr = true → t.steps <+: a.steps) ∧ (t.attr = false → t.steps <+: a.steps) := by
    rcases h with rfl | ⟨h1, h2⟩
    · exact ⟨fun _ => List.prefix_refl _, fun _ => List.prefix_refl _⟩
    · exact ⟨fun _ => h2, fun _ => h2⟩
  unfold upT
  cases ha : t.attr
  · rw [if_neg (by simp)]
    by_cases h0 : t.steps.length = 0
    · rw [if_pos h0]
      refine ⟨fun e => (by cases e), rfl, .inr ⟨rfl, List.nil_prefix⟩, fun _ => ?_⟩
      unfold remT; rw [ha, h0]; rfl
    · rw [if_neg h0]
      have hp : t.steps.take (t.steps.length - 1) <+: t.steps := List.take_prefix _ _
      have hl : (t.steps.take (t.steps.length - 1)).length = t.steps.length - 1 := by rw [List.length_take]; omega
      refine ⟨fun _ => ⟨?_, ?_, ?_⟩, rfl, .inr ⟨rfl, hp.trans (hpre.2 ha)⟩, fun e => (by cases e)⟩
      · unfold underT; simpa using hp
      · have e : cmpN (t.steps.take (t.steps.length - 1)) t.steps = -1 := by rw [cmpN_prefix _ _ hp, hl, if_neg (by omega)]
        unfold cmpT lexI
        rw [e, if_neg (by decide)]
      · unfold remT; rw [ha]; simp only [Bool.false_eq_true, if_false]; rw [hl]; omega
  · rw [if_pos rfl]
    refine ⟨fun _ => ⟨?_, ?_, ?_⟩, rfl, .inr ⟨rfl, hpre.1 ha⟩, fun e => (by cases e)⟩
    · unfold underT; simp
    · unfold cmpT lexI
      rw [cmpN_refl, if_pos rfl]
      unfold cmpTail
      rw [ha]; simp
    · unfold remT; rw [ha]; simp

/-- A trail in a block of its own. -/
structure OwnT (W : World) (G : Nat) (r : Option Addr) (e : Nat) (t : Tr) : Prop where
  blk : W.heap[G]? = some (.cells #[.slice r t.steps.length e, .bool t.attr, .string t.uri, .string t.loc] 26)
  lies : TrAt W r e t
  nn : r = none → e = 0
theorem OwnT.lt {W : World} {G : Nat} {r : Option Addr} {e : Nat} {t : Tr} (h : OwnT W G r e t) : G < W.heap.size := (Array.getElem?_eq_some_iff.1 h.blk).1
theorem OwnT.far {W W' : World} {G : Nat} {r : Option Addr} {e : Nat} {t : Tr} (h : OwnT W G r e t) (hb : Below W.heap.size W W') : OwnT W' G r e t :=
  ⟨(hb.block _ h.lt).trans h.blk, h.lies.below hb, h.nn⟩
theorem OwnT.stored {W : World} {G G2 : Nat} {r : Option Addr} {e : Nat} {t : Tr} {p : Option Addr} {n c : Nat} {b : Bool} {x y : ByteArray} {T : TypeId} (h : OwnT W G r e t) (s a u l : Value) (hb : W.heap[G2]? = some (.cells #[.slice p n c, .bool b, .string x, .string y] T)) (hG : G ≠ G2) : OwnT (setT W G2 s a u l) G r e t :=
  ⟨(setT_keep W s a u l hG).trans h.blk, ⟨h.lies.1.setT s a u l hb, h.lies.2⟩, h.nn⟩
theorem OwnT.laid {W : World} {G2 : Nat} {r : Option Addr} {e : Nat} {t : Tr} {p : Option Addr} {n c : Nat} {b : Bool} {x y : ByteArray} (h : TrAt W r e t) (hn : r = none → e = 0) (hb : W.heap[G2]? = some (.cells #[.slice p n c, .bool b, .string x, .string y] 26)) : OwnT (setT W G2 (.slice r t.steps.length e) (.bool t.attr) (.string t.uri) (.string t.loc)) G2 r e t :=
  ⟨setT_row _ _ _ _ hb, ⟨h.1.setT _ _ _ _ hb, h.2⟩, hn⟩
/-- The two trails given, boxed. -/
structure Box2 (w1 W : World) (G : Nat) (p q : Option Addr) (c d : Nat) (a b : Tr) : Prop where
  below : Below w1.heap.size w1 W
  one : BoxT W G p a.steps.length c a
  two : BoxT W (G + 1) q b.steps.length d b
  room : G + 1 < w1.heap.size
theorem Box2.far {w1 W W' : World} {G : Nat} {p q : Option Addr} {c d : Nat} {a b : Tr} (h : Box2 w1 W G p q c d a b) (hb : Below W.heap.size W W') : Box2 w1 W' G p q c d a b :=
  ⟨t_cat h.below hb, h.one.below hb, h.two.below hb, h.room⟩
theorem t_setT_cell {W : World} {G2 : Nat} (s a u l : Value) {x : Addr} (h : x.block ≠ G2) : (setT W G2 s a u l).cell? x = W.cell? x := World.cell?_of_block (setT_keep W s a u l h)
theorem BoxT.stored {W : World} {G G2 : Nat} {p : Option Addr} {n c : Nat} {t : Tr} (h : BoxT W G p n c t) (s a u l : Value) (hG : G ≠ G2) : BoxT (setT W G2 s a u l) G p n c t := by
  unfold BoxT
  rw [t_setT_cell s a u l hG, t_setT_cell s a u l hG, t_setT_cell s a u l hG, t_setT_cell s a u l hG]
  exact h
theorem Box2.stored {w1 W : World} {G G2 : Nat} {p q : Option Addr} {c d : Nat} {a b : Tr} (h : Box2 w1 W G p q c d a b) (s x u l : Value) (hG : w1.heap.size ≤ G2) : Box2 w1 (setT W G2 s x u l) G p q c d a b :=
  ⟨setT_below s x u l h.below hG, h.one.stored _ _ _ _ (by have := h.room; omega), h.two.stored _ _ _ _ (by have := h.room; omega), h.room⟩
theorem OwnT.box {W : World} {G : Nat} {r : Option Addr} {e : Nat} {t : Tr} (h : OwnT W G r e t) : BoxT W G r t.steps.length e t := (t_cells h.blk).1
theorem t_alloc_own {W : World} {r : Option Addr} {e : Nat} {t : Tr} (h : TrAt W r e t) (hn : r = none → e = 0) : OwnT (W.alloc (.cells #[.slice r t.steps.length e, .bool t.attr, .string t.uri, .string t.loc] 26)) W.heap.size r e t :=
  ⟨t_one _ _, h.below ((Below.refl _ _).alloc (Nat.le_refl _) _), hn⟩
end Go.Proofs.YtpcdcndniibalaaDoor
