/- Proved here: a loop over an iterator that writes rows of its own between the rounds: what the loop's body says of the world stands as long as it speaks of blocks that were there when the loop began. -/
import Derived.Test.YtgcdbmpnddbcoaaDoorProg
import Derived.RangeFuncNested
import Derived.RangeFuncBound
import Derived.RangeFuncCalls
import Derived.RangeFuncLeaves
import Derived.Shelf.Abstract
import Derived.Shelf.RegionOpen
import Derived.WalkKit
import Derived.OwnWalkIn
import Derived.TacticsInMore
import Derived.LoopNIn
import Derived.LoopIn
namespace Go.Proofs.YtgcdbmpnddbcoaaDoor
open Go.RowKit

/-- A step of the iterator's own: blocks below n₁, and whatever is no cells, lie as they lay. -/
structure ItStep (n₁ : Nat) (A B : World) : Prop where
  os : B.os = A.os
  tape : B.tape = A.tape
  output : B.output = A.output
  size : A.heap.size ≤ B.heap.size
  keep : ∀ k o, A.heap[k]? = some o → (k < n₁ ∨ o.isCells = false) → B.heap[k]? = some o
theorem ItStep.refl (n₁ : Nat) (A : World) : ItStep n₁ A A := ⟨rfl, rfl, rfl, Nat.le_refl _, fun _ _ h _ => h⟩
theorem ItStep.trans {n₁ : Nat} {A B C : World} (h : ItStep n₁ A B) (k : ItStep n₁ B C) : ItStep n₁ A C :=
  ⟨k.os.trans h.os, k.tape.trans h.tape, k.output.trans h.output, Nat.le_trans h.size k.size, fun j o hj hc => k.keep j o (h.keep j o hj hc) hc⟩
theorem it_lt {w : World} {k : Nat} {o : Obj} (h : w.heap[k]? = some o) : k < w.heap.size := (Array.getElem?_eq_some_iff.1 h).1
/-- A step that turns nothing below n₁. -/
theorem ItStep.of_below {n₁ : Nat} {A B : World} (h : Below n₁ A B) (hr : ∀ k o, n₁ ≤ k → A.heap[k]? = some o → o.isCells = false → B.heap[k]? = some o) : ItStep n₁ A B :=
  ⟨h.os, h.tape, h.output, h.size, fun k o hk hc => by
    by_cases hlt : k < n₁
    · exact (h.block k hlt).trans hk
    · exact hr k o (by omega) hk (hc.resolve_left hlt)⟩
def AbidesIt {β : Type} (n₁ : Nat) (J : β → World → Prop) : Prop := ∀ s A B, J s A → ItStep n₁ A B → J s B
/-- What the law's own steps and the iterator's do to what lay below B. -/
def Low (B : Nat) (A C : World) : Prop := Below B A C
def AbidesLow {β : Type} (B : Nat) (I : β → World → Prop) : Prop := ∀ s A C, I s A → Below B A C → I s C
theorem AbidesLow.and {β : Type} {B : Nat} {I K : β → World → Prop} (h : AbidesLow B I) (k : AbidesLow B K) : AbidesLow B (fun s W => I s W ∧ K s W) := fun s A C hs hb => ⟨h s A C hs.1 hb, k s A C hs.2 hb⟩
theorem below_putObj {B : Nat} {W : World} {l : Nat} (h : B ≤ l) (hl : l < W.heap.size) (o : Obj) : Below B W (W.putObj l o) :=
  ⟨rfl, rfl, rfl, by simp, fun k hk => World.putObj_heap_other (by omega)⟩
/-- A round's word on cells: what lies as it lay. -/
structure CKeep (X : Nat → Prop) (A B : World) : Prop where
  os : B.os = A.os
  tape : B.tape = A.tape
  output : B.output = A.output
  size : A.heap.size ≤ B.heap.size
  keep : ∀ k o, ¬ X k → A.heap[k]? = some o → o.isCells = true → B.heap[k]? = some o
theorem CKeep.refl (X : Nat → Prop) (A : World) : CKeep X A A := ⟨rfl, rfl, rfl, Nat.le_refl _, fun _ _ _ h _ => h⟩
theorem CKeep.trans {X : Nat → Prop} {A B C : World} (h : CKeep X A B) (k : CKeep X B C) : CKeep X A C :=
  ⟨k.os.trans h.os, k.tape.trans h.tape, k.output.trans h.output, Nat.le_trans h.size k.size, fun j o hx hj hc => k.keep j o hx (h.keep j o hx hj hc) hc⟩
theorem CKeep.of_below {X : Nat → Prop} {A B : World} (h : Below A.heap.size A B) : CKeep X A B := ⟨h.os, h.tape, h.output, h.size, fun k o _ hk _ => (h.block k (it_lt hk)).trans hk⟩
theorem CKeep.putObj {X : Nat → Prop} {W : World} {l : Nat} {o : Obj} (h : W.heap[l]? = some o) (hc : o.isCells = false) (o' : Obj) : CKeep X W (W.putObj l o') :=
  ⟨rfl, rfl, rfl, by simp, fun k o2 _ hk h2 => by
    have hne : k ≠ l := fun e => by rw [e, h] at hk; cases hk; rw [hc] at h2; cases h2
    exact (World.putObj_heap_other hne).trans hk⟩
theorem CKeep.cell {X : Nat → Prop} {A B : World} (h : CKeep X A B) {a : Addr} {v : Value} (hx : ¬ X a.block) (hc : A.cell? a = some v) : B.cell? a = some v := by
  have hl := World.block_lt_of_cell? _ _ hc
  obtain ⟨o, ho⟩ : ∃ o, A.heap[a.block]? = some o := ⟨_, Array.getElem?_eq_getElem hl⟩
  have hcell : o.isCells = true := by
    cases o with
    | cells _ _ _ => rfl
    | _ => exact absurd hc (by unfold World.cell?; rw [ho]; simp)
  exact (World.cell?_of_block ((h.keep _ o hx ho hcell).trans ho.symm)).trans hc
/-- The iterator's contract, for a loop's record l laid in the world W. -/
def SeqC {α : Type} (F : Fence) (n : Nat) (P : Program) (g : Nat) (lb : Array Value) (encs : α → Array Value) (Pre : α → World → Prop) (X : Nat → Prop) (S Sp : List α → Prop) (W : World) : Prop :=
  ∀ (l : Nat) (J Jx : List α → World → Prop), AbidesIt W.heap.size J → AbidesIt W.heap.size Jx →
    (∀ pre x W1, J pre W1 → Pre x W1 → Sp (pre ++ [x]) → YieldAt F (n - 1) P l (encs x) W1 fun e W' =>
      (e = .returned (.bool true) ∧ J (pre ++ [x]) W' ∧ CKeep X W1 W') ∨ (e = .returned (.bool false) ∧ Jx (pre ++ [x]) W')) →
    J [] W →
    CallsIn F n P g (#[.func (.yield l) #[] #[]] ++ lb) W fun e W' => (∃ v, e = .returned v) ∧ ((∃ xs, S xs ∧ J xs W') ∨ (∃ pre, Sp pre ∧ Jx pre W'))

variable {F : Fence} {n : Nat} {P : Program}
/-- THE LOOP OVER SUCH AN ITERATOR. -/
theorem wpIn_rangeFunc_C {α : Type} {g : Operand} {ps : Array Tmp} {assign body : Code} {Q : Exit → Act → World → Prop} {a : Act} {w : World}
    (hro : F.round = none) (h1 : 1 ≤ n) {gf : Nat} {lb : Array Value} (hg : a.eval g = .func (.func gf) #[] lb) (hFg : F.fn gf) (eg : ∀ args w, (callFunc gf args).run P w = .ok (.enter gf args) w)
    {encs : α → Array Value} {Pre : α → World → Prop} {X : Nat → Prop} {S Sp : List α → Prop}
    (hseq : ∀ W : World, W.heap.size = w.heap.size + 2 → Below w.heap.size w W → SeqC F (n - 1) P gf lb encs Pre X S Sp W)
    (hPre : ∀ x W l o o', w.heap.size ≤ l → W.heap[l]? = some o → o.isCells = false → Pre x W → Pre x (W.putObj l o')) (hps : ∀ x, (encs x).size = ps.size)
    (I : List α → World → Prop) (Ix : Code → List α → World → Prop) (hI : AbidesLow w.heap.size I) (hIx : ∀ c, AbidesLow w.heap.size (Ix c)) (h0 : I [] w) (a₁ : α → Act)
    (hassign : ∀ (l : Nat) (x : α) (W : World) (K : Act → World → Prop), K (a₁ x) W →
      assign.wpIn (F.inRound l) (n - 1 - 1) P (Exit.then K (fun _ _ _ => False)) { tmps := (ps.zip (encs x)).foldl (fun t (p, v) => t.setIfInBounds p v) a.tmps, defers := [] } W)
    (hbody : ∀ (l : Nat) (pre : List α) (x : α) (W : World), I pre W → Pre x W → Sp (pre ++ [x]) → w.heap.size ≤ W.heap.size → body.wpIn (F.inRound l) (n - 1 - 1) P (ownPostG w.heap.size (CKeep X) I Ix (pre ++ [x]) W) (a₁ x) W)
    (hdone : ∀ (D : Nat) (xs : List α) (W : World), w.heap.size ≤ D → S xs → I xs W → W.heap[D]? = some (.deferred (some [])) → Q .normal { a with defers := { target := .collected D, args := #[] } :: a.defers } W)
    (hstop : ∀ (D : Nat) (c : Code) (pre : List α) (W : World), w.heap.size ≤ D → Sp pre → Ix c pre W → W.heap[D]? = some (.deferred (some [])) → c.wpIn F n P Q { a with defers := { target := .collected D, args := #[] } :: a.defers } W) :
    (Code.rangeFunc g ps assign body).wpIn F n P Q a w := by
  refine wpIn_rangeFunc fun fn hfn => ?_
  obtain ⟨R, hR⟩ : ∃ R : LoopState → Option Code → Obj, R = fun st pe => .loop { state := st, pending := pe, fn, tmps := a.tmps, params := ps, assign, body, defers := w.heap.size } := ⟨_, rfl⟩
  obtain ⟨W1, hW1⟩ : ∃ W1, (w.alloc (.deferred (some []))).alloc (R .ready none) = W1 := ⟨_, rfl⟩
  have hsz : W1.heap.size = w.heap.size + 2 := by rw [← hW1]; simp
  have hL : W1.heap[w.heap.size + 1]? = some (R .ready none) := by
    rw [← hW1]
    have := World.alloc_heap_new (w.alloc (.deferred (some []))) (R .ready none)
    rwa [World.size_alloc] at this
  have hD : W1.heap[w.heap.size]? = some (.deferred (some [])) := by
    rw [← hW1]
    exact (Below.heap_alloc _ _ _ (by simp)).trans (World.alloc_heap_new w _)
  have hB : Below w.heap.size w W1 := by
    rw [← hW1]
    exact ((Below.refl _ w).alloc (Nat.le_refl _) _).alloc (by simp) _
  have hput : ∀ (W : World) (o : Obj), W.heap[w.heap.size + 1]? = some o → ∀ o', Below w.heap.size W (W.putObj (w.heap.size + 1) o') := fun W o h o' => below_putObj (by omega) (it_lt h) o'
  rw [hro]
  refine ⟨w.heap.size + 1, [{ target := .collected w.heap.size, args := #[] }], W1, { target := .fn (.func gf) lb, args := #[.func (.yield (w.heap.size + 1)) #[] #[]] }, W1, gf,
    #[.func (.yield (w.heap.size + 1)) #[] #[]] ++ lb, W1, ?_, ?_, ?_, ?_, fun _ => h1, ?_⟩
  · rw [← hW1, hR]; exact run_enterLoop_outer _ _ _ _ _
  · simp only [resolve, hg]
    simp [go_sem]
  · intro f' hf'
    simp [Target.leads] at hf'
    subst hf'
    exact hFg
  · simp [invoke, go_sem, eg]
  refine (hseq W1 hsz hB (w.heap.size + 1)
    (fun pre W => I pre W ∧ W.heap[w.heap.size + 1]? = some (R .ready none) ∧ W.heap[w.heap.size]? = some (.deferred (some [])))
    (fun pre W => ∃ c, Ix c pre W ∧ W.heap[w.heap.size + 1]? = some (R .done (some c)) ∧ W.heap[w.heap.size]? = some (.deferred (some [])))
    (fun s A C hs hst => ⟨hI s A C hs.1 ⟨hst.os, hst.tape, hst.output, hst.size, fun k hk => ?_⟩, hst.keep _ _ hs.2.1 (.inl (by omega)), hst.keep _ _ hs.2.2 (.inl (by omega))⟩)
    (fun s A C hs hst => ?_) ?_ ⟨hI _ _ _ h0 hB, hL, hD⟩).mono ?_
  · have hk' : k < A.heap.size := Nat.lt_trans (Nat.lt_of_lt_of_le hk (by have := it_lt hs.2.2; omega)) (it_lt hs.2.2)
    rw [Array.getElem?_eq_getElem hk']
    exact hst.keep k _ (Array.getElem?_eq_getElem hk') (.inl (by omega))
  · obtain ⟨c, h2, h3, h4⟩ := hs
    refine ⟨c, hIx c s A C h2 ⟨hst.os, hst.tape, hst.output, hst.size, fun k hk => ?_⟩, hst.keep _ _ h3 (.inl (by omega)), hst.keep _ _ h4 (.inl (by omega))⟩
    have hk' : k < A.heap.size := Nat.lt_trans hk (it_lt h4)
    rw [Array.getElem?_eq_getElem hk']
    exact hst.keep k _ (Array.getElem?_eq_getElem hk') (.inl (by omega))
  · rintro pre x W ⟨hi, hl, hd⟩ hpre hsp
    have hy := run_yield (P := P) (args := encs x) (by rw [hR] at hl; exact hl) (hps x)
    refine ⟨fn, _, assign, body, hy, roundIn_of_wpIn hfn (hassign _ x W _ ⟨_, run_beginRound (by rw [hR] at hl; exact hl) rfl, ?_⟩)⟩
    obtain ⟨W2, hW2⟩ : ∃ W2, W.putObj (w.heap.size + 1) (R .busy none) = W2 := ⟨_, rfl⟩
    have hw : W.putObj (w.heap.size + 1) (.loop { state := .busy, pending := none, fn, tmps := a.tmps, params := ps, assign, body, defers := w.heap.size }) = W2 := by rw [← hW2, hR]
    rw [hw]
    have hl2 : W2.heap[w.heap.size + 1]? = some (R .busy none) := by rw [← hW2]; exact World.putObj_heap_same (it_lt hl)
    have hd2 : W2.heap[w.heap.size]? = some (.deferred (some [])) := by rw [← hW2]; exact (World.putObj_heap_other (by omega)).trans hd
    have hRc : ∀ st pe, (R st pe).isCells = false := fun st pe => by rw [hR]; rfl
    have hi2 : I pre W2 := by rw [← hW2]; exact hI _ _ _ hi (hput W _ hl _)
    have hp2 : Pre x W2 := by rw [← hW2]; exact hPre x W _ _ _ (by omega) hl (hRc _ _) hpre
    have hk2 : CKeep X W W2 := by rw [← hW2]; exact CKeep.putObj hl (hRc _ _) _
    have fin : ∀ (jump : Option Code) (W3 : World), KeepsFrom w.heap.size W2 W3 → ∃ W4, (Instr.endRound (w.heap.size + 1) jump).run P W3 = .ok (.bool jump.isNone) W4 ∧ W4.heap[w.heap.size + 1]? = some (R (if jump.isNone then .ready else .done) jump) ∧ W4.heap[w.heap.size]? = some (.deferred (some [])) ∧ Below w.heap.size W3 W4 ∧ CKeep X W3 W4 := fun jump W3 hk => by
      have hl3 := hk.same _ _ (by omega) hl2 (hRc _ _)
      have hd3 := hk.same _ _ (Nat.le_refl _) hd2 rfl
      have hrun := run_endRound (P := P) jump (by rw [hR] at hl3; exact hl3)
      refine ⟨_, hrun, ?_, (World.putObj_heap_other (by omega)).trans hd3, hput W3 _ hl3 _, CKeep.putObj hl3 (hRc _ _) _⟩
      rw [World.putObj_heap_same (it_lt hl3), hR]
    refine wpIn_mono (hbody _ pre x W2 hi2 hp2 hsp (by have := it_lt hd2; omega)) ?_
    intro e a3 W3 hp
    cases e with
    | normal =>
      obtain ⟨hk, hc, hi3⟩ := hp
      obtain ⟨W4, hr, h4, h5, h6, h7⟩ := fin none W3 hk
      exact ⟨_, W4, hr, .inl ⟨rfl, ⟨hI _ _ _ hi3 h6, h4, h5⟩, (hk2.trans hc).trans h7⟩⟩
    | ret =>
      obtain ⟨W4, hr, h4, h5, h6, h7⟩ := fin (some .ret) W3 hp.1
      exact ⟨_, W4, hr, .inr ⟨rfl, .ret, hIx _ _ _ _ hp.2 h6, h4, h5⟩⟩
    | exit id =>
      obtain ⟨W4, hr, h4, h5, h6, h7⟩ := fin (some (.exit id)) W3 hp.1
      exact ⟨_, W4, hr, .inr ⟨rfl, .exit id, hIx _ _ _ _ hp.2 h6, h4, h5⟩⟩
    | goto t =>
      obtain ⟨W4, hr, h4, h5, h6, h7⟩ := fin (some (.goto t)) W3 hp.1
      exact ⟨_, W4, hr, .inr ⟨rfl, .goto t, hIx _ _ _ _ hp.2 h6, h4, h5⟩⟩
    | panic ch => exact hp.elim
    | outgrown => exact hp.elim
  · rintro e W2 ⟨⟨v, rfl⟩, ⟨xs, hS, hi, hl, hd⟩ | ⟨pre, hSp, c, hi, hl, hd⟩⟩
    · have hrun := run_endLoop (P := P) (by rw [hR] at hl; exact hl) (by simp)
      exact ⟨none, _, hrun, hdone _ xs _ (Nat.le_refl _) hS (hI _ _ _ hi (hput W2 _ hl _)) ((World.putObj_heap_other (by omega)).trans hd)⟩
    · have hrun := run_endLoop (P := P) (by rw [hR] at hl; exact hl) (by simp)
      exact ⟨some c, _, hrun, hstop _ c pre _ (Nat.le_refl _) hSp (hIx c _ _ _ hi (hput W2 _ hl _)) ((World.putObj_heap_other (by omega)).trans hd)⟩
end Go.Proofs.YtgcdbmpnddbcoaaDoor
