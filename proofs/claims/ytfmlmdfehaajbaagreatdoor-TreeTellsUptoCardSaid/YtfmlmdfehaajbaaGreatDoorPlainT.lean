/- Proved here: trees without addresses; when two trees are the same. -/
import Derived.Test.YtfmlmdfehaajbaaGreatDoorProg
import Derived.RangeFuncNested
import Derived.RangeFuncBound
import Derived.RangeFuncCalls
import Derived.RangeFuncLeaves
import Derived.Shelf.Abstract
import Derived.Shelf.RegionOpen
import Derived.WalkKit
import Derived.OwnWalkIn
import Derived.TacticsInMore
import Derived.LoopNIn
import Derived.LoopIn
namespace Go.Proofs.YtfmlmdfehaajbaaGreatDoor
open Go.RowKit

/-- A step of the iterator's own: blocks below n₁, and whatever is no cells, lie as they lay. -/
structure ItStep (n₁ : Nat) (A B : World) : Prop where
  os : B.os = A.os
  tape : B.tape = A.tape
  output : B.output = A.output
  size : A.heap.size ≤ B.heap.size
  keep : ∀ k o, A.heap[k]? = some o → (k < n₁ ∨ o.isCells = false) → B.heap[k]? = some o
theorem ItStep.refl (n₁ : Nat) (A : World) : ItStep n₁ A A := ⟨rfl, rfl, rfl, Nat.le_refl _, fun _ _ h _ => h⟩
theorem ItStep.trans {n₁ : Nat} {A B C : World} (h : ItStep n₁ A B) (k : ItStep n₁ B C) : ItStep n₁ A C :=
  ⟨k.os.trans h.os, k.tape.trans h.tape, k.output.trans h.output, Nat.le_trans h.size k.size, fun j o hj hc => k.keep j o (h.keep j o hj hc) hc⟩
theorem it_lt {w : World} {k : Nat} {o : Obj} (h : w.heap[k]? = some o) : k < w.heap.size := (Array.getElem?_eq_some_iff.1 h).1
/-- A step that turns nothing below n₁. -/
theorem ItStep.of_below {n₁ : Nat} {A B : World} (h : Below n₁ A B) (hr : ∀ k o, n₁ ≤ k → A.heap[k]? = some o → o.isCells = false → B.heap[k]? = some o) : ItStep n₁ A B :=
  ⟨h.os, h.tape, h.output, h.size, fun k o hk hc => by
    by_cases hlt : k < n₁
    · exact (h.block k hlt).trans hk
    · exact hr k o (by omega) hk (hc.resolve_left hlt)⟩
def AbidesIt {β : Type} (n₁ : Nat) (J : β → World → Prop) : Prop := ∀ s A B, J s A → ItStep n₁ A B → J s B
/-- What the law's own steps and the iterator's do to what lay below B. -/
def Low (B : Nat) (A C : World) : Prop := Below B A C
def AbidesLow {β : Type} (B : Nat) (I : β → World → Prop) : Prop := ∀ s A C, I s A → Below B A C → I s C
theorem AbidesLow.and {β : Type} {B : Nat} {I K : β → World → Prop} (h : AbidesLow B I) (k : AbidesLow B K) : AbidesLow B (fun s W => I s W ∧ K s W) := fun s A C hs hb => ⟨h s A C hs.1 hb, k s A C hs.2 hb⟩
theorem below_putObj {B : Nat} {W : World} {l : Nat} (h : B ≤ l) (hl : l < W.heap.size) (o : Obj) : Below B W (W.putObj l o) :=
  ⟨rfl, rfl, rfl, by simp, fun k hk => World.putObj_heap_other (by omega)⟩
/-- A round's word on cells: what lies as it lay. -/
structure CKeep (X : Nat → Prop) (A B : World) : Prop where
  os : B.os = A.os
  tape : B.tape = A.tape
  output : B.output = A.output
  size : A.heap.size ≤ B.heap.size
  keep : ∀ k o, ¬ X k → A.heap[k]? = some o → o.isCells = true → B.heap[k]? = some o
theorem CKeep.refl (X : Nat → Prop) (A : World) : CKeep X A A := ⟨rfl, rfl, rfl, Nat.le_refl _, fun _ _ _ h _ => h⟩
theorem CKeep.trans {X : Nat → Prop} {A B C : World} (h : CKeep X A B) (k : CKeep X B C) : CKeep X A C :=
  ⟨k.os.trans h.os, k.tape.trans h.tape, k.output.trans h.output, Nat.le_trans h.size k.size, fun j o hx hj hc => k.keep j o hx (h.keep j o hx hj hc) hc⟩
theorem CKeep.of_below {X : Nat → Prop} {A B : World} (h : Below A.heap.size A B) : CKeep X A B := ⟨h.os, h.tape, h.output, h.size, fun k o _ hk _ => (h.block k (it_lt hk)).trans hk⟩
theorem CKeep.putObj {X : Nat → Prop} {W : World} {l : Nat} {o : Obj} (h : W.heap[l]? = some o) (hc : o.isCells = false) (o' : Obj) : CKeep X W (W.putObj l o') :=
  ⟨rfl, rfl, rfl, by simp, fun k o2 _ hk h2 => by
    have hne : k ≠ l := fun e => by rw [e, h] at hk; cases hk; rw [hc] at h2; cases h2
    exact (World.putObj_heap_other hne).trans hk⟩
theorem CKeep.cell {X : Nat → Prop} {A B : World} (h : CKeep X A B) {a : Addr} {v : Value} (hx : ¬ X a.block) (hc : A.cell? a = some v) : B.cell? a = some v := by
  have hl := World.block_lt_of_cell? _ _ hc
  obtain ⟨o, ho⟩ : ∃ o, A.heap[a.block]? = some o := ⟨_, Array.getElem?_eq_getElem hl⟩
  have hcell : o.isCells = true := by
    cases o with
    | cells _ _ _ => rfl
    | _ => exact absurd hc (by unfold World.cell?; rw [ho]; simp)
  exact (World.cell?_of_block ((h.keep _ o hx ho hcell).trans ho.symm)).trans hc
/-- The iterator's contract, for a loop's record l laid in the world W. -/
def SeqC {α : Type} (F : Fence) (n : Nat) (P : Program) (g : Nat) (lb : Array Value) (encs : α → Array Value) (Pre : α → World → Prop) (X : Nat → Prop) (S Sp : List α → Prop) (W : World) : Prop :=
  ∀ (l : Nat) (J Jx : List α → World → Prop), AbidesIt W.heap.size J → AbidesIt W.heap.size Jx →
    (∀ pre x W1, J pre W1 → Pre x W1 → Sp (pre ++ [x]) → YieldAt F (n - 1) P l (encs x) W1 fun e W' =>
      (e = .returned (.bool true) ∧ J (pre ++ [x]) W' ∧ CKeep X W1 W') ∨ (e = .returned (.bool false) ∧ Jx (pre ++ [x]) W')) →
    J [] W →
    CallsIn F n P g (#[.func (.yield l) #[] #[]] ++ lb) W fun e W' => (∃ v, e = .returned v) ∧ ((∃ xs, S xs ∧ J xs W') ∨ (∃ pre, Sp pre ∧ Jx pre W'))

variable {F : Fence} {n : Nat} {P : Program}
/-- THE LOOP OVER SUCH AN ITERATOR. -/
theorem wpIn_rangeFunc_C {α : Type} {g : Operand} {ps : Array Tmp} {assign body : Code} {Q : Exit → Act → World → Prop} {a : Act} {w : World}
    (hro : F.round = none) (h1 : 1 ≤ n) {gf : Nat} {lb : Array Value} (hg : a.eval g = .func (.func gf) #[] lb) (hFg : F.fn gf) (eg : ∀ args w, (callFunc gf args).run P w = .ok (.enter gf args) w)
    {encs : α → Array Value} {Pre : α → World → Prop} {X : Nat → Prop} {S Sp : List α → Prop}
    (hseq : ∀ W : World, W.heap.size = w.heap.size + 2 → Below w.heap.size w W → SeqC F (n - 1) P gf lb encs Pre X S Sp W)
    (hPre : ∀ x W l o o', w.heap.size ≤ l → W.heap[l]? = some o → o.isCells = false → Pre x W → Pre x (W.putObj l o')) (hps : ∀ x, (encs x).size = ps.size)
    (I : List α → World → Prop) (Ix : Code → List α → World → Prop) (hI : AbidesLow w.heap.size I) (hIx : ∀ c, AbidesLow w.heap.size (Ix c)) (h0 : I [] w) (a₁ : α → Act)
    (hassign : ∀ (l : Nat) (x : α) (W : World) (K : Act → World → Prop), K (a₁ x) W →
      assign.wpIn (F.inRound l) (n - 1 - 1) P (Exit.then K (fun _ _ _ => False)) { tmps := (ps.zip (encs x)).foldl (fun t (p, v) => t.setIfInBounds p v) a.tmps, defers := [] } W)
    (hbody : ∀ (l : Nat) (pre : List α) (x : α) (W : World), I pre W → Pre x W → Sp (pre ++ [x]) → w.heap.size ≤ W.heap.size → body.wpIn (F.inRound l) (n - 1 - 1) P (ownPostG w.heap.size (CKeep X) I Ix (pre ++ [x]) W) (a₁ x) W)
    (hdone : ∀ (D : Nat) (xs : List α) (W : World), w.heap.size ≤ D → S xs → I xs W → W.heap[D]? = some (.deferred (some [])) → Q .normal { a with defers := { target := .collected D, args := #[] } :: a.defers } W)
    (hstop : ∀ (D : Nat) (c : Code) (pre : List α) (W : World), w.heap.size ≤ D → Sp pre → Ix c pre W → W.heap[D]? = some (.deferred (some [])) → c.wpIn F n P Q { a with defers := { target := .collected D, args := #[] } :: a.defers } W) :
    (Code.rangeFunc g ps assign body).wpIn F n P Q a w := by
  refine wpIn_rangeFunc fun fn hfn => ?_
  obtain ⟨R, hR⟩ : ∃ R : LoopState → Option Code → Obj, R = fun st pe => .loop { state := st, pending := pe, fn, tmps := a.tmps, params := ps, assign, body, defers := w.heap.size } := ⟨_, rfl⟩
  obtain ⟨W1, hW1⟩ : ∃ W1, (w.alloc (.deferred (some []))).alloc (R .ready none) = W1 := ⟨_, rfl⟩
  have hsz : W1.heap.size = w.heap.size + 2 := by rw [← hW1]; simp
  have hL : W1.heap[w.heap.size + 1]? = some (R .ready none) := by
    rw [← hW1]
    have := World.alloc_heap_new (w.alloc (.deferred (some []))) (R .ready none)
    rwa [World.size_alloc] at this
  have hD : W1.heap[w.heap.size]? = some (.deferred (some [])) := by
    rw [← hW1]
    exact (Below.heap_alloc _ _ _ (by simp)).trans (World.alloc_heap_new w _)
  have hB : Below w.heap.size w W1 := by
    rw [← hW1]
    exact ((Below.refl _ w).alloc (Nat.le_refl _) _).alloc (by simp) _
  have hput : ∀ (W : World) (o : Obj), W.heap[w.heap.size + 1]? = some o → ∀ o', Below w.heap.size W (W.putObj (w.heap.size + 1) o') := fun W o h o' => below_putObj (by omega) (it_lt h) o'
  rw [hro]
  refine ⟨w.heap.size + 1, [{ target := .collected w.heap.size, args := #[] }], W1, { target := .fn (.func gf) lb, args := #[.func (.yield (w.heap.size + 1)) #[] #[]] }, W1, gf,
    #[.func (.yield (w.heap.size + 1)) #[] #[]] ++ lb, W1, ?_, ?_, ?_, ?_, fun _ => h1, ?_⟩
  · rw [← hW1, hR]; exact run_enterLoop_outer _ _ _ _ _
  · simp only [resolve, hg]
    simp [go_sem]
  · intro f' hf'
    simp [Target.leads] at hf'
    subst hf'
    exact hFg
  · simp [invoke, go_sem, eg]
  refine (hseq W1 hsz hB (w.heap.size + 1)
    (fun pre W => I pre W ∧ W.heap[w.heap.size + 1]? = some (R .ready none) ∧ W.heap[w.heap.size]? = some (.deferred (some [])))
    (fun pre W => ∃ c, Ix c pre W ∧ W.heap[w.heap.size + 1]? = some (R .done (some c)) ∧ W.heap[w.heap.size]? = some (.deferred (some [])))
    (fun s A C hs hst => ⟨hI s A C hs.1 ⟨hst.os, hst.tape, hst.output, hst.size, fun k hk => ?_⟩, hst.keep _ _ hs.2.1 (.inl (by omega)), hst.keep _ _ hs.2.2 (.inl (by omega))⟩)
    (fun s A C hs hst => ?_) ?_ ⟨hI _ _ _ h0 hB, hL, hD⟩).mono ?_
  · have hk' : k < A.heap.size := Nat.lt_trans (Nat.lt_of_lt_of_le hk (by have := it_lt hs.2.2; omega)) (it_lt hs.2.2)
    rw [Array.getElem?_eq_getElem hk']
    exact hst.keep k _ (Array.getElem?_eq_getElem hk') (.inl (by omega))
  · obtain ⟨c, h2, h3, h4⟩ := hs
    refine ⟨c, hIx c s A C h2 ⟨hst.os, hst.tape, hst.output, hst.size, fun k hk => ?_⟩, hst.keep _ _ h3 (.inl (by omega)), hst.keep _ _ h4 (.inl (by omega))⟩
    have hk' : k < A.heap.size := Nat.lt_trans hk (it_lt h4)
    rw [Array.getElem?_eq_getElem hk']
    exact hst.keep k _ (Array.getElem?_eq_getElem hk') (.inl (by omega))
  · rintro pre x W ⟨hi, hl, hd⟩ hpre hsp
    have hy := run_yield (P := P) (args := encs x) (by rw [hR] at hl; exact hl) (hps x)
    refine ⟨fn, _, assign, body, hy, roundIn_of_wpIn hfn (hassign _ x W _ ⟨_, run_beginRound (by rw [hR] at hl; exact hl) rfl, ?_⟩)⟩
    obtain ⟨W2, hW2⟩ : ∃ W2, W.putObj (w.heap.size + 1) (R .busy none) = W2 := ⟨_, rfl⟩
    have hw : W.putObj (w.heap.size + 1) (.loop { state := .busy, pending := none, fn, tmps := a.tmps, params := ps, assign, body, defers := w.heap.size }) = W2 := by rw [← hW2, hR]
    rw [hw]
    have hl2 : W2.heap[w.heap.size + 1]? = some (R .busy none) := by rw [← hW2]; exact World.putObj_heap_same (it_lt hl)
    have hd2 : W2.heap[w.heap.size]? = some (.deferred (some [])) := by rw [← hW2]; exact (World.putObj_heap_other (by omega)).trans hd
    have hRc : ∀ st pe, (R st pe).isCells = false := fun st pe => by rw [hR]; rfl
    have hi2 : I pre W2 := by rw [← hW2]; exact hI _ _ _ hi (hput W _ hl _)
    have hp2 : Pre x W2 := by rw [← hW2]; exact hPre x W _ _ _ (by omega) hl (hRc _ _) hpre
    have hk2 : CKeep X W W2 := by rw [← hW2]; exact CKeep.putObj hl (hRc _ _) _
    have fin : ∀ (jump : Option Code) (W3 : World), KeepsFrom w.heap.size W2 W3 → ∃ W4, (Instr.endRound (w.heap.size + 1) jump).run P W3 = .ok (.bool jump.isNone) W4 ∧ W4.heap[w.heap.size + 1]? = some (R (if jump.isNone then .ready else .done) jump) ∧ W4.heap[w.heap.size]? = some (.deferred (some [])) ∧ Below w.heap.size W3 W4 ∧ CKeep X W3 W4 := fun jump W3 hk => by
      have hl3 := hk.same _ _ (by omega) hl2 (hRc _ _)
      have hd3 := hk.same _ _ (Nat.le_refl _) hd2 rfl
      have hrun := run_endRound (P := P) jump (by rw [hR] at hl3; exact hl3)
      refine ⟨_, hrun, ?_, (World.putObj_heap_other (by omega)).trans hd3, hput W3 _ hl3 _, CKeep.putObj hl3 (hRc _ _) _⟩
      rw [World.putObj_heap_same (it_lt hl3), hR]
    refine wpIn_mono (hbody _ pre x W2 hi2 hp2 hsp (by have := it_lt hd2; omega)) ?_
    intro e a3 W3 hp
    cases e with
    | normal =>
      obtain ⟨hk, hc, hi3⟩ := hp
      obtain ⟨W4, hr, h4, h5, h6, h7⟩ := fin none W3 hk
      exact ⟨_, W4, hr, .inl ⟨rfl, ⟨hI _ _ _ hi3 h6, h4, h5⟩, (hk2.trans hc).trans h7⟩⟩
    | ret =>
      obtain ⟨W4, hr, h4, h5, h6, h7⟩ := fin (some .ret) W3 hp.1
      exact ⟨_, W4, hr, .inr ⟨rfl, .ret, hIx _ _ _ _ hp.2 h6, h4, h5⟩⟩
    | exit id =>
      obtain ⟨W4, hr, h4, h5, h6, h7⟩ := fin (some (.exit id)) W3 hp.1
      exact ⟨_, W4, hr, .inr ⟨rfl, .exit id, hIx _ _ _ _ hp.2 h6, h4, h5⟩⟩
    | goto t =>
      obtain ⟨W4, hr, h4, h5, h6, h7⟩ := fin (some (.goto t)) W3 hp.1
      exact ⟨_, W4, hr, .inr ⟨rfl, .goto t, hIx _ _ _ _ hp.2 h6, h4, h5⟩⟩
    | panic ch => exact hp.elim
    | outgrown => exact hp.elim
  · rintro e W2 ⟨⟨v, rfl⟩, ⟨xs, hS, hi, hl, hd⟩ | ⟨pre, hSp, c, hi, hl, hd⟩⟩
    · have hrun := run_endLoop (P := P) (by rw [hR] at hl; exact hl) (by simp)
      exact ⟨none, _, hrun, hdone _ xs _ (Nat.le_refl _) hS (hI _ _ _ hi (hput W2 _ hl _)) ((World.putObj_heap_other (by omega)).trans hd)⟩
    · have hrun := run_endLoop (P := P) (by rw [hR] at hl; exact hl) (by simp)
      exact ⟨some c, _, hrun, hstop _ c pre _ (Nat.le_refl _) hSp (hIx c _ _ _ hi (hput W2 _ hl _)) ((World.putObj_heap_other (by omega)).trans hd)⟩
end Go.Proofs.YtfmlmdfehaajbaaGreatDoor
namespace Go.Proofs.YtfmlmdfehaajbaaGreatDoor
open Go.RowKit

structure AttrM where
  uri : ByteArray
  loc : ByteArray
  val : ByteArray
  deriving Inhabited
/-- A tree, each node with the address at which it lies. -/
inductive AT where
  | node (b o : Nat) (kind : Int) (uri loc : ByteArray) (attrs : List AttrM) (text : ByteArray) (kids : List AT)
namespace AT
instance : Inhabited AT := ⟨.node 0 0 0 ⟨#[]⟩ ⟨#[]⟩ [] ⟨#[]⟩ []⟩
def b : AT → Nat | .node b _ _ _ _ _ _ _ => b
def o : AT → Nat | .node _ o _ _ _ _ _ _ => o
def kind : AT → Int | .node _ _ k _ _ _ _ _ => k
def uri : AT → ByteArray | .node _ _ _ u _ _ _ _ => u
def loc : AT → ByteArray | .node _ _ _ _ l _ _ _ => l
def attrs : AT → List AttrM | .node _ _ _ _ _ a _ _ => a
def text : AT → ByteArray | .node _ _ _ _ _ _ x _ => x
def kids : AT → List AT | .node _ _ _ _ _ _ _ ks => ks
def ptr (t : AT) : Value := .pointer (some ⟨t.b, t.o, none⟩)
/-- The same tree with its top at another address. -/
def put (b o : Nat) : AT → AT | .node _ _ k u l a x ks => .node b o k u l a x ks
theorem ind {P : AT → Prop} (h : ∀ t, (∀ k ∈ t.kids, P k) → P t) : ∀ t, P t := fun t =>
  AT.rec (motive_1 := P) (motive_2 := fun ks => ∀ k ∈ ks, P k) (fun b o k u l a x ks ih => h (.node b o k u l a x ks) ih) (fun k hk => by cases hk) (fun a r h1 h2 k hk => by
    rcases List.mem_cons.1 hk with rfl | hk
    · exact h1
    · exact h2 k hk) t
mutual
/-- All nodes with their paths, each ahead of its kids; p: the top's path. -/
def flat (p : List Nat) : AT → List (List Nat × AT)
  | .node b o k u l a x ks => (p, .node b o k u l a x ks) :: flats p 0 ks
def flats (p : List Nat) (i : Nat) : List AT → List (List Nat × AT)
  | [] => []
  | t :: r => flat (p ++ [i]) t ++ flats p (i + 1) r
end
theorem flat_eq (p : List Nat) (t : AT) : flat p t = (p, t) :: flats p 0 t.kids := by
  cases t
  rw [flat]
  rfl
theorem flats_nil (p : List Nat) (i : Nat) : flats p i [] = [] := by rw [flats]
theorem flats_cons (p : List Nat) (i : Nat) (t : AT) (r : List AT) : flats p i (t :: r) = flat (p ++ [i]) t ++ flats p (i + 1) r := by rw [flats]
theorem mem_flats {p : List Nat} {x : List Nat × AT} : ∀ {ks : List AT} {i : Nat}, x ∈ flats p i ks → ∃ j k, ks[j]? = some k ∧ x ∈ flat (p ++ [i + j]) k
  | [], i, h => by rw [flats_nil] at h; cases h
  | t :: r, i, h => by
    rw [flats_cons] at h
    rcases List.mem_append.1 h with h | h
    · exact ⟨0, t, rfl, h⟩
    · obtain ⟨j, k, h1, h2⟩ := mem_flats h
      exact ⟨j + 1, k, h1, by rwa [show i + (j + 1) = i + 1 + j by omega]⟩
theorem flats_mem {p : List Nat} {x : List Nat × AT} : ∀ {ks : List AT} {i j : Nat} {k : AT}, ks[j]? = some k → x ∈ flat (p ++ [i + j]) k → x ∈ flats p i ks
  | [], i, j, k, h, _ => by simp at h
  | t :: r, i, 0, k, h, hx => by
    simp at h
    subst h
    rw [flats_cons]
    exact List.mem_append_left _ hx
  | t :: r, i, j + 1, k, h, hx => by
    rw [flats_cons]
    refine List.mem_append_right _ (flats_mem (j := j) (by simpa using h) ?_)
    rwa [show i + 1 + j = i + (j + 1) by omega]
mutual
/-- All nodes. -/
def all : AT → List AT
  | .node b o k u l a x ks => .node b o k u l a x ks :: alls ks
def alls : List AT → List AT
  | [] => []
  | t :: r => all t ++ alls r
end
theorem all_eq (t : AT) : all t = t :: alls t.kids := by
  cases t
  rw [all]
  rfl
theorem alls_eq (ks : List AT) : alls ks = ks.flatMap all := by
  induction ks with
  | nil => rw [alls]; rfl
  | cons t r ih => rw [alls, ih]; rfl
theorem self_mem (t : AT) : t ∈ all t := by rw [all_eq]; simp
theorem kid_mem {t k : AT} (h : k ∈ t.kids) : ∀ x ∈ all k, x ∈ all t := fun x hx => by
  rw [all_eq, alls_eq]
  exact List.mem_cons_of_mem _ (List.mem_flatMap.2 ⟨k, h, hx⟩)
theorem flat_all (t : AT) : ∀ p, (flat p t).map (·.2) = all t := by
  induction t using ind with
  | h t ih =>
    intro p
    rw [flat_eq, all_eq, alls_eq]
    have : ∀ (ks : List AT), (∀ k ∈ ks, ∀ p, (flat p k).map (·.2) = all k) → ∀ i, (flats p i ks).map (·.2) = ks.flatMap all := fun ks => by
      induction ks with
      | nil => intro _ i; rw [flats_nil]; rfl
      | cons k r ih2 =>
        intro hk i
        rw [flats_cons, List.map_append, hk k (by simp), ih2 (fun k' hk' => hk k' (by simp [hk'])), List.flatMap_cons]
    rw [List.map_cons, this t.kids ih]
theorem flat_mem_all {t : AT} {p : List Nat} {x : List Nat × AT} (h : x ∈ flat p t) : x.2 ∈ all t := by
  rw [← flat_all t p]
  exact List.mem_map_of_mem h
/-- The way from the top down to a place, the last first; rp: the path, the last first. -/
def way (t : AT) : List Nat → List AT
  | [] => [t]
  | i :: rp => (((way t rp).headD default).kids.getD i default) :: way t rp
theorem way_length (t : AT) (rp : List Nat) : (way t rp).length = rp.length + 1 := by
  induction rp with
  | nil => rfl
  | cons i r ih => rw [way, List.length_cons, ih]; rfl
def last (t : AT) (rp : List Nat) : AT := (way t rp).headD default
theorem way_eq (t : AT) (rp : List Nat) : way t rp = last t rp :: (way t rp).tail := by
  cases rp <;> rfl
theorem last_cons (t : AT) (i : Nat) (rp : List Nat) : last t (i :: rp) = (last t rp).kids.getD i default := rfl
theorem way_cons (t : AT) (i : Nat) (rp : List Nat) : way t (i :: rp) = last t (i :: rp) :: way t rp := rfl
/-- What is still to come, when the kids of the place from number j on have not come. -/
def rest (t : AT) : List Nat → Nat → List (List Nat × AT)
  | [], j => flats [] j (t.kids.drop j)
  | i :: rp, j => flats (i :: rp).reverse j ((last t (i :: rp)).kids.drop j) ++ rest t rp (i + 1)
theorem rest_at (t : AT) (rp : List Nat) (j : Nat) : ∃ tl, rest t rp j = flats rp.reverse j ((last t rp).kids.drop j) ++ tl ∧ (∀ j', rest t rp j' = flats rp.reverse j' ((last t rp).kids.drop j') ++ tl) := by
  cases rp with
  | nil => exact ⟨[], by rw [rest, List.append_nil]; rfl, fun j' => by rw [rest, List.append_nil]; rfl⟩
  | cons i r => exact ⟨rest t r (i + 1), rfl, fun _ => rfl⟩
theorem flat_start (t : AT) : flat [] t = ([], t) :: rest t [] 0 := by rw [flat_eq, rest]; rfl
theorem rest_kid (t : AT) (rp : List Nat) (j : Nat) {k : AT} (h : (last t rp).kids[j]? = some k) : rest t rp j = (rp.reverse ++ [j], k) :: rest t (j :: rp) 0 := by
  obtain ⟨tl, h1, h2⟩ := rest_at t rp j
  have hk : last t (j :: rp) = k := by rw [last_cons, List.getD_eq_getElem?_getD, h]; rfl
  have hj : j < (last t rp).kids.length := (List.getElem?_eq_some_iff.1 h).1
  have hd : (last t rp).kids.drop j = k :: (last t rp).kids.drop (j + 1) := by
    rw [List.drop_eq_getElem_cons hj]
    rw [List.getElem?_eq_getElem hj] at h
    rw [Option.some.inj h]
  rw [h1, hd, flats_cons, flat_eq, rest, hk, h2 (j + 1), List.reverse_cons, List.drop_zero]
  simp
theorem rest_up (t : AT) (i : Nat) (rp : List Nat) (j : Nat) (h : (last t (i :: rp)).kids.length ≤ j) : rest t (i :: rp) j = rest t rp (i + 1) := by
  rw [rest, List.drop_eq_nil_of_le h, flats_nil]
  rfl
theorem rest_end (t : AT) (j : Nat) (h : t.kids.length ≤ j) : rest t [] j = [] := by
  rw [rest, List.drop_eq_nil_of_le h, flats_nil]
/-- Every place on the way is a node of the tree. -/
def Good (t : AT) : List Nat → Prop
  | [] => True
  | i :: rp => i < (last t rp).kids.length ∧ Good t rp
theorem last_mem {t : AT} : ∀ {rp : List Nat}, Good t rp → last t rp ∈ all t
  | [], _ => self_mem t
  | i :: rp, h => by
    have ih := last_mem h.2
    have hk : (last t rp).kids.getD i default ∈ (last t rp).kids := by
      rw [List.getD_eq_getElem?_getD, List.getElem?_eq_getElem h.1]
      exact List.getElem_mem h.1
    rw [last_cons]
    have : ∀ y z : AT, y ∈ all z → ∀ x, x ∈ y.kids → x ∈ all z := fun y z => by
      induction z using ind with
      | h z ihz =>
        intro hy x hx
        rw [all_eq, alls_eq] at hy
        rcases List.mem_cons.1 hy with rfl | hy
        · exact kid_mem hx x (self_mem x)
        · obtain ⟨k, hk, hyk⟩ := List.mem_flatMap.1 hy
          exact kid_mem hk x (ihz k hk hyk x hx)
    exact this _ _ ih _ hk
theorem flat_kid {i : Nat} {k : AT} : ∀ (t : AT) (p0 p : List Nat) (x : AT), (p, x) ∈ flat p0 t → x.kids[i]? = some k → (p ++ [i], k) ∈ flat p0 t := fun t => by
  induction t using ind with
  | h t ih =>
    intro p0 p x hx hk
    rw [flat_eq] at hx ⊢
    rcases List.mem_cons.1 hx with e | hx
    · injection e with e1 e2
      subst e1 e2
      refine List.mem_cons_of_mem _ (flats_mem (j := i) hk ?_)
      rw [Nat.zero_add, flat_eq]
      exact List.mem_cons_self
    · obtain ⟨j, y, hy, hx⟩ := mem_flats hx
      exact List.mem_cons_of_mem _ (flats_mem hy (ih y (List.mem_of_getElem? hy) _ _ _ hx hk))
theorem last_flat {t : AT} : ∀ {rp : List Nat}, Good t rp → (rp.reverse, last t rp) ∈ flat [] t
  | [], _ => by rw [flat_eq]; exact List.mem_cons_self
  | i :: rp, h => by
    rw [List.reverse_cons, last_cons]
    refine flat_kid t [] _ _ (last_flat h.2) ?_
    rw [List.getD_eq_getElem?_getD, List.getElem?_eq_getElem h.1]
    rfl
end AT
end Go.Proofs.YtfmlmdfehaajbaaGreatDoor
namespace Go.Proofs.YtfmlmdfehaajbaaGreatDoor
open Go.RowKit

/-- Attributes as they lie. -/
def AttrsAt (W : World) (p : Option Addr) (l : List AttrM) : Prop :=
  0 < l.length → ∃ b off, p = some ⟨b, off, none⟩ ∧ ∀ j (h : j < l.length), W.cell? ⟨b, off + j * 3, none⟩ = some (.string l[j].uri) ∧ W.cell? ⟨b, off + j * 3 + 1, none⟩ = some (.string l[j].loc) ∧ W.cell? ⟨b, off + j * 3 + 2, none⟩ = some (.string l[j].val)
/-- What a node's three lists and texts are, wherever the node itself lies. -/
structure PartsAt (W : World) (t : AT) (pa : Option Addr) (ca : Nat) (pk : Option Addr) (ck : Nat) : Prop where
  attrs : AttrsAt W pa t.attrs
  acap : t.attrs.length ≤ ca
  anil : pa = none → ca = 0
  kids : 0 < t.kids.length → ∃ kb ko, pk = some ⟨kb, ko, none⟩ ∧ ∀ i (h : i < t.kids.length), t.kids[i].b = kb ∧ t.kids[i].o = ko + i * 6
  kcap : t.kids.length ≤ ck
  knil : pk = none → ck = 0
  kind : -9223372036854775808 ≤ t.kind ∧ t.kind ≤ 9223372036854775807
  uri : t.uri.size ≤ 140737488351232
  loc : t.loc.size ≤ 140737488351232
  text : t.text.size ≤ 140737488351232
  asz : t.attrs.length ≤ 140737488351232
  ksz : t.kids.length ≤ 140737488351232
  each : ∀ a ∈ t.attrs, a.uri.size ≤ 140737488351232 ∧ a.loc.size ≤ 140737488351232 ∧ a.val.size ≤ 140737488351232
/-- A node where it lies. -/
def NodeAt (W : World) (t : AT) : Prop := ∃ pa ca pk ck, PartsAt W t pa ca pk ck ∧
  W.cell? ⟨t.b, t.o, none⟩ = some (.int .i64 t.kind) ∧ W.cell? ⟨t.b, t.o + 1, none⟩ = some (.string t.uri) ∧ W.cell? ⟨t.b, t.o + 2, none⟩ = some (.string t.loc) ∧
  W.cell? ⟨t.b, t.o + 3, none⟩ = some (.slice pa t.attrs.length ca) ∧ W.cell? ⟨t.b, t.o + 4, none⟩ = some (.slice pk t.kids.length ck) ∧ W.cell? ⟨t.b, t.o + 5, none⟩ = some (.string t.text)
def TreeAt (W : World) (t : AT) : Prop := ∀ x ∈ t.all, NodeAt W x
/-- All kids' trees: what a node that is handed over by its value stands on. -/
def KidsAt (W : World) (t : AT) : Prop := ∀ k ∈ t.kids, TreeAt W k
/-- Cells stand. -/
def Stay (W W' : World) : Prop := ∀ a v, W.cell? a = some v → W'.cell? a = some v
theorem Stay.below {W W' : World} (h : Below W.heap.size W W') : Stay W W' := fun a v hc => (h.cell (World.block_lt_of_cell? _ _ hc)).trans hc
theorem Stay.trans {A B C : World} (h : Stay A B) (k : Stay B C) : Stay A C := fun a v hc => k a v (h a v hc)
theorem AttrsAt.stay {W W' : World} {p : Option Addr} {l : List AttrM} (h : AttrsAt W p l) (s : Stay W W') : AttrsAt W' p l := fun h0 => by
  obtain ⟨b, off, e, hc⟩ := h h0
  exact ⟨b, off, e, fun j hj => ⟨s _ _ (hc j hj).1, s _ _ (hc j hj).2.1, s _ _ (hc j hj).2.2⟩⟩
theorem PartsAt.stay {W W' : World} {t : AT} {pa : Option Addr} {ca : Nat} {pk : Option Addr} {ck : Nat} (h : PartsAt W t pa ca pk ck) (s : Stay W W') : PartsAt W' t pa ca pk ck :=
  { h with attrs := h.attrs.stay s }
theorem NodeAt.stay {W W' : World} {t : AT} (h : NodeAt W t) (s : Stay W W') : NodeAt W' t := by
  obtain ⟨pa, ca, pk, ck, h0, h1, h2, h3, h4, h5, h6⟩ := h
  exact ⟨pa, ca, pk, ck, h0.stay s, s _ _ h1, s _ _ h2, s _ _ h3, s _ _ h4, s _ _ h5, s _ _ h6⟩
theorem TreeAt.stay {W W' : World} {t : AT} (h : TreeAt W t) (s : Stay W W') : TreeAt W' t := fun x hx => (h x hx).stay s
theorem TreeAt.below {W W' : World} {t : AT} (h : TreeAt W t) (b : Below W.heap.size W W') : TreeAt W' t := h.stay (Stay.below b)
theorem KidsAt.stay {W W' : World} {t : AT} (h : KidsAt W t) (s : Stay W W') : KidsAt W' t := fun k hk => (h k hk).stay s
theorem TreeAt.top {W : World} {t : AT} (h : TreeAt W t) : NodeAt W t := h t t.self_mem
theorem TreeAt.kid {W : World} {t k : AT} (h : TreeAt W t) (hk : k ∈ t.kids) : TreeAt W k := fun x hx => h x (AT.kid_mem hk x hx)
theorem TreeAt.kids {W : World} {t : AT} (h : TreeAt W t) : KidsAt W t := fun _ hk => h.kid hk
theorem TreeAt.mk {W : World} {t : AT} (h : NodeAt W t) (hk : KidsAt W t) : TreeAt W t := fun x hx => by
  rw [AT.all_eq, AT.alls_eq] at hx
  rcases List.mem_cons.1 hx with rfl | hx
  · exact h
  · obtain ⟨k, h1, h2⟩ := List.mem_flatMap.1 hx
    exact hk k h1 x h2
/-- Where a node's kid lies. -/
theorem PartsAt.kid {W : World} {t : AT} {pa : Option Addr} {ca : Nat} {pk : Option Addr} {ck : Nat} (h : PartsAt W t pa ca pk ck) {i : Nat} (hi : i < t.kids.length) : ∃ kb ko, pk = some ⟨kb, ko, none⟩ ∧ t.kids[i].ptr = .pointer (some ⟨kb, ko + i * 6, none⟩) := by
  obtain ⟨kb, ko, e, hk⟩ := h.kids (by omega)
  obtain ⟨e1, e2⟩ := hk i hi
  exact ⟨kb, ko, e, by unfold AT.ptr; rw [e1, e2]⟩
/-- The value of a node. -/
def nodeV (t : AT) (pa : Option Addr) (ca : Nat) (pk : Option Addr) (ck : Nat) : Value := .agg #[.int .i64 t.kind, .string t.uri, .string t.loc, .slice pa t.attrs.length ca, .slice pk t.kids.length ck, .string t.text]
def nodeC (t : AT) (pa : Option Addr) (ca : Nat) (pk : Option Addr) (ck : Nat) : Array Value := #[.int .i64 t.kind, .string t.uri, .string t.loc, .slice pa t.attrs.length ca, .slice pk t.kids.length ck, .string t.text]
/-- A node that has been laid into a block of its own. -/
theorem NodeAt.boxed {W : World} {t : AT} {pa : Option Addr} {ca : Nat} {pk : Option Addr} {ck : Nat} {D : Nat} {T : TypeId} (h : PartsAt W t pa ca pk ck) (hD : W.heap[D]? = some (.cells (nodeC t pa ca pk ck) T (0, 0))) (hb : t.b = D) (ho : t.o = 0) : NodeAt W t := by
  refine ⟨pa, ca, pk, ck, h, ?_, ?_, ?_, ?_, ?_, ?_⟩ <;> (rw [hb, ho, cell_of_row _ _ _ _ _ _ hD]; rfl)
/-- A node with its kids that is told by its value, put into a block. -/
theorem put_parts {W : World} {t : AT} {pa : Option Addr} {ca : Nat} {pk : Option Addr} {ck : Nat} (b o : Nat) (h : PartsAt W t pa ca pk ck) : PartsAt W (t.put b o) pa ca pk ck := by
  cases t
  exact ⟨h.attrs, h.acap, h.anil, h.kids, h.kcap, h.knil, h.kind, h.uri, h.loc, h.text, h.asz, h.ksz, h.each⟩
theorem put_kids (t : AT) (b o : Nat) : (t.put b o).kids = t.kids := by cases t; rfl
theorem put_b (t : AT) (b o : Nat) : (t.put b o).b = b := by cases t; rfl
theorem put_o (t : AT) (b o : Nat) : (t.put b o).o = o := by cases t; rfl
theorem put_c (t : AT) (b o : Nat) (pa : Option Addr) (ca : Nat) (pk : Option Addr) (ck : Nat) : nodeC (t.put b o) pa ca pk ck = nodeC t pa ca pk ck := by cases t; rfl
theorem TreeAt.boxed {W : World} {t : AT} {pa : Option Addr} {ca : Nat} {pk : Option Addr} {ck : Nat} {D : Nat} {T : TypeId} (h : PartsAt W t pa ca pk ck) (hk : KidsAt W t) (hD : W.heap[D]? = some (.cells (nodeC t pa ca pk ck) T (0, 0))) : TreeAt W (t.put D 0) :=
  TreeAt.mk (NodeAt.boxed (put_parts D 0 h) (by rw [put_c]; exact hD) (put_b t D 0) (put_o t D 0)) (fun k hk' => hk k (by rwa [put_kids] at hk'))
end Go.Proofs.YtfmlmdfehaajbaaGreatDoor
namespace Go.Proofs.YtfmlmdfehaajbaaGreatDoor
open Go.RowKit Go.Shelf

/-- A tree, wherever it lies. -/
inductive PT where
  | node (kind : Int) (uri loc : ByteArray) (attrs : List AttrM) (text : ByteArray) (kids : List PT)
namespace PT
instance : Inhabited PT := ⟨.node 0 ⟨#[]⟩ ⟨#[]⟩ [] ⟨#[]⟩ []⟩
def kind : PT → Int | .node k _ _ _ _ _ => k
def uri : PT → ByteArray | .node _ u _ _ _ _ => u
def loc : PT → ByteArray | .node _ _ l _ _ _ => l
def attrs : PT → List AttrM | .node _ _ _ a _ _ => a
def text : PT → ByteArray | .node _ _ _ _ x _ => x
def kids : PT → List PT | .node _ _ _ _ _ ks => ks
theorem ind {P : PT → Prop} (h : ∀ t, (∀ k ∈ t.kids, P k) → P t) : ∀ t, P t := fun t =>
  PT.rec (motive_1 := P) (motive_2 := fun ks => ∀ k ∈ ks, P k) (fun k u l a x ks ih => h (.node k u l a x ks) ih) (fun k hk => by cases hk) (fun a r h1 h2 k hk => by
    rcases List.mem_cons.1 hk with rfl | hk
    · exact h1
    · exact h2 k hk) t
theorem ext {a b : PT} (h1 : a.kind = b.kind) (h2 : a.uri = b.uri) (h3 : a.loc = b.loc) (h4 : a.attrs = b.attrs) (h5 : a.text = b.text) (h6 : a.kids = b.kids) : a = b := by
  cases a
  cases b
  simp only [kind, uri, loc, attrs, text, kids] at *
  subst h1 h2 h3 h4 h5 h6
  rfl
mutual
def all : PT → List PT | .node k u l a x ks => .node k u l a x ks :: alls ks
def alls : List PT → List PT
  | [] => []
  | t :: r => all t ++ alls r
end
theorem all_eq (t : PT) : all t = t :: alls t.kids := by
  cases t
  rw [all]
  rfl
theorem alls_eq (ks : List PT) : alls ks = ks.flatMap all := by
  induction ks with
  | nil => rw [alls]; rfl
  | cons t r ih => rw [alls, ih]; rfl
theorem self_mem (t : PT) : t ∈ all t := by rw [all_eq]; simp
theorem kid_mem {t k : PT} (h : k ∈ t.kids) : ∀ x ∈ all k, x ∈ all t := fun x hx => by
  rw [all_eq, alls_eq]
  exact List.mem_cons_of_mem _ (List.mem_flatMap.2 ⟨k, h, hx⟩)
def count (t : PT) : Nat := t.all.length
end PT
namespace AT
mutual
def plain : AT → PT | .node _ _ k u l a x ks => .node k u l a x (plains ks)
def plains : List AT → List PT
  | [] => []
  | t :: r => plain t :: plains r
end
theorem plains_eq (ks : List AT) : plains ks = ks.map plain := by
  induction ks with
  | nil => rw [plains]; rfl
  | cons t r ih => rw [plains, ih]; rfl
theorem plain_kind (t : AT) : t.plain.kind = t.kind := by cases t; rw [plain]; rfl
theorem plain_uri (t : AT) : t.plain.uri = t.uri := by cases t; rw [plain]; rfl
theorem plain_loc (t : AT) : t.plain.loc = t.loc := by cases t; rw [plain]; rfl
theorem plain_attrs (t : AT) : t.plain.attrs = t.attrs := by cases t; rw [plain]; rfl
theorem plain_text (t : AT) : t.plain.text = t.text := by cases t; rw [plain]; rfl
theorem plain_kids (t : AT) : t.plain.kids = t.kids.map plain := by cases t; rw [plain, plains_eq]; rfl
theorem plain_put (t : AT) (b o : Nat) : (t.put b o).plain = t.plain := by cases t; rw [put, plain, plain]
theorem plain_all (t : AT) : t.plain.all = t.all.map plain := by
  induction t using ind with
  | h t ih =>
    rw [PT.all_eq, all_eq, alls_eq, PT.alls_eq, plain_kids, List.map_cons, List.flatMap_map, List.map_flatMap]
    congr 1
    rw [List.flatMap_def, List.flatMap_def, List.map_congr_left (fun k hk => ih k hk)]
theorem plain_same {a b : AT} (h1 : a.kind = b.kind) (h2 : a.uri = b.uri) (h3 : a.loc = b.loc) (h4 : a.attrs = b.attrs) (h5 : a.text = b.text) (h6 : a.kids.map plain = b.kids.map plain) : a.plain = b.plain :=
  PT.ext (by rw [plain_kind, plain_kind, h1]) (by rw [plain_uri, plain_uri, h2]) (by rw [plain_loc, plain_loc, h3]) (by rw [plain_attrs, plain_attrs, h4]) (by rw [plain_text, plain_text, h5]) (by rw [plain_kids, plain_kids, h6])
end AT
end Go.Proofs.YtfmlmdfehaajbaaGreatDoor
