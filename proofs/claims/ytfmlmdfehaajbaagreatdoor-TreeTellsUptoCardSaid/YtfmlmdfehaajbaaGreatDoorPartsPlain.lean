/- Proved here: plain facts on trees: how many nodes and how deep by the kids; a kid of a right document's element, as a document's one element, is right. -/
import Derived.Test.YtfmlmdfehaajbaaGreatDoorKit
import Derived.Test.YtfmlmdfehaajbaaGreatDoorRows
import Derived.Test.YtfmlmdfehaajbaaGreatDoorAsks6
import Derived.Lib.LaidTab
import Derived.Lay
import Derived.Shelf.Vars
import Derived.Deep.Strs
import Derived.Test.YtfmlmdfehaajbaaGreatDoorLittle
import Derived.Test.YtfmlmdfehaajbaaGreatDoorChecks
import Derived.Test.YtfmlmdfehaajbaaGreatDoorDepth
import Derived.Test.YtfmlmdfehaajbaaGreatDoorTreeArg
namespace Go.Proofs.YtfmlmdfehaajbaaGreatDoor
open Go.ChangeShapes Go.WideShapes Go.ChangeAt Go.RowKit
open Go.Lib

def listed : List (String × DataW Unit) := [("unicode/utf8.acceptRanges", Rows.laid_unicode_utf8_acceptRanges), ("unicode.asciiFold", Rows.laid_unicode_asciiFold), ("unicode.caseOrbit", Rows.laid_unicode_caseOrbit), ("unicode.CaseRanges", Rows.laid_unicode_CaseRanges), ("unicode/utf8.first", Rows.laid_unicode_utf8_first)]
def u8ren : Go.Shelf.Ren := ⟨fun n => n, fun | 5 => 5 | 119 => 130 | 138 => 132 | 139 => 133 | n => n, fun | 3 => 0 | 4 => 1 | n => n⟩
theorem u8types : U8Types Tryz.prog u8ren := { t5 := by kernel_rfl, t119 := by kernel_rfl, t138 := by kernel_rfl, t139 := by kernel_rfl }
theorem u8extra : U8Extra Tryz.prog u8ren := { n3 := by kernel_rfl, n4 := by kernel_rfl, y3 := by kernel_rfl, y4 := by kernel_rfl, c5 := by kernel_rfl, c119 := by kernel_rfl, c138 := by kernel_rfl }
theorem accept_eq : (Rows.laid_unicode_utf8_acceptRanges : DataW Unit) = acceptData := by kernel_rfl
/-- SOME INT STANDS IN MaxLen: out of the world's shape. -/
theorem max_of {W : World} (h : W.ShapedOpen Tryz.prog) : MaxAt W :=
  cell_of_shapedOpen_int (t := 3) (zero := #[.int .i64 0]) (k := .i64) h (of_decide_eq_true (by kernel_rfl)) (by kernel_rfl) rfl (by kernel_rfl) (by kernel_rfl) (by kernel_rfl)

set_option maxRecDepth 100000 in
theorem fold_of {W : World} (h : VarReads Tryz.prog W "unicode.asciiFold" Rows.laid_unicode_asciiFold) : FoldAt W := by
  obtain ⟨g, t, cs, fuel, p, hg, hty, hvar, hd⟩ := h
  obtain rfl := Option.some.inj ((show Tryz.prog.globalNamed "unicode.asciiFold" = some 2 by kernel_rfl).symm.trans hg)
  obtain rfl := Option.some.inj ((show (Tryz.prog.globals[(2 : Nat)]?).map (·.type) = some 136 by kernel_rfl).symm.trans hty)
  have c1 : Tryz.prog.cellsOf 135 = 1 := by kernel_rfl
  intro k v hkv
  simp only [List.mem_cons, Prod.mk.injEq, List.mem_nil_iff, or_false] at hkv
  have hk : k < 128 := by omega
  obtain ⟨fuel', d, q, hdi, he⟩ := array_elem Tryz.underlying136 hd k hk
  have hd' : d = .lit (.int .u16 (v : Int)) := by
    rcases hkv with ⟨rfl, rfl⟩ | ⟨rfl, rfl⟩ | ⟨rfl, rfl⟩ | ⟨rfl, rfl⟩ | ⟨rfl, rfl⟩ | ⟨rfl, rfl⟩ <;> exact Option.some.inj (hdi.symm.trans (by kernel_rfl))
  subst hd'
  obtain ⟨z, e0, e1, _⟩ := DataW.trod_int Tryz.underlying135 he
  simp only [Prod.mk.injEq, DataW.lit.injEq, Lit.int.injEq, true_and] at e1
  obtain ⟨hz, _⟩ := e1
  rw [c1] at e0
  have g0 := congrArg (·[0]?) e0
  simp only [List.getElem?_take, List.getElem?_drop] at g0
  rw [World.var?_cell hg hvar k, ← Array.getElem?_toList, hz]
  simpa using g0

/-- What trees lean on. -/
structure Leans5 (w : World) : Prop where
  tabs : Tabs w
  fold : FoldAt w
  max : MaxAt w
theorem Leans5.below {w W : World} (h : Leans5 w) (hb : Below w.heap.size w W) : Leans5 W := ⟨h.tabs.below hb, h.fold.below hb, h.max.below hb⟩
set_option maxRecDepth 100000 in
theorem leans5_of {W : World} (h : laidMetH Tryz.prog listed W) (hsh : W.ShapedOpen Tryz.prog) : Leans5 W := by
  rw [MakeChecks.laidMetH_plain Tryz.prog listed W (by kernel_rfl)] at h
  have h1 := laidMet.reads h (n := "unicode/utf8.first") (d := Rows.laid_unicode_utf8_first) (by simp [listed])
  have h2 := laidMet.reads h (n := "unicode/utf8.acceptRanges") (d := Rows.laid_unicode_utf8_acceptRanges) (by simp [listed])
  have h4 := laidMet.reads h (n := "unicode.asciiFold") (d := Rows.laid_unicode_asciiFold) (by simp [listed])
  rw [accept_eq] at h2
  rw [show Rows.laid_unicode_utf8_first = Pinned.utf8First from rfl, Pinned.utf8First_eq] at h1
  exact ⟨utf8Tabs_of_readsT u8types u8extra h1 h2, fold_of h4, max_of hsh⟩
/-- A WORLD FOR THE WITNESS. -/
noncomputable def laidWorld (os : Os) : World := World.laidAll Tryz.prog os listed
theorem laidWorld_os (os : Os) : (laidWorld os).os = os := World.laidAll_os _ _ _
set_option maxRecDepth 100000 in
theorem laidWorld_met (os : Os) (args : Array Value) : laidMet Tryz.prog listed ((laidWorld os).forCall (fun _ _ => 0) ⟨#[], args, []⟩).memory := laidMet_laidAll args (by kernel_rfl) (by kernel_rfl)
end Go.Proofs.YtfmlmdfehaajbaaGreatDoor
namespace Go.Proofs.YtfmlmdfehaajbaaGreatDoor
open Go.RowKit Go.Shelf

theorem lit_count (B : Nat) : (litD B).count = 4 := rfl
theorem lit_uris (B : Nat) : (litD B).all.flatMap AT.uris = [e0, bx 117, e0, e0, e0] := rfl
theorem lit_small (B K : Nat) : ∀ x ∈ ((litD B).put K 0).all, x.text.size < 4294967281 := by
  have e : ((litD B).put K 0).all = [(litD B).put K 0, litA B, litT B, litC B] := rfl
  rw [e]
  intro x hx
  simp at hx
  rcases hx with rfl | rfl | rfl | rfl
  · show (0 : Nat) < _; decide
  · show (0 : Nat) < _; decide
  · show (1 : Nat) < _; decide
  · show (0 : Nat) < _; decide
theorem lit_names : nameB (bx 97) = true ∧ nameB (bx 98) = true ∧ nameB (bx 99) = true := by decide
theorem lit_faults : faultB e0 = false ∧ faultB (bx 117) = false ∧ faultB (bx 49) = false ∧ faultB (bx 120) = false := by decide
set_option maxRecDepth 100000 in
theorem lit_check (B K : Nat) : ((litD B).put K 0).checkA = 0 := rfl
theorem lit_deep (B K : Nat) : ((litD B).put K 0).deep = 3 := rfl
def bare (B : Nat) : AT := .node 0 0 1 e0 e0 [] e0 []
theorem bare_count (B : Nat) : (bare B).count = 1 := rfl
theorem bare_check (B K : Nat) : ((bare B).put K 0).checkA = 30 := rfl
theorem bare_small (B K : Nat) : ∀ x ∈ ((bare B).put K 0).all, x.text.size < 4294967281 := by
  have e : ((bare B).put K 0).all = [(bare B).put K 0] := rfl
  rw [e]
  intro x hx
  simp at hx
  subst hx
  show (0 : Nat) < _
  decide
theorem one_of {l : List ByteArray} {x : ByteArray} (hn : l.Nodup) (h : ∀ s, s ∈ l ↔ s = x) : l = [x] := by
  match l, hn, h with
  | [], _, h => exact absurd ((h x).2 rfl) (by simp)
  | [a], _, h => rw [(h a).1 (by simp)]
  | a :: b :: r, hn, h =>
    have ha := (h a).1 (by simp)
    have hb := (h b).1 (by simp)
    rw [ha, hb] at hn
    exact absurd hn (by simp)
end Go.Proofs.YtfmlmdfehaajbaaGreatDoor
namespace Go.Proofs.YtfmlmdfehaajbaaGreatDoor
open Go.RowKit Go.Shelf

theorem put_kind (t : AT) (b o : Nat) : (t.put b o).kind = t.kind := by cases t; rfl
theorem flat_shift : ∀ (t : AT) (p q : List Nat), AT.flat (p ++ q) t = (AT.flat q t).map (fun x => (p ++ x.1, x.2)) := fun t => by
  induction t using AT.ind with
  | h t ih =>
    intro p q
    rw [AT.flat_eq, AT.flat_eq, List.map_cons]
    have : ∀ (ks : List AT), (∀ k ∈ ks, ∀ p q, AT.flat (p ++ q) k = (AT.flat q k).map (fun x => (p ++ x.1, x.2))) → ∀ i, AT.flats (p ++ q) i ks = (AT.flats q i ks).map (fun x => (p ++ x.1, x.2)) := fun ks => by
      induction ks with
      | nil => intro _ i; rw [AT.flats_nil, AT.flats_nil]; rfl
      | cons k r ih2 =>
        intro hk i
        rw [AT.flats_cons, AT.flats_cons, List.map_append, List.append_assoc, hk k (by simp), ih2 (fun k' hk' => hk k' (by simp [hk']))]
    rw [this t.kids ih]
theorem deepOf_cons (x : List Nat × AT) (xs : List (List Nat × AT)) : deepOf (x :: xs) = max (x.1.length + 1) (deepOf xs) := by
  have go : ∀ (l : List (List Nat × AT)) (m : Nat), l.foldl (fun m x => max m (x.1.length + 1)) m = max m (l.foldl (fun m x => max m (x.1.length + 1)) 0) := fun l => by
    induction l with
    | nil => intro m; simp
    | cons y r ih =>
      intro m
      rw [List.foldl_cons, List.foldl_cons, ih, ih (max 0 _)]
      omega
  unfold deepOf
  rw [List.foldl_cons, go]
  omega
theorem deepOf_cat (xs ys : List (List Nat × AT)) : deepOf (xs ++ ys) = max (deepOf xs) (deepOf ys) := by
  induction xs with
  | nil => show deepOf ys = max 0 _; omega
  | cons x r ih => rw [List.cons_append, deepOf_cons, deepOf_cons, ih]; omega
theorem deepOf_shift (p : List Nat) (xs : List (List Nat × AT)) (h : xs ≠ []) : deepOf (xs.map fun x => (p ++ x.1, x.2)) = p.length + deepOf xs := by
  induction xs with
  | nil => exact absurd rfl h
  | cons x r ih =>
    rw [List.map_cons, deepOf_cons, deepOf_cons]
    by_cases hr : r = []
    · subst hr
      show max ((p ++ x.1).length + 1) 0 = p.length + max (x.1.length + 1) 0
      rw [List.length_append]
      omega
    · rw [ih hr]
      show max ((p ++ x.1).length + 1) _ = _
      rw [List.length_append]
      omega
theorem deep_flat (p : List Nat) (t : AT) : deepOf (AT.flat p t) = p.length + t.deep := by
  have := flat_shift t p []
  rw [List.append_nil] at this
  rw [this, deepOf_shift _ _ (by rw [AT.flat_eq]; simp)]
  rfl
theorem deep_flats : ∀ (ks : List AT) (i : Nat), deepOf (AT.flats [] i ks) = ks.foldl (fun m k => max m (k.deep + 1)) 0 := fun ks => by
  have go : ∀ (l : List AT) (m : Nat), l.foldl (fun m k => max m (k.deep + 1)) m = max m (l.foldl (fun m k => max m (k.deep + 1)) 0) := fun l => by
    induction l with
    | nil => intro m; simp
    | cons y r ih =>
      intro m
      rw [List.foldl_cons, List.foldl_cons, ih, ih (max 0 _)]
      omega
  induction ks with
  | nil => intro i; rw [AT.flats_nil]; rfl
  | cons k r ih =>
    intro i
    rw [AT.flats_cons, deepOf_cat, deep_flat, ih, List.foldl_cons, go r (max 0 _)]
    show max (1 + k.deep) _ = _
    omega
/-- How deep the deepest of some trees is. -/
def deepest (ks : List AT) : Nat := ks.foldl (fun m k => max m k.deep) 0
theorem deepest_snoc (ks : List AT) (k : AT) : deepest (ks ++ [k]) = max (deepest ks) k.deep := by
  unfold deepest
  rw [List.foldl_append]
  rfl
theorem deep_kids (t : AT) : t.deep = deepest t.kids + 1 := by
  have e : t.deep = max 1 (deepOf (AT.flats [] 0 t.kids)) := by
    unfold AT.deep
    rw [AT.flat_eq, deepOf_cons]
    rfl
  have go : ∀ (l : List AT) (a : Nat), l.foldl (fun m k => max m (k.deep + 1)) (a + 1) = l.foldl (fun m k => max m k.deep) a + 1 := fun l => by
    induction l with
    | nil => intro a; rfl
    | cons y r ih =>
      intro a
      rw [List.foldl_cons, List.foldl_cons, show max (a + 1) (y.deep + 1) = max a y.deep + 1 by omega, ih]
  have go2 : ∀ (l : List AT) (m : Nat), l.foldl (fun m k => max m (k.deep + 1)) m = max m (l.foldl (fun m k => max m (k.deep + 1)) 0) := fun l => by
    induction l with
    | nil => intro m; simp
    | cons y r ih =>
      intro m
      rw [List.foldl_cons, List.foldl_cons, ih, ih (max 0 _)]
      omega
  rw [e, deep_flats, ← go2, ← Nat.zero_add 1, go]
  rfl
theorem put_deep (t : AT) (b o : Nat) : (t.put b o).deep = t.deep := by rw [deep_kids, deep_kids, put_kids]
/-- How many nodes some trees have together. -/
def counted (ks : List AT) : Nat := (ks.flatMap AT.all).length
theorem counted_snoc (ks : List AT) (k : AT) : counted (ks ++ [k]) = counted ks + k.count := by
  unfold counted AT.count
  rw [List.flatMap_append, List.length_append]
  simp
theorem count_kids' (t : AT) : t.count = counted t.kids + 1 := by
  unfold AT.count counted
  rw [AT.all_eq, AT.alls_eq, List.length_cons]
theorem counted_le {ks : List AT} {k : AT} (h : k ∈ ks) : k.count ≤ counted ks := by
  obtain ⟨a, b, rfl⟩ := List.append_of_mem h
  unfold counted AT.count
  rw [List.flatMap_append, List.flatMap_cons, List.length_append, List.length_append]
  omega
theorem counted_take (ks : List AT) (i : Nat) : counted (ks.take i) ≤ counted ks := by
  unfold counted
  have := List.take_append_drop i ks
  conv => rhs; rw [← this]
  rw [List.flatMap_append, List.length_append]
  omega
theorem deep_le_count (t : AT) : t.deep ≤ t.count := by
  unfold AT.deep
  refine deepOf_le fun x hx => ?_
  have := AT.depth_lt t [] x hx
  simp at this
  omega
/-- What a right document is. -/
structure Right (t : AT) : Prop where
  kind : t.kind = 1
  misfit : t.all.any AT.misfit = false
  deep : t.tooDeep = false
  count : t.count ≤ 2001
  large : t.all.any AT.tooLarge = false
  named : t.all.any AT.misnamedA = false
  fault : t.all.any (fun x => x.anyT faultB) = false
  order : t.all.any AT.unordered = false
  text : t.all.any AT.unwritableA = false
  roots : t.roots = 1
theorem Right.of {t : AT} (h : t.checkA = 0) : Right t := by
  unfold AT.checkA at h
  by_cases h0 : t.kind = 1
  · rw [if_neg (by simpa using h0)] at h
    cases h1 : t.all.any AT.misfit
    · rw [h1, if_neg (by decide)] at h
      cases h2 : t.tooDeep
      · rw [h2, if_neg (by decide)] at h
        by_cases h3 : 2001 < t.count
        · rw [if_pos h3] at h; cases h
        · rw [if_neg h3] at h
          cases h4 : t.all.any AT.tooLarge
          · rw [h4, if_neg (by decide)] at h
            cases h5 : t.all.any AT.misnamedA
            · rw [h5, if_neg (by decide)] at h
              cases h6 : t.all.any (fun x => x.anyT faultB)
              · rw [h6, if_neg (by decide)] at h
                cases h7 : t.all.any AT.unordered
                · rw [h7, if_neg (by decide)] at h
                  cases h8 : t.all.any AT.unwritableA
                  · rw [h8, if_neg (by decide)] at h
                    by_cases h9 : t.roots = 1
                    · exact ⟨h0, h1, h2, by omega, h4, h5, h6, h7, h8, h9⟩
                    · rw [if_pos h9] at h; cases h
                  · rw [h8] at h; simp at h
                · rw [h7] at h; simp at h
              · rw [h6] at h; simp at h
            · rw [h5] at h; simp at h
          · rw [h4] at h; simp at h
      · rw [h2] at h; simp at h
    · rw [h1] at h; simp at h
  · rw [if_pos h0] at h; cases h
theorem Right.check {t : AT} (h : Right t) : t.checkA = 0 := by
  unfold AT.checkA
  rw [if_neg (by simpa using h.kind), h.misfit, h.deep, h.large, h.named, h.fault, h.order, h.text, if_neg (show ¬ 2001 < t.count by have := h.count; omega), if_neg (show ¬ t.roots ≠ 1 by simpa using h.roots)]
  rfl
theorem put_misfit (t : AT) (b o : Nat) : (t.put b o).misfit = t.misfit := by cases t; rfl
theorem put_tooLarge (t : AT) (b o : Nat) : (t.put b o).tooLarge = t.tooLarge := by cases t; rfl
theorem put_misnamed (t : AT) (b o : Nat) : (t.put b o).misnamedA = t.misnamedA := by cases t; rfl
theorem put_fault (t : AT) (b o : Nat) : (t.put b o).anyT faultB = t.anyT faultB := by cases t; rfl
theorem put_unordered (t : AT) (b o : Nat) : (t.put b o).unordered = t.unordered := by cases t; rfl
theorem put_unwritable (t : AT) (b o : Nat) : (t.put b o).unwritableA = t.unwritableA := by cases t; rfl
theorem put_any (f : AT → Bool) (hf : ∀ x b o, f (AT.put b o x) = f x) (t : AT) (b o : Nat) : (t.put b o).all.any f = t.all.any f := by
  rw [AT.put_all, AT.all_eq t, List.any_cons, List.any_cons, hf]
theorem put_tooDeep (t : AT) (b o : Nat) : (t.put b o).tooDeep = t.tooDeep := by
  unfold AT.tooDeep
  rw [AT.flat_eq, AT.flat_eq [] t, List.any_cons, List.any_cons, put_kids]
  unfold deepAt
  rw [put_kind]
theorem put_roots (t : AT) (b o : Nat) : (t.put b o).roots = t.roots := by
  unfold AT.roots
  rw [put_kids]
/-- What Check says hangs on no address. -/
theorem put_checkA (t : AT) (b o : Nat) : (t.put b o).checkA = t.checkA := by
  unfold AT.checkA
  rw [put_kind, put_any _ put_misfit, put_tooDeep, put_count, put_any _ put_tooLarge, put_any _ put_misnamed, put_any _ put_fault, put_any _ put_unordered, put_any _ put_unwritable, put_roots]
/-- A document with one kid. -/
def docOf (b o : Nat) (x : AT) : AT := .node b o 1 noB noB [] noB [x]
theorem docOf_all (b o : Nat) (x : AT) : (docOf b o x).all = docOf b o x :: x.all := by
  rw [AT.all_eq, AT.alls_eq]
  show _ :: ([x].flatMap AT.all) = _
  simp
theorem docOf_any {f : AT → Bool} {t k x : AT} (h : t.all.any f = false) (hk : k ∈ t.kids) (hx : x ∈ k.kids) (b o b' o' : Nat) (hd : f (docOf b o (x.put b' o')) = false) (hp : f (x.put b' o') = f x) : (docOf b o (x.put b' o')).all.any f = false := by
  rw [docOf_all, List.any_cons, hd, Bool.false_or, AT.put_all, List.any_cons, hp]
  have hxa : ∀ y ∈ x.all, f y = false := fun y hy => by
    have := List.any_eq_false.1 h y (AT.kid_mem hk y (AT.kid_mem hx y hy))
    simpa using this
  rw [hxa x x.self_mem, Bool.false_or, List.any_eq_false]
  intro y hy
  rw [hxa y (by rw [AT.all_eq]; exact List.mem_cons_of_mem _ hy)]
  decide
theorem docOf_fault : faultB noB = false := by decide
theorem part_right {t k x : AT} (h : Right t) (hk : k ∈ t.kids) (hx : x ∈ k.kids) (h2 : x.kind = 2) (b o b' o' : Nat) : Right (docOf b o (x.put b' o')) := by
  have hxk : (x.put b' o').kind = 2 := by rw [put_kind, h2]
  refine ⟨rfl, docOf_any h.misfit hk hx b o b' o' ?_ (put_misfit _ _ _), ?_, ?_, docOf_any h.large hk hx b o b' o' rfl (put_tooLarge _ _ _), docOf_any h.named hk hx b o b' o' rfl (put_misnamed _ _ _),
    docOf_any (f := fun x => x.anyT faultB) h.fault hk hx b o b' o' ?_ (put_fault _ _ _), docOf_any h.order hk hx b o b' o' rfl (put_unordered _ _ _), docOf_any h.text hk hx b o b' o' rfl (put_unwritable _ _ _), ?_⟩
  · unfold AT.misfit
    show (List.any [x.put b' o'] (fun k => !(mayH 1 k.kind)) || _) = false
    rw [List.any_cons, hxk]
    rfl
  · unfold AT.tooDeep
    rw [AT.flat_eq]
    show ((([], docOf b o (x.put b' o')) :: AT.flats [] 0 [x.put b' o']).any deepAt) = false
    rw [List.any_cons, AT.flats_cons, AT.flats_nil, List.append_nil, List.any_eq_false.2, Bool.or_false]
    · rfl
    · intro y hy hd
      have ht := List.any_eq_false.1 h.deep
      obtain ⟨i, hi⟩ := List.getElem?_of_mem hk
      obtain ⟨j, hj⟩ := List.getElem?_of_mem hx
      have up : ∀ q z, (q, z) ∈ AT.flat [] x → ([i, j] ++ q, z) ∈ AT.flat [] t := fun q z hq => by
        rw [AT.flat_eq]
        refine List.mem_cons_of_mem _ (AT.flats_mem (j := i) hi ?_)
        rw [Nat.zero_add, List.nil_append, AT.flat_eq]
        refine List.mem_cons_of_mem _ (AT.flats_mem (j := j) hj ?_)
        have := flat_shift x [i, j] []
        rw [List.append_nil] at this
        rw [Nat.zero_add, show [i] ++ [j] = [i, j] from rfl, this]
        exact List.mem_map.2 ⟨(q, z), hq, rfl⟩
      have hs := flat_shift (x.put b' o') [0] []
      rw [List.append_nil] at hs
      rw [show ([] ++ [0] : List Nat) = [0] from rfl, hs] at hy
      obtain ⟨⟨q, z⟩, hq, rfl⟩ := List.mem_map.1 hy
      have hd' : (z.kind == 2 && decide (33 < ([0] ++ q).length)) = true := hd
      rw [AT.flat_eq, put_kids] at hq
      have hx2 : ∃ z', z'.kind = z.kind ∧ (q, z') ∈ AT.flat [] x := by
        rcases List.mem_cons.1 hq with e | hq
        · injection e with e1 e2
          subst e1 e2
          exact ⟨x, (put_kind _ _ _).symm, by rw [AT.flat_eq]; exact List.mem_cons_self⟩
        · exact ⟨z, rfl, by rw [AT.flat_eq]; exact List.mem_cons_of_mem _ hq⟩
      obtain ⟨z', hz', hq'⟩ := hx2
      refine ht _ (up q z' hq') ?_
      show (z'.kind == 2 && decide (33 < ([i, j] ++ q).length)) = true
      rw [hz']
      simp only [Bool.and_eq_true, decide_eq_true_eq, List.length_append, List.length_cons, List.length_nil] at hd' ⊢
      exact ⟨hd'.1, by omega⟩
  · have h1 := h.count
    have h3 := counted_le hk
    have h4 := counted_le hx
    rw [count_kids'] at h1
    rw [count_kids' k] at h3
    rw [count_kids']
    show counted [x.put b' o'] + 1 ≤ 2001
    have : counted [x.put b' o'] = x.count := by
      rw [← put_count x b' o']
      unfold counted AT.count
      simp
    omega
  · show AT.anyT (docOf b o (x.put b' o')) faultB = false
    unfold AT.anyT
    show (faultB noB || ([] : List AttrM).any _) = false
    rw [docOf_fault]
    rfl
  · unfold AT.roots
    show List.countP (fun k => k.kind == 2) [x.put b' o'] = 1
    rw [List.countP_cons_of_pos (by rw [hxk]; rfl)]
    rfl
end Go.Proofs.YtfmlmdfehaajbaaGreatDoor
