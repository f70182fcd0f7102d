/- Proved here: trees without addresses; when two trees are the same. -/
import Derived.Test.YtgcdbmpnddbcoaaDoorTreeAt
namespace Go.Proofs.YtgcdbmpnddbcoaaDoor
open Go.RowKit Go.Shelf

/-- A tree, wherever it lies. -/
inductive PT where
  | node (kind : Int) (uri loc : ByteArray) (attrs : List AttrM) (text : ByteArray) (kids : List PT)
namespace PT
instance : Inhabited PT := ⟨.node 0 ⟨#[]⟩ ⟨#[]⟩ [] ⟨#[]⟩ []⟩
def kind : PT → Int | .node k _ _ _ _ _ => k
def uri : PT → ByteArray | .node _ u _ _ _ _ => u
def loc : PT → ByteArray | .node _ _ l _ _ _ => l
def attrs : PT → List AttrM | .node _ _ _ a _ _ => a
def text : PT → ByteArray | .node _ _ _ _ x _ => x
def kids : PT → List PT | .node _ _ _ _ _ ks => ks
theorem ind {P : PT → Prop} (h : ∀ t, (∀ k ∈ t.kids, P k) → P t) : ∀ t, P t := fun t =>
  PT.rec (motive_1 := P) (motive_2 := fun ks => ∀ k ∈ ks, P k) (fun k u l a x ks ih => h (.node k u l a x ks) ih) (fun k hk => by cases hk) (fun a r h1 h2 k hk => by
    rcases List.mem_cons.1 hk with rfl | hk
    · exact h1
    · exact h2 k hk) t
theorem ext {a b : PT} (h1 : a.kind = b.kind) (h2 : a.uri = b.uri) (h3 : a.loc = b.loc) (h4 : a.attrs = b.attrs) (h5 : a.text = b.text) (h6 : a.kids = b.kids) : a = b := by
  cases a
  cases b
  simp only [kind, uri, loc, attrs, text, kids] at *
  subst h1 h2 h3 h4 h5 h6
  rfl
mutual
def all : PT → List PT | .node k u l a x ks => .node k u l a x ks :: alls ks
def alls : List PT → List PT
  | [] => []
  | t :: r => all t ++ alls r
end
theorem all_eq (t : PT) : all t = t :: alls t.kids := by
  cases t
  rw [all]
  rfl
theorem alls_eq (ks : List PT) : alls ks = ks.flatMap all := by
  induction ks with
  | nil => rw [alls]; rfl
  | cons t r ih => rw [alls, ih]; rfl
theorem self_mem (t : PT) : t ∈ all t := by rw [all_eq]; simp
theorem kid_mem {t k : PT} (h : k ∈ t.kids) : ∀ x ∈ all k, x ∈ all t := fun x hx => by
  rw [all_eq, alls_eq]
  exact List.mem_cons_of_mem _ (List.mem_flatMap.2 ⟨k, h, hx⟩)
def count (t : PT) : Nat := t.all.length
end PT
namespace AT
mutual
def plain : AT → PT | .node _ _ k u l a x ks => .node k u l a x (plains ks)
def plains : List AT → List PT
  | [] => []
  | t :: r => plain t :: plains r
end
theorem plains_eq (ks : List AT) : plains ks = ks.map plain := by
  induction ks with
  | nil => rw [plains]; rfl
  | cons t r ih => rw [plains, ih]; rfl
theorem plain_kind (t : AT) : t.plain.kind = t.kind := by cases t; rw [plain]; rfl
theorem plain_uri (t : AT) : t.plain.uri = t.uri := by cases t; rw [plain]; rfl
theorem plain_loc (t : AT) : t.plain.loc = t.loc := by cases t; rw [plain]; rfl
theorem plain_attrs (t : AT) : t.plain.attrs = t.attrs := by cases t; rw [plain]; rfl
theorem plain_text (t : AT) : t.plain.text = t.text := by cases t; rw [plain]; rfl
theorem plain_kids (t : AT) : t.plain.kids = t.kids.map plain := by cases t; rw [plain, plains_eq]; rfl
theorem plain_put (t : AT) (b o : Nat) : (t.put b o).plain = t.plain := by cases t; rw [put, plain, plain]
theorem plain_all (t : AT) : t.plain.all = t.all.map plain := by
  induction t using ind with
  | h t ih =>
    rw [PT.all_eq, all_eq, alls_eq, PT.alls_eq, plain_kids, List.map_cons, List.flatMap_map, List.map_flatMap]
    congr 1
    rw [List.flatMap_def, List.flatMap_def, List.map_congr_left (fun k hk => ih k hk)]
theorem plain_same {a b : AT} (h1 : a.kind = b.kind) (h2 : a.uri = b.uri) (h3 : a.loc = b.loc) (h4 : a.attrs = b.attrs) (h5 : a.text = b.text) (h6 : a.kids.map plain = b.kids.map plain) : a.plain = b.plain :=
  PT.ext (by rw [plain_kind, plain_kind, h1]) (by rw [plain_uri, plain_uri, h2]) (by rw [plain_loc, plain_loc, h3]) (by rw [plain_attrs, plain_attrs, h4]) (by rw [plain_text, plain_text, h5]) (by rw [plain_kids, plain_kids, h6])
end AT
end Go.Proofs.YtgcdbmpnddbcoaaDoor
