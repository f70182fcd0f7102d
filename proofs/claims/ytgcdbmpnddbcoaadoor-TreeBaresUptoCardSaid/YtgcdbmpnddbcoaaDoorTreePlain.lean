/- Proved here: trees in plain words: their nodes in order, with their paths, and what is still to come behind any of them. -/
import Derived.Test.YtgcdbmpnddbcoaaDoorTLaw
namespace Go.Proofs.YtgcdbmpnddbcoaaDoor
open Go.RowKit

structure AttrM where
  uri : ByteArray
  loc : ByteArray
  val : ByteArray
  deriving Inhabited
/-- A tree, each node with the address at which it lies. -/
inductive AT where
  | node (b o : Nat) (kind : Int) (uri loc : ByteArray) (attrs : List AttrM) (text : ByteArray) (kids : List AT)
namespace AT
instance : Inhabited AT := ⟨.node 0 0 0 ⟨#[]⟩ ⟨#[]⟩ [] ⟨#[]⟩ []⟩
def b : AT → Nat | .node b _ _ _ _ _ _ _ => b
def o : AT → Nat | .node _ o _ _ _ _ _ _ => o
def kind : AT → Int | .node _ _ k _ _ _ _ _ => k
def uri : AT → ByteArray | .node _ _ _ u _ _ _ _ => u
def loc : AT → ByteArray | .node _ _ _ _ l _ _ _ => l
def attrs : AT → List AttrM | .node _ _ _ _ _ a _ _ => a
def text : AT → ByteArray | .node _ _ _ _ _ _ x _ => x
def kids : AT → List AT | .node _ _ _ _ _ _ _ ks => ks
def ptr (t : AT) : Value := .pointer (some ⟨t.b, t.o, none⟩)
/-- The same tree with its top at another address. -/
def put (b o : Nat) : AT → AT | .node _ _ k u l a x ks => .node b o k u l a x ks
theorem ind {P : AT → Prop} (h : ∀ t, (∀ k ∈ t.kids, P k) → P t) : ∀ t, P t := fun t =>
  AT.rec (motive_1 := P) (motive_2 := fun ks => ∀ k ∈ ks, P k) (fun b o k u l a x ks ih => h (.node b o k u l a x ks) ih) (fun k hk => by cases hk) (fun a r h1 h2 k hk => by
    rcases List.mem_cons.1 hk with rfl | hk
    · exact h1
    · exact h2 k hk) t
mutual
/-- All nodes with their paths, each ahead of its kids; p: the top's path. -/
def flat (p : List Nat) : AT → List (List Nat × AT)
  | .node b o k u l a x ks => (p, .node b o k u l a x ks) :: flats p 0 ks
def flats (p : List Nat) (i : Nat) : List AT → List (List Nat × AT)
  | [] => []
  | t :: r => flat (p ++ [i]) t ++ flats p (i + 1) r
end
theorem flat_eq (p : List Nat) (t : AT) : flat p t = (p, t) :: flats p 0 t.kids := by
  cases t
  rw [flat]
  rfl
theorem flats_nil (p : List Nat) (i : Nat) : flats p i [] = [] := by rw [flats]
theorem flats_cons (p : List Nat) (i : Nat) (t : AT) (r : List AT) : flats p i (t :: r) = flat (p ++ [i]) t ++ flats p (i + 1) r := by rw [flats]
theorem mem_flats {p : List Nat} {x : List Nat × AT} : ∀ {ks : List AT} {i : Nat}, x ∈ flats p i ks → ∃ j k, ks[j]? = some k ∧ x ∈ flat (p ++ [i + j]) k
  | [], i, h => by rw [flats_nil] at h; cases h
  | t :: r, i, h => by
    rw [flats_cons] at h
    rcases List.mem_append.1 h with h | h
    · exact ⟨0, t, rfl, h⟩
    · obtain ⟨j, k, h1, h2⟩ := mem_flats h
      exact ⟨j + 1, k, h1, by rwa [show i + (j + 1) = i + 1 + j by omega]⟩
theorem flats_mem {p : List Nat} {x : List Nat × AT} : ∀ {ks : List AT} {i j : Nat} {k : AT}, ks[j]? = some k → x ∈ flat (p ++ [i + j]) k → x ∈ flats p i ks
  | [], i, j, k, h, _ => by simp at h
  | t :: r, i, 0, k, h, hx => by
    simp at h
    subst h
    rw [flats_cons]
    exact List.mem_append_left _ hx
  | t :: r, i, j + 1, k, h, hx => by
    rw [flats_cons]
    refine List.mem_append_right _ (flats_mem (j := j) (by simpa using h) ?_)
    rwa [show i + 1 + j = i + (j + 1) by omega]
mutual
/-- All nodes. -/
def all : AT → List AT
  | .node b o k u l a x ks => .node b o k u l a x ks :: alls ks
def alls : List AT → List AT
  | [] => []
  | t :: r => all t ++ alls r
end
theorem all_eq (t : AT) : all t = t :: alls t.kids := by
  cases t
  rw [all]
  rfl
theorem alls_eq (ks : List AT) : alls ks = ks.flatMap all := by
  induction ks with
  | nil => rw [alls]; rfl
  | cons t r ih => rw [alls, ih]; rfl
theorem self_mem (t : AT) : t ∈ all t := by rw [all_eq]; simp
theorem kid_mem {t k : AT} (h : k ∈ t.kids) : ∀ x ∈ all k, x ∈ all t := fun x hx => by
  rw [all_eq, alls_eq]
  exact List.mem_cons_of_mem _ (List.mem_flatMap.2 ⟨k, h, hx⟩)
theorem flat_all (t : AT) : ∀ p, (flat p t).map (·.2) = all t := by
  induction t using ind with
  | h t ih =>
    intro p
    rw [flat_eq, all_eq, alls_eq]
    have : ∀ (ks : List AT), (∀ k ∈ ks, ∀ p, (flat p k).map (·.2) = all k) → ∀ i, (flats p i ks).map (·.2) = ks.flatMap all := fun ks => by
      induction ks with
      | nil => intro _ i; rw [flats_nil]; rfl
      | cons k r ih2 =>
        intro hk i
        rw [flats_cons, List.map_append, hk k (by simp), ih2 (fun k' hk' => hk k' (by simp [hk'])), List.flatMap_cons]
    rw [List.map_cons, this t.kids ih]
theorem flat_mem_all {t : AT} {p : List Nat} {x : List Nat × AT} (h : x ∈ flat p t) : x.2 ∈ all t := by
  rw [← flat_all t p]
  exact List.mem_map_of_mem h
/-- The way from the top down to a place, the last first; rp: the path, the last first. -/
def way (t : AT) : List Nat → List AT
  | [] => [t]
  | i :: rp => (((way t rp).headD default).kids.getD i default) :: way t rp
theorem way_length (t : AT) (rp : List Nat) : (way t rp).length = rp.length + 1 := by
  induction rp with
  | nil => rfl
  | cons i r ih => rw [way, List.length_cons, ih]; rfl
def last (t : AT) (rp : List Nat) : AT := (way t rp).headD default
theorem way_eq (t : AT) (rp : List Nat) : way t rp = last t rp :: (way t rp).tail := by
  cases rp <;> rfl
theorem last_cons (t : AT) (i : Nat) (rp : List Nat) : last t (i :: rp) = (last t rp).kids.getD i default := rfl
theorem way_cons (t : AT) (i : Nat) (rp : List Nat) : way t (i :: rp) = last t (i :: rp) :: way t rp := rfl
/-- What is still to come, when the kids of the place from number j on have not come. -/
def rest (t : AT) : List Nat → Nat → List (List Nat × AT)
  | [], j => flats [] j (t.kids.drop j)
  | i :: rp, j => flats (i :: rp).reverse j ((last t (i :: rp)).kids.drop j) ++ rest t rp (i + 1)
theorem rest_at (t : AT) (rp : List Nat) (j : Nat) : ∃ tl, rest t rp j = flats rp.reverse j ((last t rp).kids.drop j) ++ tl ∧ (∀ j', rest t rp j' = flats rp.reverse j' ((last t rp).kids.drop j') ++ tl) := by
  cases rp with
  | nil => exact ⟨[], by rw [rest, List.append_nil]; rfl, fun j' => by rw [rest, List.append_nil]; rfl⟩
  | cons i r => exact ⟨rest t r (i + 1), rfl, fun _ => rfl⟩
theorem flat_start (t : AT) : flat [] t = ([], t) :: rest t [] 0 := by rw [flat_eq, rest]; rfl
theorem rest_kid (t : AT) (rp : List Nat) (j : Nat) {k : AT} (h : (last t rp).kids[j]? = some k) : rest t rp j = (rp.reverse ++ [j], k) :: rest t (j :: rp) 0 := by
  obtain ⟨tl, h1, h2⟩ := rest_at t rp j
  have hk : last t (j :: rp) = k := by rw [last_cons, List.getD_eq_getElem?_getD, h]; rfl
  have hj : j < (last t rp).kids.length := (List.getElem?_eq_some_iff.1 h).1
  have hd : (last t rp).kids.drop j = k :: (last t rp).kids.drop (j + 1) := by
    rw [List.drop_eq_getElem_cons hj]
    rw [List.getElem?_eq_getElem hj] at h
    rw [Option.some.inj h]
  rw [h1, hd, flats_cons, flat_eq, rest, hk, h2 (j + 1), List.reverse_cons, List.drop_zero]
  simp
theorem rest_up (t : AT) (i : Nat) (rp : List Nat) (j : Nat) (h : (last t (i :: rp)).kids.length ≤ j) : rest t (i :: rp) j = rest t rp (i + 1) := by
  rw [rest, List.drop_eq_nil_of_le h, flats_nil]
  rfl
theorem rest_end (t : AT) (j : Nat) (h : t.kids.length ≤ j) : rest t [] j = [] := by
  rw [rest, List.drop_eq_nil_of_le h, flats_nil]
/-- Every place on the way is a node of the tree. -/
def Good (t : AT) : List Nat → Prop
  | [] => True
  | i :: rp => i < (last t rp).kids.length ∧ Good t rp
theorem last_mem {t : AT} : ∀ {rp : List Nat}, Good t rp → last t rp ∈ all t
  | [], _ => self_mem t
  | i :: rp, h => by
    have ih := last_mem h.2
    have hk : (last t rp).kids.getD i default ∈ (last t rp).kids := by
      rw [List.getD_eq_getElem?_getD, List.getElem?_eq_getElem h.1]
      exact List.getElem_mem h.1
    rw [last_cons]
    have : ∀ y z : AT, y ∈ all z → ∀ x, x ∈ y.kids → x ∈ all z := fun y z => by
      induction z using ind with
      | h z ihz =>
        intro hy x hx
        rw [all_eq, alls_eq] at hy
        rcases List.mem_cons.1 hy with rfl | hy
        · exact kid_mem hx x (self_mem x)
        · obtain ⟨k, hk, hyk⟩ := List.mem_flatMap.1 hy
          exact kid_mem hk x (ihz k hk hyk x hx)
    exact this _ _ ih _ hk
theorem flat_kid {i : Nat} {k : AT} : ∀ (t : AT) (p0 p : List Nat) (x : AT), (p, x) ∈ flat p0 t → x.kids[i]? = some k → (p ++ [i], k) ∈ flat p0 t := fun t => by
  induction t using ind with
  | h t ih =>
    intro p0 p x hx hk
    rw [flat_eq] at hx ⊢
    rcases List.mem_cons.1 hx with e | hx
    · injection e with e1 e2
      subst e1 e2
      refine List.mem_cons_of_mem _ (flats_mem (j := i) hk ?_)
      rw [Nat.zero_add, flat_eq]
      exact List.mem_cons_self
    · obtain ⟨j, y, hy, hx⟩ := mem_flats hx
      exact List.mem_cons_of_mem _ (flats_mem hy (ih y (List.mem_of_getElem? hy) _ _ _ hx hk))
theorem last_flat {t : AT} : ∀ {rp : List Nat}, Good t rp → (rp.reverse, last t rp) ∈ flat [] t
  | [], _ => by rw [flat_eq]; exact List.mem_cons_self
  | i :: rp, h => by
    rw [List.reverse_cons, last_cons]
    refine flat_kid t [] _ _ (last_flat h.2) ?_
    rw [List.getD_eq_getElem?_getD, List.getElem?_eq_getElem h.1]
    rfl
end AT
end Go.Proofs.YtgcdbmpnddbcoaaDoor
