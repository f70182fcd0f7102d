/- Proved here: a ring of numbers, each with one ahead and one behind: one that comes to stand last, one that is taken out. -/
import Derived.Test.YtaigbplidkakhaaRowKit
namespace Go.Proofs.Ytaigbplidkakhaa

def upd (f : Nat → Nat) (a b : Nat) (x : Nat) : Nat := if x = a then b else f x
theorem upd_same (f : Nat → Nat) (a b : Nat) : upd f a b a = b := if_pos rfl
theorem upd_other (f : Nat → Nat) {a x : Nat} (b : Nat) (h : x ≠ a) : upd f a b x = f x := if_neg h
def Linked (nx pv : Nat → Nat) : List Nat → Prop
  | a :: b :: t => nx a = b ∧ pv b = a ∧ Linked nx pv (b :: t)
  | _ => True
theorem linked_append {nx pv : Nat → Nat} {x : Nat} {m : List Nat} : ∀ {l : List Nat}, Linked nx pv (l ++ x :: m) ↔ Linked nx pv (l ++ [x]) ∧ Linked nx pv (x :: m)
  | [] => ⟨fun h => ⟨trivial, h⟩, fun h => h.2⟩
  | [a] => by
    simp only [List.cons_append, List.nil_append, Linked, and_true]
    exact ⟨fun h => ⟨⟨h.1, h.2.1⟩, h.2.2⟩, fun h => ⟨h.1.1, h.1.2, h.2⟩⟩
  | a :: b :: t => by
    have ih := linked_append (nx := nx) (pv := pv) (x := x) (m := m) (l := b :: t)
    simp only [List.cons_append, Linked] at ih ⊢
    rw [ih]
    exact ⟨fun h => ⟨⟨h.1, h.2.1, h.2.2.1⟩, h.2.2.2⟩, fun h => ⟨h.1.1, h.1.2.1, h.1.2.2, h.2⟩⟩
theorem linked_congr {nx pv nx' pv' : Nat → Nat} : ∀ {l : List Nat}, Linked nx pv l → (∀ a ∈ l.dropLast, nx' a = nx a) → (∀ b ∈ l.tail, pv' b = pv b) → Linked nx' pv' l
  | [], _, _, _ => trivial
  | [_], _, _, _ => trivial
  | a :: b :: t, h, h1, h2 => by
    refine ⟨(h1 a (by simp)).trans h.1, (h2 b (by simp)).trans h.2.1, linked_congr h.2.2 (fun x hx => h1 x ?_) (fun x hx => h2 x ?_)⟩
    · simp only [List.dropLast_cons_cons]
      exact List.mem_cons_of_mem _ hx
    · simp only [List.tail_cons] at hx ⊢
      exact List.mem_cons_of_mem _ hx
structure Ring (nx pv : Nat → Nat) (r : Nat) (al : List Nat) : Prop where
  go : Linked nx pv (r :: al ++ [r])
  nodup : (r :: al).Nodup
theorem snoc_of {α : Type} (x : α) (l : List α) : ∃ i y, x :: l = i ++ [y] := ⟨(x :: l).dropLast, (x :: l).getLast (by simp), (List.dropLast_concat_getLast (by simp)).symm⟩
theorem Ring.link {nx pv : Nat → Nat} {r e : Nat} {al : List Nat} (h : Ring nx pv r al) (he : e ∉ r :: al) : pv r ∈ r :: al ∧ Ring (upd (upd nx e r) (pv r) e) (upd (upd pv e (pv r)) r e) r (al ++ [e]) := by
  obtain ⟨i, y, hi⟩ := snoc_of r al
  have hg := h.go
  have hn := h.nodup
  rw [hi] at hg hn he
  have h1 : Linked nx pv (i ++ y :: [r]) := by simpa using hg
  obtain ⟨h2, h3, h4, -⟩ := linked_append.1 h1
  have hy : y ∈ r :: al := by rw [hi]; simp
  have hyi : y ∉ i := fun hm => by
    rw [List.nodup_append] at hn
    exact hn.2.2 y hm y (by simp) rfl
  have hye : y ≠ e := fun h => he (by rw [← h]; simp)
  have hre : r ≠ e := fun h => he (by rw [← hi, ← h]; simp)
  rw [h4]
  refine ⟨hy, ?_, ?_⟩
  · have e1 : r :: (al ++ [e]) ++ [r] = i ++ y :: e :: [r] := by
      rw [← List.cons_append, hi]; simp
    rw [e1]
    refine linked_append.2 ⟨linked_congr h2 (fun a ha => ?_) (fun b hb => ?_), ?_, ?_, ?_, ?_, trivial⟩
    · rw [List.dropLast_concat] at ha
      have hay : a ≠ y := fun h => hyi (by rw [← h]; exact ha)
      have hae : a ≠ e := fun h => he (by rw [← h]; simp [ha])
      rw [upd_other _ _ hay, upd_other _ _ hae]
    · rw [← hi, List.tail_cons] at hb
      have hrb : b ≠ r := fun e => by
        have := h.nodup
        rw [List.nodup_cons] at this
        exact this.1 (e ▸ hb)
      have hbe : b ≠ e := fun e' => he (by rw [← hi, ← e']; exact List.mem_cons_of_mem _ hb)
      rw [upd_other _ _ hrb, upd_other _ _ hbe]
    · exact upd_same _ _ _
    · rw [upd_other _ _ (fun e => hre e.symm), upd_same]
    · rw [upd_other _ _ (fun e => hye e.symm), upd_same]
    · exact upd_same _ _ _
  · have e1 : r :: (al ++ [e]) = i ++ [y] ++ [e] := by rw [← List.cons_append, hi]
    rw [e1, List.nodup_append]
    exact ⟨hn, by simp, fun a ha b hb => by
      rw [List.mem_singleton] at hb
      subst hb
      exact fun e => he (e ▸ ha)⟩
theorem Ring.unlink {nx pv : Nat → Nat} {r e : Nat} {p q : List Nat} (h : Ring nx pv r (p ++ e :: q)) : pv e ∈ r :: p ∧ nx e ∈ r :: q ∧ Ring (upd nx (pv e) (nx e)) (upd pv (nx e) (pv e)) r (p ++ q) := by
  obtain ⟨i, x, hi⟩ := snoc_of r p
  obtain ⟨y, t, hy⟩ : ∃ y t, q ++ [r] = y :: t := by cases q <;> simp
  have hg := h.go
  have e1 : r :: (p ++ e :: q) ++ [r] = i ++ x :: e :: y :: t := by
    have : r :: (p ++ e :: q) ++ [r] = (r :: p) ++ e :: (q ++ [r]) := by simp
    rw [this, hi, hy]; simp
  rw [e1] at hg
  obtain ⟨h1, h2, h3, h4, h5, h6⟩ := linked_append.1 hg
  have hn := h.nodup
  have hn2 : (i ++ [x] ++ e :: q).Nodup := by rw [← hi]; simpa using hn
  rw [List.nodup_append] at hn2
  obtain ⟨n1, n2, n3⟩ := hn2
  rw [List.nodup_cons] at n2
  have hxi : x ∉ i := fun hm => by
    rw [List.nodup_append] at n1
    exact n1.2.2 x hm x (by simp) rfl
  have hrp : r ∉ p := fun hm => by
    have := hi ▸ n1
    rw [List.nodup_cons] at this
    exact this.1 hm
  have hrq : r ∉ q := fun hm => n3 r (by rw [← hi]; simp) r (List.mem_cons_of_mem _ hm) rfl
  have hxq : x ∉ q := fun hm => n3 x (by simp) x (List.mem_cons_of_mem _ hm) rfl
  have hyq : y ∈ r :: q := by
    have : y ∈ q ++ [r] := by rw [hy]; simp
    simpa [or_comm] using this
  rw [h3, h4]
  refine ⟨by rw [hi]; simp, hyq, ?_, ?_⟩
  · have e2 : r :: (p ++ q) ++ [r] = i ++ x :: y :: t := by
      have : r :: (p ++ q) ++ [r] = (r :: p) ++ (q ++ [r]) := by simp
      rw [this, hi, hy]; simp
    rw [e2]
    refine linked_append.2 ⟨linked_congr h1 (fun a ha => ?_) (fun b hb => ?_), upd_same _ _ _, upd_same _ _ _, linked_congr h6 (fun a ha => ?_) (fun b hb => ?_)⟩
    · rw [List.dropLast_concat] at ha
      exact upd_other _ _ (fun e => hxi (e ▸ ha))
    · rw [← hi, List.tail_cons] at hb
      refine upd_other _ _ (fun e => ?_)
      subst e
      rcases List.mem_cons.1 hyq with e | hm
      · exact hrp (e ▸ hb)
      · exact n3 b (by rw [← hi]; exact List.mem_cons_of_mem _ hb) b (List.mem_cons_of_mem _ hm) rfl
    · rw [← hy, List.dropLast_concat] at ha
      exact upd_other _ _ (fun e => hxq (e ▸ ha))
    · refine upd_other _ _ (fun e => ?_)
      subst e
      cases q with
      | nil => simp at hy; rw [hy.2] at hb; cases hb
      | cons z q' =>
        simp only [List.cons_append, List.cons.injEq] at hy
        obtain ⟨rfl, rfl⟩ := hy
        simp only [List.tail_cons, List.mem_append, List.mem_singleton] at hb
        rcases hb with hb | rfl
        · have := n2.2
          rw [List.nodup_cons] at this
          exact this.1 hb
        · exact hrq (by simp)
  · have e2 : r :: (p ++ q) = i ++ [x] ++ q := by rw [← List.cons_append, hi]
    rw [e2, List.nodup_append]
    exact ⟨n1, n2.2, fun a ha b hb => n3 a ha b (List.mem_cons_of_mem _ hb)⟩
/-- Going on from one of the ring. -/
theorem Ring.next {nx pv : Nat → Nat} {r : Nat} {p q : List Nat} {x : Nat} (h : Ring nx pv r (p ++ x :: q)) : nx x = (q ++ [r]).head (by simp) := by
  have hg := h.go
  obtain ⟨y, t, hy⟩ : ∃ y t, q ++ [r] = y :: t := by cases q <;> simp
  have e1 : r :: (p ++ x :: q) ++ [r] = (r :: p) ++ x :: y :: t := by
    have : r :: (p ++ x :: q) ++ [r] = (r :: p) ++ x :: (q ++ [r]) := by simp
    rw [this, hy]
  rw [e1] at hg
  obtain ⟨_, h2, _⟩ := linked_append.1 hg
  simp [hy, h2]
theorem Ring.first {nx pv : Nat → Nat} {r : Nat} {al : List Nat} (h : Ring nx pv r al) : nx r = (al ++ [r]).head (by simp) := by
  have hg := h.go
  cases al with
  | nil => exact hg.1
  | cons a t => exact hg.1
theorem ring_new (nx pv : Nat → Nat) (r : Nat) (h1 : nx r = r) (h2 : pv r = r) : Ring nx pv r [] := ⟨⟨h1, h2, trivial⟩, by simp⟩
end Go.Proofs.Ytaigbplidkakhaa
