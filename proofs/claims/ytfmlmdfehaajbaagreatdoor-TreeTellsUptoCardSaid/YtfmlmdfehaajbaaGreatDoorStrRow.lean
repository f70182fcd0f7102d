/- Proved here: rows of texts of the call's own: made longer by a part of another row. -/
import Derived.Test.YtfmlmdfehaajbaaGreatDoorSortNil
import Derived.Lib.Bytealg
import Derived.Test.YtfmlmdfehaajbaaGreatDoorFlatW
namespace Go.Proofs.YtfmlmdfehaajbaaGreatDoor
open Go.RowKit Go.Shelf

/-- They rise, byte by byte. -/
def RiseB (l : List ByteArray) : Prop := l.Pairwise (fun a b => a.data.toList ≤ b.data.toList)
theorem riseB_of {ms : List (List UInt8)} (h : ms.Pairwise (fun x y => x ≤ y)) : RiseB (ms.map (fun b => (⟨b.toArray⟩ : ByteArray))) := by
  unfold RiseB
  rw [List.pairwise_map]
  exact h.imp (fun h => h)
theorem sortR (T : TypeId) (W : World) (B g c : Nat) (xs : List ByteArray) (h : OwnV T W B (some ⟨g, 0, none⟩) c (xs.map Value.string)) (hx : xs.length ≤ 1000000000) :
    Calls Tryz.prog 48 #[.slice (some ⟨g, 0, none⟩) xs.length c] W fun e W' => e = .returned (.tuple #[]) ∧ ∃ l : List ByteArray, (l.Perm xs ∧ RiseB l) ∧ (∀ j (hj : j < l.length), W'.cell? ⟨g, 0 + j, none⟩ = some (.string l[j])) ∧
      (W'.os = W.os ∧ W'.tape = W.tape ∧ W'.output = W.output ∧ W.heap.size ≤ W'.heap.size ∧ ∀ k, k < W.heap.size → k ≠ g → W'.heap[k]? = W.heap[k]?) := by
  obtain ⟨_, hlt, _, cur, hcur⟩ := h.block g 0 rfl
  have hfz : ∀ a : Addr, a.block = g → W.frozen? a = false := fun a ha => by
    simp [World.frozen?, ha, hcur]
  obtain ⟨ss, hss⟩ : ∃ ss, xs.map (fun b => b.data.toList) = ss := ⟨_, rfl⟩
  have hlen : ss.length = xs.length := by rw [← hss, List.length_map]
  have hback : ∀ b : ByteArray, (⟨b.data.toList.toArray⟩ : ByteArray) = b := fun b => by cases b; rfl
  have hH : Go.Sort.Holds Go.Proofs.encStr W g 0 ss.toArray := fun j hj => by
    have hj' : j < xs.length := by rw [← hlen]; simpa using hj
    refine ⟨?_, hfz _ rfl⟩
    rw [Nat.zero_add, h.cell (j := j) (v := .string xs[j]) (by simp [hj'])]
    have : ss.toArray[j]! = xs[j].data.toList := by
      subst hss
      simp [hj']
    rw [this]
  have C := Tryz.sortStrings g 0 c ss W hH hlt (by omega)
  rw [hlen] at C
  refine C.mono ?_
  rintro e W' ⟨rfl, n, os, rfl⟩
  obtain ⟨ms, hms⟩ : ∃ ms, (ss.mergeSort fun x y => decide (x ≤ y)) = ms := ⟨_, rfl⟩
  have hperm : ms.Perm ss := by rw [← hms]; exact List.mergeSort_perm _ _
  have hrise : ms.Pairwise (fun x y => x ≤ y) := by
    have h := List.pairwise_mergeSort (le := fun (x y : List UInt8) => decide (x ≤ y)) (fun a b c h1 h2 => by simp only [decide_eq_true_eq] at h1 h2 ⊢; exact List.le_trans h1 h2) (fun a b => by simp only [Bool.or_eq_true, decide_eq_true_eq]; exact List.le_total a b) ss
    rw [hms] at h
    exact h.imp (fun h => by simpa using h)
  rw [hms]
  refine ⟨rfl, ms.map (fun b => (⟨b.toArray⟩ : ByteArray)), ?_, fun j hj => ?_, ?_⟩
  · refine ⟨?_, ?_⟩
    rotate_left
    · exact riseB_of hrise
    have := hperm.map (fun b => (⟨b.toArray⟩ : ByteArray))
    rw [← hss, List.map_map] at this
    have e : xs.map ((fun b => (⟨b.toArray⟩ : ByteArray)) ∘ fun b => b.data.toList) = xs := by
      clear hss hlen hH C hperm this h hx
      induction xs with
      | nil => rfl
      | cons a r ih => rw [List.map_cons, ih]; rfl
    rwa [e] at this
  · have hj2 : j < ms.length := by simpa using hj
    have hsz : ms.length = ss.length := hperm.length_eq
    have hH2 : Go.Sort.Holds Go.Proofs.encStr (Go.Sort.ahead W n) g 0 ss.toArray := hH
    have hc := Go.Sort.holds_putRow Go.Proofs.encStr (Go.Sort.ahead W n) g 0 ss.toArray ms.toArray hH2 (by simp [hsz]) j (by simpa using hj2)
    have hc1 := hc.1
    have hlt2 : g < (Go.Sort.putRow Go.Proofs.encStr (Go.Sort.ahead W n) g 0 ms.toArray).heap.size := by simpa using hlt
    have := (World.cell?_of_block (w := Go.Sort.putRow Go.Proofs.encStr (Go.Sort.ahead W n) g 0 ms.toArray) (a := ⟨g, 0 + j, none⟩) (Go.Sort.heap_grow_old _ os hlt2)).trans hc1
    rw [this]
    have e : ms.toArray[j]! = ms[j] := by simp [hj2]
    rw [e, List.getElem_map]
  · refine ⟨rfl, rfl, rfl, by simp, fun k hk hne => ?_⟩
    rw [Go.Sort.heap_grow_old _ os (by simpa using hk)]
    have hne' : g ≠ k := fun e => hne e.symm
    show ((Go.Sort.ahead W n).heap.modify g _)[k]? = _
    rw [Array.getElem?_modify, if_neg hne']
    rfl
end Go.Proofs.YtfmlmdfehaajbaaGreatDoor
namespace Go.Proofs.YtfmlmdfehaajbaaGreatDoor

/-- What makes of two an order: -1, 0 or 1; turned about it is turned; one behind the other. -/
structure IsOrd {α : Type} (f : α → α → Int) : Prop where
  rng : ∀ a b, f a b = -1 ∨ f a b = 0 ∨ f a b = 1
  anti : ∀ a b, f b a = - f a b
  lt : ∀ a b c, f a b = -1 → f b c = -1 → f a c = -1
  same : ∀ a b c, f a b = 0 → f a c = f b c

theorem IsOrd.same_r {α : Type} {f : α → α → Int} (h : IsOrd f) (a b c : α) (e : f b c = 0) : f a b = f a c := by
  have h1 := h.same b c a e
  have h2 := h.anti a b
  have h3 := h.anti a c
  omega
/-- What the statement on orders asks of three. -/
theorem IsOrd.three {α : Type} {f : α → α → Int} (h : IsOrd f) (a b c : α) : f a b = - f b a ∧ ¬ (f a b ≤ 0 ∧ f b c ≤ 0 ∧ 0 < f a c) ∧ ¬ (0 ≤ f a b ∧ 0 ≤ f b c ∧ f a c < 0) ∧ ¬ (f a b = 0 ∧ f b c ≠ f a c) := by
  have r1 := h.rng a b
  have r2 := h.rng b c
  have r3 := h.rng a c
  have a1 := h.anti a b
  have a2 := h.anti b c
  have a3 := h.anti a c
  have l1 := h.lt a b c
  have l2 := h.lt c b a
  have s1 := h.same a b c
  have s2 := h.same_r a b c
  refine ⟨by omega, ?_, ?_, ?_⟩ <;> intro x <;> rcases r1 with r1 | r1 | r1 <;> rcases r2 with r2 | r2 | r2 <;> first | omega | (have := l1 r1 r2; omega) | (have := s1 r1; omega) | (have := s2 r2; omega) | (have := l2 (by omega) (by omega); omega)

/-- One behind the other: the second where the first says nothing. -/
def lexI (x y : Int) : Int := if x = 0 then y else x
theorem IsOrd.lex {α : Type} {f g : α → α → Int} (hf : IsOrd f) (hg : IsOrd g) : IsOrd (fun a b => lexI (f a b) (g a b)) := by
  refine ⟨fun a b => ?_, fun a b => ?_, fun a b c => ?_, fun a b c => ?_⟩
  · have r1 := hf.rng a b
    have r2 := hg.rng a b
    simp only [lexI]; split <;> omega
  · have a1 := hf.anti a b
    have a2 := hg.anti a b
    simp only [lexI]; split <;> split <;> omega
  · have r1 := hf.rng a b
    have r2 := hf.rng b c
    have l1 := hf.lt a b c
    have l2 := hg.lt a b c
    have s1 := hf.same a b c
    have s2 := hf.same_r a b c
    simp only [lexI]
    intro h1 h2
    by_cases e1 : f a b = 0 <;> by_cases e2 : f b c = 0 <;> simp only [e1, e2, if_true, if_false] at h1 h2
    · have e3 : f a c = 0 := by rw [s1 e1]; exact e2
      rw [if_pos e3]; exact l2 h1 h2
    · have e3 : f a c = -1 := by rw [s1 e1]; exact h2
      rw [if_neg (by omega)]; exact e3
    · have e3 : f a c = -1 := by rw [← s2 e2]; exact h1
      rw [if_neg (by omega)]; exact e3
    · have e3 : f a c = -1 := l1 h1 h2
      rw [if_neg (by omega)]; exact e3
  · have s1 := hf.same a b c
    have s2 := hg.same a b c
    simp only [lexI]
    intro h1
    by_cases e1 : f a b = 0
    · rw [if_pos e1] at h1
      rw [s1 e1, s2 h1]
    · rw [if_neg e1] at h1; exact absurd h1 e1
theorem IsOrd.via {α β : Type} {f : β → β → Int} (h : IsOrd f) (k : α → β) : IsOrd (fun a b => f (k a) (k b)) :=
  ⟨fun _ _ => h.rng _ _, fun _ _ => h.anti _ _, fun _ _ _ => h.lt _ _ _, fun _ _ _ => h.same _ _ _⟩

/-- Two numbers. -/
def cmpI (a b : Int) : Int := if a < b then -1 else if b < a then 1 else 0
theorem cmpI_ord : IsOrd cmpI := by
  refine ⟨fun a b => ?_, fun a b => ?_, fun a b c => ?_, fun a b c => ?_⟩ <;> simp only [cmpI]
  · split <;> (try split) <;> simp
  · split <;> split <;> (try split) <;> (try split) <;> omega
  · intro h1 h2
    have e1 : a < b := by split at h1 <;> (try split at h1) <;> omega
    have e2 : b < c := by split at h2 <;> (try split at h2) <;> omega
    rw [if_pos (by omega)]
  · intro h1
    have e : a = b := by split at h1 <;> (try split at h1) <;> omega
    rw [e]

/-- Two lists, by an order of what stands in them. -/
def cmpLs {α : Type} (f : α → α → Int) : List α → List α → Int
  | [], [] => 0
  | [], _ :: _ => -1
  | _ :: _, [] => 1
  | a :: l, b :: m => lexI (f a b) (cmpLs f l m)
theorem cmpLs_ord {α : Type} {f : α → α → Int} (h : IsOrd f) : IsOrd (cmpLs f) := by
  have rng : ∀ a b, cmpLs f a b = -1 ∨ cmpLs f a b = 0 ∨ cmpLs f a b = 1 := by
    intro a
    induction a with
    | nil => intro b; cases b <;> simp [cmpLs]
    | cons x l ih =>
      intro b
      cases b with
      | nil => simp [cmpLs]
      | cons y m =>
        have r1 := h.rng x y
        have r2 := ih m
        simp only [cmpLs, lexI]; split <;> omega
  have anti : ∀ a b, cmpLs f b a = - cmpLs f a b := by
    intro a
    induction a with
    | nil => intro b; cases b <;> simp [cmpLs]
    | cons x l ih =>
      intro b
      cases b with
      | nil => simp [cmpLs]
      | cons y m =>
        have r1 := h.anti x y
        have r2 := ih m
        simp only [cmpLs, lexI]; split <;> split <;> omega
  have same : ∀ a b c, cmpLs f a b = 0 → cmpLs f a c = cmpLs f b c := by
    intro a
    induction a with
    | nil => intro b c e; cases b with
      | nil => rfl
      | cons y m => simp [cmpLs] at e
    | cons x l ih =>
      intro b c e
      cases b with
      | nil => simp [cmpLs] at e
      | cons y m =>
        have e1 : f x y = 0 := by
          simp only [cmpLs, lexI] at e
          by_cases q : f x y = 0
          · exact q
          · rw [if_neg q] at e; exact absurd e q
        have e2 : cmpLs f l m = 0 := by
          simp only [cmpLs, lexI] at e
          rw [if_pos e1] at e; exact e
        cases c with
        | nil => simp [cmpLs]
        | cons z n =>
          simp only [cmpLs]
          rw [h.same x y z e1, ih m n e2]
  refine ⟨rng, anti, ?_, same⟩
  intro a
  induction a with
  | nil =>
    intro b c h1 h2
    cases b with
    | nil => simp [cmpLs] at h1
    | cons y m => cases c with
      | nil => simp [cmpLs] at h2
      | cons z n => simp [cmpLs]
  | cons x l ih =>
    intro b c h1 h2
    cases b with
    | nil => simp [cmpLs] at h1
    | cons y m => cases c with
      | nil => simp [cmpLs] at h2
      | cons z n =>
        simp only [cmpLs, lexI] at h1 h2 ⊢
        have l1 := h.lt x y z
        have s1 := h.same x y z
        have s2 := h.same_r x y z
        by_cases e1 : f x y = 0 <;> by_cases e2 : f y z = 0 <;> simp only [e1, e2, if_true, if_false] at h1 h2
        · rw [if_pos (by rw [s1 e1]; exact e2)]; exact ih m n h1 h2
        · have e3 : f x z = -1 := by rw [s1 e1]; exact h2
          rw [if_neg (by omega)]; exact e3
        · have e3 : f x z = -1 := by rw [← s2 e2]; exact h1
          rw [if_neg (by omega)]; exact e3
        · have e3 : f x z = -1 := l1 h1 h2
          rw [if_neg (by omega)]; exact e3

/-- Two texts, byte by byte. -/
theorem cmpBytes_eq : ∀ a b : List UInt8, Go.Lib.compareBytes a b = cmpLs (fun x y : UInt8 => cmpI x.toNat y.toNat) a b
  | [], [] => rfl
  | [], _ :: _ => rfl
  | _ :: _, [] => rfl
  | a :: l, b :: m => by
    have ih := cmpBytes_eq l m
    have e : cmpLs (fun x y : UInt8 => cmpI x.toNat y.toNat) (a :: l) (b :: m) = lexI (cmpI a.toNat b.toNat) (cmpLs (fun x y : UInt8 => cmpI x.toNat y.toNat) l m) := rfl
    have e2 : Go.Lib.compareBytes (a :: l) (b :: m) = if a < b then -1 else if b < a then 1 else Go.Lib.compareBytes l m := by rw [Go.Lib.compareBytes]
    rw [e, ← ih, e2]
    unfold lexI cmpI
    simp only [UInt8.lt_iff_toNat_lt]
    by_cases h1 : a.toNat < b.toNat
    · simp [h1]
    · by_cases h2 : b.toNat < a.toNat
      · simp [h1, h2]
      · simp [h1, h2]
theorem cmpBytes_ord : IsOrd Go.Lib.compareBytes := by
  have h : IsOrd (cmpLs (fun x y : UInt8 => cmpI x.toNat y.toNat)) := cmpLs_ord (cmpI_ord.via fun x : UInt8 => (x.toNat : Int))
  have e : Go.Lib.compareBytes = cmpLs (fun x y : UInt8 => cmpI x.toNat y.toNat) := by
    funext a b; exact cmpBytes_eq a b
  rw [e]; exact h

/-- Two lists of numbers. -/
def cmpN : List Int → List Int → Int := cmpLs cmpI
theorem cmpN_ord : IsOrd cmpN := cmpLs_ord cmpI_ord
theorem cmpN_same : ∀ a b : List Int, cmpN a b = 0 → a = b
  | [], [], _ => rfl
  | [], _ :: _, h => by simp [cmpN, cmpLs] at h
  | _ :: _, [], h => by simp [cmpN, cmpLs] at h
  | a :: l, b :: m, h => by
    have e1 : cmpI a b = 0 := by
      simp only [cmpN, cmpLs, lexI] at h
      by_cases q : cmpI a b = 0
      · exact q
      · rw [if_neg q] at h; exact absurd h q
    have e2 : cmpN l m = 0 := by
      simp only [cmpN, cmpLs, lexI] at h
      rw [if_pos e1] at h; exact h
    have e3 : a = b := by simp only [cmpI] at e1; split at e1 <;> (try split at e1) <;> omega
    rw [e3, cmpN_same l m e2]
theorem cmpN_refl : ∀ a : List Int, cmpN a a = 0
  | [] => rfl
  | a :: l => by
    have ih := cmpN_refl l
    simp only [cmpN, cmpLs, lexI, cmpI] at ih ⊢
    simp [ih]
/-- What begins with all of the other stands behind it. -/
theorem cmpN_prefix : ∀ a b : List Int, a <+: b → cmpN a b = if a.length = b.length then 0 else -1
  | [], [], _ => rfl
  | [], _ :: _, _ => by simp [cmpN, cmpLs]
  | _ :: _, [], h => by simp at h
  | a :: l, b :: m, h => by
    obtain ⟨rfl, h2⟩ := List.cons_prefix_cons.1 h
    have ih := cmpN_prefix l m h2
    have e : cmpI a a = 0 := by simp [cmpI]
    simp only [cmpN, cmpLs, lexI, e, if_true] at ih ⊢
    rw [ih]; simp
/-- What stands ahead of one that doesn't begin with it: so does all that begins with it. -/
theorem cmpN_ahead : ∀ a b c : List Int, a <+: b → ¬ a <+: c → cmpN a c ≤ 0 → cmpN b c = -1
  | [], _, _, _, h, _ => absurd (List.nil_prefix) h
  | _ :: _, [], _, h, _, _ => by simp at h
  | _ :: _, _ :: _, [], _, _, h => by simp [cmpN, cmpLs] at h
  | a :: l, b :: m, c :: n, h1, h2, h3 => by
    obtain ⟨rfl, h4⟩ := List.cons_prefix_cons.1 h1
    simp only [cmpN, cmpLs, lexI] at h3 ⊢
    have r := cmpI_ord.rng a c
    by_cases e : cmpI a c = 0
    · rw [if_pos e] at h3 ⊢
      have e3 : a = c := by simp only [cmpI] at e; split at e <;> (try split at e) <;> omega
      subst e3
      exact cmpN_ahead l m n h4 (fun q => h2 (List.cons_prefix_cons.2 ⟨rfl, q⟩)) h3
    · rw [if_neg e] at h3 ⊢; omega

/-- A trail, or an attribute's: its steps, whether it is an attribute's, the name's space and what stands behind. -/
structure Tr where
  steps : List Int
  attr : Bool
  uri : ByteArray
  loc : ByteArray
/-- Two names: by their spaces, then by what stands behind. -/
def cmpName (a b : Tr) : Int := lexI (Go.Lib.compareBytes a.uri.data.toList b.uri.data.toList) (Go.Lib.compareBytes a.loc.data.toList b.loc.data.toList)
theorem cmpName_ord : IsOrd cmpName := (cmpBytes_ord.via fun a : Tr => a.uri.data.toList).lex (cmpBytes_ord.via fun a : Tr => a.loc.data.toList)
def cmpTail (a b : Tr) : Int := if a.attr && b.attr then cmpName a b else if a.attr then 1 else if b.attr then -1 else 0
theorem cmpTail_ord : IsOrd cmpTail := by
  refine ⟨fun a b => ?_, fun a b => ?_, fun a b c => ?_, fun a b c => ?_⟩
  · have r := cmpName_ord.rng a b
    unfold cmpTail
    cases a.attr <;> cases b.attr <;> simp [r]
  · have r := cmpName_ord.anti a b
    unfold cmpTail
    cases a.attr <;> cases b.attr <;> simp [r]
  · have r := cmpName_ord.lt a b c
    unfold cmpTail
    cases a.attr <;> cases b.attr <;> cases c.attr <;> simp <;> exact r
  · have r := cmpName_ord.same a b c
    unfold cmpTail
    cases a.attr <;> cases b.attr <;> cases c.attr <;> simp <;> exact r
/-- Two trails. -/
def cmpT (a b : Tr) : Int := lexI (cmpN a.steps b.steps) (cmpTail a b)
theorem cmpT_ord : IsOrd cmpT := (cmpN_ord.via fun a : Tr => a.steps).lex cmpTail_ord
/-- Is b the trail a, or below it? -/
def underT (a b : Tr) : Bool := if a.attr then cmpT a b == 0 else decide (a.steps <+: b.steps)

theorem under_cmp {a b : Tr} (h : underT a b = true) : cmpT a b ≤ 0 := by
  unfold underT at h
  cases ha : a.attr
  · rw [ha] at h
    simp only [Bool.false_eq_true, if_false, decide_eq_true_eq] at h
    have e := cmpN_prefix _ _ h
    unfold cmpT lexI cmpTail
    rw [e, ha]
    cases b.attr <;> simp <;> split <;> omega
  · rw [ha] at h
    simp at h
    omega
theorem under_both {a b : Tr} (h1 : underT a b = true) (h2 : underT b a = true) : cmpT a b = 0 := by
  have h3 := under_cmp h1
  have h4 := under_cmp h2
  have h5 := cmpT_ord.anti a b
  omega
theorem under_ahead {a b c : Tr} (h1 : underT a b = true) (h2 : cmpT a c < 0) (h3 : underT a c = false) : cmpT b c < 0 := by
  cases ha : a.attr
  · have p1 : a.steps <+: b.steps := by
      unfold underT at h1; rw [ha] at h1; simpa using h1
    have p2 : ¬ a.steps <+: c.steps := by
      unfold underT at h3; rw [ha] at h3; simpa using h3
    have h4 : cmpN a.steps c.steps ≤ 0 := by
      unfold cmpT lexI at h2
      split at h2 <;> omega
    have e := cmpN_ahead _ _ _ p1 p2 h4
    unfold cmpT lexI
    rw [e, if_neg (by decide)]; decide
  · have e : cmpT a b = 0 := by
      unfold underT at h1; rw [ha] at h1; simpa using h1
    rw [← cmpT_ord.same a b c e]; exact h2
end Go.Proofs.YtfmlmdfehaajbaaGreatDoor
namespace Go.Proofs.YtfmlmdfehaajbaaGreatDoor

/-- One text stands ahead of another one. -/
def lessU (a b : ByteArray) : Bool := Op.bytesLess a.toList b.toList
theorem less_cmp : ∀ a b : List UInt8, Op.bytesLess a b = decide (Go.Lib.compareBytes a b < 0)
  | [], [] => rfl
  | [], _ :: _ => rfl
  | _ :: _, [] => rfl
  | a :: x, b :: y => by
    rw [Op.bytesLess, Go.Lib.compareBytes, less_cmp x y]
    by_cases h1 : a < b
    · simp [h1]
    · by_cases h2 : b < a
      · have h3 : ¬ a = b := fun e => by subst e; exact h1 h2
        simp [h1, h2, h3]
      · have h3 : a = b := UInt8.le_antisymm (UInt8.not_lt.1 h2) (UInt8.not_lt.1 h1)
        subst h3
        simp [h1]
theorem zero_cmp : ∀ a b : List UInt8, (Go.Lib.compareBytes a b = 0) ↔ a = b
  | [], [] => by simp [Go.Lib.compareBytes]
  | [], _ :: _ => by simp [Go.Lib.compareBytes]
  | _ :: _, [] => by simp [Go.Lib.compareBytes]
  | a :: x, b :: y => by
    rw [Go.Lib.compareBytes]
    by_cases h1 : a < b
    · have h3 : ¬ a = b := fun e => by subst e; exact absurd h1 (UInt8.lt_irrefl a)
      simp [h1, h3]
    · by_cases h2 : b < a
      · have h3 : ¬ a = b := fun e => by subst e; exact h1 h2
        simp [h1, h2, h3]
      · have h3 : a = b := UInt8.le_antisymm (UInt8.not_lt.1 h2) (UInt8.not_lt.1 h1)
        subst h3
        simp [h1, zero_cmp x y]
theorem less_list : ∀ a b : List UInt8, Op.bytesLess a b = true ↔ a < b
  | [], [] => by simp [Op.bytesLess]
  | [], _ :: _ => by simp [Op.bytesLess]
  | _ :: _, [] => by simp [Op.bytesLess]
  | a :: x, b :: y => by
    rw [Op.bytesLess, List.cons_lt_cons_iff]
    have ih := less_list x y
    by_cases h1 : a < b
    · simp [h1]
    · by_cases h2 : b < a
      · have h3 : ¬ a = b := fun e => by subst e; exact h1 h2
        simp [h1, h2, h3]
      · have h3 : a = b := UInt8.le_antisymm (UInt8.not_lt.1 h2) (UInt8.not_lt.1 h1)
        subst h3
        simp [h1, ih]
theorem toList_inj {a b : ByteArray} (h : a.toList = b.toList) : a = b := by
  rw [ByteArray.toList_eq, ByteArray.toList_eq] at h
  exact ByteArray.ext (Array.toList_inj.1 h)
theorem lessU_cmp (a b : ByteArray) : lessU a b = true ↔ Go.Lib.compareBytes a.toList b.toList = -1 := by
  unfold lessU
  rw [less_cmp, decide_eq_true_eq]
  rcases cmpBytes_ord.rng a.toList b.toList with h | h | h <;> omega
theorem lessU_irr (a : ByteArray) : lessU a a = false := by
  cases h : lessU a a
  · rfl
  · have := (lessU_cmp a a).1 h
    have := cmpBytes_ord.anti a.toList a.toList
    omega
theorem lessU_trans {a b c : ByteArray} (h1 : lessU a b = true) (h2 : lessU b c = true) : lessU a c = true :=
  (lessU_cmp a c).2 (cmpBytes_ord.lt _ _ _ ((lessU_cmp a b).1 h1) ((lessU_cmp b c).1 h2))
theorem lessU_tri {a b : ByteArray} (h1 : lessU a b = false) (h2 : a ≠ b) : lessU b a = true := by
  rw [lessU_cmp]
  have h3 := cmpBytes_ord.anti a.toList b.toList
  rcases cmpBytes_ord.rng a.toList b.toList with h | h | h
  · rw [(lessU_cmp a b).2 h] at h1
    cases h1
  · exact absurd (toList_inj ((zero_cmp _ _).1 h)) h2
  · omega
/-- They rise, each once. -/
def RiseL (L : List ByteArray) : Prop := L.Pairwise (fun a b => lessU a b = true)
/-- The place of a text. -/
def lowU (L : List ByteArray) (u : ByteArray) : Nat := (L.takeWhile (fun x => lessU x u)).length
/-- A text put in at its place, if it isn't there. -/
def insU (L : List ByteArray) (u : ByteArray) : List ByteArray := if u = ⟨#[]⟩ ∨ L[lowU L u]? = some u then L else L.take (lowU L u) ++ [u] ++ L.drop (lowU L u)
theorem low_le : ∀ (L : List ByteArray) (u : ByteArray), lowU L u ≤ L.length
  | [], u => Nat.le_refl _
  | x :: L, u => by
    have := low_le L u
    unfold lowU at this ⊢
    rw [List.takeWhile_cons]
    split
    · rw [List.length_cons, List.length_cons]; omega
    · exact Nat.zero_le _
theorem low_lt : ∀ (L : List ByteArray) (u : ByteArray) (j : Nat) (h : j < L.length), j < lowU L u → lessU L[j] u = true
  | x :: L, u, j, h, hj => by
    unfold lowU at hj
    rw [List.takeWhile_cons] at hj
    cases hx : lessU x u with
    | false => rw [hx] at hj; simp at hj
    | true =>
      rw [hx] at hj
      cases j with
      | zero => exact hx
      | succ j => exact low_lt L u j (by simpa using h) (by simpa [lowU] using hj)
theorem low_at : ∀ (L : List ByteArray) (u : ByteArray) (h : lowU L u < L.length), lessU L[lowU L u] u = false
  | x :: L, u, h => by
    cases hx : lessU x u with
    | false =>
      have e : lowU (x :: L) u = 0 := by
        unfold lowU
        rw [List.takeWhile_cons, hx]
        rfl
      simp only [e]
      exact hx
    | true =>
      have e : lowU (x :: L) u = lowU L u + 1 := by
        unfold lowU
        rw [List.takeWhile_cons, hx]
        rfl
      have h2 : lowU L u < L.length := by rw [e] at h; simpa using h
      have := low_at L u h2
      simp only [e, List.getElem_cons_succ]
      exact this
theorem ins_rise {L : List ByteArray} (h : RiseL L) (u : ByteArray) : RiseL (insU L u) := by
  unfold insU
  split
  · exact h
  · rename_i hn
    have hn2 : ¬ L[lowU L u]? = some u := fun e => hn (.inr e)
    unfold RiseL at *
    have hL : L = L.take (lowU L u) ++ L.drop (lowU L u) := (List.take_append_drop _ _).symm
    have h1 : (L.take (lowU L u)).Pairwise (fun a b => lessU a b = true) := h.sublist (List.take_sublist _ _)
    have h2 : (L.drop (lowU L u)).Pairwise (fun a b => lessU a b = true) := h.sublist (List.drop_sublist _ _)
    have hlow : ∀ x ∈ L.take (lowU L u), lessU x u = true := fun x hx => by
      obtain ⟨j, hj, rfl⟩ := List.mem_iff_getElem.1 hx
      have hj1 : j < lowU L u := by rw [List.length_take] at hj; omega
      have hj2 : j < L.length := by rw [List.length_take] at hj; omega
      rw [List.getElem_take]
      exact low_lt L u j hj2 hj1
    have hup : ∀ x ∈ L.drop (lowU L u), lessU u x = true := fun x hx => by
      cases hd : L.drop (lowU L u) with
      | nil => rw [hd] at hx; cases hx
      | cons y r =>
        have hlt : lowU L u < L.length := by
          have := congrArg List.length hd
          rw [List.length_drop, List.length_cons] at this
          omega
        have hy : y = L[lowU L u] := by
          have := List.drop_eq_getElem_cons hlt
          rw [hd] at this
          injection this
        have huy : lessU u y = true := by
          rw [hy]
          exact lessU_tri (low_at L u hlt) (fun e => hn2 (by rw [List.getElem?_eq_getElem hlt, e]))
        rw [hd] at hx h2
        rcases List.mem_cons.1 hx with rfl | hx
        · exact huy
        · exact lessU_trans huy (List.rel_of_pairwise_cons h2 hx)
    rw [List.append_assoc, List.pairwise_append]
    refine ⟨h1, ?_, fun a ha b hb => ?_⟩
    · rw [List.singleton_append, List.pairwise_cons]
      exact ⟨hup, h2⟩
    · rw [List.singleton_append] at hb
      rcases List.mem_cons.1 hb with rfl | hb
      · exact hlow a ha
      · exact lessU_trans (hlow a ha) (hup b hb)
theorem ins_mem (L : List ByteArray) (u s : ByteArray) : s ∈ insU L u ↔ s ∈ L ∨ (s = u ∧ u ≠ ⟨#[]⟩) := by
  unfold insU
  split
  · rename_i h
    constructor
    · exact .inl
    · rintro (h1 | ⟨rfl, h2⟩)
      · exact h1
      · rcases h with h | h
        · exact absurd h h2
        · exact List.mem_of_getElem? h
  · rename_i h
    have hu : u ≠ ⟨#[]⟩ := fun e => h (.inl e)
    constructor
    · intro hs
      rw [List.append_assoc, List.singleton_append, List.mem_append, List.mem_cons] at hs
      rcases hs with hs | rfl | hs
      · exact .inl (List.mem_of_mem_take hs)
      · exact .inr ⟨rfl, hu⟩
      · exact .inl (List.mem_of_mem_drop hs)
    · rw [List.append_assoc, List.singleton_append, List.mem_append, List.mem_cons]
      rintro (hs | ⟨rfl, _⟩)
      · rw [← List.take_append_drop (lowU L u) L, List.mem_append] at hs
        rcases hs with hs | hs
        · exact .inl hs
        · exact .inr (.inr hs)
      · exact .inr (.inl rfl)
theorem ins_len (L : List ByteArray) (u : ByteArray) : (insU L u).length ≤ L.length + 1 := by
  unfold insU
  split
  · omega
  · have := low_le L u
    rw [List.length_append, List.length_append, List.length_take, List.length_drop, List.length_singleton]
    omega
/-- All of them put in. -/
def insAll (L : List ByteArray) (us : List ByteArray) : List ByteArray := us.foldl insU L
theorem insAll_snoc (L us : List ByteArray) (u : ByteArray) : insAll L (us ++ [u]) = insU (insAll L us) u := by
  unfold insAll
  rw [List.foldl_append]
  rfl
theorem insAll_cat (L us vs : List ByteArray) : insAll L (us ++ vs) = insAll (insAll L us) vs := by
  unfold insAll
  rw [List.foldl_append]
theorem insAll_len (L us : List ByteArray) : (insAll L us).length ≤ L.length + us.length := by
  induction us generalizing L with
  | nil => exact Nat.le_refl _
  | cons u us ih =>
    have h1 := ih (insU L u)
    have h2 := ins_len L u
    rw [List.length_cons]
    have e : insAll L (u :: us) = insAll (insU L u) us := rfl
    rw [e]
    omega
theorem insAll_rise {L : List ByteArray} (h : RiseL L) (us : List ByteArray) : RiseL (insAll L us) := by
  induction us generalizing L with
  | nil => exact h
  | cons u us ih => exact ih (ins_rise h u)
theorem insAll_mem (L us : List ByteArray) (s : ByteArray) : s ∈ insAll L us ↔ s ∈ L ∨ (s ∈ us ∧ s ≠ ⟨#[]⟩) := by
  induction us generalizing L with
  | nil => simp [insAll]
  | cons u us ih =>
    have e : insAll L (u :: us) = insAll (insU L u) us := rfl
    rw [e, ih, ins_mem, List.mem_cons]
    constructor
    · rintro ((h | ⟨rfl, h⟩) | ⟨h, h2⟩)
      · exact .inl h
      · exact .inr ⟨.inl rfl, h⟩
      · exact .inr ⟨.inr h, h2⟩
    · rintro (h | ⟨rfl | h, h2⟩)
      · exact .inl (.inl h)
      · exact .inl (.inr ⟨rfl, h2⟩)
      · exact .inr ⟨h, h2⟩
theorem rise_one : ∀ (l L : List ByteArray), RiseL l → RiseL L → (∀ s, s ∈ l ↔ s ∈ L) → l = L
  | [], [], _, _, _ => rfl
  | [], b :: L, _, _, h => by have := (h b).2 (by simp); cases this
  | a :: l, [], _, _, h => by have := (h a).1 (by simp); cases this
  | a :: l, b :: L, h1, h2, h => by
    have ha := (h a).1 (by simp)
    have hb := (h b).2 (by simp)
    have e : a = b := by
      rcases List.mem_cons.1 ha with e | ha
      · exact e
      · rcases List.mem_cons.1 hb with e | hb
        · exact e.symm
        · have r1 := List.rel_of_pairwise_cons h2 ha
          have r2 := List.rel_of_pairwise_cons h1 hb
          have := lessU_trans r1 r2
          rw [lessU_irr] at this
          cases this
    subst e
    rw [rise_one l L (List.Pairwise.of_cons h1) (List.Pairwise.of_cons h2) (fun s => ?_)]
    constructor
    · intro hs
      rcases List.mem_cons.1 ((h s).1 (List.mem_cons_of_mem _ hs)) with rfl | hs'
      · have := List.rel_of_pairwise_cons h1 hs
        rw [lessU_irr] at this
        cases this
      · exact hs'
    · intro hs
      rcases List.mem_cons.1 ((h s).2 (List.mem_cons_of_mem _ hs)) with rfl | hs'
      · have := List.rel_of_pairwise_cons h2 hs
        rw [lessU_irr] at this
        cases this
      · exact hs'
theorem rise_of {l : List ByteArray} (h : RiseB l) (hn : l.Nodup) : RiseL l := by
  unfold RiseB at h
  unfold RiseL
  refine (h.and hn).imp (fun {a b} hab => ?_)
  obtain ⟨h1, h2⟩ := hab
  refine lessU_tri (a := b) (b := a) ?_ (fun e => h2 e.symm)
  cases hc : lessU b a
  · rfl
  · unfold lessU at hc
    rw [ByteArray.toList_eq, ByteArray.toList_eq] at hc
    exact absurd ((less_list _ _).1 hc) (List.not_lt.2 h1)
/-- The program's spaces are the document's. -/
theorem spaces_one {l us : List ByteArray} (h : RiseB l) (hn : l.Nodup) (hm : ∀ s, s ∈ l ↔ s ∈ us ∧ s ≠ ⟨#[]⟩) : l = insAll [] us :=
  rise_one l _ (rise_of h hn) (insAll_rise List.Pairwise.nil us) (fun s => by rw [hm s, insAll_mem]; simp)
end Go.Proofs.YtfmlmdfehaajbaaGreatDoor
namespace Go.Proofs.YtfmlmdfehaajbaaGreatDoor
open Go.RowKit Go.Shelf

/-- Texts that lie in a block from its begin on. -/
def StrRow (W : World) (g : Nat) (L : List ByteArray) : Prop := ∀ j (h : j < L.length), W.cell? ⟨g, j, none⟩ = some (.string L[j])
theorem StrRow.below {W W' : World} {g : Nat} {L : List ByteArray} (h : StrRow W g L) (b : Below W.heap.size W W') : StrRow W' g L := fun j hj => t_cell' b (h j hj)
abbrev OwnS (W : World) (B : Nat) (q : Option Addr) (c : Nat) (xs : List ByteArray) : Prop := OwnV 9 W B q c (xs.map Value.string)
theorem OwnS.row {W : World} {B g c : Nat} {xs : List ByteArray} (h : OwnS W B (some ⟨g, 0, none⟩) c xs) : StrRow W g xs := fun j hj => h.cell (j := j) (v := .string xs[j]) (by simp [hj])
theorem OwnS.empty {W : World} {A B : Nat} (h : W.heap[A]? = some (.cells #[] 9 (0, 0))) (hB : B ≤ A) : OwnS W B (some ⟨A, 0, none⟩) 0 [] :=
  ⟨⟨rfl, .inr ⟨A, 0, #[], rfl, hB, h, Nat.le_refl _, by unfold maxLen; omega, rfl, rfl⟩⟩, Nat.le_refl _, (fun e => by cases e), (fun u hu => by simp at hu), by unfold maxLen; omega⟩
theorem OwnS.one {W : World} {A B : Nat} {u : ByteArray} (h : W.heap[A]? = some (.cells #[.string u] 9 (0, 0))) (hB : B ≤ A) : OwnS W B (some ⟨A, 0, none⟩) 1 [u] :=
  ⟨⟨rfl, .inr ⟨A, 1, #[.string u], rfl, hB, h, Nat.le_refl _, by unfold maxLen; omega, rfl, rfl⟩⟩, Nat.le_refl _, (fun e => by cases e), (fun v hv => by simp at hv; subst hv; rfl), by unfold maxLen; omega⟩
theorem info_str : ∃ i0, Tryz.prog.info? 9 = some i0 ∧ i0.zero = some (.string ⟨#[]⟩) ∧ i0.size = 1 ∧ i0.bytes = 16 := by
  have h := infoStr
  obtain ⟨i0, h1, h2⟩ := Option.map_eq_some_iff.1 h
  simp only [Prod.mk.injEq] at h2
  exact ⟨i0, h1, h2.1, h2.2.1, h2.2.2⟩
theorem appS {W : World} {B : Nat} {q : Option Addr} {c : Nat} {xs : List ByteArray} (h : OwnS W B q c xs) (hB : B ≤ W.heap.size) {a : Addr} (m : Nat) {ys : List ByteArray} (hr : ∀ j (hj : j < ys.length), W.cell? (a.add j) = some (.string ys[j])) (hsz : xs.length + ys.length ≤ 1000000000) :
    ∃ q' c' W', (∀ ty, (Builtin.append_ #[35, 35] ty #[.slice q xs.length c, .slice (some a) ys.length m]).run Tryz.prog W = .ok (.slice q' (xs.length + ys.length) c') W') ∧
      OwnS W' B q' c' (xs ++ ys) ∧ W.grownBy W' (Value.slice q xs.length c).ownBlock := by
  obtain ⟨i0, hi, hz0, hz1, hz2⟩ := info_str
  have h1 : W.ownsRow B 9 1 (.slice q xs.length c) xs.length (xs.map Value.string) := by
    have := h.1
    rwa [List.length_map] at this
  obtain ⟨v', w', hrun, hown', hgrow, hne, hblk⟩ := run_append_own_at (P := Tryz.prog) (w := W) B 35 35 9 i0 _ 1 16 Tryz.underlying35 hi hz0 hz1 hz2 rfl (by decide) _ xs.length (xs.map Value.string) h1 a ys.length m (ys.map Value.string) (by simp) (fun j u hu => by
      have hj : j < ys.length := by
        have := (List.getElem?_eq_some_iff.1 hu).1
        simpa using this
      rw [hr j hj, ← hu]
      simp [hj]) (fun u hu => by
      obtain ⟨s, _, rfl⟩ := List.mem_map.1 hu
      rfl)
    (by unfold maxLen; omega) (by omega) hB
  rw [← List.map_append] at hown'
  have hlen : ((xs ++ ys).map Value.string).length = xs.length + ys.length := by simp
  have hone : ∀ u ∈ (xs ++ ys).map Value.string, u.oneCell' = true := fun u hu => by
    obtain ⟨s, _, rfl⟩ := List.mem_map.1 hu
    rfl
  rcases hown'.2 with ⟨e, h0⟩ | ⟨g, cap, cur, rfl, hb, hh, hc, h1, h2⟩
  · subst e
    refine ⟨none, 0, w', fun ty => ?_, ⟨?_, ?_, fun _ => rfl, hone, by unfold maxLen; omega⟩, hgrow⟩
    · rw [h0, ← hrun]
      rfl
    · rw [hlen, h0]
      rw [h0] at hown'
      exact hown'
    · rw [hlen, h0]
      exact Nat.le_refl _
  · exact ⟨some ⟨g, 0, none⟩, cap, w', fun ty => by rw [← hrun]; rfl, ⟨by rw [hlen]; exact hown', by rw [hlen]; exact hc, (fun e => by cases e), hone, h1⟩, hgrow⟩
/-- Such a row stands behind a step that changes no block of its own. -/
theorem OwnS.stay {W W' : World} {B : Nat} {q : Option Addr} {c : Nat} {xs : List ByteArray} (h : OwnS W B q c xs) (hk : ∀ b, q = some ⟨b, 0, none⟩ → W'.heap[b]? = W.heap[b]?) : OwnS W' B q c xs :=
  h.keep (fun b cur e hb => (hk b e).trans hb)
theorem grown_below {X0 W W' : World} {q : Option Addr} {B n c : Nat} {T : TypeId} {xs : List Value} (hb : Below X0.heap.size X0 W) (ho : OwnV T W B q c xs) (hB : X0.heap.size ≤ B) (hg : W.grownBy W' (Value.slice q n c).ownBlock) : Below X0.heap.size X0 W' :=
  ⟨hg.os.trans hb.os, hg.tape.trans hb.tape, hg.output.trans hb.output, Nat.le_trans hb.size hg.size, fun k hk => (hg.block k (Nat.lt_of_lt_of_le hk hb.size) (fun e => by
    cases q with
    | none => cases e
    | some a =>
      obtain ⟨g', rfl⟩ : ∃ g', a = ⟨g', 0, none⟩ := by
        rcases ho.1.2 with ⟨e1, _⟩ | ⟨g', _, _, e1, _⟩
        · cases e1
        · injection e1 with e1
          injection e1 with e1
          exact ⟨g', e1⟩
      have h1 := (ho.block g' 0 rfl).1
      have e2 : g' = k := by simpa [Value.ownBlock] using e.symm
      omega)).trans (hb.block k hk)⟩
theorem ins1 {wu X : World} {A g n c k : Nat} {L : List ByteArray} (hb : Below wu.heap.size wu X) (hA : X.heap[A]? = some (.cells #[] 9 (0, 0))) (hA0 : wu.heap.size ≤ A) (hr : StrRow wu g L) (hn : L.length = n) (hk : k ≤ n) (hn2 : n ≤ 1048576) :
    ∃ q1 c1 X', (∀ ty, (Builtin.append_ #[35, 35] ty #[.slice (some ⟨A, 0, none⟩) 0 0, .slice (some ⟨g, 0, none⟩) k c]).run Tryz.prog X = .ok (.slice q1 k c1) X') ∧ OwnS X' wu.heap.size q1 c1 (L.take k) ∧ Below wu.heap.size wu X' ∧ (∀ b, b < X.heap.size → b ≠ A → X'.heap[b]? = X.heap[b]?) ∧ X.heap.size ≤ X'.heap.size := by
  have ho : OwnS X wu.heap.size (some ⟨A, 0, none⟩) 0 [] := OwnS.empty hA hA0
  have hlen : (L.take k).length = k := by rw [List.length_take]; omega
  obtain ⟨q', c', W', hrun, hown, hg⟩ := appS ho hb.size (a := ⟨g, 0, none⟩) c (ys := L.take k) (fun j hj => by
    have hj2 : j < L.length := by rw [hlen] at hj; omega
    have := t_cell' hb (hr j hj2)
    rw [List.getElem_take]
    rw [show (⟨g, 0, none⟩ : Addr).add j = ⟨g, j, none⟩ by unfold Addr.add; split <;> simp_all]
    exact this) (by rw [hlen]; simp; omega)
  refine ⟨q', c', W', fun ty => ?_, hown, grown_below hb ho (Nat.le_refl _) hg, fun b hb2 hne => hg.block b hb2 (fun e => hne (by simpa [Value.ownBlock] using e)), hg.size⟩
  have := hrun ty
  rw [hlen] at this
  simpa using this
theorem ins2 {wu X : World} {U k : Nat} {q : Option Addr} {c : Nat} {xs : List ByteArray} {u : ByteArray} (hb : Below wu.heap.size wu X) (ho : OwnS X wu.heap.size q c xs) (hk : xs.length = k) (hk2 : k ≤ 1048576) (hU : X.cell? ⟨U, 0, none⟩ = some (.string u)) :
    ∃ q2 c2 X', (∀ ty, (Builtin.append_ #[35, 35] ty #[.slice q k c, .slice (some ⟨U, 0, none⟩) 1 1]).run Tryz.prog X = .ok (.slice q2 (k + 1) c2) X') ∧ OwnS X' wu.heap.size q2 c2 (xs ++ [u]) ∧ Below wu.heap.size wu X' := by
  obtain ⟨q', c', W', hrun, hown, hg⟩ := appS ho hb.size (a := ⟨U, 0, none⟩) 1 (ys := [u]) (fun j hj => by
    have hj0 : j = 0 := by simpa using hj
    subst hj0
    exact hU) (by rw [hk]; simp; omega)
  refine ⟨q', c', W', fun ty => ?_, hown, grown_below hb ho (Nat.le_refl _) hg⟩
  have := hrun ty
  rw [hk] at this
  simpa using this
theorem ins3 {wu X : World} {g n c k : Nat} {q : Option Addr} {c2 : Nat} {xs L : List ByteArray} (hb : Below wu.heap.size wu X) (ho : OwnS X wu.heap.size q c2 xs) (hk : xs.length = k + 1) (hr : StrRow wu g L) (hn : L.length = n) (hkn : k ≤ n) (hn2 : n ≤ 1048576) (P : Addr) (hP : k < n → P = ⟨g, k, none⟩) :
    ∃ g3 c3 X', (∀ ty, (Builtin.append_ #[35, 35] ty #[.slice q (k + 1) c2, .slice (some P) (n - k) (c - k)]).run Tryz.prog X = .ok (.slice (some ⟨g3, 0, none⟩) (n + 1) c3) X') ∧ StrRow X' g3 (xs ++ L.drop k) ∧ Below wu.heap.size wu X' ∧ n + 1 ≤ c3 := by
  have hlen : (L.drop k).length = n - k := by rw [List.length_drop, hn]
  obtain ⟨q', c', W', hrun, hown, hg⟩ := appS ho hb.size (a := P) (c - k) (ys := L.drop k) (fun j hj => by
    have hj2 : k + j < L.length := by rw [hlen] at hj; omega
    have := t_cell' hb (hr (k + j) hj2)
    rw [List.getElem_drop, hP (by rw [hlen] at hj; omega)]
    rw [show (⟨g, k, none⟩ : Addr).add j = ⟨g, k + j, none⟩ by unfold Addr.add; split <;> simp_all]
    exact this) (by rw [hlen, hk]; omega)
  obtain ⟨g3, rfl⟩ := hown.form (by simp; omega)
  refine ⟨g3, c', W', fun ty => ?_, hown.row, grown_below hb ho (Nat.le_refl _) hg, ?_⟩
  · have := hrun ty
    rw [hlen, hk, show k + 1 + (n - k) = n + 1 by omega] at this
    exact this
  · have := hown.2.1
    rw [List.length_map, List.length_append, hk, hlen] at this
    omega
end Go.Proofs.YtfmlmdfehaajbaaGreatDoor
