/- Proved here: plain facts on orders: texts byte by byte, lists of numbers, trails; no program is named. -/
import Derived.Lib.Bytealg
namespace Go.Proofs.YtmgeejjpoiaglaaDoor

/-- What makes of two an order: -1, 0 or 1; turned about it is turned; one behind the other. -/
structure IsOrd {α : Type} (f : α → α → Int) : Prop where
  rng : ∀ a b, f a b = -1 ∨ f a b = 0 ∨ f a b = 1
  anti : ∀ a b, f b a = - f a b
  lt : ∀ a b c, f a b = -1 → f b c = -1 → f a c = -1
  same : ∀ a b c, f a b = 0 → f a c = f b c

theorem IsOrd.same_r {α : Type} {f : α → α → Int} (h : IsOrd f) (a b c : α) (e : f b c = 0) : f a b = f a c := by
  have h1 := h.same b c a e
  have h2 := h.anti a b
  have h3 := h.anti a c
  omega
/-- What the statement on orders asks of three. -/
theorem IsOrd.three {α : Type} {f : α → α → Int} (h : IsOrd f) (a b c : α) : f a b = - f b a ∧ ¬ (f a b ≤ 0 ∧ f b c ≤ 0 ∧ 0 < f a c) ∧ ¬ (0 ≤ f a b ∧ 0 ≤ f b c ∧ f a c < 0) ∧ ¬ (f a b = 0 ∧ f b c ≠ f a c) := by
  have r1 := h.rng a b
  have r2 := h.rng b c
  have r3 := h.rng a c
  have a1 := h.anti a b
  have a2 := h.anti b c
  have a3 := h.anti a c
  have l1 := h.lt a b c
  have l2 := h.lt c b a
  have s1 := h.same a b c
  have s2 := h.same_r a b c
  refine ⟨by omega, ?_, ?_, ?_⟩ <;> intro x <;> rcases r1 with r1 | r1 | r1 <;> rcases r2 with r2 | r2 | r2 <;> first | omega | (have := l1 r1 r2; omega) | (have := s1 r1; omega) | (have := s2 r2; omega) | (have := l2 (by omega) (by omega); omega)

/-- One behind the other: the second where the first says nothing. -/
def lexI (x y : Int) : Int := if x = 0 then y else x
theorem IsOrd.lex {α : Type} {f g : α → α → Int} (hf : IsOrd f) (hg : IsOrd g) : IsOrd (fun a b => lexI (f a b) (g a b)) := by
  refine ⟨fun a b => ?_, fun a b => ?_, fun a b c => ?_, fun a b c => ?_⟩
  · have r1 := hf.rng a b
    have r2 := hg.rng a b
    simp only [lexI]; split <;> omega
  · have a1 := hf.anti a b
    have a2 := hg.anti a b
    simp only [lexI]; split <;> split <;> omega
  · have r1 := hf.rng a b
    have r2 := hf.rng b c
    have l1 := hf.lt a b c
    have l2 := hg.lt a b c
    have s1 := hf.same a b c
    have s2 := hf.same_r a b c
    simp only [lexI]
    intro h1 h2
    by_cases e1 : f a b = 0 <;> by_cases e2 : f b c = 0 <;> simp only [e1, e2, if_true, if_false] at h1 h2
    · have e3 : f a c = 0 := by rw [s1 e1]; exact e2
      rw [if_pos e3]; exact l2 h1 h2
    · have e3 : f a c = -1 := by rw [s1 e1]; exact h2
      rw [if_neg (by omega)]; exact e3
    · have e3 : f a c = -1 := by rw [← s2 e2]; exact h1
      rw [if_neg (by omega)]; exact e3
    · have e3 : f a c = -1 := l1 h1 h2
      rw [if_neg (by omega)]; exact e3
  · have s1 := hf.same a b c
    have s2 := hg.same a b c
    simp only [lexI]
    intro h1
    by_cases e1 : f a b = 0
    · rw [if_pos e1] at h1
      rw [s1 e1, s2 h1]
    · rw [if_neg e1] at h1; exact absurd h1 e1
theorem IsOrd.via {α β : Type} {f : β → β → Int} (h : IsOrd f) (k : α → β) : IsOrd (fun a b => f (k a) (k b)) :=
  ⟨fun _ _ => h.rng _ _, fun _ _ => h.anti _ _, fun _ _ _ => h.lt _ _ _, fun _ _ _ => h.same _ _ _⟩

/-- Two numbers. -/
def cmpI (a b : Int) : Int := if a < b then -1 else if b < a then 1 else 0
theorem cmpI_ord : IsOrd cmpI := by
  refine ⟨fun a b => ?_, fun a b => ?_, fun a b c => ?_, fun a b c => ?_⟩ <;> simp only [cmpI]
  · split <;> (try split) <;> simp
  · split <;> split <;> (try split) <;> (try split) <;> omega
  · intro h1 h2
    have e1 : a < b := by split at h1 <;> (try split at h1) <;> omega
    have e2 : b < c := by split at h2 <;> (try split at h2) <;> omega
    rw [if_pos (by omega)]
  · intro h1
    have e : a = b := by split at h1 <;> (try split at h1) <;> omega
    rw [e]

/-- Two lists, by an order of what stands in them. -/
def cmpLs {α : Type} (f : α → α → Int) : List α → List α → Int
  | [], [] => 0
  | [], _ :: _ => -1
  | _ :: _, [] => 1
  | a :: l, b :: m => lexI (f a b) (cmpLs f l m)
theorem cmpLs_ord {α : Type} {f : α → α → Int} (h : IsOrd f) : IsOrd (cmpLs f) := by
  have rng : ∀ a b, cmpLs f a b = -1 ∨ cmpLs f a b = 0 ∨ cmpLs f a b = 1 := by
    intro a
    induction a with
    | nil => intro b; cases b <;> simp [cmpLs]
    | cons x l ih =>
      intro b
      cases b with
      | nil => simp [cmpLs]
      | cons y m =>
        have r1 := h.rng x y
        have r2 := ih m
        simp only [cmpLs, lexI]; split <;> omega
  have anti : ∀ a b, cmpLs f b a = - cmpLs f a b := by
    intro a
    induction a with
    | nil => intro b; cases b <;> simp [cmpLs]
    | cons x l ih =>
      intro b
      cases b with
      | nil => simp [cmpLs]
      | cons y m =>
        have r1 := h.anti x y
        have r2 := ih m
        simp only [cmpLs, lexI]; split <;> split <;> omega
  have same : ∀ a b c, cmpLs f a b = 0 → cmpLs f a c = cmpLs f b c := by
    intro a
    induction a with
    | nil => intro b c e; cases b with
      | nil => rfl
      | cons y m => simp [cmpLs] at e
    | cons x l ih =>
      intro b c e
      cases b with
      | nil => simp [cmpLs] at e
      | cons y m =>
        have e1 : f x y = 0 := by
          simp only [cmpLs, lexI] at e
          by_cases q : f x y = 0
          · exact q
          · rw [if_neg q] at e; exact absurd e q
        have e2 : cmpLs f l m = 0 := by
          simp only [cmpLs, lexI] at e
          rw [if_pos e1] at e; exact e
        cases c with
        | nil => simp [cmpLs]
        | cons z n =>
          simp only [cmpLs]
          rw [h.same x y z e1, ih m n e2]
  refine ⟨rng, anti, ?_, same⟩
  intro a
  induction a with
  | nil =>
    intro b c h1 h2
    cases b with
    | nil => simp [cmpLs] at h1
    | cons y m => cases c with
      | nil => simp [cmpLs] at h2
      | cons z n => simp [cmpLs]
  | cons x l ih =>
    intro b c h1 h2
    cases b with
    | nil => simp [cmpLs] at h1
    | cons y m => cases c with
      | nil => simp [cmpLs] at h2
      | cons z n =>
        simp only [cmpLs, lexI] at h1 h2 ⊢
        have l1 := h.lt x y z
        have s1 := h.same x y z
        have s2 := h.same_r x y z
        by_cases e1 : f x y = 0 <;> by_cases e2 : f y z = 0 <;> simp only [e1, e2, if_true, if_false] at h1 h2
        · rw [if_pos (by rw [s1 e1]; exact e2)]; exact ih m n h1 h2
        · have e3 : f x z = -1 := by rw [s1 e1]; exact h2
          rw [if_neg (by omega)]; exact e3
        · have e3 : f x z = -1 := by rw [← s2 e2]; exact h1
          rw [if_neg (by omega)]; exact e3
        · have e3 : f x z = -1 := l1 h1 h2
          rw [if_neg (by omega)]; exact e3

/-- Two texts, byte by byte. -/
theorem cmpBytes_eq : ∀ a b : List UInt8, Go.Lib.compareBytes a b = cmpLs (fun x y : UInt8 => cmpI x.toNat y.toNat) a b
  | [], [] => rfl
  | [], _ :: _ => rfl
  | _ :: _, [] => rfl
  | a :: l, b :: m => by
    have ih := cmpBytes_eq l m
    have e : cmpLs (fun x y : UInt8 => cmpI x.toNat y.toNat) (a :: l) (b :: m) = lexI (cmpI a.toNat b.toNat) (cmpLs (fun x y : UInt8 => cmpI x.toNat y.toNat) l m) := rfl
    have e2 : Go.Lib.compareBytes (a :: l) (b :: m) = if a < b then -1 else if b < a then 1 else Go.Lib.compareBytes l m := by rw [Go.Lib.compareBytes]
    rw [e, ← ih, e2]
    unfold lexI cmpI
    simp only [UInt8.lt_iff_toNat_lt]
    by_cases h1 : a.toNat < b.toNat
    · simp [h1]
    · by_cases h2 : b.toNat < a.toNat
      · simp [h1, h2]
      · simp [h1, h2]
theorem cmpBytes_ord : IsOrd Go.Lib.compareBytes := by
  have h : IsOrd (cmpLs (fun x y : UInt8 => cmpI x.toNat y.toNat)) := cmpLs_ord (cmpI_ord.via fun x : UInt8 => (x.toNat : Int))
  have e : Go.Lib.compareBytes = cmpLs (fun x y : UInt8 => cmpI x.toNat y.toNat) := by
    funext a b; exact cmpBytes_eq a b
  rw [e]; exact h

/-- Two lists of numbers. -/
def cmpN : List Int → List Int → Int := cmpLs cmpI
theorem cmpN_ord : IsOrd cmpN := cmpLs_ord cmpI_ord
theorem cmpN_same : ∀ a b : List Int, cmpN a b = 0 → a = b
  | [], [], _ => rfl
  | [], _ :: _, h => by simp [cmpN, cmpLs] at h
  | _ :: _, [], h => by simp [cmpN, cmpLs] at h
  | a :: l, b :: m, h => by
    have e1 : cmpI a b = 0 := by
      simp only [cmpN, cmpLs, lexI] at h
      by_cases q : cmpI a b = 0
      · exact q
      · rw [if_neg q] at h; exact absurd h q
    have e2 : cmpN l m = 0 := by
      simp only [cmpN, cmpLs, lexI] at h
      rw [if_pos e1] at h; exact h
    have e3 : a = b := by simp only [cmpI] at e1; split at e1 <;> (try split at e1) <;> omega
    rw [e3, cmpN_same l m e2]
theorem cmpN_refl : ∀ a : List Int, cmpN a a = 0
  | [] => rfl
  | a :: l => by
    have ih := cmpN_refl l
    simp only [cmpN, cmpLs, lexI, cmpI] at ih ⊢
    simp [ih]
/-- What begins with all of the other stands behind it. -/
theorem cmpN_prefix : ∀ a b : List Int, a <+: b → cmpN a b = if a.length = b.length then 0 else -1
  | [], [], _ => rfl
  | [], _ :: _, _ => by simp [cmpN, cmpLs]
  | _ :: _, [], h => by simp at h
  | a :: l, b :: m, h => by
    obtain ⟨rfl, h2⟩ := List.cons_prefix_cons.1 h
    have ih := cmpN_prefix l m h2
    have e : cmpI a a = 0 := by simp [cmpI]
    simp only [cmpN, cmpLs, lexI, e, if_true] at ih ⊢
    rw [ih]; simp
/-- What stands ahead of one that doesn't begin with it: so does all that begins with it. -/
theorem cmpN_ahead : ∀ a b c : List Int, a <+: b → ¬ a <+: c → cmpN a c ≤ 0 → cmpN b c = -1
  | [], _, _, _, h, _ => absurd (List.nil_prefix) h
  | _ :: _, [], _, h, _, _ => by simp at h
  | _ :: _, _ :: _, [], _, _, h => by simp [cmpN, cmpLs] at h
  | a :: l, b :: m, c :: n, h1, h2, h3 => by
    obtain ⟨rfl, h4⟩ := List.cons_prefix_cons.1 h1
    simp only [cmpN, cmpLs, lexI] at h3 ⊢
    have r := cmpI_ord.rng a c
    by_cases e : cmpI a c = 0
    · rw [if_pos e] at h3 ⊢
      have e3 : a = c := by simp only [cmpI] at e; split at e <;> (try split at e) <;> omega
      subst e3
      exact cmpN_ahead l m n h4 (fun q => h2 (List.cons_prefix_cons.2 ⟨rfl, q⟩)) h3
    · rw [if_neg e] at h3 ⊢; omega

/-- A trail, or an attribute's: its steps, whether it is an attribute's, the name's space and what stands behind. -/
structure Tr where
  steps : List Int
  attr : Bool
  uri : ByteArray
  loc : ByteArray
/-- Two names: by their spaces, then by what stands behind. -/
def cmpName (a b : Tr) : Int := lexI (Go.Lib.compareBytes a.uri.data.toList b.uri.data.toList) (Go.Lib.compareBytes a.loc.data.toList b.loc.data.toList)
theorem cmpName_ord : IsOrd cmpName := (cmpBytes_ord.via fun a : Tr => a.uri.data.toList).lex (cmpBytes_ord.via fun a : Tr => a.loc.data.toList)
def cmpTail (a b : Tr) : Int := if a.attr && b.attr then cmpName a b else if a.attr then 1 else if b.attr then -1 else 0
theorem cmpTail_ord : IsOrd cmpTail := by
  refine ⟨fun a b => ?_, fun a b => ?_, fun a b c => ?_, fun a b c => ?_⟩
  · have r := cmpName_ord.rng a b
    unfold cmpTail
    cases a.attr <;> cases b.attr <;> simp [r]
  · have r := cmpName_ord.anti a b
    unfold cmpTail
    cases a.attr <;> cases b.attr <;> simp [r]
  · have r := cmpName_ord.lt a b c
    unfold cmpTail
    cases a.attr <;> cases b.attr <;> cases c.attr <;> simp <;> exact r
  · have r := cmpName_ord.same a b c
    unfold cmpTail
    cases a.attr <;> cases b.attr <;> cases c.attr <;> simp <;> exact r
/-- Two trails. -/
def cmpT (a b : Tr) : Int := lexI (cmpN a.steps b.steps) (cmpTail a b)
theorem cmpT_ord : IsOrd cmpT := (cmpN_ord.via fun a : Tr => a.steps).lex cmpTail_ord
/-- Is b the trail a, or below it? -/
def underT (a b : Tr) : Bool := if a.attr then cmpT a b == 0 else decide (a.steps <+: b.steps)

theorem under_cmp {a b : Tr} (h : underT a b = true) : cmpT a b ≤ 0 := by
  unfold underT at h
  cases ha : a.attr
  · rw [ha] at h
    simp only [Bool.false_eq_true, if_false, decide_eq_true_eq] at h
    have e := cmpN_prefix _ _ h
    unfold cmpT lexI cmpTail
    rw [e, ha]
    cases b.attr <;> simp <;> split <;> omega
  · rw [ha] at h
    simp at h
    omega
theorem under_both {a b : Tr} (h1 : underT a b = true) (h2 : underT b a = true) : cmpT a b = 0 := by
  have h3 := under_cmp h1
  have h4 := under_cmp h2
  have h5 := cmpT_ord.anti a b
  omega
theorem under_ahead {a b c : Tr} (h1 : underT a b = true) (h2 : cmpT a c < 0) (h3 : underT a c = false) : cmpT b c < 0 := by
  cases ha : a.attr
  · have p1 : a.steps <+: b.steps := by
      unfold underT at h1; rw [ha] at h1; simpa using h1
    have p2 : ¬ a.steps <+: c.steps := by
      unfold underT at h3; rw [ha] at h3; simpa using h3
    have h4 : cmpN a.steps c.steps ≤ 0 := by
      unfold cmpT lexI at h2
      split at h2 <;> omega
    have e := cmpN_ahead _ _ _ p1 p2 h4
    unfold cmpT lexI
    rw [e, if_neg (by decide)]; decide
  · have e : cmpT a b = 0 := by
      unfold underT at h1; rw [ha] at h1; simpa using h1
    rw [← cmpT_ord.same a b c e]; exact h2
end Go.Proofs.YtmgeejjpoiaglaaDoor
