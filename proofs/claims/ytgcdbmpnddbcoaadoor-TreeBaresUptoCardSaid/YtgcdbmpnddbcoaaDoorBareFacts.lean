/- Proved here: plain facts on a tree without its comments and instructions: it is right, but for texts side by side; it has no more nodes, is no deeper, and has the same spaces. -/
import Derived.Test.YtgcdbmpnddbcoaaDoorBarePlain
import Derived.Test.YtgcdbmpnddbcoaaDoorPartsPlain
import Derived.Test.YtgcdbmpnddbcoaaDoorSpaces
namespace Go.Proofs.YtgcdbmpnddbcoaaDoor
open Go.RowKit Go.Shelf

theorem mem_bareL {x : PT} : ∀ {l : List PT}, x ∈ bareL l → ∃ y ∈ l, x = bareP y ∧ leftK y = true := fun {l} => by
  induction l with
  | nil => intro h; rw [bareL] at h; cases h
  | cons t r ih =>
    intro h
    rw [bareL_cons] at h
    by_cases hl : leftK t = true
    · rw [if_pos hl] at h
      rcases List.mem_cons.1 h with e | h
      · exact ⟨t, List.mem_cons_self, e, hl⟩
      · obtain ⟨y, hy, e⟩ := ih h
        exact ⟨y, List.mem_cons_of_mem _ hy, e⟩
    · rw [if_neg hl] at h
      obtain ⟨y, hy, e⟩ := ih h
      exact ⟨y, List.mem_cons_of_mem _ hy, e⟩
theorem bareL_mem {y : PT} : ∀ {l : List PT}, y ∈ l → leftK y = true → bareP y ∈ bareL l := fun {l} => by
  induction l with
  | nil => intro h; cases h
  | cons t r ih =>
    intro h hl
    rw [bareL_cons]
    rcases List.mem_cons.1 h with rfl | h
    · rw [if_pos hl]; exact List.mem_cons_self
    · split
      · exact List.mem_cons_of_mem _ (ih h hl)
      · exact ih h hl
theorem bareP_all : ∀ (p : PT), ∀ x ∈ (bareP p).all, ∃ y ∈ p.all, x = bareP y := fun p => by
  induction p using PT.ind with
  | h p ih =>
    intro x hx
    rw [PT.all_eq, PT.alls_eq, bareP_kids] at hx
    rcases List.mem_cons.1 hx with rfl | hx
    · exact ⟨p, p.self_mem, rfl⟩
    · obtain ⟨k, hk, hx⟩ := List.mem_flatMap.1 hx
      obtain ⟨y, hy, rfl, _⟩ := mem_bareL hk
      obtain ⟨z, hz, e⟩ := ih y hy x hx
      exact ⟨z, PT.kid_mem hy z hz, e⟩
theorem bareP_count : ∀ (p : PT), (bareP p).count ≤ p.count := fun p => by
  induction p using PT.ind with
  | h p ih =>
    unfold PT.count at ih ⊢
    rw [PT.all_eq, PT.all_eq p, PT.alls_eq, PT.alls_eq, bareP_kids, List.length_cons, List.length_cons]
    have : ∀ l : List PT, (∀ k ∈ l, (bareP k).all.length ≤ k.all.length) → ((bareL l).flatMap PT.all).length ≤ (l.flatMap PT.all).length := fun l => by
      induction l with
      | nil => intro _; rw [bareL]; exact Nat.le_refl _
      | cons t r ih2 =>
        intro h
        have h1 := h t List.mem_cons_self
        have h2 := ih2 (fun k hk => h k (List.mem_cons_of_mem _ hk))
        rw [bareL_cons, List.flatMap_cons, List.length_append]
        split
        · rw [List.flatMap_cons, List.length_append]; omega
        · omega
    have := this p.kids ih
    omega
theorem plain_count (t : AT) : t.plain.count = t.count := by
  unfold PT.count AT.count
  rw [AT.plain_all, List.length_map]
/-- What two nodes have in common, if one is the other without comments and instructions. -/
theorem bare_fields {x y : AT} (h : x.plain = bareP y.plain) : x.kind = y.kind ∧ x.uri = y.uri ∧ x.loc = y.loc ∧ x.attrs = y.attrs ∧ x.text = y.text ∧ ∀ k ∈ x.kids, ∃ k' ∈ y.kids, k.plain = bareP k'.plain := by
  refine ⟨?_, ?_, ?_, ?_, ?_, fun k hk => ?_⟩
  · rw [← AT.plain_kind, h, bareP_kind, AT.plain_kind]
  · rw [← AT.plain_uri, h, bareP_uri, AT.plain_uri]
  · rw [← AT.plain_loc, h, bareP_loc, AT.plain_loc]
  · rw [← AT.plain_attrs, h, bareP_attrs, AT.plain_attrs]
  · rw [← AT.plain_text, h, bareP_text, AT.plain_text]
  · have hm : k.plain ∈ x.plain.kids := by rw [AT.plain_kids]; exact List.mem_map_of_mem hk
    rw [h, bareP_kids, AT.plain_kids] at hm
    obtain ⟨y', hy, e, _⟩ := mem_bareL hm
    obtain ⟨k', hk', rfl⟩ := List.mem_map.1 hy
    exact ⟨k', hk', e⟩
theorem bare_kept {x y : AT} (h : x.plain = bareP y.plain) {k : AT} (hk : k ∈ y.kids) (hl : leftK k.plain = true) : ∃ k' ∈ x.kids, k'.plain = bareP k.plain := by
  have hm : bareP k.plain ∈ x.plain.kids := by
    rw [h, bareP_kids, AT.plain_kids]
    exact bareL_mem (List.mem_map_of_mem hk) hl
  rw [AT.plain_kids] at hm
  obtain ⟨k', hk', e⟩ := List.mem_map.1 hm
  exact ⟨k', hk', e⟩
theorem bare_nodes {T t : AT} (h : T.plain = bareP t.plain) : ∀ x ∈ T.all, ∃ y ∈ t.all, x.plain = bareP y.plain := fun x hx => by
  have hm : x.plain ∈ T.plain.all := by rw [AT.plain_all]; exact List.mem_map_of_mem hx
  rw [h] at hm
  obtain ⟨p, hp, e⟩ := bareP_all _ _ hm
  rw [AT.plain_all] at hp
  obtain ⟨y, hy, rfl⟩ := List.mem_map.1 hp
  exact ⟨y, hy, e⟩
theorem any_bare {f : AT → Bool} (hf : ∀ x y : AT, x.plain = bareP y.plain → f y = false → f x = false) {T t : AT} (h : T.plain = bareP t.plain) (ha : t.all.any f = false) : T.all.any f = false := by
  rw [List.any_eq_false]
  intro x hx
  obtain ⟨y, hy, e⟩ := bare_nodes h x hx
  have := List.any_eq_false.1 ha y hy
  rw [hf x y e (by simpa using this)]
  decide
theorem misfit_bare (x y : AT) (h : x.plain = bareP y.plain) (hy : y.misfit = false) : x.misfit = false := by
  obtain ⟨h1, h2, h3, h4, h5, h6⟩ := bare_fields h
  unfold AT.misfit AT.named at hy ⊢
  rw [Bool.or_eq_false_iff] at hy ⊢
  rw [h1, h2, h3, h4, h5]
  refine ⟨?_, hy.2⟩
  rw [List.any_eq_false]
  intro k hk
  obtain ⟨k', hk', e⟩ := h6 k hk
  have := List.any_eq_false.1 hy.1 k' hk'
  rwa [(bare_fields e).1]
theorem large_bare (x y : AT) (h : x.plain = bareP y.plain) (hy : y.tooLarge = false) : x.tooLarge = false := by
  obtain ⟨h1, h2, h3, h4, h5, h6⟩ := bare_fields h
  unfold AT.tooLarge AT.anyT at hy ⊢
  rwa [h4, h5]
theorem named_bare (x y : AT) (h : x.plain = bareP y.plain) (hy : y.misnamedA = false) : x.misnamedA = false := by
  obtain ⟨h1, h2, h3, h4, h5, h6⟩ := bare_fields h
  unfold AT.misnamedA AT.misnamed AT.badInstr at hy ⊢
  rwa [h1, h2, h3, h4]
theorem fault_bare (x y : AT) (h : x.plain = bareP y.plain) (hy : y.anyT faultB = false) : x.anyT faultB = false := by
  obtain ⟨h1, h2, h3, h4, h5, h6⟩ := bare_fields h
  unfold AT.anyT at hy ⊢
  rwa [h4, h5]
theorem order_bare (x y : AT) (h : x.plain = bareP y.plain) (hy : y.unordered = false) : x.unordered = false := by
  obtain ⟨h1, h2, h3, h4, h5, h6⟩ := bare_fields h
  unfold AT.unordered at hy ⊢
  rwa [h4]
theorem flat_bare : ∀ (t T : AT) (p q : List Nat), T.plain = bareP t.plain → q.length = p.length → ∀ x ∈ AT.flat q T, ∃ y ∈ AT.flat p t, y.1.length = x.1.length ∧ y.2.kind = x.2.kind := fun t => by
  induction t using AT.ind with
  | h t ih =>
    intro T p q h hl x hx
    rw [AT.flat_eq] at hx
    rcases List.mem_cons.1 hx with rfl | hx
    · exact ⟨(p, t), by rw [AT.flat_eq]; exact List.mem_cons_self, hl.symm, (bare_fields h).1.symm⟩
    · obtain ⟨j, k, hk, hx⟩ := AT.mem_flats hx
      obtain ⟨k', hk', e⟩ := (bare_fields h).2.2.2.2.2 k (List.mem_of_getElem? hk)
      obtain ⟨j', hj'⟩ := List.getElem?_of_mem hk'
      obtain ⟨y, hy, e1, e2⟩ := ih k' hk' k (p ++ [0 + j']) (q ++ [0 + j]) e (by simp [hl]) x hx
      exact ⟨y, by rw [AT.flat_eq]; exact List.mem_cons_of_mem _ (AT.flats_mem hj' hy), e1, e2⟩
theorem deepOf_mem : ∀ (xs : List (List Nat × AT)), ∀ x ∈ xs, x.1.length + 1 ≤ deepOf xs := fun xs => by
  induction xs with
  | nil => intro x hx; cases hx
  | cons y r ih =>
    intro x hx
    rw [deepOf_cons]
    rcases List.mem_cons.1 hx with rfl | hx
    · exact Nat.le_max_left _ _
    · exact Nat.le_trans (ih x hx) (Nat.le_max_right _ _)
theorem deep_bare {T t : AT} (h : T.plain = bareP t.plain) : T.deep ≤ t.deep := by
  unfold AT.deep
  refine deepOf_le fun x hx => ?_
  obtain ⟨y, hy, e, _⟩ := flat_bare t T [] [] h rfl x hx
  rw [← e]
  exact deepOf_mem _ _ hy
theorem count_bare {T t : AT} (h : T.plain = bareP t.plain) : T.count ≤ t.count := by
  rw [← plain_count, ← plain_count, h]
  exact bareP_count _
theorem roots_bare {T t : AT} (h : T.plain = bareP t.plain) : T.roots = t.roots := by
  have go : ∀ l : List PT, (bareL l).countP (fun k => k.kind == 2) = l.countP (fun k => k.kind == 2) := fun l => by
    induction l with
    | nil => rw [bareL]
    | cons k r ih =>
      rw [bareL_cons]
      by_cases hl : leftK k = true
      · rw [if_pos hl, List.countP_cons, List.countP_cons, ih, bareP_kind]
      · rw [if_neg hl, ih, List.countP_cons_of_neg]
        intro h2
        apply hl
        have e : k.kind = 2 := by simpa using h2
        unfold leftK
        rw [e]
        rfl
  have e : ∀ x : AT, x.roots = x.plain.kids.countP (fun k => k.kind == 2) := fun x => by
    unfold AT.roots
    rw [AT.plain_kids, List.countP_map]
    congr 1
    funext k
    show (k.kind == 2) = (k.plain.kind == 2)
    rw [AT.plain_kind]
  rw [e, e, h, bareP_kids, go]
theorem check_bare {T t : AT} (h : T.plain = bareP t.plain) (r : Right t) : T.checkA = 0 ∨ T.checkA = 32 := by
  have d : T.tooDeep = false := by
    unfold AT.tooDeep
    rw [List.any_eq_false]
    intro x hx
    obtain ⟨y, hy, e1, e2⟩ := flat_bare t T [] [] h rfl x hx
    have := List.any_eq_false.1 r.deep y hy
    unfold deepAt at this ⊢
    rwa [← e1, ← e2]
  have hc := count_bare h
  have hrc := r.count
  unfold AT.checkA
  rw [if_neg (show ¬ T.kind ≠ 1 by rw [(bare_fields h).1]; simpa using r.kind), any_bare misfit_bare h r.misfit, d, any_bare large_bare h r.large, any_bare named_bare h r.named, any_bare (f := fun x => x.anyT faultB) fault_bare h r.fault, any_bare order_bare h r.order, if_neg (show ¬ 2001 < T.count by omega), if_neg (show ¬ T.roots ≠ 1 by rw [roots_bare h]; simpa using r.roots)]
  cases T.all.any AT.unwritableA
  · exact .inl rfl
  · exact .inr rfl
theorem bytes_beq (a b : ByteArray) : (a == b) = true ↔ a = b := by
  rw [Go.beq_toListBytes, beq_iff_eq]
  constructor
  · intro h
    rw [ByteArray.toList_eq, ByteArray.toList_eq] at h
    obtain ⟨⟨x⟩⟩ := a
    obtain ⟨⟨y⟩⟩ := b
    exact congrArg (fun l => (⟨⟨l⟩⟩ : ByteArray)) h
  · rintro rfl
    rfl
/-- A comment or an instruction of a right tree has no kids and no space. -/
theorem left_none {k : AT} (hm : k.misfit = false) (hl : ¬ leftK k.plain = true) : k.kids = [] ∧ ∀ s ∈ k.uris, s = noB := by
  have hk : k.kind = 4 ∨ k.kind = 5 := by
    apply Classical.byContradiction
    intro h
    apply hl
    unfold leftK
    rw [AT.plain_kind]
    simp only [not_or] at h
    simp [h.1, h.2]
  unfold AT.misfit at hm
  rw [Bool.or_eq_false_iff] at hm
  constructor
  · cases hks : k.kids with
    | nil => rfl
    | cons x r =>
      have h1 := List.any_eq_false.1 hm.1 x (by rw [hks]; exact List.mem_cons_self)
      exfalso
      apply h1
      unfold mayH
      rcases hk with e | e <;> rw [e] <;> (split <;> first | rfl | (split <;> rfl))
  · have h2 := hm.2
    have hu : (k.uri == noB) = true ∧ k.attrs.length = 0 := by
      rcases hk with e | e
      · rw [e, if_neg (by decide), if_neg (by decide), if_neg (by decide), Bool.or_eq_false_iff] at h2
        have h3 := h2.1
        unfold AT.named at h3
        rw [Bool.not_eq_false', Bool.and_eq_true] at h3
        have h4 := h2.2
        rw [decide_eq_false_iff_not] at h4
        exact ⟨h3.1, by omega⟩
      · rw [e, if_neg (by decide), if_neg (by decide), if_pos rfl, Bool.or_eq_false_iff] at h2
        have h3 := h2.1
        rw [Bool.not_eq_false'] at h3
        have h4 := h2.2
        rw [decide_eq_false_iff_not] at h4
        exact ⟨h3, by omega⟩
    intro s hs
    unfold AT.uris at hs
    rw [List.eq_nil_of_length_eq_zero hu.2] at hs
    have : s = k.uri := by simpa using hs
    rw [this]
    exact (bytes_beq _ _).1 hu.1
theorem uris_same {x y : AT} (h : x.plain = bareP y.plain) : x.uris = y.uris := by
  obtain ⟨h1, h2, h3, h4, h5, h6⟩ := bare_fields h
  unfold AT.uris
  rw [h2, h4]
theorem spaces_up : ∀ (t T : AT), T.plain = bareP t.plain → t.all.any AT.misfit = false → ∀ y ∈ t.all, ∀ s ∈ y.uris, s ≠ noB → ∃ x ∈ T.all, s ∈ x.uris := fun t => by
  induction t using AT.ind with
  | h t ih =>
    intro T h hm y hy s hs hn
    rw [AT.all_eq, AT.alls_eq] at hy
    rcases List.mem_cons.1 hy with rfl | hy
    · exact ⟨T, T.self_mem, by rw [uris_same h]; exact hs⟩
    · obtain ⟨k, hk, hy⟩ := List.mem_flatMap.1 hy
      have hmk : k.all.any AT.misfit = false := by
        rw [List.any_eq_false]
        intro z hz
        exact List.any_eq_false.1 hm z (AT.kid_mem hk z hz)
      by_cases hl : leftK k.plain = true
      · obtain ⟨K, hK, e⟩ := bare_kept h hk hl
        obtain ⟨x, hx, hsx⟩ := ih k hk K e hmk y hy s hs hn
        exact ⟨x, AT.kid_mem hK x hx, hsx⟩
      · have hm1 : k.misfit = false := by
          have := List.any_eq_false.1 hmk k k.self_mem
          simpa using this
        obtain ⟨h1, h2⟩ := left_none hm1 hl
        rw [AT.all_eq, AT.alls_eq, h1] at hy
        have e : y = k := by simpa using hy
        subst e
        exact absurd (h2 s hs) hn
theorem spaces_bare {T t : AT} (h : T.plain = bareP t.plain) (hm : t.all.any AT.misfit = false) (s : ByteArray) : (s ∈ T.all.flatMap AT.uris ∧ s ≠ (⟨#[]⟩ : ByteArray)) ↔ (s ∈ t.all.flatMap AT.uris ∧ s ≠ (⟨#[]⟩ : ByteArray)) := by
  constructor
  · rintro ⟨h1, h2⟩
    obtain ⟨x, hx, hs⟩ := List.mem_flatMap.1 h1
    obtain ⟨y, hy, e⟩ := bare_nodes h x hx
    exact ⟨List.mem_flatMap.2 ⟨y, hy, by rw [← uris_same e]; exact hs⟩, h2⟩
  · rintro ⟨h1, h2⟩
    obtain ⟨y, hy, hs⟩ := List.mem_flatMap.1 h1
    obtain ⟨x, hx, hsx⟩ := spaces_up t T h hm y hy s hs h2
    exact ⟨List.mem_flatMap.2 ⟨x, hx, hsx⟩, h2⟩
theorem same_len {l m : List ByteArray} (hl : l.Nodup) (hm : m.Nodup) (h : ∀ s, s ∈ l ↔ s ∈ m) : l.length = m.length :=
  Nat.le_antisymm (nodup_len l m hl (fun s hs => (h s).1 hs)) (nodup_len m l hm (fun s hs => (h s).2 hs))
end Go.Proofs.YtgcdbmpnddbcoaaDoor
