/- Proved here: plain facts: more white space within a lone tag, and about its equals, changes nothing of what it says; no walk. -/
import Derived.Test.YtcfecnleibeegaaDoorHere
namespace Go.Proofs.YtcfecnleibeegaaDoor
open Go.RowKit

theorem lines_cons {c : UInt8} (l : List UInt8) (h : c ≠ 13) : linesL (c :: l) = c :: linesL l := by rw [linesL, if_pos h]
theorem lines_head (a b : List UInt8) (h : b.head? ≠ some 10) : linesL (a ++ b) = linesL a ++ linesL b := lines_append a b (fun q => h q.2)
theorem lines_keep (a b : List UInt8) (h : (13 : UInt8) ∉ a) : linesL (a ++ b) = a ++ linesL b := by
  rw [lines_append a b, lines_id a h]
  rintro ⟨q, _⟩
  exact h (List.mem_of_mem_getLast? q)
/-- How a tag's pairs grow. -/
theorem tag_pairs {t n : ByteArray} : ∀ f k ps x i, tagGo t n f k ps = .ok (x, i) → ps.length ≤ x.pairs.length ∧ (x.pairs.length = ps.length → x.pairs = ps ∧ ((x.kind = 2) ∨ (x = ⟨4, n, ps, ⟨#[]⟩, 0⟩ ∧ seesB t (whiteTo t k) [47, 62] = true ∧ i = whiteTo t k + 2)))
  | 0, _, _, _, _, h => by cases h
  | f + 1, k, ps, x, i, h => by
    unfold tagGo at h
    split at h
    · injection h with h
      injection h with h1 h2
      subst h1
      exact ⟨Nat.le_refl _, fun _ => ⟨rfl, .inl rfl⟩⟩
    split at h
    · rename_i hs
      injection h with h
      injection h with h1 h2
      subst h1
      exact ⟨Nat.le_refl _, fun _ => ⟨rfl, .inr ⟨rfl, hs, h2.symm⟩⟩⟩
    split at h
    · cases h
    split at h
    · cases h
    rename_i p j hp
    split at h
    · cases h
    have ih := (tag_pairs f j (ps ++ [p]) x i h).1
    rw [List.length_append] at ih
    simp only [List.length_cons, List.length_nil] at ih
    exact ⟨by omega, fun e => by omega⟩
theorem tag_kind {t : ByteArray} {k i : Nat} {x : Tok} (hk : k < t.size) (h : tokF t k = .ok (x, i)) (h4 : x.kind = 4) : tagF t (k + 1) = .ok (x, i) := by
  unfold tokF at h
  split at h
  · rename_i ho
    unfold opensB at ho
    simp only [Bool.and_eq_true, decide_eq_true_eq] at ho
    have := (decl_ok (k := k + 5) (by omega) h).2.2.2
    omega
  split at h
  · unfold commentF at h
    split at h
    · cases h
    split at h
    · injection h with h
      injection h with h1 h2
      subst h1
      cases h4
    · cases h
  split at h
  · unfold dataF at h
    split at h
    · cases h
    injection h with h
    injection h with h1 h2
    subst h1
    cases h4
  split at h
  · cases h
  split at h
  · cases h
  split at h
  · unfold instrF at h
    split at h
    · cases h
    split at h
    · cases h
    split at h
    · cases h
    split at h
    · cases h
    split at h
    · cases h
    injection h with h
    injection h with h1 h2
    subst h1
    cases h4
  split at h
  · unfold closingF at h
    split at h
    · cases h
    split at h
    · injection h with h
      injection h with h1 h2
      subst h1
      cases h4
    · cases h
  split at h
  · exact h
  · unfold charsF at h
    simp only at h
    split at h
    · injection h with h
      injection h with h1 h2
      subst h1
      cases h4
    · cases h
theorem toks_more (t : ByteArray) : ∀ f k l l', toksGo t f k l = .ok l' → l.length ≤ l'.length ∧ (l'.length = l.length → l' = l ∧ (f = 0 ∨ ¬ k < t.size))
  | 0, k, l, l', h => by
    injection h with h
    subst h
    exact ⟨Nat.le_refl _, fun _ => ⟨rfl, .inl rfl⟩⟩
  | f + 1, k, l, l', h => by
    unfold toksGo at h
    split at h
    · split at h
      · cases h
      rename_i x i hx
      have ih := (toks_more t f i _ l' h).1
      rw [List.length_append] at ih
      simp only [List.length_cons, List.length_nil] at ih
      exact ⟨by omega, fun e => by omega⟩
    · rename_i hn
      injection h with h
      subst h
      exact ⟨Nat.le_refl _, fun _ => ⟨rfl, .inr hn⟩⟩
/-- A text of one token. -/
theorem toks_one {t : ByteArray} {y : Nat × Tok} (h : toksF t = .ok [y]) : 0 < t.size ∧ tokF t 0 = .ok (y.2, t.size) ∧ y.1 = 0 := by
  unfold toksF at h
  by_cases hz : 0 < t.size
  · obtain ⟨f, hf⟩ : ∃ f, t.size = f + 1 := ⟨t.size - 1, by omega⟩
    rw [hf, toksGo, if_pos hz] at h
    split at h
    · cases h
    rename_i x i hx
    obtain ⟨_, g⟩ := toks_more t f i _ _ h
    obtain ⟨g1, g2⟩ := g rfl
    have hb := tok_ok hz hx
    have hi : i = t.size := by
      rcases g2 with g2 | g2
      · omega
      · omega
    injection g1 with g1
    subst g1 hi
    exact ⟨hz, hx, rfl⟩
  · obtain h0 : t.size = 0 := by omega
    rw [h0] at h
    injection h with h
    cases h
theorem toks_just {t : ByteArray} {x : Tok} (hz : 0 < t.size) (h : tokF t 0 = .ok (x, t.size)) : toksF t = .ok [(0, x)] := by
  unfold toksF
  obtain ⟨f, hf⟩ : ∃ f, t.size = f + 1 := ⟨t.size - 1, by omega⟩
  have h2 : toksGo t f t.size [(0, x)] = .ok [(0, x)] := by
    cases f with
    | zero => rfl
    | succ f => rw [toksGo, if_neg (by omega)]
  rw [hf, toksGo, if_pos hz, h]
  exact h2
theorem from_zero (t : ByteArray) : From t 0 t.data.toList := ⟨Nat.zero_le _, by rw [List.drop_zero]⟩
theorem from_at {t : ByteArray} {k i : Nat} {n : ByteArray} (hi : i ≤ t.size) (hk : k ≤ i) (hn : n = t.extract k i) : ∃ l, From t k (n.data.toList ++ l) ∧ From t i l ∧ i = k + n.size := by
  have hz : n.size = i - k := by rw [hn]; simp; omega
  refine ⟨t.data.toList.drop i, ⟨by omega, ?_⟩, ⟨hi, rfl⟩, by omega⟩
  rw [hn]
  simp only [ByteArray.data_extract, Array.toList_extract, List.extract_eq_take_drop]
  have : List.drop i t.data.toList = List.drop (i - k) (List.drop k t.data.toList) := by rw [List.drop_drop, show k + (i - k) = i by omega]
  rw [this, List.take_append_drop]
theorem From.same {t : ByteArray} {k : Nat} {l l' : List UInt8} (h : From t k l) (h' : From t k l') : l = l' := h.2.symm.trans h'.2
/-- An equals with white space about it. -/
theorem equals_here {t : ByteArray} {k : Nat} {g g' l : List UInt8} {c : UInt8} (h : From t k (g ++ 61 :: (g' ++ c :: l))) (hg : ∀ y ∈ g, isB y = true) (hg' : ∀ y ∈ g', isB y = true) (hc : isB c = false) : equalsF t k = some (k + g.length + 1 + g'.length) := by
  have hw := h.white hg (by decide)
  have h2 := h.tail
  have h3 := h2.next
  have hw3 := h3.white hg' hc
  unfold equalsF
  rw [hw, h2.sees, show ([61] : List UInt8).isPrefixOf (61 :: (g' ++ c :: l)) = true by simp [List.isPrefixOf], if_pos rfl, hw3]
theorem quoted_here {t : ByteArray} {k : Nat} {raw l : List UInt8} (h : From t k (39 :: (raw ++ 39 :: l))) (hr : (39 : UInt8) ∉ raw) : quotedF t k = some (⟨raw.toArray⟩, k + 1 + raw.length + 1) := by
  have h2 := h.next
  unfold quotedF
  rw [h.sees, show ([39] : List UInt8).isPrefixOf (39 :: (raw ++ 39 :: l)) = true by simp [List.isPrefixOf], if_pos rfl, h2.find1 hr]
  simp only [Option.map_some]
  rw [h2.ext]
theorem stop_blank {y : UInt8} (h : isB y = true) : StopB y := by
  unfold isB at h
  simp only [Bool.or_eq_true, beq_iff_eq] at h
  rcases h with ((rfl | rfl) | rfl) | rfl <;> exact ⟨by decide, by decide, by decide⟩
theorem stop_gap {g : List UInt8} (c : UInt8) (l : List UInt8) (hg : ∀ y ∈ g, isB y = true) (hc : StopB c) : ∃ d m, g ++ c :: l = d :: m ∧ StopB d := by
  cases g with
  | nil => exact ⟨c, l, rfl, hc⟩
  | cons y g => exact ⟨y, g ++ c :: l, rfl, stop_blank (hg y (List.mem_cons_self ..))⟩
theorem pair_here {t a : ByteArray} {k : Nat} {g2 g3 raw l : List UInt8} (ha : qualF a 0 = .ok (a, a.size)) (h : From t k (a.data.toList ++ (g2 ++ 61 :: (g3 ++ 39 :: (raw ++ 39 :: l)))))
    (w2 : ∀ y ∈ g2, isB y = true) (w3 : ∀ y ∈ g3, isB y = true) (hr : (39 : UInt8) ∉ raw) (hv : (readF (stepV ⟨raw.toArray⟩) (⟨raw.toArray⟩ : ByteArray).size).2.2 = 0) :
    pairF t k = .ok ((a, ⟨(readF (stepV ⟨raw.toArray⟩) (⟨raw.toArray⟩ : ByteArray).size).1.toArray⟩), k + a.size + g2.length + 1 + g3.length + 1 + raw.length + 1) := by
  have hal : a.data.toList.length = a.size := Array.length_toList
  obtain ⟨d, m, hd, hsd⟩ := stop_gap 61 (g3 ++ 39 :: (raw ++ 39 :: l)) w2 ⟨by decide, by decide, by decide⟩
  have h2 := h.tail
  rw [hal] at h2
  have he := equals_here h2 w2 w3 (by decide)
  have h5 := (h2.tail.next).tail
  have hq := quoted_here h5 hr
  rw [hd] at h
  unfold pairF
  rw [qual_here ha h hsd]
  simp only
  rw [he]
  simp only
  rw [hq]
  simp only
  rw [if_pos hv]
/-- What a lone tag of one pair says. -/
theorem lone_here {t name a : ByteArray} {g1 g2 g3 g4 raw : List UInt8} (hn : qualF name 0 = .ok (name, name.size)) (ha : qualF a 0 = .ok (a, a.size))
    (h : t.data.toList = 60 :: (name.data.toList ++ (g1 ++ (a.data.toList ++ (g2 ++ 61 :: (g3 ++ 39 :: (raw ++ 39 :: (g4 ++ [47, 62]))))))))
    (w1 : ∀ y ∈ g1, isB y = true) (w2 : ∀ y ∈ g2, isB y = true) (w3 : ∀ y ∈ g3, isB y = true) (w4 : ∀ y ∈ g4, isB y = true) (hg1 : 0 < g1.length)
    (hr : (39 : UInt8) ∉ raw) (hv : (readF (stepV ⟨raw.toArray⟩) (⟨raw.toArray⟩ : ByteArray).size).2.2 = 0) :
    tokF t 0 = .ok (⟨4, name, [(a, ⟨(readF (stepV ⟨raw.toArray⟩) (⟨raw.toArray⟩ : ByteArray).size).1.toArray⟩)], ⟨#[]⟩, 0⟩, t.size) := by
  have hf0 : From t 0 (60 :: (name.data.toList ++ (g1 ++ (a.data.toList ++ (g2 ++ 61 :: (g3 ++ 39 :: (raw ++ 39 :: (g4 ++ [47, 62])))))))) := by
    rw [← h]
    exact from_zero t
  have hlen := hf0.len
  have hnl : name.data.toList.length = name.size := Array.length_toList
  have hal : a.data.toList.length = a.size := Array.length_toList
  simp only [List.length_cons, List.length_append, List.length_nil, hnl, hal] at hlen
  obtain ⟨c, N, hN, hc⟩ := name_first (qual_ok hn).1
  obtain ⟨e, A, hA, he⟩ := name_first (qual_ok ha).1
  have b33 : ((33 : UInt8) == c) = false := by rw [beq_eq_false_iff_ne]; exact (first_not hc 33 (by decide) (by decide) (by decide)).symm
  have b63 : ((63 : UInt8) == c) = false := by rw [beq_eq_false_iff_ne]; exact (first_not hc 63 (by decide) (by decide) (by decide)).symm
  have b47 : ((47 : UInt8) == c) = false := by rw [beq_eq_false_iff_ne]; exact (first_not hc 47 (by decide) (by decide) (by decide)).symm
  have a62 : ((62 : UInt8) == e) = false := by rw [beq_eq_false_iff_ne]; exact (first_not he 62 (by decide) (by decide) (by decide)).symm
  have a47 : ((47 : UInt8) == e) = false := by rw [beq_eq_false_iff_ne]; exact (first_not he 47 (by decide) (by decide) (by decide)).symm
  have hs : ∀ s, seesB t 0 s = s.isPrefixOf (60 :: c :: (N ++ (g1 ++ (a.data.toList ++ (g2 ++ 61 :: (g3 ++ 39 :: (raw ++ 39 :: (g4 ++ [47, 62])))))))) := by
    intro s
    rw [hf0.sees, hN]
    rfl
  have h1 := hf0.next
  obtain ⟨d, m, hd, hsd⟩ : ∃ d m, g1 ++ (a.data.toList ++ (g2 ++ 61 :: (g3 ++ 39 :: (raw ++ 39 :: (g4 ++ [47, 62]))))) = d :: m ∧ StopB d := by
    cases g1 with
    | nil => cases hg1
    | cons y g => exact ⟨y, _, rfl, stop_blank (w1 y (List.mem_cons_self ..))⟩
  have hq : qualF t (0 + 1) = .ok (name, 0 + 1 + name.size) := by
    rw [hd] at h1
    exact qual_here hn h1 hsd
  have h2 := h1.tail
  rw [hnl] at h2
  have h3 := h2.tail
  have hwa : whiteTo t (0 + 1 + name.size) = 0 + 1 + name.size + g1.length := by
    rw [hA] at h2
    exact h2.white w1 (first_blank he)
  have hp := pair_here ha h3 w2 w3 hr hv
  have h9 : From t (0 + 1 + name.size + g1.length + a.size + g2.length + 1 + g3.length + 1 + raw.length + 1) (g4 ++ [47, 62]) := by
    have q := h3.tail
    rw [hal] at q
    exact ((q.tail.next).tail.next).tail.next
  have hw9 := h9.white w4 (by decide)
  have hs9 := h9.tail
  unfold tokF opensB
  simp only [hs, List.isPrefixOf, b33, b63, b47, BEq.rfl, Bool.and_true, Bool.false_and, Bool.and_false]
  rw [if_neg (by simp), if_neg (by simp), if_neg (by simp), if_neg (by simp), if_neg (by simp), if_neg (by simp), if_neg (by simp), if_pos trivial]
  unfold tagF
  rw [hq]
  simp only
  rw [tagGo, hwa, h3.sees, h3.sees, hA]
  simp only [List.cons_append, List.isPrefixOf, a62, a47, Bool.false_and]
  rw [if_neg (by simp), if_neg (by simp), if_neg (by omega), hp]
  simp only
  rw [if_neg (by simp), List.nil_append]
  obtain ⟨f, hf⟩ : ∃ f, t.size = f + 1 := ⟨t.size - 1, by omega⟩
  rw [hf, tagGo, hw9, hs9.sees, hs9.sees]
  simp only [List.isPrefixOf, BEq.rfl, Bool.true_and]
  rw [if_neg (by decide), if_pos (by decide)]
  congr 2
  omega
/-- White space that the statement puts in: its line ends made one it is white space, and there is some. -/
structure Gap (gap : ByteArray) (g : List UInt8) : Prop where
  lines : linesL gap.data.toList = g
  blank : ∀ y ∈ g, isB y = true
  some : 0 < g.length
  fault : (faultF ⟨g.toArray⟩).2 = 0
theorem tw_le (c : UInt8) (r : List UInt8) (hc : isB c = false) : ∀ l : List UInt8, ((l ++ c :: r).takeWhile isB).length ≤ l.length
  | [] => by simp [hc]
  | a :: l => by
    rw [List.cons_append, List.takeWhile_cons]
    split
    · have := tw_le c r hc l
      simp only [List.length_cons]
      omega
    · simp
theorem mem_from {t : ByteArray} {k : Nat} {l : List UInt8} {c : UInt8} (h : From t k l) (hc : c ∈ l) : c ∈ t.data.toList := by
  rw [← h.2] at hc
  exact List.mem_of_mem_drop hc
/-- MORE WHITE SPACE CHANGES NOTHING. -/
theorem spaces_plain {name a v gap s u : ByteArray} {g : List UInt8} {y : Nat × Tok} {val : ByteArray} (hg : Gap gap g)
    (hs : s.data.toList = 60 :: (name.data.toList ++ 32 :: (a.data.toList ++ 61 :: 39 :: (v.data.toList ++ [39, 47, 62]))))
    (hu : u.data.toList = 239 :: 187 :: 191 :: 60 :: (name.data.toList ++ (gap.data.toList ++ (a.data.toList ++ (gap.data.toList ++ 61 :: (gap.data.toList ++ 39 :: (v.data.toList ++ 39 :: (gap.data.toList ++ [47, 62]))))))))
    (h : allF s = .ok [y]) (h4 : y.2.kind = 4) (hp : y.2.pairs = [(a, val)]) (hn : y.2.name = name) (hz : u.size ≤ 65536) : allF u = .ok [y] := by
  obtain ⟨h1, h2, h3⟩ := all_ok2 h
  have hT : (textF s).data.toList = 60 :: linesL (name.data.toList ++ 32 :: (a.data.toList ++ 61 :: 39 :: (v.data.toList ++ [39, 47, 62]))) := by
    have hb : bareB s = s := by
      unfold bareB
      rw [hs]
      rfl
    rw [text_bare, hb, linesB_list, hs, lines_cons _ (by decide)]
  have n13 : (13 : UInt8) ∉ (textF s).data.toList := by
    rw [text_bare, linesB_list]
    exact lines_no13 _
  obtain ⟨T, hTe⟩ : ∃ T, textF s = T := ⟨_, rfl⟩
  rw [hTe] at hT n13 h2 h3
  obtain ⟨t1, t2, t3⟩ := toks_one h3
  have t4 := tag_kind t1 t2 h4
  have hf0 : From T (0 + 1) (linesL (name.data.toList ++ 32 :: (a.data.toList ++ 61 :: 39 :: (v.data.toList ++ [39, 47, 62])))) := by
    have := from_zero T
    rw [hT] at this
    exact this.next
  unfold tagF at t4
  split at t4
  · cases t4
  rename_i n i hq
  rw [tagGo] at t4
  split at t4
  · injection t4 with t4
    injection t4 with t4 _
    rw [← t4] at hp
    cases hp
  split at t4
  · injection t4 with t4
    injection t4 with t4 _
    rw [← t4] at hp
    cases hp
  split at t4
  · cases t4
  split at t4
  · cases t4
  rename_i p m hpair
  split at t4
  · cases t4
  obtain ⟨_, g0⟩ := tag_pairs _ _ _ _ _ t4
  obtain ⟨g1, g2⟩ := g0 (by rw [hp]; rfl)
  rw [hp] at g1
  injection g1 with g1 _
  subst g1
  rcases g2 with g2 | ⟨gx, _, gi⟩
  · omega
  rw [gx] at hn
  have hn' : n = name := hn
  subst hn'
  obtain ⟨hq0, hqi⟩ := qual_alone hq
  obtain ⟨_, n2, n3, _⟩ := name_ok (qual_ok hq).1
  obtain ⟨l, hl1, hl2, _⟩ := from_at n2 (by omega) n3
  have nn : (13 : UInt8) ∉ n.data.toList := fun q => n13 (mem_from hl1 (List.mem_append_left _ q))
  rw [lines_keep _ _ nn, lines_cons _ (by decide)] at hf0
  have hl : l = 32 :: linesL (a.data.toList ++ 61 :: 39 :: (v.data.toList ++ [39, 47, 62])) := List.append_cancel_left (hl1.same hf0)
  subst hl
  obtain ⟨i', j, raw, p1, p2, p3, p4, p5⟩ := pair_ok hpair
  have p1' : qualF T (whiteTo T i) = .ok (a, i') := p1
  obtain ⟨ha0, hai⟩ := qual_alone p1'
  obtain ⟨_, a2, a3, _⟩ := name_ok (qual_ok p1').1
  obtain ⟨l2, hm1, hm2, _⟩ := from_at a2 (by omega) a3
  have na : (13 : UInt8) ∉ a.data.toList := fun q => n13 (mem_from hm1 (List.mem_append_left _ q))
  have hvl : linesL (v.data.toList ++ [39, 47, 62]) = linesL v.data.toList ++ [39, 47, 62] := lines_head _ _ (by simp)
  rw [lines_keep _ _ na, lines_cons _ (by decide), lines_cons _ (by decide), hvl] at hl2
  obtain ⟨e, A, hA, he⟩ := name_first (qual_ok ha0).1
  have hw : whiteTo T i = i + 1 := by
    have q : From T i ([32] ++ e :: (A ++ 61 :: 39 :: (linesL v.data.toList ++ [39, 47, 62]))) := by
      rw [hA] at hl2
      exact hl2
    exact q.white (by simp [isB]) (first_blank he)
  rw [hw] at hm1 hai
  have hl3 : l2 = 61 :: 39 :: (linesL v.data.toList ++ [39, 47, 62]) := List.append_cancel_left (hm1.same hl2.next)
  subst hl3
  have hj := equals_here (g := []) (g' := []) hm2 (fun y hy => by cases hy) (fun y hy => by cases hy) (by decide)
  rw [hj] at p2
  injection p2 with p2
  have p2' : j = i' + 1 := by rw [← p2]; rfl
  subst p2'
  have h39 := hm2.next
  have hno : (39 : UInt8) ∉ linesL v.data.toList := by
    intro hmem
    obtain ⟨L1, L2, hL, hL1⟩ := List.eq_append_cons_of_mem hmem
    have q : From T (i' + 1) (39 :: (L1 ++ 39 :: (L2 ++ [39, 47, 62]))) := by
      rw [hL, List.append_assoc] at h39
      exact h39
    rw [quoted_here q hL1] at p3
    injection p3 with p3
    injection p3 with _ p3
    have q2 := (q.next.tail).next
    rw [p3] at q2
    have hlen := q2.len
    have hle := tw_le 39 [47, 62] (by decide) L2
    unfold whiteTo at gi
    rw [q2.2] at gi
    simp only [List.length_append, List.length_cons, List.length_nil] at hlen
    omega
  rw [quoted_here h39 hno] at p3
  injection p3 with p3
  injection p3 with p3 p6
  subst p3
  -- the other text
  obtain ⟨U, hUe⟩ : ∃ U, textF u = U := ⟨_, rfl⟩
  have hU : U.data.toList = 60 :: (n.data.toList ++ (g ++ (a.data.toList ++ (g ++ 61 :: (g ++ 39 :: (linesL v.data.toList ++ 39 :: (g ++ [47, 62]))))))) := by
    have hb : (bareB u).data.toList = 60 :: (n.data.toList ++ (gap.data.toList ++ (a.data.toList ++ (gap.data.toList ++ 61 :: (gap.data.toList ++ 39 :: (v.data.toList ++ 39 :: (gap.data.toList ++ [47, 62]))))))) := by
      have hpre : Lib.hasPrefix u.data.toList [239, 187, 191] = true := by
        rw [hu]
        simp [Lib.hasPrefix, List.isPrefixOf]
      unfold bareB
      rw [if_pos hpre]
      simp only [ByteArray.data_extract, Array.toList_extract, List.extract_eq_take_drop]
      have hul := congrArg List.length hu
      rw [Array.length_toList] at hul
      have hue : u.data.size = u.size := rfl
      rw [hu]
      rw [List.take_of_length_le]
      · rfl
      · rw [List.length_drop]
        omega
    have hae : (a.data.toList ++ (gap.data.toList ++ 61 :: (gap.data.toList ++ 39 :: (v.data.toList ++ 39 :: (gap.data.toList ++ [47, 62]))))).head? ≠ some 10 := by
      rw [hA]
      intro q
      injection q with q
      rw [q] at he
      have := first_blank he
      revert this
      decide
    rw [← hUe, text_bare, linesB_list, hb, lines_cons _ (by decide), lines_keep _ _ nn, lines_head _ _ hae, lines_keep _ _ na, lines_head _ (61 :: _) (by simp), lines_cons _ (by decide), lines_head _ (39 :: _) (by simp), lines_cons _ (by decide),
      lines_head _ (39 :: _) (by simp), lines_cons _ (by decide), lines_head _ [47, 62] (by simp), hg.lines]
    rfl
  have hlone := lone_here hq0 ha0 hU hg.blank hg.blank hg.blank hg.blank hg.some hno p4
  have hUz : 0 < U.size := by
    have := congrArg List.length hU
    rw [Array.length_toList, List.length_cons] at this
    show 0 < U.data.size
    omega
  -- faults
  have fT : T = ⟨#[60]⟩ ++ (n ++ (⟨#[32]⟩ ++ (a ++ (⟨#[61, 39]⟩ ++ (⟨(linesL v.data.toList).toArray⟩ ++ ⟨#[39, 47, 62]⟩))))) := by
    apply eq_of_list
    rw [hT, lines_keep _ _ nn, lines_cons _ (by decide), lines_keep _ _ na, lines_cons _ (by decide), lines_cons _ (by decide), hvl]
    simp
  rw [fT] at h2
  have f1 := fault_tail (by decide) h2
  have f2 := fault_front (c := 32) (by decide) ⟨_, by rw [ByteArray.data_append, Array.toList_append]; rfl⟩ f1
  have f3 := fault_tail f2 f1
  have f4 := fault_tail (by decide) f3
  have f5 := fault_front (c := 61) (by decide) ⟨_, by rw [ByteArray.data_append, Array.toList_append]; rfl⟩ f4
  have f6 := fault_tail f5 f4
  have f7 := fault_tail (by decide) f6
  have f8 := fault_front (c := 39) (by decide) ⟨_, rfl⟩ f7
  have fU : U = ⟨#[60]⟩ ++ (n ++ (⟨g.toArray⟩ ++ (a ++ (⟨g.toArray⟩ ++ (⟨#[61]⟩ ++ (⟨g.toArray⟩ ++ (⟨#[39]⟩ ++ (⟨(linesL v.data.toList).toArray⟩ ++ (⟨#[39]⟩ ++ (⟨g.toArray⟩ ++ ⟨#[47, 62]⟩)))))))))) := by
    apply eq_of_list
    rw [hU]
    simp
  have fUz : (faultF U).2 = 0 := by
    rw [fU]
    exact fault_cat (by decide) (fault_cat f2 (fault_cat hg.fault (fault_cat f5 (fault_cat hg.fault (fault_cat (by decide) (fault_cat hg.fault (fault_cat (by decide) (fault_cat f8 (fault_cat (by decide) (fault_cat hg.fault (by decide)))))))))))
  unfold allF
  rw [if_neg (by omega), hUe, if_neg (by rw [fUz]; simp), toks_just hUz hlone]
  congr 2
  obtain ⟨y0, y1⟩ := y
  simp only at gx t3
  have p5' : val = _ := p5
  rw [gx, t3, p5']
  rfl
end Go.Proofs.YtcfecnleibeegaaDoor
