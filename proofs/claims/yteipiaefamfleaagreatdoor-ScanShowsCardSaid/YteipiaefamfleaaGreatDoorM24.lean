/- Proved here: plain facts: what the scanner reads of a text it reads of it with a < and more behind it as well; no walk. | Proved here: the document's Stands, White, Find answer what the plain functions say. -/
import Derived.Test.YteipiaefamfleaaGreatDoorM1
import Derived.WalkKit
import Derived.BigGuardPart
import Derived.Laws.DeepStrings4
namespace Go.Proofs.YteipiaefamfleaaGreatDoor
open Go.RowKit

theorem pfx_join (c : UInt8) : ∀ (s L r : List UInt8), c ∉ s → s.isPrefixOf (L ++ c :: r) = s.isPrefixOf L
  | [], L, r, _ => by cases L <;> rfl
  | a :: s, [], r, h => by
    have : (a == c) = false := by
      rw [beq_eq_false_iff_ne]
      rintro rfl
      exact h (List.mem_cons_self ..)
    simp [List.isPrefixOf, this]
  | a :: s, b :: L, r, h => by
    simp only [List.cons_append, List.isPrefixOf]
    rw [pfx_join c s L r (fun e => h (List.mem_cons_of_mem _ e))]
theorem sees_mono {t : ByteArray} {k : Nat} {s : List UInt8} (r : ByteArray) (hk : k ≤ t.size) (h : seesB t k s = true) : seesB (t ++ r) k s = true := by
  unfold seesB Lib.hasPrefix at h ⊢
  rw [drop_left t r k hk]
  obtain ⟨q, hq⟩ := List.isPrefixOf_iff_prefix.1 h
  exact List.isPrefixOf_iff_prefix.2 ⟨q ++ r.data.toList, by rw [← List.append_assoc, hq]⟩
theorem sees_back {t r : ByteArray} {k : Nat} {s : List UInt8} (hk : k + s.length ≤ t.size) (h : seesB (t ++ r) k s = true) : seesB t k s = true := by
  unfold seesB Lib.hasPrefix at h ⊢
  rw [drop_left t r k (by omega)] at h
  refine List.isPrefixOf_iff_prefix.2 (List.prefix_of_prefix_length_le (List.isPrefixOf_iff_prefix.1 h) (List.prefix_append _ _) ?_)
  simp
  omega
theorem occ_sees (t : ByteArray) (k m : Nat) (s : List UInt8) : Lib.occAt (t.data.toList.drop k) s m = seesB t (k + m) s := by
  unfold Lib.occAt seesB Lib.hasPrefix
  rw [List.drop_drop]
theorem find_iff {t : ByteArray} {k i : Nat} {s : List UInt8} (hk : k ≤ t.size) : findF t k s = some i ↔ (k ≤ i ∧ i ≤ t.size ∧ seesB t i s = true ∧ ∀ j, k ≤ j → j < i → seesB t j s = false) := by
  have hl : (t.data.toList.drop k).length = t.size - k := by simp
  unfold findF
  rcases Lib.index_spec (t.data.toList.drop k) s with ⟨e, hno⟩ | ⟨m, e, hm, ho, hn⟩
  · rw [if_pos (by omega)]
    constructor
    · intro h
      cases h
    · rintro ⟨h1, h2, h3, _⟩
      have := hno (i - k) (by omega)
      rw [occ_sees, show k + (i - k) = i by omega, h3] at this
      cases this
  · rw [if_neg (by omega), e]
    rw [occ_sees] at ho
    constructor
    · intro h
      injection h with h
      have hi : i = k + m := by omega
      subst hi
      refine ⟨by omega, by omega, ho, fun j hj hlt => ?_⟩
      have := hn (j - k) (by omega)
      rw [occ_sees, show k + (j - k) = j by omega] at this
      exact this
    · rintro ⟨h1, h2, h3, h4⟩
      congr 1
      rcases Nat.lt_trichotomy (k + m) i with g | g | g
      · have := h4 (k + m) (by omega) g
        rw [ho] at this
        cases this
      · omega
      · have := hn (i - k) (by omega)
        rw [occ_sees, show k + (i - k) = i by omega, h3] at this
        cases this
theorem find_none_iff {t : ByteArray} {k : Nat} {s : List UInt8} (hk : k ≤ t.size) : findF t k s = none ↔ ∀ j, k ≤ j → j ≤ t.size → seesB t j s = false := by
  constructor
  · intro h j h1 h2
    rcases Lib.index_spec (t.data.toList.drop k) s with ⟨e, hno⟩ | ⟨m, e, _⟩
    · have := hno (j - k) (by simp; omega)
      rw [occ_sees, show k + (j - k) = j by omega] at this
      exact this
    · have := find_none h
      omega
  · intro h
    cases g : findF t k s with
    | none => rfl
    | some i =>
      obtain ⟨h1, h2, h3, _⟩ := (find_iff hk).1 g
      rw [h i h1 h2] at h3
      cases h3
theorem find_join {t : ByteArray} {k i : Nat} {s : List UInt8} (r : ByteArray) (hk : k ≤ t.size) (h : findF t k s = some i) : findF (t ++ r) k s = some i := by
  obtain ⟨h1, h2, h3, h4⟩ := (find_iff hk).1 h
  have hr := sees_room h2 h3
  have hs := size_cat t r
  refine (find_iff (by omega)).2 ⟨h1, by omega, sees_mono r h2 h3, fun j hj hlt => ?_⟩
  rw [← Bool.not_eq_true]
  intro e
  have := sees_back (by omega) e
  rw [h4 j hj hlt] at this
  cases this
theorem ext_left (t r : ByteArray) (k i : Nat) (hi : i ≤ t.size) : (t ++ r).extract k i = t.extract k i := by
  apply eq_of_list
  simp only [ByteArray.data_extract, ByteArray.data_append, Array.toList_extract, Array.toList_append, List.extract_eq_take_drop]
  by_cases hk : k ≤ i
  · rw [List.drop_append_of_le_length (by simp; omega), List.take_append_of_le_length (by simp; omega)]
  · rw [show i - k = 0 by omega, List.take_zero, List.take_zero]

theorem rdN_cut (n n' x0 x1 x2 x3 y1 y2 y3 : Nat) (h0 : x0 < 256) (h : (rdN n x0 x1 x2 x3).2 = 0) (hn : 0 < n) (_hn' : n ≤ n') (e1 : 1 < n → y1 = x1) (e2 : 2 < n → y2 = x2) (e3 : 3 < n → y3 = x3)
    (z1 : n = 1 → y1 < 128) (z2 : n = 2 → y2 < 128) (z3 : n = 3 → y3 < 128) : (rdN n' x0 y1 y2 y3).2 = 0 := by
  by_cases a : x0 < 128
  · rw [rd_ascii a] at h
    cases h
  by_cases a2 : x0 < 192 ∨ 248 ≤ x0
  · rw [rd_none (by omega) h0]
  by_cases a3 : x0 < 224
  · by_cases g : n' < 2 ∨ y1 < 128 ∨ 191 < y1 ∨ 64 * (x0 - 192) + (y1 - 128) < 128
    · rw [rd2_no (by omega) g]
    · exfalso
      have q1 : 1 < n := by
        rcases Nat.lt_or_ge 1 n with q | q
        · exact q
        · have := z1 (by omega)
          omega
      have := e1 q1
      subst this
      rw [rd2_yes (by omega) (by omega) (by omega) (by omega) (by omega)] at h
      cases h
  by_cases a4 : x0 < 240
  · by_cases g : n' < 3 ∨ y1 < 128 ∨ 191 < y1 ∨ y2 < 128 ∨ 191 < y2 ∨ v3 x0 y1 y2 < 2048 ∨ (55296 ≤ v3 x0 y1 y2 ∧ v3 x0 y1 y2 ≤ 57343)
    · rw [rd3_no (by omega) g]
    · exfalso
      have q1 : 2 < n := by
        rcases Nat.lt_or_ge 2 n with q | q
        · exact q
        · rcases Nat.lt_or_ge 1 n with q2 | q2
          · have := z2 (by omega)
            omega
          · have := z1 (by omega)
            omega
      have w1 := e1 (by omega)
      have w2 := e2 q1
      subst w1 w2
      rw [rd3_yes (by omega) (by omega) (by omega) (by omega) (by omega) (by omega) (by omega) (by omega)] at h
      cases h
  · by_cases g : n' < 4 ∨ y1 < 128 ∨ 191 < y1 ∨ y2 < 128 ∨ 191 < y2 ∨ y3 < 128 ∨ 191 < y3 ∨ v4 x0 y1 y2 y3 < 65536 ∨ 1114111 < v4 x0 y1 y2 y3
    · rw [rd4_no (by omega) g]
    · exfalso
      have q1 : 3 < n := by
        rcases Nat.lt_or_ge 3 n with q | q
        · exact q
        · rcases Nat.lt_or_ge 2 n with q2 | q2
          · have := z3 (by omega)
            omega
          · rcases Nat.lt_or_ge 1 n with q3 | q3
            · have := z2 (by omega)
              omega
            · have := z1 (by omega)
              omega
      have w1 := e1 (by omega)
      have w2 := e2 (by omega)
      have w3 := e3 q1
      subst w1 w2 w3
      rw [rd4_yes (by omega) (by omega) (by omega) (by omega) (by omega) (by omega) (by omega) (by omega) (by omega) (by omega)] at h
      cases h

/-- The text r begins with a byte. -/
def Beg (c : UInt8) (r : ByteArray) : Prop := ∃ l, r.data.toList = c :: l
theorem Beg.size {c : UInt8} {r : ByteArray} (h : Beg c r) : 0 < r.size := by
  obtain ⟨l, hl⟩ := h
  have := congrArg List.length hl
  rw [Array.length_toList, List.length_cons] at this
  show 0 < r.data.size
  omega
theorem Beg.get {c : UInt8} {r : ByteArray} (h : Beg c r) : r.get! 0 = c := by
  have h1 := get!_of r 0 h.size
  obtain ⟨l, hl⟩ := h
  rw [hl] at h1
  exact (Option.some.inj h1).symm
theorem Beg.cat {c : UInt8} {t r : ByteArray} (h : Beg c r) : (t ++ r).get! t.size = c := by
  have := get!_right t r 0
  rw [Nat.add_zero] at this
  rw [this, h.get]
/-- A byte that ends every name. -/
structure StopB (c : UInt8) : Prop where
  low : c.toNat < 128
  colon : c.toNat ≠ 58
  part : partB (c.toNat : Int) = false
theorem stop_lt : StopB 60 := ⟨by decide, by decide, by decide⟩
/-- The text r begins with a <. -/
abbrev Lt (r : ByteArray) : Prop := Beg 60 r
theorem sees_join {t r : ByteArray} (hr : Lt r) {k : Nat} {s : List UInt8} (hk : k ≤ t.size) (hs : (60 : UInt8) ∉ s) : seesB (t ++ r) k s = seesB t k s := by
  obtain ⟨l, hl⟩ := hr
  unfold seesB Lib.hasPrefix
  rw [drop_left t r k hk, hl, pfx_join 60 s _ l hs]
theorem sees_in {t r : ByteArray} (hr : Lt r) {k : Nat} {c : UInt8} {s : List UInt8} (hk : k < t.size) (hs : (60 : UInt8) ∉ s) : seesB (t ++ r) k (c :: s) = seesB t k (c :: s) := by
  obtain ⟨l, hl⟩ := hr
  unfold seesB Lib.hasPrefix
  rw [drop_left t r k (Nat.le_of_lt hk), hl, drop_at t k hk]
  simp only [List.cons_append, List.isPrefixOf]
  rw [pfx_join 60 s _ l hs]
theorem tw_join (l : List UInt8) : ∀ L : List UInt8, (L ++ 60 :: l).takeWhile isB = L.takeWhile isB
  | [] => rfl
  | a :: L => by
    simp only [List.cons_append, List.takeWhile_cons]
    rw [tw_join l L]
theorem white_join {t r : ByteArray} (hr : Lt r) {k : Nat} (hk : k ≤ t.size) : whiteTo (t ++ r) k = whiteTo t k := by
  obtain ⟨l, hl⟩ := hr
  unfold whiteTo
  rw [drop_left t r k hk, hl, tw_join]
theorem chars_join {t r : ByteArray} (hr : Lt r) {k : Nat} (hk : k ≤ t.size) : charsTo (t ++ r) k = charsTo t k := by
  unfold charsTo
  cases h : findF t k [60] with
  | some i => rw [find_join r hk h]; rfl
  | none =>
    have hs := size_cat t r
    have hz := hr.size
    have : findF (t ++ r) k [60] = some t.size := by
      refine (find_iff (by omega)).2 ⟨hk, by omega, ?_, fun j hj hlt => ?_⟩
      · rw [sees_one (by omega), hr.cat]
        rfl
      · rw [sees_in hr hlt (by simp)]
        exact (find_none_iff hk).1 h j hj (by omega)
    rw [this]
    rfl
theorem rd_join0 {c : UInt8} {t r : ByteArray} (hc : c.toNat < 128) (hr : Beg c r) {k : Nat} (hk : k < t.size) (h : (rd t k).2 = 0) : (rd (t ++ r) k).2 = 0 := by
  have hz := hr.size
  have hs := size_cat t r
  unfold rd
  rw [get!_left t r k hk]
  refine rdN_cut (t.size - k) ((t ++ r).size - k) (t.get! k).toNat (t.get! (k + 1)).toNat (t.get! (k + 2)).toNat (t.get! (k + 3)).toNat _ _ _ (t.get! k).toNat_lt h (by omega) (by omega) ?_ ?_ ?_ ?_ ?_ ?_
  · intro q
    rw [get!_left t r _ (by omega)]
  · intro q
    rw [get!_left t r _ (by omega)]
  · intro q
    rw [get!_left t r _ (by omega)]
  · intro q
    rw [show k + 1 = t.size by omega, hr.cat]
    exact hc
  · intro q
    rw [show k + 2 = t.size by omega, hr.cat]
    exact hc
  · intro q
    rw [show k + 3 = t.size by omega, hr.cat]
    exact hc
theorem next_join {c : UInt8} {t r : ByteArray} (hc : StopB c) (hr : Beg c r) {k : Nat} (hk : k < t.size) : nextF (t ++ r) k = nextF t k := by
  by_cases h : (rd t k).2 = 0
  · unfold nextF
    rw [if_pos h, if_pos (rd_join0 hc.low hr hk h)]
  · unfold nextF
    rw [rd_left t r k hk h]
theorem next_lt {c : UInt8} {t r : ByteArray} (hc : StopB c) (hr : Beg c r) : ¬ ((nextF (t ++ r) t.size).1 = 58 ∨ partB ((nextF (t ++ r) t.size).1 : Nat) = true) := by
  have e : rd (t ++ r) t.size = (c.toNat, 1) := by
    have := rd_right t r 0
    rw [Nat.add_zero] at this
    rw [this]
    unfold rd
    rw [Nat.zero_add, hr.get]
    exact rd_ascii hc.low
  have hn : nextF (t ++ r) t.size = if charB (c.toNat : Int) then (c.toNat, t.size + 1, 0) else (0, 0, 21) := by
    unfold nextF
    rw [e, if_neg (by simp)]
  rw [hn]
  split
  · rintro (g | g)
    · exact hc.colon g
    · rw [hc.part] at g
      cases g
  · rintro (g | g)
    · cases g
    · revert g
      decide
theorem goes_join {c : UInt8} {t r : ByteArray} (hc : StopB c) (hr : Beg c r) {k : Nat} (hk : k ≤ t.size) : goesB (t ++ r) k ↔ goesB t k := by
  have hs := size_cat t r
  by_cases h : k < t.size
  · unfold goesB
    rw [next_join hc hr h]
    constructor
    · rintro ⟨_, g⟩
      exact ⟨h, g⟩
    · rintro ⟨_, g⟩
      exact ⟨by omega, g⟩
  · obtain rfl : k = t.size := by omega
    constructor
    · rintro ⟨_, _, g⟩
      exact absurd g (next_lt hc hr)
    · rintro ⟨g, _⟩
      exact absurd g h
theorem parts_join {c : UInt8} {t r : ByteArray} (hc : StopB c) (hr : Beg c r) : ∀ f g k, k ≤ t.size → t.size ≤ k + f → t.size ≤ k + g → partsGo (t ++ r) g k = partsGo t f k
  | 0, g, k, hk, hf, _ => by
    have h : ¬ goesB t k := fun q => by have := q.1; omega
    rw [parts_stop h, parts_stop (fun q => h ((goes_join hc hr hk).1 q))]
  | f + 1, g, k, hk, hf, hg => by
    by_cases h : goesB t k
    · have hlt := h.1
      obtain ⟨g', rfl⟩ : ∃ g', g = g' + 1 := ⟨g - 1, by omega⟩
      have hn := next_step h.1 h.2.1
      rw [parts_step h, parts_step ((goes_join hc hr hk).2 h), next_join hc hr hlt]
      exact parts_join hc hr f g' _ hn.2 (by omega) (by omega)
    · rw [parts_stop h, parts_stop (fun q => h ((goes_join hc hr hk).1 q))]
theorem name_join {c : UInt8} {t r n : ByteArray} (hc : StopB c) (hr : Beg c r) {k i : Nat} (h : nameF t k = .ok (n, i)) : nameF (t ++ r) k = .ok (n, i) := by
  obtain ⟨h1, h2, h3, h4, h5, h6, h7⟩ := name_ok h
  have hs := size_cat t r
  have hp : partsGo (t ++ r) (t ++ r).size k = i := by rw [parts_join hc hr t.size (t ++ r).size k (by omega) (by omega) (by omega), h4]
  unfold nameF
  rw [next_join hc hr h5, if_pos ⟨by omega, h6, h7⟩, hp, ext_left t r k i h2, h3]
theorem qual_join {c : UInt8} {t r n : ByteArray} (hc : StopB c) (hr : Beg c r) {k i : Nat} (h : qualF t k = .ok (n, i)) : qualF (t ++ r) k = .ok (n, i) := by
  obtain ⟨h1, h2⟩ := qual_ok h
  unfold qualF
  rw [name_join hc hr h1]
  simp only
  rw [if_pos h2]
theorem equals_join {t r : ByteArray} (hr : Lt r) {k : Nat} (hk : k ≤ t.size) : equalsF (t ++ r) k = equalsF t k := by
  unfold equalsF
  have hw := white_le hk
  rw [white_join hr hk, sees_join hr hw (by decide)]
  cases h : seesB t (whiteTo t k) [61]
  · rfl
  · have := sees_room hw h
    simp only [List.length_cons, List.length_nil] at this
    rw [white_join hr this]
theorem quoted_join {t r raw : ByteArray} (hr : Lt r) {k m : Nat} (hk : k ≤ t.size) (h : quotedF t k = some (raw, m)) : quotedF (t ++ r) k = some (raw, m) := by
  unfold quotedF at h ⊢
  rw [sees_join hr hk (by decide), sees_join hr hk (by decide)]
  split at h
  · rename_i g
    have hk1 := sees_room hk g
    rw [if_pos g]
    simp only [List.length_cons, List.length_nil] at hk1
    cases hf : findF t (k + 1) [39] with
    | none => rw [hf] at h; cases h
    | some i =>
      rw [hf] at h
      rw [find_join r hk1 hf]
      have hi := ((find_iff hk1).1 hf).2.1
      simp only [Option.map_some] at h ⊢
      rw [ext_left t r _ i hi]
      exact h
  · rename_i g
    rw [if_neg g]
    split at h
    · rename_i g
      have hk1 := sees_room hk g
      rw [if_pos g]
      simp only [List.length_cons, List.length_nil] at hk1
      cases hf : findF t (k + 1) [34] with
      | none => rw [hf] at h; cases h
      | some i =>
        rw [hf] at h
        rw [find_join r hk1 hf]
        have hi := ((find_iff hk1).1 hf).2.1
        simp only [Option.map_some] at h ⊢
        rw [ext_left t r _ i hi]
        exact h
    · cases h
theorem pair_join {t r : ByteArray} (hr : Lt r) {k m : Nat} {p : ByteArray × ByteArray} (h : pairF t k = .ok (p, m)) : pairF (t ++ r) k = .ok (p, m) := by
  unfold pairF at h ⊢
  split at h
  · cases h
  · rename_i n i hq
    rw [qual_join stop_lt hr hq]
    simp only
    have hi := (name_ok (qual_ok hq).1).2.1
    rw [equals_join hr hi]
    split at h
    · cases h
    · rename_i j hj
      have hje := (equals_ok hi hj).2
      split at h
      · cases h
      · rename_i raw m' hqq
        rw [quoted_join hr hje hqq]
        exact h
theorem tag_join {t r : ByteArray} (hr : Lt r) (n : ByteArray) : ∀ f g k ps x i, k ≤ t.size → f ≤ g → tagGo t n f k ps = .ok (x, i) → tagGo (t ++ r) n g k ps = .ok (x, i)
  | 0, _, _, _, _, _, _, _, h => by cases h
  | f + 1, 0, _, _, _, _, _, hfg, _ => absurd hfg (by omega)
  | f + 1, g + 1, k, ps, x, i, hk, hfg, h => by
    have hw := white_le hk
    unfold tagGo at h ⊢
    rw [white_join hr hk, sees_join hr hw (by decide), sees_join hr hw (by decide)]
    split at h
    · rename_i c
      rw [if_pos c]
      exact h
    rename_i c1
    rw [if_neg c1]
    split at h
    · rename_i c
      rw [if_pos c]
      exact h
    rename_i c2
    rw [if_neg c2]
    split at h
    · cases h
    rename_i c3
    rw [if_neg c3]
    split at h
    · cases h
    rename_i p j hp
    rw [pair_join hr hp]
    simp only
    split at h
    · cases h
    rename_i c4
    rw [if_neg c4]
    exact tag_join hr n f g j _ x i (pair_bd hp).2.1 (by omega) h
theorem prop_join {t r : ByteArray} (hr : Lt r) {k i : Nat} {word : List UInt8} {right : ByteArray → Bool} {p : ByteArray × ByteArray} (hw60 : (60 : UInt8) ∉ word) (hk : k ≤ t.size) (h : propF t k word right = some (p, i)) : propF (t ++ r) k word right = some (p, i) := by
  have hw := white_le hk
  unfold propF at h ⊢
  rw [white_join hr hk, sees_join hr hw hw60]
  split at h
  · cases h
  rename_i c
  rw [if_neg c]
  have hs2 : seesB t (whiteTo t k) word = true := by
    rw [← Bool.not_eq_false]
    exact fun e => c (.inr e)
  have hro := sees_room hw hs2
  rw [equals_join hr hro]
  split at h
  · cases h
  rename_i j hj
  have hje := (equals_ok hro hj).2
  split at h
  · cases h
  rename_i raw m hqq
  rw [quoted_join hr hje hqq]
  exact h
/-- No such pair begins there: no white space, or another word. -/
def Absent (t : ByteArray) (k : Nat) (word : List UInt8) : Prop := whiteTo t k = k ∨ seesB t (whiteTo t k) word = false
theorem absent_join {t r : ByteArray} (hr : Lt r) {k : Nat} {word : List UInt8} {right : ByteArray → Bool} (hw60 : (60 : UInt8) ∉ word) (hk : k ≤ t.size) (h : Absent t k word) : propF (t ++ r) k word right = none := by
  have hw := white_le hk
  unfold propF
  rw [white_join hr hk, sees_join hr hw hw60]
  exact if_pos h
theorem sees_clash {t : ByteArray} {k : Nat} {a b : UInt8} {s s' : List UInt8} (hk : k ≤ t.size) (h : seesB t k (a :: s) = true) (h' : seesB t k (b :: s') = true) : a = b := by
  have hlt : k < t.size := by
    have := sees_room hk h
    simp only [List.length_cons] at this
    omega
  have h1 := sees_first h
  have h2 := sees_first h'
  rw [sees_one hlt, beq_iff_eq] at h1 h2
  rw [← h1, ← h2]
theorem decl_end_join {t r : ByteArray} (hr : Lt r) {k i : Nat} {ps : List (ByteArray × ByteArray)} {q : Bool} {x : Tok} (hk : k ≤ t.size) (h : declEnd t k ps q = .ok (x, i)) : declEnd (t ++ r) k ps q = .ok (x, i) ∧ ∀ c word, c ≠ 63 → Absent t k (c :: word) := by
  have hw := white_le hk
  unfold declEnd at h ⊢
  rw [white_join hr hk, sees_join hr hw (by decide)]
  refine ⟨h, fun c word hc => .inr ?_⟩
  split at h
  · rename_i g
    rw [← Bool.not_eq_true]
    intro e
    exact hc (sees_clash hw e g)
  · cases h
theorem decl_alone_join {t r : ByteArray} (hr : Lt r) {k i : Nat} {ps : List (ByteArray × ByteArray)} {q : Bool} {x : Tok} (hk : k ≤ t.size) (h : declAlone t k ps q = .ok (x, i)) : declAlone (t ++ r) k ps q = .ok (x, i) ∧ ∀ c word, c ≠ 63 → c ≠ 115 → Absent t k (c :: word) := by
  unfold declAlone at h ⊢
  split at h
  · have g := decl_end_join hr hk h
    rw [absent_join hr (by decide) hk (g.2 115 _ (by decide))]
    exact ⟨g.1, fun c word hc _ => g.2 c word hc⟩
  · rename_i p j hp
    have hb := prop_ok hk hp
    rw [prop_join hr (by decide) hk hp]
    refine ⟨(decl_end_join hr hb.2.1 h).1, fun c word _ hc => .inr ?_⟩
    unfold propF at hp
    split at hp
    · cases hp
    rename_i g
    have hs2 : seesB t (whiteTo t k) [115, 116, 97, 110, 100, 97, 108, 111, 110, 101] = true := by
      rw [← Bool.not_eq_false]
      exact fun e => g (.inr e)
    rw [← Bool.not_eq_true]
    intro e
    exact hc (sees_clash (white_le hk) e hs2)
theorem decl_join {t r : ByteArray} (hr : Lt r) {k i : Nat} {x : Tok} (hk : k ≤ t.size) (h : declF t k = .ok (x, i)) : declF (t ++ r) k = .ok (x, i) := by
  unfold declF at h ⊢
  split at h
  · cases h
  rename_i v j hv
  have hj := (prop_ok hk hv).2.1
  rw [prop_join hr (by decide) hk hv]
  simp only
  split at h
  · have g := decl_alone_join hr hj h
    rw [absent_join hr (by decide) hj (g.2 101 _ (by decide) (by decide))]
    exact g.1
  · rename_i c m hc
    rw [prop_join hr (by decide) hj hc]
    exact (decl_alone_join hr (prop_ok hj hc).2.1 h).1
theorem opens_join {t r : ByteArray} (hr : Lt r) {k : Nat} (hk : k < t.size) : opensB (t ++ r) k = opensB t k := by
  unfold opensB
  rw [sees_in hr (by omega) (by decide)]
  have hs := size_cat t r
  have hz := hr.size
  cases hsee : seesB t 0 [60, 63, 120, 109, 108]
  · simp
  · have h5 := sees_room (Nat.zero_le _) hsee
    simp only [List.length_cons, List.length_nil] at h5
    by_cases h : 5 < t.size
    · rw [get!_left t r 5 h, decide_eq_true (show 5 < (t ++ r).size by omega), decide_eq_true h]
    · have e5 : (t ++ r).get! 5 = 60 := by
        have := hr.cat (t := t)
        rw [show t.size = 5 by omega] at this
        exact this
      rw [e5, decide_eq_false h, show isB 60 = false from rfl]
      simp
/-- WHAT IS READ OF A TEXT IS READ OF IT WITH A < AND MORE BEHIND IT AS WELL. -/
theorem tok_join {t r : ByteArray} (hr : Lt r) {k i : Nat} {x : Tok} (hk : k < t.size) (h : tokF t k = .ok (x, i)) : tokF (t ++ r) k = .ok (x, i) := by
  have hs := size_cat t r
  unfold tokF at h ⊢
  rw [opens_join hr hk, sees_in hr hk (by decide), sees_in hr hk (by decide), sees_in hr hk (by decide), sees_in hr hk (by decide), sees_in hr hk (by decide), sees_in hr hk (by decide), sees_in hr hk (by decide)]
  split at h
  · rename_i ho
    rw [if_pos ho]
    unfold opensB at ho
    simp only [Bool.and_eq_true, decide_eq_true_eq] at ho
    exact decl_join hr (by omega) h
  rename_i c
  rw [if_neg c]
  split at h
  · rename_i hs
    rw [if_pos hs]
    have hro := sees_room (Nat.le_of_lt hk) hs
    simp only [List.length_cons, List.length_nil] at hro
    unfold commentF at h ⊢
    split at h
    · cases h
    rename_i j hj
    rw [find_join r hro hj]
    simp only
    obtain ⟨_, g2, g3⟩ := find_some hro hj
    simp only [List.length_cons, List.length_nil] at g3
    rw [sees_join hr g3 (by decide), ext_left t r _ j (by omega)]
    exact h
  rename_i c
  rw [if_neg c]
  split at h
  · rename_i hs
    rw [if_pos hs]
    have hro := sees_room (Nat.le_of_lt hk) hs
    simp only [List.length_cons, List.length_nil] at hro
    unfold dataF at h ⊢
    split at h
    · cases h
    rename_i j hj
    rw [find_join r hro hj]
    simp only
    obtain ⟨_, g2, g3⟩ := find_some hro hj
    simp only [List.length_cons, List.length_nil] at g3
    rw [ext_left t r _ j (by omega)]
    exact h
  rename_i c
  rw [if_neg c]
  split at h
  · cases h
  rename_i c
  rw [if_neg c]
  split at h
  · cases h
  rename_i c
  rw [if_neg c]
  split at h
  · rename_i hs
    rw [if_pos hs]
    have hro := sees_room (Nat.le_of_lt hk) hs
    simp only [List.length_cons, List.length_nil] at hro
    unfold instrF at h ⊢
    split at h
    · cases h
    rename_i n j hn
    rw [name_join stop_lt hr hn]
    simp only
    obtain ⟨n1, n2, _⟩ := name_ok hn
    split at h
    · cases h
    rename_i c1
    rw [if_neg c1]
    split at h
    · cases h
    rename_i c2
    rw [if_neg c2, white_join hr n2, sees_join hr n2 (by decide)]
    split at h
    · cases h
    rename_i c3
    rw [if_neg c3]
    split at h
    · cases h
    rename_i m hm
    have hw := white_le n2
    rw [find_join r hw hm]
    simp only
    obtain ⟨_, g2, g3⟩ := find_some hw hm
    simp only [List.length_cons, List.length_nil] at g3
    rw [ext_left t r _ m (by omega)]
    exact h
  rename_i c
  rw [if_neg c]
  split at h
  · rename_i hs
    rw [if_pos hs]
    unfold closingF at h ⊢
    split at h
    · cases h
    rename_i n j hn
    rw [qual_join stop_lt hr hn]
    simp only
    obtain ⟨n1, n2, _⟩ := name_ok (qual_ok hn).1
    rw [white_join hr n2, sees_join hr (white_le n2) (by decide)]
    exact h
  rename_i c
  rw [if_neg c]
  split at h
  · rename_i hs
    rw [if_pos hs]
    unfold tagF at h ⊢
    split at h
    · cases h
    rename_i n j hn
    rw [qual_join stop_lt hr hn]
    simp only
    exact tag_join hr n _ _ j [] x i (name_ok (qual_ok hn).1).2.1 (by omega) h
  rename_i c
  rw [if_neg c]
  unfold charsF at h ⊢
  simp only at h ⊢
  have hc := chars_to (Nat.le_of_lt hk)
  rw [chars_join hr (Nat.le_of_lt hk), ext_left t r _ _ hc.2.1]
  exact h
theorem toks_fuel (t : ByteArray) : ∀ f g k l, k ≤ t.size → t.size ≤ k + f → t.size ≤ k + g → toksGo t f k l = toksGo t g k l
  | 0, 0, k, l, _, _, _ => rfl
  | 0, g + 1, k, l, hk, hf, hg => by
    unfold toksGo
    rw [if_neg (by omega)]
  | f + 1, 0, k, l, hk, hf, hg => by
    unfold toksGo
    rw [if_neg (by omega)]
  | f + 1, g + 1, k, l, hk, hf, hg => by
    unfold toksGo
    by_cases h : k < t.size
    · rw [if_pos h, if_pos h]
      cases hx : tokF t k with
      | error e => rfl
      | ok v =>
        obtain ⟨x, i⟩ := v
        have hb := tok_ok h hx
        exact toks_fuel t f g i _ hb.2.1 (by omega) (by omega)
    · rw [if_neg h, if_neg h]
theorem toks_join {t r : ByteArray} (hr : Lt r) : ∀ f g k l l', k ≤ t.size → t.size ≤ k + f → (t ++ r).size ≤ k + g → toksGo t f k l = .ok l' → toksGo (t ++ r) g k l = toksGo (t ++ r) (t ++ r).size t.size l'
  | 0, g, k, l, l', hk, hf, hg, h => by
    have hs := size_cat t r
    obtain rfl : k = t.size := by omega
    injection h with h
    subst h
    exact toks_fuel _ _ _ _ _ (by omega) hg (by omega)
  | f + 1, g, k, l, l', hk, hf, hg, h => by
    have hs := size_cat t r
    have hz := hr.size
    unfold toksGo at h
    split at h
    · rename_i hlt
      split at h
      · cases h
      · rename_i x i hx
        obtain ⟨g', rfl⟩ : ∃ g', g = g' + 1 := ⟨g - 1, by omega⟩
        have hb := tok_ok hlt hx
        rw [toksGo, if_pos (by omega), tok_join hr hlt hx]
        exact toks_join hr f g' i _ l' hb.2.1 (by omega) (by omega) h
    · obtain rfl : k = t.size := by omega
      injection h with h
      subst h
      exact toks_fuel _ _ _ _ _ (by omega) hg (by omega)
theorem toksF_join {t r : ByteArray} (hr : Lt r) {l : List (Nat × Tok)} (h : toksF t = .ok l) : toksF (t ++ r) = toksGo (t ++ r) (t ++ r).size t.size l :=
  toks_join hr t.size (t ++ r).size 0 [] l (Nat.zero_le _) (by omega) (by omega) h
end Go.Proofs.YteipiaefamfleaaGreatDoor
namespace Go.Proofs.YteipiaefamfleaaGreatDoor
open Go.RowKit

theorem same_list (a b : ByteArray) : (a.toList == b.toList) = decide (a = b) := by
  rw [Bool.eq_iff_iff, decide_eq_true_eq, beq_iff_eq, Lib.toList_data, Lib.toList_data]
  constructor
  · intro e
    exact eq_of_list e
  · rintro rfl
    rfl
theorem sees_ext {t s : ByteArray} {k : Nat} (_h : k + s.size ≤ t.size) : ((t.extract k (k + s.size)).toList == s.toList) = seesB t k s.data.toList := by
  have hl : (t.extract k (k + s.size)).data.toList = (t.data.toList.drop k).take s.size := by
    simp only [ByteArray.data_extract, Array.toList_extract, List.extract_eq_take_drop]
    rw [show k + s.size - k = s.size by omega]
  have hsl : s.data.toList.length = s.size := Array.length_toList
  rw [same_list]
  unfold seesB Lib.hasPrefix
  rw [Bool.eq_iff_iff, decide_eq_true_eq, List.isPrefixOf_iff_prefix]
  constructor
  · intro e
    rw [← e, hl]
    exact List.take_prefix _ _
  · intro hp
    apply eq_of_list
    rw [hl]
    have := List.prefix_iff_eq_take.1 hp
    rw [hsl] at this
    exact this.symm
theorem sees_far {t : ByteArray} {k : Nat} {s : List UInt8} (h : ¬ k + s.length ≤ t.size) (h0 : 0 < s.length) : seesB t k s = false := by
  rw [← Bool.not_eq_true]
  intro e
  have h1 := (List.isPrefixOf_iff_prefix.1 e).length_le
  have e2 : t.data.toList.length = t.size := Array.length_toList
  rw [List.length_drop, e2] at h1
  omega
theorem ws_step {t : ByteArray} {j : Nat} (h : j < t.size) (hb : isB (t.get! j) = true) : whiteTo t (j + 1) = whiteTo t j := by
  unfold whiteTo
  rw [drop_at t j h, List.takeWhile_cons, if_pos hb, List.length_cons]
  omega
theorem ws_stop {t : ByteArray} {j : Nat} (h : ¬ (j < t.size ∧ isB (t.get! j) = true)) : whiteTo t j = j := by
  unfold whiteTo
  by_cases hj : j < t.size
  · rw [drop_at t j hj, List.takeWhile_cons, if_neg (fun e => h ⟨hj, e⟩)]
    rfl
  · rw [List.drop_eq_nil_of_le (by rw [Array.length_toList]; show t.size ≤ j; omega)]
    rfl
theorem idx_get (q : ByteArray) (k : Nat) (h : k < q.size) : q.get! k = q[k] := by
  show q.data[k]! = _
  rw [getElem!_pos q.data k h]; rfl
theorem u8_ne {x : UInt8} {n : Nat} (_hn : n < 256) (h : ¬ x = UInt8.ofNat n) : ¬ (x.toNat : Int) = (n : Int) := by
  intro e
  apply h
  have e2 : x.toNat = n := by omega
  rw [← e2]
  simp
/-- What Find answers. -/
def findZ (t : ByteArray) (k : Nat) (s : List UInt8) : Int := match findF t k s with
  | some i => (i : Int)
  | none => -1
theorem findZ_at {t : ByteArray} {k j : Nat} {s : List UInt8} (hkj : k ≤ j) (hj : j + s.length ≤ t.size) (hno : ∀ i, k ≤ i → i < j → seesB t i s = false) (h : seesB t j s = true) : findZ t k s = (j : Int) := by
  unfold findZ
  rw [(find_iff (by omega)).2 ⟨hkj, by omega, h, hno⟩]
theorem findZ_no {t : ByteArray} {k j : Nat} {s : List UInt8} (hs : 0 < s.length) (hj : ¬ j + s.length ≤ t.size) (hno : ∀ i, k ≤ i → i < j → seesB t i s = false) : findZ t k s = -1 := by
  have : findF t k s = none := by
    unfold findF
    rcases Lib.index_spec (t.data.toList.drop k) s with ⟨e, _⟩ | ⟨m, e, _, ho, _⟩
    · rw [if_pos (by omega)]
    · exfalso
      rw [occ_sees] at ho
      by_cases hm : k + m < j
      · rw [hno (k + m) (by omega) hm] at ho
        cases ho
      · rw [sees_far (by omega) hs] at ho
        cases ho
  unfold findZ
  rw [this]
end Go.Proofs.YteipiaefamfleaaGreatDoor
