/- Proved here: plain facts: what the scanner reads of a text it reads of it with a < and more behind it as well; no walk. | Proved here: the document's Stands, White, Find answer what the plain functions say. | Proved here: what the document's small answers: the text with its capitals made small; and when that is a given text. | Proved here: what the document's value answers: what stands behind an equals between two quotes. | Proved here: plain facts on how the declaration is read, part by part. -/
import Derived.Test.YtidimpepfkdcmaaGreatDoorM1
import Derived.WalkKit
import Derived.BigGuardPart
import Derived.Laws.DeepStrings4
import Derived.Test.YtidimpepfkdcmaaGreatDoorM14
import Derived.Test.YtidimpepfkdcmaaGreatDoorM0
import Derived.Lib.Case
import Derived.Lib.BufferMore
namespace Go.Proofs.YtidimpepfkdcmaaGreatDoor
open Go.RowKit

theorem pfx_join (c : UInt8) : ∀ (s L r : List UInt8), c ∉ s → s.isPrefixOf (L ++ c :: r) = s.isPrefixOf L
  | [], L, r, _ => by cases L <;> rfl
  | a :: s, [], r, h => by
    have : (a == c) = false := by
      rw [beq_eq_false_iff_ne]
      rintro rfl
      exact h (List.mem_cons_self ..)
    simp [List.isPrefixOf, this]
  | a :: s, b :: L, r, h => by
    simp only [List.cons_append, List.isPrefixOf]
    rw [pfx_join c s L r (fun e => h (List.mem_cons_of_mem _ e))]
theorem sees_mono {t : ByteArray} {k : Nat} {s : List UInt8} (r : ByteArray) (hk : k ≤ t.size) (h : seesB t k s = true) : seesB (t ++ r) k s = true := by
  unfold seesB Lib.hasPrefix at h ⊢
  rw [drop_left t r k hk]
  obtain ⟨q, hq⟩ := List.isPrefixOf_iff_prefix.1 h
  exact List.isPrefixOf_iff_prefix.2 ⟨q ++ r.data.toList, by rw [← List.append_assoc, hq]⟩
theorem sees_back {t r : ByteArray} {k : Nat} {s : List UInt8} (hk : k + s.length ≤ t.size) (h : seesB (t ++ r) k s = true) : seesB t k s = true := by
  unfold seesB Lib.hasPrefix at h ⊢
  rw [drop_left t r k (by omega)] at h
  refine List.isPrefixOf_iff_prefix.2 (List.prefix_of_prefix_length_le (List.isPrefixOf_iff_prefix.1 h) (List.prefix_append _ _) ?_)
  simp
  omega
theorem occ_sees (t : ByteArray) (k m : Nat) (s : List UInt8) : Lib.occAt (t.data.toList.drop k) s m = seesB t (k + m) s := by
  unfold Lib.occAt seesB Lib.hasPrefix
  rw [List.drop_drop]
theorem find_iff {t : ByteArray} {k i : Nat} {s : List UInt8} (hk : k ≤ t.size) : findF t k s = some i ↔ (k ≤ i ∧ i ≤ t.size ∧ seesB t i s = true ∧ ∀ j, k ≤ j → j < i → seesB t j s = false) := by
  have hl : (t.data.toList.drop k).length = t.size - k := by simp
  unfold findF
  rcases Lib.index_spec (t.data.toList.drop k) s with ⟨e, hno⟩ | ⟨m, e, hm, ho, hn⟩
  · rw [if_pos (by omega)]
    constructor
    · intro h
      cases h
    · rintro ⟨h1, h2, h3, _⟩
      have := hno (i - k) (by omega)
      rw [occ_sees, show k + (i - k) = i by omega, h3] at this
      cases this
  · rw [if_neg (by omega), e]
    rw [occ_sees] at ho
    constructor
    · intro h
      injection h with h
      have hi : i = k + m := by omega
      subst hi
      refine ⟨by omega, by omega, ho, fun j hj hlt => ?_⟩
      have := hn (j - k) (by omega)
      rw [occ_sees, show k + (j - k) = j by omega] at this
      exact this
    · rintro ⟨h1, h2, h3, h4⟩
      congr 1
      rcases Nat.lt_trichotomy (k + m) i with g | g | g
      · have := h4 (k + m) (by omega) g
        rw [ho] at this
        cases this
      · omega
      · have := hn (i - k) (by omega)
        rw [occ_sees, show k + (i - k) = i by omega, h3] at this
        cases this
theorem find_none_iff {t : ByteArray} {k : Nat} {s : List UInt8} (hk : k ≤ t.size) : findF t k s = none ↔ ∀ j, k ≤ j → j ≤ t.size → seesB t j s = false := by
  constructor
  · intro h j h1 h2
    rcases Lib.index_spec (t.data.toList.drop k) s with ⟨e, hno⟩ | ⟨m, e, _⟩
    · have := hno (j - k) (by simp; omega)
      rw [occ_sees, show k + (j - k) = j by omega] at this
      exact this
    · have := find_none h
      omega
  · intro h
    cases g : findF t k s with
    | none => rfl
    | some i =>
      obtain ⟨h1, h2, h3, _⟩ := (find_iff hk).1 g
      rw [h i h1 h2] at h3
      cases h3
theorem find_join {t : ByteArray} {k i : Nat} {s : List UInt8} (r : ByteArray) (hk : k ≤ t.size) (h : findF t k s = some i) : findF (t ++ r) k s = some i := by
  obtain ⟨h1, h2, h3, h4⟩ := (find_iff hk).1 h
  have hr := sees_room h2 h3
  have hs := size_cat t r
  refine (find_iff (by omega)).2 ⟨h1, by omega, sees_mono r h2 h3, fun j hj hlt => ?_⟩
  rw [← Bool.not_eq_true]
  intro e
  have := sees_back (by omega) e
  rw [h4 j hj hlt] at this
  cases this
theorem ext_left (t r : ByteArray) (k i : Nat) (hi : i ≤ t.size) : (t ++ r).extract k i = t.extract k i := by
  apply eq_of_list
  simp only [ByteArray.data_extract, ByteArray.data_append, Array.toList_extract, Array.toList_append, List.extract_eq_take_drop]
  by_cases hk : k ≤ i
  · rw [List.drop_append_of_le_length (by simp; omega), List.take_append_of_le_length (by simp; omega)]
  · rw [show i - k = 0 by omega, List.take_zero, List.take_zero]

theorem rdN_cut (n n' x0 x1 x2 x3 y1 y2 y3 : Nat) (h0 : x0 < 256) (h : (rdN n x0 x1 x2 x3).2 = 0) (hn : 0 < n) (_hn' : n ≤ n') (e1 : 1 < n → y1 = x1) (e2 : 2 < n → y2 = x2) (e3 : 3 < n → y3 = x3)
    (z1 : n = 1 → y1 < 128) (z2 : n = 2 → y2 < 128) (z3 : n = 3 → y3 < 128) : (rdN n' x0 y1 y2 y3).2 = 0 := by
  by_cases a : x0 < 128
  · rw [rd_ascii a] at h
    cases h
  by_cases a2 : x0 < 192 ∨ 248 ≤ x0
  · rw [rd_none (by omega) h0]
  by_cases a3 : x0 < 224
  · by_cases g : n' < 2 ∨ y1 < 128 ∨ 191 < y1 ∨ 64 * (x0 - 192) + (y1 - 128) < 128
    · rw [rd2_no (by omega) g]
    · exfalso
      have q1 : 1 < n := by
        rcases Nat.lt_or_ge 1 n with q | q
        · exact q
        · have := z1 (by omega)
          omega
      have := e1 q1
      subst this
      rw [rd2_yes (by omega) (by omega) (by omega) (by omega) (by omega)] at h
      cases h
  by_cases a4 : x0 < 240
  · by_cases g : n' < 3 ∨ y1 < 128 ∨ 191 < y1 ∨ y2 < 128 ∨ 191 < y2 ∨ v3 x0 y1 y2 < 2048 ∨ (55296 ≤ v3 x0 y1 y2 ∧ v3 x0 y1 y2 ≤ 57343)
    · rw [rd3_no (by omega) g]
    · exfalso
      have q1 : 2 < n := by
        rcases Nat.lt_or_ge 2 n with q | q
        · exact q
        · rcases Nat.lt_or_ge 1 n with q2 | q2
          · have := z2 (by omega)
            omega
          · have := z1 (by omega)
            omega
      have w1 := e1 (by omega)
      have w2 := e2 q1
      subst w1 w2
      rw [rd3_yes (by omega) (by omega) (by omega) (by omega) (by omega) (by omega) (by omega) (by omega)] at h
      cases h
  · by_cases g : n' < 4 ∨ y1 < 128 ∨ 191 < y1 ∨ y2 < 128 ∨ 191 < y2 ∨ y3 < 128 ∨ 191 < y3 ∨ v4 x0 y1 y2 y3 < 65536 ∨ 1114111 < v4 x0 y1 y2 y3
    · rw [rd4_no (by omega) g]
    · exfalso
      have q1 : 3 < n := by
        rcases Nat.lt_or_ge 3 n with q | q
        · exact q
        · rcases Nat.lt_or_ge 2 n with q2 | q2
          · have := z3 (by omega)
            omega
          · rcases Nat.lt_or_ge 1 n with q3 | q3
            · have := z2 (by omega)
              omega
            · have := z1 (by omega)
              omega
      have w1 := e1 (by omega)
      have w2 := e2 (by omega)
      have w3 := e3 q1
      subst w1 w2 w3
      rw [rd4_yes (by omega) (by omega) (by omega) (by omega) (by omega) (by omega) (by omega) (by omega) (by omega) (by omega)] at h
      cases h

/-- The text r begins with a byte. -/
def Beg (c : UInt8) (r : ByteArray) : Prop := ∃ l, r.data.toList = c :: l
theorem Beg.size {c : UInt8} {r : ByteArray} (h : Beg c r) : 0 < r.size := by
  obtain ⟨l, hl⟩ := h
  have := congrArg List.length hl
  rw [Array.length_toList, List.length_cons] at this
  show 0 < r.data.size
  omega
theorem Beg.get {c : UInt8} {r : ByteArray} (h : Beg c r) : r.get! 0 = c := by
  have h1 := get!_of r 0 h.size
  obtain ⟨l, hl⟩ := h
  rw [hl] at h1
  exact (Option.some.inj h1).symm
theorem Beg.cat {c : UInt8} {t r : ByteArray} (h : Beg c r) : (t ++ r).get! t.size = c := by
  have := get!_right t r 0
  rw [Nat.add_zero] at this
  rw [this, h.get]
/-- A byte that ends every name. -/
structure StopB (c : UInt8) : Prop where
  low : c.toNat < 128
  colon : c.toNat ≠ 58
  part : partB (c.toNat : Int) = false
theorem stop_lt : StopB 60 := ⟨by decide, by decide, by decide⟩
/-- The text r begins with a <. -/
abbrev Lt (r : ByteArray) : Prop := Beg 60 r
theorem sees_join {t r : ByteArray} (hr : Lt r) {k : Nat} {s : List UInt8} (hk : k ≤ t.size) (hs : (60 : UInt8) ∉ s) : seesB (t ++ r) k s = seesB t k s := by
  obtain ⟨l, hl⟩ := hr
  unfold seesB Lib.hasPrefix
  rw [drop_left t r k hk, hl, pfx_join 60 s _ l hs]
theorem sees_in {t r : ByteArray} (hr : Lt r) {k : Nat} {c : UInt8} {s : List UInt8} (hk : k < t.size) (hs : (60 : UInt8) ∉ s) : seesB (t ++ r) k (c :: s) = seesB t k (c :: s) := by
  obtain ⟨l, hl⟩ := hr
  unfold seesB Lib.hasPrefix
  rw [drop_left t r k (Nat.le_of_lt hk), hl, drop_at t k hk]
  simp only [List.cons_append, List.isPrefixOf]
  rw [pfx_join 60 s _ l hs]
theorem tw_join (l : List UInt8) : ∀ L : List UInt8, (L ++ 60 :: l).takeWhile isB = L.takeWhile isB
  | [] => rfl
  | a :: L => by
    simp only [List.cons_append, List.takeWhile_cons]
    rw [tw_join l L]
theorem white_join {t r : ByteArray} (hr : Lt r) {k : Nat} (hk : k ≤ t.size) : whiteTo (t ++ r) k = whiteTo t k := by
  obtain ⟨l, hl⟩ := hr
  unfold whiteTo
  rw [drop_left t r k hk, hl, tw_join]
theorem chars_join {t r : ByteArray} (hr : Lt r) {k : Nat} (hk : k ≤ t.size) : charsTo (t ++ r) k = charsTo t k := by
  unfold charsTo
  cases h : findF t k [60] with
  | some i => rw [find_join r hk h]; rfl
  | none =>
    have hs := size_cat t r
    have hz := hr.size
    have : findF (t ++ r) k [60] = some t.size := by
      refine (find_iff (by omega)).2 ⟨hk, by omega, ?_, fun j hj hlt => ?_⟩
      · rw [sees_one (by omega), hr.cat]
        rfl
      · rw [sees_in hr hlt (by simp)]
        exact (find_none_iff hk).1 h j hj (by omega)
    rw [this]
    rfl
theorem rd_join0 {c : UInt8} {t r : ByteArray} (hc : c.toNat < 128) (hr : Beg c r) {k : Nat} (hk : k < t.size) (h : (rd t k).2 = 0) : (rd (t ++ r) k).2 = 0 := by
  have hz := hr.size
  have hs := size_cat t r
  unfold rd
  rw [get!_left t r k hk]
  refine rdN_cut (t.size - k) ((t ++ r).size - k) (t.get! k).toNat (t.get! (k + 1)).toNat (t.get! (k + 2)).toNat (t.get! (k + 3)).toNat _ _ _ (t.get! k).toNat_lt h (by omega) (by omega) ?_ ?_ ?_ ?_ ?_ ?_
  · intro q
    rw [get!_left t r _ (by omega)]
  · intro q
    rw [get!_left t r _ (by omega)]
  · intro q
    rw [get!_left t r _ (by omega)]
  · intro q
    rw [show k + 1 = t.size by omega, hr.cat]
    exact hc
  · intro q
    rw [show k + 2 = t.size by omega, hr.cat]
    exact hc
  · intro q
    rw [show k + 3 = t.size by omega, hr.cat]
    exact hc
theorem next_join {c : UInt8} {t r : ByteArray} (hc : StopB c) (hr : Beg c r) {k : Nat} (hk : k < t.size) : nextF (t ++ r) k = nextF t k := by
  by_cases h : (rd t k).2 = 0
  · unfold nextF
    rw [if_pos h, if_pos (rd_join0 hc.low hr hk h)]
  · unfold nextF
    rw [rd_left t r k hk h]
theorem next_lt {c : UInt8} {t r : ByteArray} (hc : StopB c) (hr : Beg c r) : ¬ ((nextF (t ++ r) t.size).1 = 58 ∨ partB ((nextF (t ++ r) t.size).1 : Nat) = true) := by
  have e : rd (t ++ r) t.size = (c.toNat, 1) := by
    have := rd_right t r 0
    rw [Nat.add_zero] at this
    rw [this]
    unfold rd
    rw [Nat.zero_add, hr.get]
    exact rd_ascii hc.low
  have hn : nextF (t ++ r) t.size = if charB (c.toNat : Int) then (c.toNat, t.size + 1, 0) else (0, 0, 21) := by
    unfold nextF
    rw [e, if_neg (by simp)]
  rw [hn]
  split
  · rintro (g | g)
    · exact hc.colon g
    · rw [hc.part] at g
      cases g
  · rintro (g | g)
    · cases g
    · revert g
      decide
theorem goes_join {c : UInt8} {t r : ByteArray} (hc : StopB c) (hr : Beg c r) {k : Nat} (hk : k ≤ t.size) : goesB (t ++ r) k ↔ goesB t k := by
  have hs := size_cat t r
  by_cases h : k < t.size
  · unfold goesB
    rw [next_join hc hr h]
    constructor
    · rintro ⟨_, g⟩
      exact ⟨h, g⟩
    · rintro ⟨_, g⟩
      exact ⟨by omega, g⟩
  · obtain rfl : k = t.size := by omega
    constructor
    · rintro ⟨_, _, g⟩
      exact absurd g (next_lt hc hr)
    · rintro ⟨g, _⟩
      exact absurd g h
theorem parts_join {c : UInt8} {t r : ByteArray} (hc : StopB c) (hr : Beg c r) : ∀ f g k, k ≤ t.size → t.size ≤ k + f → t.size ≤ k + g → partsGo (t ++ r) g k = partsGo t f k
  | 0, g, k, hk, hf, _ => by
    have h : ¬ goesB t k := fun q => by have := q.1; omega
    rw [parts_stop h, parts_stop (fun q => h ((goes_join hc hr hk).1 q))]
  | f + 1, g, k, hk, hf, hg => by
    by_cases h : goesB t k
    · have hlt := h.1
      obtain ⟨g', rfl⟩ : ∃ g', g = g' + 1 := ⟨g - 1, by omega⟩
      have hn := next_step h.1 h.2.1
      rw [parts_step h, parts_step ((goes_join hc hr hk).2 h), next_join hc hr hlt]
      exact parts_join hc hr f g' _ hn.2 (by omega) (by omega)
    · rw [parts_stop h, parts_stop (fun q => h ((goes_join hc hr hk).1 q))]
theorem name_join {c : UInt8} {t r n : ByteArray} (hc : StopB c) (hr : Beg c r) {k i : Nat} (h : nameF t k = .ok (n, i)) : nameF (t ++ r) k = .ok (n, i) := by
  obtain ⟨h1, h2, h3, h4, h5, h6, h7⟩ := name_ok h
  have hs := size_cat t r
  have hp : partsGo (t ++ r) (t ++ r).size k = i := by rw [parts_join hc hr t.size (t ++ r).size k (by omega) (by omega) (by omega), h4]
  unfold nameF
  rw [next_join hc hr h5, if_pos ⟨by omega, h6, h7⟩, hp, ext_left t r k i h2, h3]
theorem qual_join {c : UInt8} {t r n : ByteArray} (hc : StopB c) (hr : Beg c r) {k i : Nat} (h : qualF t k = .ok (n, i)) : qualF (t ++ r) k = .ok (n, i) := by
  obtain ⟨h1, h2⟩ := qual_ok h
  unfold qualF
  rw [name_join hc hr h1]
  simp only
  rw [if_pos h2]
theorem equals_join {t r : ByteArray} (hr : Lt r) {k : Nat} (hk : k ≤ t.size) : equalsF (t ++ r) k = equalsF t k := by
  unfold equalsF
  have hw := white_le hk
  rw [white_join hr hk, sees_join hr hw (by decide)]
  cases h : seesB t (whiteTo t k) [61]
  · rfl
  · have := sees_room hw h
    simp only [List.length_cons, List.length_nil] at this
    rw [white_join hr this]
theorem quoted_join {t r raw : ByteArray} (hr : Lt r) {k m : Nat} (hk : k ≤ t.size) (h : quotedF t k = some (raw, m)) : quotedF (t ++ r) k = some (raw, m) := by
  unfold quotedF at h ⊢
  rw [sees_join hr hk (by decide), sees_join hr hk (by decide)]
  split at h
  · rename_i g
    have hk1 := sees_room hk g
    rw [if_pos g]
    simp only [List.length_cons, List.length_nil] at hk1
    cases hf : findF t (k + 1) [39] with
    | none => rw [hf] at h; cases h
    | some i =>
      rw [hf] at h
      rw [find_join r hk1 hf]
      have hi := ((find_iff hk1).1 hf).2.1
      simp only [Option.map_some] at h ⊢
      rw [ext_left t r _ i hi]
      exact h
  · rename_i g
    rw [if_neg g]
    split at h
    · rename_i g
      have hk1 := sees_room hk g
      rw [if_pos g]
      simp only [List.length_cons, List.length_nil] at hk1
      cases hf : findF t (k + 1) [34] with
      | none => rw [hf] at h; cases h
      | some i =>
        rw [hf] at h
        rw [find_join r hk1 hf]
        have hi := ((find_iff hk1).1 hf).2.1
        simp only [Option.map_some] at h ⊢
        rw [ext_left t r _ i hi]
        exact h
    · cases h
theorem pair_join {t r : ByteArray} (hr : Lt r) {k m : Nat} {p : ByteArray × ByteArray} (h : pairF t k = .ok (p, m)) : pairF (t ++ r) k = .ok (p, m) := by
  unfold pairF at h ⊢
  split at h
  · cases h
  · rename_i n i hq
    rw [qual_join stop_lt hr hq]
    simp only
    have hi := (name_ok (qual_ok hq).1).2.1
    rw [equals_join hr hi]
    split at h
    · cases h
    · rename_i j hj
      have hje := (equals_ok hi hj).2
      split at h
      · cases h
      · rename_i raw m' hqq
        rw [quoted_join hr hje hqq]
        exact h
theorem tag_join {t r : ByteArray} (hr : Lt r) (n : ByteArray) : ∀ f g k ps x i, k ≤ t.size → f ≤ g → tagGo t n f k ps = .ok (x, i) → tagGo (t ++ r) n g k ps = .ok (x, i)
  | 0, _, _, _, _, _, _, _, h => by cases h
  | f + 1, 0, _, _, _, _, _, hfg, _ => absurd hfg (by omega)
  | f + 1, g + 1, k, ps, x, i, hk, hfg, h => by
    have hw := white_le hk
    unfold tagGo at h ⊢
    rw [white_join hr hk, sees_join hr hw (by decide), sees_join hr hw (by decide)]
    split at h
    · rename_i c
      rw [if_pos c]
      exact h
    rename_i c1
    rw [if_neg c1]
    split at h
    · rename_i c
      rw [if_pos c]
      exact h
    rename_i c2
    rw [if_neg c2]
    split at h
    · cases h
    rename_i c3
    rw [if_neg c3]
    split at h
    · cases h
    rename_i p j hp
    rw [pair_join hr hp]
    simp only
    split at h
    · cases h
    rename_i c4
    rw [if_neg c4]
    exact tag_join hr n f g j _ x i (pair_bd hp).2.1 (by omega) h
theorem prop_join {t r : ByteArray} (hr : Lt r) {k i : Nat} {word : List UInt8} {right : ByteArray → Bool} {p : ByteArray × ByteArray} (hw60 : (60 : UInt8) ∉ word) (hk : k ≤ t.size) (h : propF t k word right = some (p, i)) : propF (t ++ r) k word right = some (p, i) := by
  have hw := white_le hk
  unfold propF at h ⊢
  rw [white_join hr hk, sees_join hr hw hw60]
  split at h
  · cases h
  rename_i c
  rw [if_neg c]
  have hs2 : seesB t (whiteTo t k) word = true := by
    rw [← Bool.not_eq_false]
    exact fun e => c (.inr e)
  have hro := sees_room hw hs2
  rw [equals_join hr hro]
  split at h
  · cases h
  rename_i j hj
  have hje := (equals_ok hro hj).2
  split at h
  · cases h
  rename_i raw m hqq
  rw [quoted_join hr hje hqq]
  exact h
/-- No such pair begins there: no white space, or another word. -/
def Absent (t : ByteArray) (k : Nat) (word : List UInt8) : Prop := whiteTo t k = k ∨ seesB t (whiteTo t k) word = false
theorem absent_join {t r : ByteArray} (hr : Lt r) {k : Nat} {word : List UInt8} {right : ByteArray → Bool} (hw60 : (60 : UInt8) ∉ word) (hk : k ≤ t.size) (h : Absent t k word) : propF (t ++ r) k word right = none := by
  have hw := white_le hk
  unfold propF
  rw [white_join hr hk, sees_join hr hw hw60]
  exact if_pos h
theorem sees_clash {t : ByteArray} {k : Nat} {a b : UInt8} {s s' : List UInt8} (hk : k ≤ t.size) (h : seesB t k (a :: s) = true) (h' : seesB t k (b :: s') = true) : a = b := by
  have hlt : k < t.size := by
    have := sees_room hk h
    simp only [List.length_cons] at this
    omega
  have h1 := sees_first h
  have h2 := sees_first h'
  rw [sees_one hlt, beq_iff_eq] at h1 h2
  rw [← h1, ← h2]
theorem decl_end_join {t r : ByteArray} (hr : Lt r) {k i : Nat} {ps : List (ByteArray × ByteArray)} {q : Bool} {x : Tok} (hk : k ≤ t.size) (h : declEnd t k ps q = .ok (x, i)) : declEnd (t ++ r) k ps q = .ok (x, i) ∧ ∀ c word, c ≠ 63 → Absent t k (c :: word) := by
  have hw := white_le hk
  unfold declEnd at h ⊢
  rw [white_join hr hk, sees_join hr hw (by decide)]
  refine ⟨h, fun c word hc => .inr ?_⟩
  split at h
  · rename_i g
    rw [← Bool.not_eq_true]
    intro e
    exact hc (sees_clash hw e g)
  · cases h
theorem decl_alone_join {t r : ByteArray} (hr : Lt r) {k i : Nat} {ps : List (ByteArray × ByteArray)} {q : Bool} {x : Tok} (hk : k ≤ t.size) (h : declAlone t k ps q = .ok (x, i)) : declAlone (t ++ r) k ps q = .ok (x, i) ∧ ∀ c word, c ≠ 63 → c ≠ 115 → Absent t k (c :: word) := by
  unfold declAlone at h ⊢
  split at h
  · have g := decl_end_join hr hk h
    rw [absent_join hr (by decide) hk (g.2 115 _ (by decide))]
    exact ⟨g.1, fun c word hc _ => g.2 c word hc⟩
  · rename_i p j hp
    have hb := prop_ok hk hp
    rw [prop_join hr (by decide) hk hp]
    refine ⟨(decl_end_join hr hb.2.1 h).1, fun c word _ hc => .inr ?_⟩
    unfold propF at hp
    split at hp
    · cases hp
    rename_i g
    have hs2 : seesB t (whiteTo t k) [115, 116, 97, 110, 100, 97, 108, 111, 110, 101] = true := by
      rw [← Bool.not_eq_false]
      exact fun e => g (.inr e)
    rw [← Bool.not_eq_true]
    intro e
    exact hc (sees_clash (white_le hk) e hs2)
theorem decl_join {t r : ByteArray} (hr : Lt r) {k i : Nat} {x : Tok} (hk : k ≤ t.size) (h : declF t k = .ok (x, i)) : declF (t ++ r) k = .ok (x, i) := by
  unfold declF at h ⊢
  split at h
  · cases h
  rename_i v j hv
  have hj := (prop_ok hk hv).2.1
  rw [prop_join hr (by decide) hk hv]
  simp only
  split at h
  · have g := decl_alone_join hr hj h
    rw [absent_join hr (by decide) hj (g.2 101 _ (by decide) (by decide))]
    exact g.1
  · rename_i c m hc
    rw [prop_join hr (by decide) hj hc]
    exact (decl_alone_join hr (prop_ok hj hc).2.1 h).1
theorem opens_join {t r : ByteArray} (hr : Lt r) {k : Nat} (hk : k < t.size) : opensB (t ++ r) k = opensB t k := by
  unfold opensB
  rw [sees_in hr (by omega) (by decide)]
  have hs := size_cat t r
  have hz := hr.size
  cases hsee : seesB t 0 [60, 63, 120, 109, 108]
  · simp
  · have h5 := sees_room (Nat.zero_le _) hsee
    simp only [List.length_cons, List.length_nil] at h5
    by_cases h : 5 < t.size
    · rw [get!_left t r 5 h, decide_eq_true (show 5 < (t ++ r).size by omega), decide_eq_true h]
    · have e5 : (t ++ r).get! 5 = 60 := by
        have := hr.cat (t := t)
        rw [show t.size = 5 by omega] at this
        exact this
      rw [e5, decide_eq_false h, show isB 60 = false from rfl]
      simp
/-- WHAT IS READ OF A TEXT IS READ OF IT WITH A < AND MORE BEHIND IT AS WELL. -/
theorem tok_join {t r : ByteArray} (hr : Lt r) {k i : Nat} {x : Tok} (hk : k < t.size) (h : tokF t k = .ok (x, i)) : tokF (t ++ r) k = .ok (x, i) := by
  have hs := size_cat t r
  unfold tokF at h ⊢
  rw [opens_join hr hk, sees_in hr hk (by decide), sees_in hr hk (by decide), sees_in hr hk (by decide), sees_in hr hk (by decide), sees_in hr hk (by decide), sees_in hr hk (by decide), sees_in hr hk (by decide)]
  split at h
  · rename_i ho
    rw [if_pos ho]
    unfold opensB at ho
    simp only [Bool.and_eq_true, decide_eq_true_eq] at ho
    exact decl_join hr (by omega) h
  rename_i c
  rw [if_neg c]
  split at h
  · rename_i hs
    rw [if_pos hs]
    have hro := sees_room (Nat.le_of_lt hk) hs
    simp only [List.length_cons, List.length_nil] at hro
    unfold commentF at h ⊢
    split at h
    · cases h
    rename_i j hj
    rw [find_join r hro hj]
    simp only
    obtain ⟨_, g2, g3⟩ := find_some hro hj
    simp only [List.length_cons, List.length_nil] at g3
    rw [sees_join hr g3 (by decide), ext_left t r _ j (by omega)]
    exact h
  rename_i c
  rw [if_neg c]
  split at h
  · rename_i hs
    rw [if_pos hs]
    have hro := sees_room (Nat.le_of_lt hk) hs
    simp only [List.length_cons, List.length_nil] at hro
    unfold dataF at h ⊢
    split at h
    · cases h
    rename_i j hj
    rw [find_join r hro hj]
    simp only
    obtain ⟨_, g2, g3⟩ := find_some hro hj
    simp only [List.length_cons, List.length_nil] at g3
    rw [ext_left t r _ j (by omega)]
    exact h
  rename_i c
  rw [if_neg c]
  split at h
  · cases h
  rename_i c
  rw [if_neg c]
  split at h
  · cases h
  rename_i c
  rw [if_neg c]
  split at h
  · rename_i hs
    rw [if_pos hs]
    have hro := sees_room (Nat.le_of_lt hk) hs
    simp only [List.length_cons, List.length_nil] at hro
    unfold instrF at h ⊢
    split at h
    · cases h
    rename_i n j hn
    rw [name_join stop_lt hr hn]
    simp only
    obtain ⟨n1, n2, _⟩ := name_ok hn
    split at h
    · cases h
    rename_i c1
    rw [if_neg c1]
    split at h
    · cases h
    rename_i c2
    rw [if_neg c2, white_join hr n2, sees_join hr n2 (by decide)]
    split at h
    · cases h
    rename_i c3
    rw [if_neg c3]
    split at h
    · cases h
    rename_i m hm
    have hw := white_le n2
    rw [find_join r hw hm]
    simp only
    obtain ⟨_, g2, g3⟩ := find_some hw hm
    simp only [List.length_cons, List.length_nil] at g3
    rw [ext_left t r _ m (by omega)]
    exact h
  rename_i c
  rw [if_neg c]
  split at h
  · rename_i hs
    rw [if_pos hs]
    unfold closingF at h ⊢
    split at h
    · cases h
    rename_i n j hn
    rw [qual_join stop_lt hr hn]
    simp only
    obtain ⟨n1, n2, _⟩ := name_ok (qual_ok hn).1
    rw [white_join hr n2, sees_join hr (white_le n2) (by decide)]
    exact h
  rename_i c
  rw [if_neg c]
  split at h
  · rename_i hs
    rw [if_pos hs]
    unfold tagF at h ⊢
    split at h
    · cases h
    rename_i n j hn
    rw [qual_join stop_lt hr hn]
    simp only
    exact tag_join hr n _ _ j [] x i (name_ok (qual_ok hn).1).2.1 (by omega) h
  rename_i c
  rw [if_neg c]
  unfold charsF at h ⊢
  simp only at h ⊢
  have hc := chars_to (Nat.le_of_lt hk)
  rw [chars_join hr (Nat.le_of_lt hk), ext_left t r _ _ hc.2.1]
  exact h
theorem toks_fuel (t : ByteArray) : ∀ f g k l, k ≤ t.size → t.size ≤ k + f → t.size ≤ k + g → toksGo t f k l = toksGo t g k l
  | 0, 0, k, l, _, _, _ => rfl
  | 0, g + 1, k, l, hk, hf, hg => by
    unfold toksGo
    rw [if_neg (by omega)]
  | f + 1, 0, k, l, hk, hf, hg => by
    unfold toksGo
    rw [if_neg (by omega)]
  | f + 1, g + 1, k, l, hk, hf, hg => by
    unfold toksGo
    by_cases h : k < t.size
    · rw [if_pos h, if_pos h]
      cases hx : tokF t k with
      | error e => rfl
      | ok v =>
        obtain ⟨x, i⟩ := v
        have hb := tok_ok h hx
        exact toks_fuel t f g i _ hb.2.1 (by omega) (by omega)
    · rw [if_neg h, if_neg h]
theorem toks_join {t r : ByteArray} (hr : Lt r) : ∀ f g k l l', k ≤ t.size → t.size ≤ k + f → (t ++ r).size ≤ k + g → toksGo t f k l = .ok l' → toksGo (t ++ r) g k l = toksGo (t ++ r) (t ++ r).size t.size l'
  | 0, g, k, l, l', hk, hf, hg, h => by
    have hs := size_cat t r
    obtain rfl : k = t.size := by omega
    injection h with h
    subst h
    exact toks_fuel _ _ _ _ _ (by omega) hg (by omega)
  | f + 1, g, k, l, l', hk, hf, hg, h => by
    have hs := size_cat t r
    have hz := hr.size
    unfold toksGo at h
    split at h
    · rename_i hlt
      split at h
      · cases h
      · rename_i x i hx
        obtain ⟨g', rfl⟩ : ∃ g', g = g' + 1 := ⟨g - 1, by omega⟩
        have hb := tok_ok hlt hx
        rw [toksGo, if_pos (by omega), tok_join hr hlt hx]
        exact toks_join hr f g' i _ l' hb.2.1 (by omega) (by omega) h
    · obtain rfl : k = t.size := by omega
      injection h with h
      subst h
      exact toks_fuel _ _ _ _ _ (by omega) hg (by omega)
theorem toksF_join {t r : ByteArray} (hr : Lt r) {l : List (Nat × Tok)} (h : toksF t = .ok l) : toksF (t ++ r) = toksGo (t ++ r) (t ++ r).size t.size l :=
  toks_join hr t.size (t ++ r).size 0 [] l (Nat.zero_le _) (by omega) (by omega) h
end Go.Proofs.YtidimpepfkdcmaaGreatDoor
namespace Go.Proofs.YtidimpepfkdcmaaGreatDoor
open Go.RowKit

theorem same_list (a b : ByteArray) : (a.toList == b.toList) = decide (a = b) := by
  rw [Bool.eq_iff_iff, decide_eq_true_eq, beq_iff_eq, Lib.toList_data, Lib.toList_data]
  constructor
  · intro e
    exact eq_of_list e
  · rintro rfl
    rfl
theorem sees_ext {t s : ByteArray} {k : Nat} (_h : k + s.size ≤ t.size) : ((t.extract k (k + s.size)).toList == s.toList) = seesB t k s.data.toList := by
  have hl : (t.extract k (k + s.size)).data.toList = (t.data.toList.drop k).take s.size := by
    simp only [ByteArray.data_extract, Array.toList_extract, List.extract_eq_take_drop]
    rw [show k + s.size - k = s.size by omega]
  have hsl : s.data.toList.length = s.size := Array.length_toList
  rw [same_list]
  unfold seesB Lib.hasPrefix
  rw [Bool.eq_iff_iff, decide_eq_true_eq, List.isPrefixOf_iff_prefix]
  constructor
  · intro e
    rw [← e, hl]
    exact List.take_prefix _ _
  · intro hp
    apply eq_of_list
    rw [hl]
    have := List.prefix_iff_eq_take.1 hp
    rw [hsl] at this
    exact this.symm
theorem sees_far {t : ByteArray} {k : Nat} {s : List UInt8} (h : ¬ k + s.length ≤ t.size) (h0 : 0 < s.length) : seesB t k s = false := by
  rw [← Bool.not_eq_true]
  intro e
  have h1 := (List.isPrefixOf_iff_prefix.1 e).length_le
  have e2 : t.data.toList.length = t.size := Array.length_toList
  rw [List.length_drop, e2] at h1
  omega
set_option maxRecDepth 100000 in
set_option maxHeartbeats 1000000 in
theorem refStands_any (t s : ByteArray) (k : Nat) (w : World) (ht : t.size ≤ 4194304) (hk : k ≤ 8388608) (hs : s.size ≤ 4194304) (h0 : 0 < s.size) :
    Calls Tryz.prog 27 #[.string t, .int .i64 (k : Int), .string s] w fun e w' => e = .returned (.bool (seesB t k s.data.toList)) ∧ w = w' := by
  by_cases h : k + s.size ≤ t.size
  · have H := Lib.hid (sees_ext h)
    have g1 : (k : Int) + (s.size : Int) ≤ (t.size : Int) := by omega
    go_enter Tryz.func27, Tryz.ntmps27
    go_wp2_with (fail)
    refine bodyPost_ret (v := .bool ((t.extract k (k + s.size)).toList == s.toList)) (by simp [results, Tryz.results27, go_sem]) rfl ?_
    exact ⟨by rw [H.out], rfl⟩
  · have H := Lib.hid (sees_far (t := t) (k := k) (s := s.data.toList) (by rw [Array.length_toList]; exact h) (by rw [Array.length_toList]; exact h0))
    have g1 : ¬ (k : Int) + (s.size : Int) ≤ (t.size : Int) := by omega
    go_enter Tryz.func27, Tryz.ntmps27
    go_wp2_with (fail)
    go_ret
    exact ⟨by rw [H.out]; rfl, rfl⟩
theorem ws_step {t : ByteArray} {j : Nat} (h : j < t.size) (hb : isB (t.get! j) = true) : whiteTo t (j + 1) = whiteTo t j := by
  unfold whiteTo
  rw [drop_at t j h, List.takeWhile_cons, if_pos hb, List.length_cons]
  omega
theorem ws_stop {t : ByteArray} {j : Nat} (h : ¬ (j < t.size ∧ isB (t.get! j) = true)) : whiteTo t j = j := by
  unfold whiteTo
  by_cases hj : j < t.size
  · rw [drop_at t j hj, List.takeWhile_cons, if_neg (fun e => h ⟨hj, e⟩)]
    rfl
  · rw [List.drop_eq_nil_of_le (by rw [Array.length_toList]; show t.size ≤ j; omega)]
    rfl
theorem idx_get (q : ByteArray) (k : Nat) (h : k < q.size) : q.get! k = q[k] := by
  show q.data[k]! = _
  rw [getElem!_pos q.data k h]; rfl
theorem u8_ne {x : UInt8} {n : Nat} (_hn : n < 256) (h : ¬ x = UInt8.ofNat n) : ¬ (x.toNat : Int) = (n : Int) := by
  intro e
  apply h
  have e2 : x.toNat = n := by omega
  rw [← e2]
  simp
set_option maxRecDepth 100000 in
set_option maxHeartbeats 1000000 in
theorem refWhite_any (t : ByteArray) (k : Nat) (w : World) (ht : t.size ≤ 4194304) (hk : k ≤ 8388608) :
    Calls Tryz.prog 28 #[.string t, .int .i64 (k : Int)] w fun e w' => e = .returned (.int .i64 (whiteTo t k : Int)) ∧ w = w' := by
  obtain ⟨R, hR⟩ : ∃ R, whiteTo t k = R := ⟨_, rfl⟩
  rw [hR]
  go_enter Tryz.func28, Tryz.ntmps28
  go_wp2_with (fail)
  go_loop [1] (fun v => ∃ j : Nat, v = .int .i64 (j : Int) ∧ j ≤ 8388608 ∧ whiteTo t j = R) (fun v => t.size - (intOf v).toNat)
  case atStart => exact ⟨k, rfl, hk, hR⟩
  case round =>
    obtain ⟨j, rfl, hj, hw⟩ := hrel
    have HW := Lib.hid hw
    clear hw
    by_cases hlt : j < t.size
    · have hl2 : (j : Int) < (t.size : Int) := by omega
      by_cases hb : isB (t.get! j) = true
      · have hs := ws_step hlt hb
        have HS := Lib.hid (hs.trans HW.out)
        clear hs
        have e := idx_get t j hlt
        rw [e] at hb
        unfold isB at hb
        simp only [Bool.or_eq_true, beq_iff_eq] at hb
        have hbn : t[j].toNat = 32 ∨ t[j].toNat = 9 ∨ t[j].toNat = 10 ∨ t[j].toNat = 13 := by
          rcases hb with ((h | h) | h) | h <;> rw [h] <;> decide
        clear hb e
        rcases hbn with h | h | h | h
        · have b32 : ((t[j].toNat : Int) == 32) = true := by rw [h]; rfl
          have b9 : ((t[j].toNat : Int) == 9) = false := by rw [h]; rfl
          have b10 : ((t[j].toNat : Int) == 10) = false := by rw [h]; rfl
          have b13 : ((t[j].toNat : Int) == 13) = false := by rw [h]; rfl
          clear h
          go_wp2_with (fail)
          go_round
          case rel => exact ⟨j + 1, by go_num, by omega, HS.out⟩
          case measure => simp [intOf]; omega
        · have b32 : ((t[j].toNat : Int) == 32) = false := by rw [h]; rfl
          have b9 : ((t[j].toNat : Int) == 9) = true := by rw [h]; rfl
          have b10 : ((t[j].toNat : Int) == 10) = false := by rw [h]; rfl
          have b13 : ((t[j].toNat : Int) == 13) = false := by rw [h]; rfl
          clear h
          go_wp2_with (fail)
          go_round
          case rel => exact ⟨j + 1, by go_num, by omega, HS.out⟩
          case measure => simp [intOf]; omega
        · have b32 : ((t[j].toNat : Int) == 32) = false := by rw [h]; rfl
          have b9 : ((t[j].toNat : Int) == 9) = false := by rw [h]; rfl
          have b10 : ((t[j].toNat : Int) == 10) = true := by rw [h]; rfl
          have b13 : ((t[j].toNat : Int) == 13) = false := by rw [h]; rfl
          clear h
          go_wp2_with (fail)
          go_round
          case rel => exact ⟨j + 1, by go_num, by omega, HS.out⟩
          case measure => simp [intOf]; omega
        · have b32 : ((t[j].toNat : Int) == 32) = false := by rw [h]; rfl
          have b9 : ((t[j].toNat : Int) == 9) = false := by rw [h]; rfl
          have b10 : ((t[j].toNat : Int) == 10) = false := by rw [h]; rfl
          have b13 : ((t[j].toNat : Int) == 13) = true := by rw [h]; rfl
          clear h
          go_wp2_with (fail)
          go_round
          case rel => exact ⟨j + 1, by go_num, by omega, HS.out⟩
          case measure => simp [intOf]; omega
      · have HS := Lib.hid ((ws_stop (fun q => hb q.2)).symm.trans HW.out)
        have e := idx_get t j hlt
        rw [e] at hb
        unfold isB at hb
        simp only [Bool.or_eq_true, beq_iff_eq, not_or] at hb
        have b32 : ((t[j].toNat : Int) == 32) = false := by rw [beq_eq_false_iff_ne]; exact u8_ne (by decide) hb.1.1.1
        have b9 : ((t[j].toNat : Int) == 9) = false := by rw [beq_eq_false_iff_ne]; exact u8_ne (by decide) hb.1.1.2
        have b10 : ((t[j].toNat : Int) == 10) = false := by rw [beq_eq_false_iff_ne]; exact u8_ne (by decide) hb.1.2
        have b13 : ((t[j].toNat : Int) == 13) = false := by rw [beq_eq_false_iff_ne]; exact u8_ne (by decide) hb.2
        clear hb e
        go_wp2_with (fail)
        go_ret
        exact ⟨by rw [← HS.out]; rfl, rfl⟩
    · have HS := Lib.hid ((ws_stop (fun q => hlt q.1)).symm.trans HW.out)
      have hl2 : ¬ (j : Int) < (t.size : Int) := by omega
      go_wp2_with (fail)
      go_ret
      exact ⟨by rw [← HS.out]; rfl, rfl⟩
/-- What Find answers. -/
def findZ (t : ByteArray) (k : Nat) (s : List UInt8) : Int := match findF t k s with
  | some i => (i : Int)
  | none => -1
theorem findZ_at {t : ByteArray} {k j : Nat} {s : List UInt8} (hkj : k ≤ j) (hj : j + s.length ≤ t.size) (hno : ∀ i, k ≤ i → i < j → seesB t i s = false) (h : seesB t j s = true) : findZ t k s = (j : Int) := by
  unfold findZ
  rw [(find_iff (by omega)).2 ⟨hkj, by omega, h, hno⟩]
theorem findZ_no {t : ByteArray} {k j : Nat} {s : List UInt8} (hs : 0 < s.length) (hj : ¬ j + s.length ≤ t.size) (hno : ∀ i, k ≤ i → i < j → seesB t i s = false) : findZ t k s = -1 := by
  have : findF t k s = none := by
    unfold findF
    rcases Lib.index_spec (t.data.toList.drop k) s with ⟨e, _⟩ | ⟨m, e, _, ho, _⟩
    · rw [if_pos (by omega)]
    · exfalso
      rw [occ_sees] at ho
      by_cases hm : k + m < j
      · rw [hno (k + m) (by omega) hm] at ho
        cases ho
      · rw [sees_far (by omega) hs] at ho
        cases ho
  unfold findZ
  rw [this]
set_option maxRecDepth 100000 in
set_option maxHeartbeats 1000000 in
theorem refFind_any (t s : ByteArray) (k : Nat) (w : World) (ht : t.size ≤ 4194304) (hk : k ≤ 4194304) (hs : s.size ≤ 4194304) (h0 : 0 < s.size) :
    Calls Tryz.prog 30 #[.string t, .int .i64 (k : Int), .string s] w fun e w' => e = .returned (.int .i64 (findZ t k s.data.toList)) ∧ w = w' := by
  obtain ⟨R, hR⟩ : ∃ R, findZ t k s.data.toList = R := ⟨_, rfl⟩
  have hsl : s.data.toList.length = s.size := Array.length_toList
  have HSL := Lib.hid hsl
  have HR := Lib.hid hR
  rw [hR]
  clear hR hsl
  go_enter Tryz.func30, Tryz.ntmps30
  go_wp2_with (fail)
  go_loop [1] (fun v => ∃ j : Nat, v = .int .i64 (j : Int) ∧ k ≤ j ∧ j ≤ 4194305 ∧ Hid (∀ i, k ≤ i → i < j → seesB t i s.data.toList = false)) (fun v => t.size + 1 - (intOf v).toNat)
  case atStart => exact ⟨k, rfl, Nat.le_refl _, by omega, Lib.hid (fun i h1 h2 => by omega)⟩
  case round =>
    obtain ⟨j, rfl, hkj, hj, HN⟩ := hrel
    by_cases hr : j + s.size ≤ t.size
    · have g1 : (j : Int) + (s.size : Int) ≤ (t.size : Int) := by omega
      have E := Lib.hid (sees_ext hr)
      cases hb : seesB t j s.data.toList
      · have g2 : ((t.extract j (j + s.size)).toList == s.toList) = false := by rw [E.out]; exact hb
        have HB := Lib.hid hb
        have g3 : ¬ (t.extract j (j + s.size)).toList = s.toList := by
          intro e
          rw [e] at g2
          simp at g2
        clear hb
        go_wp2_with (fail)
        go_round
        case rel => exact ⟨j + 1, by go_num, by omega, by omega, Lib.hid (fun i h1 h2 => by
          rcases Nat.lt_or_ge i j with q | q
          · exact HN.out i h1 q
          · rw [show i = j by omega]
            exact HB.out)⟩
        case measure => simp [intOf]; omega
      · have g2 : (t.extract j (j + s.size)).toList = s.toList := by
          have := E.out.trans hb
          exact beq_iff_eq.1 this
        have HB := Lib.hid (findZ_at hkj (by rw [HSL.out]; exact hr) HN.out hb)
        clear hb
        go_wp2_with (fail)
        go_ret
        exact ⟨by rw [← HR.out, HB.out]; rfl, rfl⟩
    · have g1 : ¬ (j : Int) + (s.size : Int) ≤ (t.size : Int) := by omega
      have HB := Lib.hid (findZ_no (by rw [HSL.out]; exact h0) (by rw [HSL.out]; exact hr) HN.out)
      go_wp2_with (fail)
      go_ret
      exact ⟨by rw [← HR.out, HB.out]; rfl, rfl⟩
end Go.Proofs.YtidimpepfkdcmaaGreatDoor
namespace Go.Proofs.YtidimpepfkdcmaaGreatDoor
open Go.RowKit

def lowC (x : UInt8) : UInt8 := if 65 ≤ x.toNat ∧ x.toNat ≤ 90 then x + 32 else x
def smallB (s : ByteArray) : ByteArray := ⟨(s.data.toList.map lowC).toArray⟩
theorem lowC_nat (x : UInt8) : (lowC x).toNat = if 65 ≤ x.toNat ∧ x.toNat ≤ 90 then x.toNat + 32 else x.toNat := by
  unfold lowC
  split
  · rw [UInt8.toNat_add]
    show (x.toNat + 32) % 256 = _
    omega
  · rfl
theorem foldEq_low (x y : UInt8) (hy : ¬ (65 ≤ y.toNat ∧ y.toNat ≤ 90)) : (lowC x = y) ↔ Lib.foldEq x y = true := by
  rw [← UInt8.toNat_inj, lowC_nat]
  unfold Lib.foldEq
  rw [decide_eq_true_eq]
  split <;> omega
theorem foldEq_up (x y : UInt8) : Lib.foldEq x y = Lib.foldEq x (lowC y) := by
  unfold Lib.foldEq
  rw [lowC_nat]
  apply decide_eq_decide.2
  split <;> omega
theorem fold_low : ∀ (l m : List UInt8), (∀ y ∈ m, ¬ (65 ≤ y.toNat ∧ y.toNat ≤ 90)) → ((l.map lowC = m) ↔ Lib.equalFold l m = true)
  | [], [], _ => by simp [Lib.equalFold]
  | [], y :: m, _ => by simp [Lib.equalFold]
  | x :: l, [], _ => by simp [Lib.equalFold]
  | x :: l, y :: m, h => by
    rw [List.map_cons, List.cons.injEq, Lib.equalFold, Bool.and_eq_true, foldEq_low x y (h y (by simp)), fold_low l m (fun z hz => h z (by simp [hz]))]
theorem fold_up : ∀ (l m : List UInt8), Lib.equalFold l m = Lib.equalFold l (m.map lowC)
  | [], [] => rfl
  | [], y :: m => rfl
  | x :: l, [] => rfl
  | x :: l, y :: m => by rw [List.map_cons, Lib.equalFold, Lib.equalFold, foldEq_up x y, fold_up l m]
theorem small_is (s : ByteArray) (m : List UInt8) (h : ∀ y ∈ m, ¬ (65 ≤ y.toNat ∧ y.toNat ≤ 90)) : ((smallB s).toList = m) ↔ Lib.equalFold s.data.toList m = true := by
  rw [← fold_low _ _ h, Lib.toList_data]
  show (s.data.toList.map lowC).toArray.toList = m ↔ _
  simp
theorem small_xml (s : ByteArray) : ((smallB s).toList = [120, 109, 108]) ↔ xmlB s = true := small_is s _ (by decide)
theorem small_utf8 (s : ByteArray) : ((smallB s).toList = [117, 116, 102, 45, 56]) ↔ utf8B s = true := by
  unfold utf8B
  rw [fold_up _ [85, 84, 70, 45, 56]]
  exact small_is s _ (by decide)

def smAt (s : ByteArray) (k j : Nat) : UInt8 := if j < k then lowC (s.get! j) else s.get! j
/-- The row that small works on, k bytes done. -/
def SmRow (W : World) (g : Nat) (s : ByteArray) (k : Nat) : Prop := ∃ cs n, W.heap[g]? = some (.cells cs 5 (n, n + 1)) ∧ s.size ≤ n ∧ n = cs.size ∧ ∀ j, j < s.size → cs[j]? = some (.int .u8 ((smAt s k j).toNat : Int))
theorem SmRow.first (w : World) (s : ByteArray) : ∃ (cap : Nat) (W : World), (convert 9 22 (.string s)).run Tryz.prog w = .ok (.slice (some ⟨w.heap.size, 0, none⟩) s.size cap) W ∧ Below w.heap.size w W ∧ s.size ≤ cap ∧ SmRow W w.heap.size s 0 ∧ w.heap.size < W.heap.size := by
  refine ⟨_, _, Lib.run_convert_string_bytes w 9 22 5 s Tryz.underlying9 Tryz.underlying22 Tryz.underlying5, Joins.below_bytesWorld _ w _ s (Nat.le_refl _), grownCap_ge _ _ _ _, ⟨_, _, Lib.bytesWorld_at_new w _ s, ?_, rfl, fun j hj => ?_⟩, by rw [Lib.bytesWorld_size]; omega⟩
  · unfold Lib.bytesCells
    rw [Array.size_append, Array.size_map]
    exact Nat.le_add_right _ _
  · have e : smAt s 0 j = s.data[j]'hj := by
      unfold smAt
      rw [if_neg (by omega)]
      show s.data[j]! = _
      rw [getElem!_pos s.data j hj]
    rw [e]
    unfold Lib.bytesCells
    rw [Array.getElem?_append_left (by rw [Array.size_map]; exact hj), Array.getElem?_map, Array.getElem?_eq_getElem (show j < s.data.size from hj)]
    rfl
theorem SmRow.cell {W : World} {g k : Nat} {s : ByteArray} (h : SmRow W g s k) (j : Nat) (hj : j < s.size) : W.cell? ⟨g, j, none⟩ = some (.int .u8 ((smAt s k j).toNat : Int)) := by
  obtain ⟨cs, n, hh, _, _, hc⟩ := h
  rw [cell_of_row W g j cs _ _ hh]
  exact hc j hj
theorem SmRow.frozen {W : World} {g k : Nat} {s : ByteArray} (h : SmRow W g s k) (j : Nat) (hj : j < s.size) : W.frozen? ⟨g, j, none⟩ = false := by
  obtain ⟨cs, n, hh, hn, _, _⟩ := h
  simp [World.frozen?, hh]
  omega
theorem SmRow.skip {W : World} {g k : Nat} {s : ByteArray} (h : SmRow W g s k) (hc : lowC (s.get! k) = s.get! k) : SmRow W g s (k + 1) := by
  obtain ⟨cs, n, hh, hn, hz, hcs⟩ := h
  refine ⟨cs, n, hh, hn, hz, fun j hj => ?_⟩
  rw [hcs j hj]
  unfold smAt
  by_cases e : j = k
  · subst e
    rw [if_neg (by omega), if_pos (by omega), hc]
  · by_cases q : j < k
    · rw [if_pos q, if_pos (by omega)]
    · rw [if_neg q, if_neg (by omega)]
theorem SmRow.set {W : World} {g k : Nat} {s : ByteArray} (h : SmRow W g s k) (hk : k < s.size) : SmRow (W.setCell ⟨g, k, none⟩ (.int .u8 ((lowC (s.get! k)).toNat : Int))) g s (k + 1) := by
  obtain ⟨cs, n, hh, hn, hz, hcs⟩ := h
  refine ⟨_, n, Lib.heap_setCell_same hh _, hn, by simpa using hz, fun j hj => ?_⟩
  rw [Array.getElem?_setIfInBounds]
  unfold smAt
  by_cases e : k = j
  · subst e
    rw [if_pos rfl, if_pos (by omega), if_pos (by omega)]
  · rw [if_neg e, hcs j hj]
    unfold smAt
    by_cases q : j < k
    · rw [if_pos q, if_pos (by omega)]
    · rw [if_neg q, if_neg (by omega)]
theorem below_set {B g k : Nat} {w W : World} (v : Value) (h : Below B w W) (hg : B ≤ g) : Below B w (W.setCell ⟨g, k, none⟩ v) := by
  refine ⟨h.os, h.tape, h.output, by simpa [World.setCell] using h.size, fun i hi => ?_⟩
  have : g ≠ i := by omega
  rw [← h.block i hi]
  simp [World.setCell, Array.getElem?_modify, this]
theorem SmRow.holds {W : World} {g : Nat} {s : ByteArray} (h : SmRow W g s s.size) : HoldsB W (some ⟨g, 0, none⟩) (smallB s) := fun _ => ⟨g, 0, rfl, fun j hj => by
  have hz : (smallB s).size = s.size := by
    show (s.data.toList.map lowC).toArray.size = _
    simp
  rw [hz] at hj
  rw [Nat.zero_add, h.cell j hj]
  have e : (smallB s).get! j = smAt s s.size j := by
    unfold smAt
    rw [if_pos hj, idx_get s j hj]
    show (s.data.toList.map lowC).toArray[j]! = lowC (s.data[j]'hj)
    rw [getElem!_pos _ j (by simpa using hj), List.getElem_toArray, List.getElem_map, Array.getElem_toList]
  rw [e]⟩
theorem smAt_here (s : ByteArray) (k : Nat) : smAt s k k = s.get! k := by
  unfold smAt
  rw [if_neg (by omega)]
theorem small_size (s : ByteArray) : (smallB s).size = s.size := by
  show (s.data.toList.map lowC).toArray.size = _
  simp
set_option maxRecDepth 100000 in
set_option maxHeartbeats 1000000 in
theorem refSmall_any (s : ByteArray) (w : World) (hs : s.size ≤ 4194304) : Calls Tryz.prog 49 #[.string s] w fun e w' => e = .returned (.string (smallB s)) ∧ Below w.heap.size w w' := by
  obtain ⟨cap, W, hcv, hb, hcap, hrow, hlt0⟩ := SmRow.first w s
  have HB := Lib.hid hb
  have HR := Lib.hid hrow
  obtain ⟨g, hg⟩ : ∃ g, w.heap.size = g := ⟨_, rfl⟩
  have HL := Lib.hid (show g < W.heap.size by rw [← hg]; exact hlt0)
  rw [hg] at hcv HR
  have HB0 := Lib.hid (show Below g w W by rw [← hg]; exact HB.out)
  have HG := Lib.hid hg
  clear hb hrow hlt0 HB hg
  go_enter Tryz.func49, Tryz.ntmps49
  go_wp2_with (fail)
  go_loopw [4] (fun i wr => ∃ k : Nat, k ≤ s.size ∧ i = .int .i64 k ∧ Hid (Below g w wr ∧ SmRow wr g s k)) (fun i _ => s.size - (intOf i).toNat)
  case atStart => exact ⟨0, by omega, rfl, Lib.hid ⟨HB0.out, HR.out⟩⟩
  case round =>
    obtain ⟨k, hk, rfl, HD⟩ := hrel
    by_cases hlt : k < s.size
    · have hl2 : (k : Int) < (s.size : Int) := by omega
      have hc := HD.out.2.cell k hlt
      have hf := HD.out.2.frozen k hlt
      rw [smAt_here] at hc
      obtain ⟨u, hu⟩ : ∃ u, s.get! k = u := ⟨_, rfl⟩
      have HU := Lib.hid hu
      rw [hu] at hc
      obtain ⟨x, hx⟩ : ∃ x : Int, ((u.toNat : Nat) : Int) = x := ⟨_, rfl⟩
      rw [hx] at hc
      have x0 : 0 ≤ x := by omega
      have x1 : x < 256 := by have := u.toNat_lt; omega
      have HX := Lib.hid hx
      clear hx hu
      by_cases h1 : 65 ≤ x
      · by_cases h2 : x ≤ 90
        · have HN := Lib.hid (show (x + 32 : Int) = ((lowC (s.get! k)).toNat : Int) by
            rw [HU.out, lowC_nat, if_pos ⟨by have := HX.out; omega, by have := HX.out; omega⟩]
            have := HX.out
            omega)
          have HS := Lib.hid (show Below g w (wr.setCell ⟨g, k, none⟩ (.int .u8 (x + 32))) ∧ SmRow (wr.setCell ⟨g, k, none⟩ (.int .u8 (x + 32))) g s (k + 1) by
            rw [HN.out]
            exact ⟨below_set _ HD.out.1 (Nat.le_refl _), HD.out.2.set hlt⟩)
          clear HN
          go_wp2_with (fail)
          go_roundw
          case rel => exact ⟨k + 1, by omega, by go_num, HS⟩
          case measure => simp [intOf]; omega
        · have HS := Lib.hid (show SmRow wr g s (k + 1) from HD.out.2.skip (by
            rw [HU.out]
            unfold lowC
            rw [if_neg (by have := HX.out; omega)]))
          have h3 : 90 < x := by omega
          go_wp2_with (fail)
          go_roundw
          case rel => exact ⟨k + 1, by omega, by go_num, Lib.hid ⟨HD.out.1, HS.out⟩⟩
          case measure => simp [intOf]; omega
      · have HS := Lib.hid (show SmRow wr g s (k + 1) from HD.out.2.skip (by
          rw [HU.out]
          unfold lowC
          rw [if_neg (by have := HX.out; omega)]))
        have h3 : x < 65 := by omega
        go_wp2_with (fail)
        go_roundw
        case rel => exact ⟨k + 1, by omega, by go_num, Lib.hid ⟨HD.out.1, HS.out⟩⟩
        case measure => simp [intOf]; omega
    · have hk2 : k = s.size := by omega
      subst hk2
      have hcv2 := conv_str HD.out.2.holds cap (fun e => by cases e)
      rw [small_size] at hcv2
      have hl2 : ¬ (s.size : Int) < (s.size : Int) := by omega
      go_wp2_with (fail)
      go_ret
      exact ⟨rfl, by rw [HG.out]; exact HD.out.1⟩
end Go.Proofs.YtidimpepfkdcmaaGreatDoor
namespace Go.Proofs.YtidimpepfkdcmaaGreatDoor
open Go.RowKit

theorem refStands_at (t s : ByteArray) (z : Int) (k : Nat) (l : List UInt8) (w : World) (hz : z = (k : Int)) (hl : s.data.toList = l) (ht : t.size ≤ 4194304) (hk : k ≤ 8388608) (hs : s.size ≤ 4194304) (h0 : 0 < s.size) :
    Calls Tryz.prog 27 #[.string t, .int .i64 z, .string s] w fun e w' => e = .returned (.bool (seesB t k l)) ∧ w = w' := by
  subst hz hl
  exact refStands_any t s k w ht hk hs h0
theorem refWhite_at (t : ByteArray) (z : Int) (k : Nat) (w : World) (hz : z = (k : Int)) (ht : t.size ≤ 4194304) (hk : k ≤ 8388608) :
    Calls Tryz.prog 28 #[.string t, .int .i64 z] w fun e w' => e = .returned (.int .i64 (whiteTo t k : Int)) ∧ w = w' := by
  subst hz
  exact refWhite_any t k w ht hk
theorem refFind_at (t s : ByteArray) (z : Int) (k : Nat) (l : List UInt8) (w : World) (hz : z = (k : Int)) (hl : s.data.toList = l) (ht : t.size ≤ 4194304) (hk : k ≤ 4194304) (hs : s.size ≤ 4194304) (h0 : 0 < s.size) :
    Calls Tryz.prog 30 #[.string t, .int .i64 z, .string s] w fun e w' => e = .returned (.int .i64 (findZ t k l)) ∧ w = w' := by
  subst hz hl
  exact refFind_any t s k w ht hk hs h0
theorem ext_one {t : ByteArray} {k : Nat} {c : UInt8} (hk : k ≤ t.size) (h : seesB t k [c] = true) : t.extract k (k + 1) = ⟨#[c]⟩ := by
  have hr := sees_room hk h
  simp only [List.length_cons, List.length_nil] at hr
  have e := sees_ext (t := t) (s := ⟨#[c]⟩) (k := k) hr
  have h2 : seesB t k (⟨#[c]⟩ : ByteArray).data.toList = true := h
  rw [h2, same_list, decide_eq_true_eq] at e
  exact e
/-- What value answers. -/
def valueZ (t : ByteArray) (k : Nat) : ByteArray × Int := match equalsF t k with
  | none => (⟨#[]⟩, -1)
  | some j => match quotedF t j with
    | none => (⟨#[]⟩, -1)
    | some (raw, m) => (raw, (m : Int))
set_option maxRecDepth 100000 in
set_option maxHeartbeats 1000000 in
theorem refValue_any (t : ByteArray) (k : Nat) (w : World) (ht : t.size ≤ 4000000) (hk : k ≤ t.size) :
    Calls Tryz.prog 47 #[.string t, .int .i64 (k : Int)] w fun e w' => e = .returned (.tuple #[.string (valueZ t k).1, .int .i64 (valueZ t k).2]) ∧ w = w' := by
  obtain ⟨R, hR⟩ : ∃ R, valueZ t k = R := ⟨_, rfl⟩
  have W1 := Lib.hid (refWhite_any t k w (by omega) (by omega))
  have hk1 := white_le hk
  obtain ⟨k1, hkk1⟩ : ∃ k1, whiteTo t k = k1 := ⟨_, rfl⟩
  rw [hR]
  rw [hkk1] at W1 hk1
  have S1 := Lib.hid (refStands_at t ⟨#[61]⟩ k1 k1 [61] w rfl rfl (by omega) (by omega) (by show 1 ≤ 4194304; omega) (by show 0 < 1; omega))
  have hb1 : k1 ≤ 4000000 := by omega
  cases h1 : seesB t k1 [61]
  · have hR2 : (⟨#[]⟩, -1) = R := by
      rw [← hR]
      unfold valueZ equalsF
      rw [hkk1, h1]
      rfl
    rw [h1] at S1
    subst hR2
    clear hR hkk1 h1 hk ht hk1
    go_enter Tryz.func47, Tryz.ntmps47
    go_wp2_with (fail)
    refine W1.out.mono ?_
    rintro e w' ⟨rfl, rfl⟩
    go_wp2_with (fail)
    refine S1.out.mono ?_
    rintro e w' ⟨rfl, rfl⟩
    go_wp2_with (fail)
    go_ret2
    exact ⟨rfl, rfl⟩
  · have hr1 := sees_room hk1 h1
    simp only [List.length_cons, List.length_nil] at hr1
    have W2 := Lib.hid (refWhite_at t ((k1 : Int) + 1) (k1 + 1) w (by omega) (by omega) (by omega))
    have hk2 := white_le (t := t) (k := k1 + 1) hr1
    obtain ⟨k2, hkk2⟩ : ∃ k2, whiteTo t (k1 + 1) = k2 := ⟨_, rfl⟩
    rw [hkk2] at W2 hk2
    have hb2 : k2 ≤ 4000000 := by omega
    have hE : equalsF t k = some k2 := by
      unfold equalsF
      rw [hkk1, h1, hkk2]
      rfl
    rw [h1] at S1
    have S2 := Lib.hid (refStands_at t ⟨#[39]⟩ k2 k2 [39] w rfl rfl (by omega) (by omega) (by show 1 ≤ 4194304; omega) (by show 0 < 1; omega))
    have S3 := Lib.hid (refStands_at t ⟨#[34]⟩ k2 k2 [34] w rfl rfl (by omega) (by omega) (by show 1 ≤ 4194304; omega) (by show 0 < 1; omega))
    cases h2 : seesB t k2 [39]
    · cases h3 : seesB t k2 [34]
      · have hR2 : (⟨#[]⟩, -1) = R := by
          rw [← hR]
          unfold valueZ quotedF
          rw [hE]
          simp only
          rw [h2, h3]
          rfl
        rw [h2] at S2
        rw [h3] at S3
        subst hR2
        clear hR hkk1 hkk2 h1 h2 h3 hk ht hE hk1 hk2 hr1
        go_enter Tryz.func47, Tryz.ntmps47
        go_wp2_with (fail)
        refine W1.out.mono ?_
        rintro e w' ⟨rfl, rfl⟩
        go_wp2_with (fail)
        refine S1.out.mono ?_
        rintro e w' ⟨rfl, rfl⟩
        go_wp2_with (fail)
        refine W2.out.mono ?_
        rintro e w' ⟨rfl, rfl⟩
        go_wp2_with (fail)
        refine S2.out.mono ?_
        rintro e w' ⟨rfl, rfl⟩
        go_wp2_with (fail)
        refine S3.out.mono ?_
        rintro e w' ⟨rfl, rfl⟩
        go_wp2_with (fail)
        go_ret2
        exact ⟨rfl, rfl⟩
      · have hr2 := sees_room hk2 h3
        simp only [List.length_cons, List.length_nil] at hr2
        have EX := ext_one hk2 h3
        have F := Lib.hid (refFind_at t ⟨#[34]⟩ ((k2 : Int) + 1) (k2 + 1) [34] w (by omega) rfl (by omega) (by omega) (by show 1 ≤ 4194304; omega) (by show 0 < 1; omega))
        have hg1 : (k2 : Int) + 1 ≤ (t.size : Int) := by omega
        cases hf : findF t (k2 + 1) [34] with
        | none =>
          have hR2 : (⟨#[]⟩, -1) = R := by
            rw [← hR]
            unfold valueZ quotedF
            rw [hE]
            simp only
            rw [h2, h3, if_neg (by simp), if_pos rfl, hf]
            rfl
          have hz : findZ t (k2 + 1) [34] = -1 := by unfold findZ; rw [hf]
          rw [hz] at F
          rw [h2] at S2
          rw [h3] at S3
          subst hR2
          clear hR hkk1 hkk2 h1 h2 h3 hk hE hk1 hk2 hr1 hf hz
          go_enter Tryz.func47, Tryz.ntmps47
          go_wp2_with (fail)
          refine W1.out.mono ?_
          rintro e w' ⟨rfl, rfl⟩
          go_wp2_with (fail)
          refine S1.out.mono ?_
          rintro e w' ⟨rfl, rfl⟩
          go_wp2_with (fail)
          refine W2.out.mono ?_
          rintro e w' ⟨rfl, rfl⟩
          go_wp2_with (fail)
          refine S2.out.mono ?_
          rintro e w' ⟨rfl, rfl⟩
          go_wp2_with (fail)
          refine S3.out.mono ?_
          rintro e w' ⟨rfl, rfl⟩
          go_wp2_with (fail)
          refine F.out.mono ?_
          rintro e w' ⟨rfl, rfl⟩
          go_wp2_with (fail)
          go_ret2
          exact ⟨rfl, rfl⟩
        | some m =>
          have hR2 : (t.extract (k2 + 1) m, ((m + 1 : Nat) : Int)) = R := by
            rw [← hR]
            unfold valueZ quotedF
            rw [hE]
            simp only
            rw [h2, h3, if_neg (by simp), if_pos rfl, hf]
            rfl
          have hz : findZ t (k2 + 1) [34] = (m : Int) := by unfold findZ; rw [hf]
          obtain ⟨m1, m2, _⟩ := (find_iff (by omega)).1 hf
          have hm1 : (k2 : Int) + 1 ≤ (m : Int) := by omega
          have hm2 : (m : Int) ≤ (t.size : Int) := by omega
          have hm3 : ¬ (m : Int) < 0 := by omega
          have hm4 : m ≤ 4000000 := by omega
          rw [hz] at F
          rw [h2] at S2
          rw [h3] at S3
          subst hR2
          clear hR hkk1 hkk2 h1 h2 h3 hk hE hk1 hk2 hr1 hf hz m1 m2
          go_enter Tryz.func47, Tryz.ntmps47
          go_wp2_with (fail)
          refine W1.out.mono ?_
          rintro e w' ⟨rfl, rfl⟩
          go_wp2_with (fail)
          refine S1.out.mono ?_
          rintro e w' ⟨rfl, rfl⟩
          go_wp2_with (fail)
          refine W2.out.mono ?_
          rintro e w' ⟨rfl, rfl⟩
          go_wp2_with (fail)
          refine S2.out.mono ?_
          rintro e w' ⟨rfl, rfl⟩
          go_wp2_with (fail)
          refine S3.out.mono ?_
          rintro e w' ⟨rfl, rfl⟩
          go_wp2_with (fail)
          refine F.out.mono ?_
          rintro e w' ⟨rfl, rfl⟩
          go_wp2_with (fail)
          go_ret2
          exact ⟨rfl, rfl⟩
    · have hr2 := sees_room hk2 h2
      simp only [List.length_cons, List.length_nil] at hr2
      have EX := ext_one hk2 h2
      have F := Lib.hid (refFind_at t ⟨#[39]⟩ ((k2 : Int) + 1) (k2 + 1) [39] w (by omega) rfl (by omega) (by omega) (by show 1 ≤ 4194304; omega) (by show 0 < 1; omega))
      have hg1 : (k2 : Int) + 1 ≤ (t.size : Int) := by omega
      cases hf : findF t (k2 + 1) [39] with
      | none =>
        have hR2 : (⟨#[]⟩, -1) = R := by
          rw [← hR]
          unfold valueZ quotedF
          rw [hE]
          simp only
          rw [h2, if_pos rfl, hf]
          rfl
        have hz : findZ t (k2 + 1) [39] = -1 := by unfold findZ; rw [hf]
        rw [hz] at F
        rw [h2] at S2
        subst hR2
        clear hR hkk1 hkk2 h1 h2 hk hE hk1 hk2 hr1 hf hz
        go_enter Tryz.func47, Tryz.ntmps47
        go_wp2_with (fail)
        refine W1.out.mono ?_
        rintro e w' ⟨rfl, rfl⟩
        go_wp2_with (fail)
        refine S1.out.mono ?_
        rintro e w' ⟨rfl, rfl⟩
        go_wp2_with (fail)
        refine W2.out.mono ?_
        rintro e w' ⟨rfl, rfl⟩
        go_wp2_with (fail)
        refine S2.out.mono ?_
        rintro e w' ⟨rfl, rfl⟩
        go_wp2_with (fail)
        refine F.out.mono ?_
        rintro e w' ⟨rfl, rfl⟩
        go_wp2_with (fail)
        go_ret2
        exact ⟨rfl, rfl⟩
      | some m =>
        have hR2 : (t.extract (k2 + 1) m, ((m + 1 : Nat) : Int)) = R := by
          rw [← hR]
          unfold valueZ quotedF
          rw [hE]
          simp only
          rw [h2, if_pos rfl, hf]
          rfl
        have hz : findZ t (k2 + 1) [39] = (m : Int) := by unfold findZ; rw [hf]
        obtain ⟨m1, m2, _⟩ := (find_iff (by omega)).1 hf
        have hm1 : (k2 : Int) + 1 ≤ (m : Int) := by omega
        have hm2 : (m : Int) ≤ (t.size : Int) := by omega
        have hm3 : ¬ (m : Int) < 0 := by omega
        have hm4 : m ≤ 4000000 := by omega
        rw [hz] at F
        rw [h2] at S2
        subst hR2
        clear hR hkk1 hkk2 h1 h2 hk hE hk1 hk2 hr1 hf hz m1 m2
        go_enter Tryz.func47, Tryz.ntmps47
        go_wp2_with (fail)
        refine W1.out.mono ?_
        rintro e w' ⟨rfl, rfl⟩
        go_wp2_with (fail)
        refine S1.out.mono ?_
        rintro e w' ⟨rfl, rfl⟩
        go_wp2_with (fail)
        refine W2.out.mono ?_
        rintro e w' ⟨rfl, rfl⟩
        go_wp2_with (fail)
        refine S2.out.mono ?_
        rintro e w' ⟨rfl, rfl⟩
        go_wp2_with (fail)
        refine F.out.mono ?_
        rintro e w' ⟨rfl, rfl⟩
        go_wp2_with (fail)
        go_ret2
        exact ⟨rfl, rfl⟩
end Go.Proofs.YtidimpepfkdcmaaGreatDoor
namespace Go.Proofs.YtidimpepfkdcmaaGreatDoor
open Go.RowKit

/-- The declaration's words, and what their values may be. -/
def wordK : Nat → ByteArray
  | 0 => ⟨#[118, 101, 114, 115, 105, 111, 110]⟩
  | 1 => ⟨#[101, 110, 99, 111, 100, 105, 110, 103]⟩
  | _ => ⟨#[115, 116, 97, 110, 100, 97, 108, 111, 110, 101]⟩
def rightK : Nat → ByteArray → Bool
  | 0 => versionB
  | 1 => encodingB
  | _ => aloneB
/-- What comes of the declaration from its part k on. -/
def declS (t : ByteArray) : Nat → Nat → List (ByteArray × ByteArray) → Bool → Except Nat (Tok × Nat)
  | 0, j, ps, _ =>
    match propF t j [118, 101, 114, 115, 105, 111, 110] versionB with
    | none => .error 23
    | some (v, i) =>
      match propF t i [101, 110, 99, 111, 100, 105, 110, 103] encodingB with
      | none => declAlone t i (ps ++ [v]) true
      | some (c, m) => declAlone t m (ps ++ [v] ++ [c]) (utf8B c.2)
  | 1, j, ps, q =>
    match propF t j [101, 110, 99, 111, 100, 105, 110, 103] encodingB with
    | none => declAlone t j ps q
    | some (c, m) => declAlone t m (ps ++ [c]) (utf8B c.2)
  | 2, j, ps, q => declAlone t j ps q
  | _, j, ps, q => declEnd t j ps q
theorem declS_all (t : ByteArray) (k : Nat) : declF t k = declS t 0 k [] true := rfl
theorem word_size (k : Nat) : 0 < (wordK k).size ∧ (wordK k).size ≤ 10 := by
  unfold wordK
  split <;> exact ⟨by decide, by decide⟩
/-- Does part k's word stand behind white space? -/
def hereB (t : ByteArray) (k j : Nat) : Bool := decide (j < whiteTo t j) && seesB t (whiteTo t j) (wordK k).data.toList
theorem prop_not {t : ByteArray} {j : Nat} {word : List UInt8} (right : ByteArray → Bool) (h : (decide (j < whiteTo t j) && seesB t (whiteTo t j) word) = false) : propF t j word right = none := by
  unfold propF
  refine if_pos ?_
  have hg := white_ge t j
  cases hs : seesB t (whiteTo t j) word
  · exact .inr rfl
  · rw [hs, Bool.and_true, decide_eq_false_iff_not] at h
    exact .inl (by omega)
theorem prop_here {t : ByteArray} {j : Nat} {word : List UInt8} (right : ByteArray → Bool) (hj : j ≤ t.size) (h : (decide (j < whiteTo t j) && seesB t (whiteTo t j) word) = true) :
    whiteTo t j + word.length ≤ t.size ∧ ((valueZ t (whiteTo t j + word.length) = (⟨#[]⟩, -1) ∧ propF t j word right = none) ∨
    ∃ (raw : ByteArray) (m : Nat), valueZ t (whiteTo t j + word.length) = (raw, (m : Int)) ∧ j < m ∧ m ≤ t.size ∧ raw.size ≤ t.size ∧ propF t j word right = if right raw then some (((⟨word.toArray⟩ : ByteArray), raw), m) else none) := by
  rw [Bool.and_eq_true, decide_eq_true_eq] at h
  obtain ⟨h1, h2⟩ := h
  have hr := sees_room (white_le hj) h2
  refine ⟨hr, ?_⟩
  unfold propF valueZ
  rw [if_neg (by rw [h2]; rintro (e | e); · omega
                 · cases e)]
  cases he : equalsF t (whiteTo t j + word.length) with
  | none => exact .inl ⟨rfl, rfl⟩
  | some i =>
    dsimp only
    obtain ⟨y1, y2⟩ := equals_ok hr he
    cases hq : quotedF t i with
    | none => exact .inl ⟨rfl, rfl⟩
    | some r =>
      obtain ⟨z1, z2, z3⟩ := quoted_ok (raw := r.1) (m := r.2) y2 hq
      exact .inr ⟨r.1, r.2, rfl, by omega, z2, z3, rfl⟩
theorem other_none {t : ByteArray} {j : Nat} {a b : UInt8} {s s' : List UInt8} (right : ByteArray → Bool) (hj : j ≤ t.size) (h : seesB t (whiteTo t j) (a :: s) = true) (hab : a ≠ b) : propF t j (b :: s') right = none :=
  prop_not right (by
    cases hs : seesB t (whiteTo t j) (b :: s')
    · simp
    · exact absurd (sees_clash (white_le hj) h hs) hab)
theorem end_not {t : ByteArray} {j : Nat} {a : UInt8} {s : List UInt8} (ps : List (ByteArray × ByteArray)) (q : Bool) (hj : j ≤ t.size) (h : seesB t (whiteTo t j) (a :: s) = true) (ha : a ≠ 63) : declEnd t j ps q = .error 23 := by
  unfold declEnd
  refine if_neg ?_
  rw [Bool.not_eq_true]
  cases hs : seesB t (whiteTo t j) [63, 62]
  · rfl
  · exact absurd (sees_clash (white_le hj) h hs) ha
/-- Part k isn't there. -/
theorem decl_skip0 {t : ByteArray} {j : Nat} (ps : List (ByteArray × ByteArray)) (q : Bool) (h : hereB t 0 j = false) : declS t 0 j ps q = .error 23 := by
  have := prop_not versionB h
  simp only [declS]
  rw [show propF t j [118, 101, 114, 115, 105, 111, 110] versionB = none from this]
theorem decl_skip {t : ByteArray} {k j : Nat} (ps : List (ByteArray × ByteArray)) (q : Bool) (hk0 : k ≠ 0) (hk : k < 3) (h : hereB t k j = false) : declS t k j ps q = declS t (k + 1) j ps q := by
  obtain rfl | rfl : k = 1 ∨ k = 2 := by omega
  · have := prop_not encodingB h
    simp only [declS]
    rw [show propF t j [101, 110, 99, 111, 100, 105, 110, 103] encodingB = none from this]
  · have := prop_not aloneB h
    simp only [declS]
    unfold declAlone
    rw [show propF t j [115, 116, 97, 110, 100, 97, 108, 111, 110, 101] aloneB = none from this]
theorem decl_here {t : ByteArray} {k j : Nat} (ps : List (ByteArray × ByteArray)) (q : Bool) (hj : j ≤ t.size) (hk : k < 3) (h : hereB t k j = true) :
    whiteTo t j + (wordK k).size ≤ t.size ∧ ((valueZ t (whiteTo t j + (wordK k).size) = (⟨#[]⟩, -1) ∧ declS t k j ps q = .error 23) ∨
    ∃ (raw : ByteArray) (m : Nat), valueZ t (whiteTo t j + (wordK k).size) = (raw, (m : Int)) ∧ j < m ∧ m ≤ t.size ∧ raw.size ≤ t.size ∧
      declS t k j ps q = if rightK k raw then declS t (k + 1) m (ps ++ [(wordK k, raw)]) (if k = 1 then utf8B raw else if k = 0 then true else q) else .error 23) := by
  have hs : seesB t (whiteTo t j) (wordK k).data.toList = true := by
    unfold hereB at h
    rw [Bool.and_eq_true] at h
    exact h.2
  have hno : propF t j (wordK k).data.toList (rightK k) = none → declS t k j ps q = .error 23 := by
    intro hn
    obtain rfl | rfl | rfl : k = 0 ∨ k = 1 ∨ k = 2 := by omega
    · simp only [declS]
      rw [show propF t j [118, 101, 114, 115, 105, 111, 110] versionB = none from hn]
    · simp only [declS]
      rw [show propF t j [101, 110, 99, 111, 100, 105, 110, 103] encodingB = none from hn]
      simp only [declAlone]
      rw [other_none aloneB hj hs (by decide)]
      exact end_not _ _ hj hs (by decide)
    · simp only [declS, declAlone]
      rw [show propF t j [115, 116, 97, 110, 100, 97, 108, 111, 110, 101] aloneB = none from hn]
      exact end_not _ _ hj hs (by decide)
  obtain ⟨hr, hc⟩ := prop_here (rightK k) hj h
  refine ⟨hr, ?_⟩
  rcases hc with ⟨hv, hp⟩ | ⟨raw, m, hv, h1, h2, h3, hp⟩
  · exact .inl ⟨hv, hno hp⟩
  · refine .inr ⟨raw, m, hv, h1, h2, h3, ?_⟩
    cases hrt : rightK k raw
    · rw [if_neg (by decide)]
      rw [hrt, if_neg (by decide)] at hp
      exact hno hp
    · rw [if_pos rfl]
      rw [hrt, if_pos rfl] at hp
      obtain rfl | rfl | rfl : k = 0 ∨ k = 1 ∨ k = 2 := by omega
      · simp only [declS]
        rw [show propF t j [118, 101, 114, 115, 105, 111, 110] versionB = _ from hp]
        rfl
      · simp only [declS]
        rw [show propF t j [101, 110, 99, 111, 100, 105, 110, 103] encodingB = _ from hp]
        rfl
      · simp only [declS, declAlone]
        rw [show propF t j [115, 116, 97, 110, 100, 97, 108, 111, 110, 101] aloneB = _ from hp]
        rfl
end Go.Proofs.YtidimpepfkdcmaaGreatDoor
