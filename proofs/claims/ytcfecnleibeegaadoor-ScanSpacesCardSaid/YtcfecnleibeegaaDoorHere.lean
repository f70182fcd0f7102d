/- Proved here: plain facts: what the scanner reads at a place hangs on what stands from there on alone; no walk. -/
import Derived.Test.YtcfecnleibeegaaDoorBarsPlain
namespace Go.Proofs.YtcfecnleibeegaaDoor
open Go.RowKit

/-- From the place k on just these bytes stand. -/
def From (t : ByteArray) (k : Nat) (l : List UInt8) : Prop := k ≤ t.size ∧ t.data.toList.drop k = l
theorem From.len {t : ByteArray} {k : Nat} {l : List UInt8} (h : From t k l) : t.size = k + l.length := by
  have h1 := congrArg List.length h.2
  rw [List.length_drop, Array.length_toList] at h1
  have e : t.data.size = t.size := rfl
  have := h.1
  omega
theorem From.tail {t : ByteArray} {k : Nat} {a l : List UInt8} (h : From t k (a ++ l)) : From t (k + a.length) l := by
  have h1 := h.len
  rw [List.length_append] at h1
  refine ⟨by omega, ?_⟩
  rw [← List.drop_drop, h.2, List.drop_left]
theorem From.next {t : ByteArray} {k : Nat} {c : UInt8} {l : List UInt8} (h : From t k (c :: l)) : From t (k + 1) l := From.tail (a := [c]) h
theorem From.sees {t : ByteArray} {k : Nat} {l : List UInt8} (h : From t k l) (s : List UInt8) : seesB t k s = s.isPrefixOf l := by
  unfold seesB Lib.hasPrefix
  rw [h.2]
theorem tw_stop (g : List UInt8) (c : UInt8) (l : List UInt8) (hg : ∀ y ∈ g, isB y = true) (hc : isB c = false) : (g ++ c :: l).takeWhile isB = g := by
  induction g with
  | nil => simp [hc]
  | cons a g ih =>
    rw [List.cons_append, List.takeWhile_cons, if_pos (hg a (List.mem_cons_self ..)), ih (fun y hy => hg y (List.mem_cons_of_mem _ hy))]
theorem From.white {t : ByteArray} {k : Nat} {g l : List UInt8} {c : UInt8} (h : From t k (g ++ c :: l)) (hg : ∀ y ∈ g, isB y = true) (hc : isB c = false) : whiteTo t k = k + g.length := by
  unfold whiteTo
  rw [h.2, tw_stop g c l hg hc]
theorem From.white0 {t : ByteArray} {k : Nat} {l : List UInt8} {c : UInt8} (h : From t k (c :: l)) (hc : isB c = false) : whiteTo t k = k :=
  From.white (g := []) h (fun y hy => by cases hy) hc
theorem From.get {t : ByteArray} {k : Nat} {c : UInt8} {l : List UInt8} (h : From t k (c :: l)) : k < t.size ∧ t.get! k = c := by
  have h1 := h.len
  rw [List.length_cons] at h1
  have h2 := drop_at t k (by omega)
  rw [h.2] at h2
  injection h2 with h2
  exact ⟨by omega, h2.symm⟩
theorem From.ext {t : ByteArray} {k : Nat} {a l : List UInt8} (h : From t k (a ++ l)) : t.extract k (k + a.length) = ⟨a.toArray⟩ := by
  apply eq_of_list
  simp only [ByteArray.data_extract, Array.toList_extract, List.extract_eq_take_drop]
  rw [h.2, show k + a.length - k = a.length by omega, List.take_left]
theorem From.find {t : ByteArray} {k i : Nat} {L s : List UInt8} (h : From t k L) (hi : i ≤ L.length) (h1 : s.isPrefixOf (L.drop i) = true) (h2 : ∀ j, j < i → s.isPrefixOf (L.drop j) = false) : findF t k s = some (k + i) := by
  have hl := h.len
  have go : ∀ j, seesB t (k + j) s = s.isPrefixOf (L.drop j) := by
    intro j
    unfold seesB Lib.hasPrefix
    rw [← List.drop_drop, h.2]
  refine (find_iff h.1).2 ⟨by omega, by omega, by rw [go]; exact h1, fun j hj hlt => ?_⟩
  have := go (j - k)
  rw [show k + (j - k) = j by omega] at this
  rw [this]
  exact h2 _ (by omega)
theorem From.find1 {t : ByteArray} {k : Nat} {a l : List UInt8} {c : UInt8} (h : From t k (a ++ c :: l)) (ha : c ∉ a) : findF t k [c] = some (k + a.length) := by
  refine h.find (by simp) (by rw [List.drop_left]; simp [List.isPrefixOf]) (fun j hj => ?_)
  rw [List.drop_append_of_le_length (by omega), List.drop_eq_getElem_cons hj]
  simp only [List.cons_append, List.isPrefixOf, Bool.and_true]
  rw [beq_eq_false_iff_ne]
  intro e
  exact ha (by rw [e]; exact List.getElem_mem hj)

theorem next_shift (a b : ByteArray) (k : Nat) : nextF (a ++ b) (a.size + k) = if (nextF b k).2.2 = 0 then ((nextF b k).1, a.size + (nextF b k).2.1, 0) else nextF b k := by
  unfold nextF
  rw [rd_right]
  by_cases h : (rd b k).2 = 0
  · simp [h]
  · cases hc : charB ((rd b k).1 : Int)
    · simp [h]
    · simp [h]
      omega
theorem goes_shift (a b : ByteArray) (k : Nat) : goesB (a ++ b) (a.size + k) ↔ goesB b k := by
  have hs := size_cat a b
  unfold goesB
  rw [next_shift]
  by_cases h : (nextF b k).2.2 = 0
  · rw [if_pos h]
    constructor
    · rintro ⟨h1, _, h3⟩
      exact ⟨by omega, h, h3⟩
    · rintro ⟨h1, _, h3⟩
      exact ⟨by omega, rfl, h3⟩
  · rw [if_neg h]
    constructor
    · rintro ⟨_, h2, _⟩
      exact absurd h2 h
    · rintro ⟨_, h2, _⟩
      exact absurd h2 h
theorem parts_shift (a b : ByteArray) : ∀ f k, partsGo (a ++ b) f (a.size + k) = a.size + partsGo b f k
  | 0, k => rfl
  | f + 1, k => by
    by_cases h : goesB b k
    · rw [parts_step h, parts_step ((goes_shift a b k).2 h), next_shift, if_pos h.2.1]
      exact parts_shift a b f _
    · rw [parts_stop h, parts_stop (fun q => h ((goes_shift a b k).1 q))]
theorem parts_fuel (t : ByteArray) : ∀ f g k, k ≤ t.size → t.size ≤ k + f → t.size ≤ k + g → partsGo t f k = partsGo t g k
  | 0, g, k, hk, hf, hg => by
    have h : ¬ goesB t k := fun q => by have := q.1; omega
    rw [parts_stop h, parts_stop h]
  | f + 1, g, k, hk, hf, hg => by
    by_cases h : goesB t k
    · have hlt := h.1
      obtain ⟨g', rfl⟩ : ∃ g', g = g' + 1 := ⟨g - 1, by omega⟩
      have hn := next_step h.1 h.2.1
      rw [parts_step h, parts_step h]
      exact parts_fuel t f g' _ hn.2 (by omega) (by omega)
    · rw [parts_stop h, parts_stop h]
theorem ext_right (a b : ByteArray) (k i : Nat) : (a ++ b).extract (a.size + k) (a.size + i) = b.extract k i := by
  apply eq_of_list
  have e : a.data.toList.length = a.size := Array.length_toList
  simp only [ByteArray.data_extract, ByteArray.data_append, Array.toList_extract, Array.toList_append, List.extract_eq_take_drop]
  rw [← List.drop_drop, ← e, List.drop_left, show a.data.toList.length + i - (a.data.toList.length + k) = i - k by omega]
theorem name_shift {b n : ByteArray} (a : ByteArray) {k i : Nat} (h : nameF b k = .ok (n, i)) : nameF (a ++ b) (a.size + k) = .ok (n, a.size + i) := by
  obtain ⟨h1, h2, h3, h4, h5, h6, h7⟩ := name_ok h
  have hs := size_cat a b
  have hp : partsGo (a ++ b) (a ++ b).size (a.size + k) = a.size + i := by rw [parts_shift, parts_fuel b (a ++ b).size b.size k (by omega) (by omega) (by omega), h4]
  unfold nameF
  rw [if_pos ⟨by omega, by rw [next_shift, if_pos h6], by rw [next_shift, if_pos h6]; exact h7⟩, hp, ext_right, h3]
theorem name_unshift {a b n : ByteArray} {k j : Nat} (h : nameF (a ++ b) (a.size + k) = .ok (n, j)) : ∃ i, j = a.size + i ∧ nameF b k = .ok (n, i) := by
  obtain ⟨h1, h2, h3, h4, h5, h6, h7⟩ := name_ok h
  have hs := size_cat a b
  have h6' : (nextF b k).2.2 = 0 := by
    by_cases e : (nextF b k).2.2 = 0
    · exact e
    · rw [next_shift, if_neg e] at h6
      exact absurd h6 e
  rw [next_shift, if_pos h6'] at h7
  rw [parts_shift, parts_fuel b (a ++ b).size b.size k (by omega) (by omega) (by omega)] at h4
  refine ⟨partsGo b b.size k, h4.symm, ?_⟩
  unfold nameF
  rw [if_pos ⟨by omega, h6', h7⟩, h3, ← h4, ext_right]
theorem rd_back (a b : ByteArray) (pos : Nat) (h : (rd (a ++ b) pos).2 ≠ 0) (hfit : pos + (rd (a ++ b) pos).2 ≤ a.size) : rd a pos = rd (a ++ b) pos := by
  have g0 : (a ++ b).get! pos = a.get! pos := get!_left a b pos (by omega)
  obtain ⟨W, hW⟩ : ∃ W, rd (a ++ b) pos = W := ⟨_, rfl⟩
  have hW2 := hW
  unfold rd at hW
  rw [g0] at hW
  rw [hW2] at h hfit ⊢
  have e := rdN_exact ((a ++ b).size - pos) (a.get! pos).toNat ((a ++ b).get! (pos + 1)).toNat ((a ++ b).get! (pos + 2)).toNat ((a ++ b).get! (pos + 3)).toNat (a.get! (pos + 1)).toNat (a.get! (pos + 2)).toNat (a.get! (pos + 3)).toNat (a.get! pos).toNat_lt (by rw [hW]; exact h)
    (fun q => by rw [hW] at q; rw [get!_left a b (pos + 1) (by omega)]) (fun q => by rw [hW] at q; rw [get!_left a b (pos + 2) (by omega)]) (fun q => by rw [hW] at q; rw [get!_left a b (pos + 3) (by omega)])
  rw [hW] at e
  unfold rd
  rw [← e]
  refine rdN_stable W.2 (a.size - pos) _ _ _ _ _ _ _ (a.get! pos).toNat_lt (by rw [e]; exact h) (by omega) (fun _ => rfl) (fun _ => rfl) (fun _ => rfl) |>.trans ?_
  rw [e]
theorem next_back (a b : ByteArray) (pos : Nat) (h : (nextF (a ++ b) pos).2.2 = 0) (hfit : (nextF (a ++ b) pos).2.1 ≤ a.size) : nextF a pos = nextF (a ++ b) pos := by
  have hr : (rd (a ++ b) pos).2 ≠ 0 := by
    intro e
    unfold nextF at h
    rw [if_pos e] at h
    cases h
  have hc : charB ((rd (a ++ b) pos).1 : Int) = true := by
    cases hc : charB ((rd (a ++ b) pos).1 : Int)
    · unfold nextF at h
      rw [if_neg hr, hc] at h
      cases h
    · rfl
  have e : nextF (a ++ b) pos = ((rd (a ++ b) pos).1, pos + (rd (a ++ b) pos).2, 0) := by
    unfold nextF
    rw [if_neg hr, hc]
    rfl
  rw [e] at hfit
  unfold nextF
  rw [rd_back a b pos hr hfit]
theorem parts_alone (n r : ByteArray) : ∀ f g k, k ≤ n.size → (n ++ r).size ≤ k + f → n.size ≤ k + g → partsGo (n ++ r) f k = n.size → partsGo n g k = n.size
  | 0, g, k, hk, hf, hg, h => by
    have hs := size_cat n r
    obtain rfl : k = n.size := by omega
    exact parts_stop (fun q => by have := q.1; omega)
  | f + 1, g, k, hk, hf, hg, h => by
    have hs := size_cat n r
    by_cases hlt : k < n.size
    · have hgo : goesB (n ++ r) k := by
        by_cases q : goesB (n ++ r) k
        · exact q
        · rw [parts_stop q] at h
          omega
      have hn := next_step hgo.1 hgo.2.1
      rw [parts_step hgo] at h
      have hle : (nextF (n ++ r) k).2.1 ≤ n.size := by
        have := (parts_bound (n ++ r) f _ hn.2).1
        omega
      have hb := next_back n r k hgo.2.1 hle
      have hgn : goesB n k := ⟨hlt, by rw [hb]; exact hgo.2.1, by rw [hb]; exact hgo.2.2⟩
      obtain ⟨g', rfl⟩ : ∃ g', g = g' + 1 := ⟨g - 1, by omega⟩
      rw [parts_step hgn, hb]
      exact parts_alone n r f g' _ hle (by omega) (by omega) h
    · obtain rfl : k = n.size := by omega
      exact parts_stop (fun q => by have := q.1; omega)
theorem cut_three (t : ByteArray) (k i : Nat) (hk : k ≤ i) (hi : i ≤ t.size) : t = t.extract 0 k ++ (t.extract k i ++ t.extract i t.size) := by
  apply eq_of_list
  have e : t.data.toList.length = t.size := Array.length_toList
  simp only [ByteArray.data_extract, ByteArray.data_append, Array.toList_extract, Array.toList_append, List.extract_eq_take_drop, List.drop_zero, Nat.sub_zero]
  rw [List.take_of_length_le (l := List.drop i t.data.toList) (by rw [List.length_drop]; omega)]
  have : List.drop i t.data.toList = List.drop (i - k) (List.drop k t.data.toList) := by rw [List.drop_drop, show k + (i - k) = i by omega]
  rw [this, List.take_append_drop, List.take_append_drop]
/-- A name that was read is read, alone. -/
theorem name_alone {t n : ByteArray} {k i : Nat} (h : nameF t k = .ok (n, i)) : nameF n 0 = .ok (n, n.size) ∧ i = k + n.size := by
  obtain ⟨h1, h2, h3, _⟩ := name_ok h
  have hk : (t.extract 0 k).size = k := by simp; omega
  have hn : n.size = i - k := by rw [h3]; simp; omega
  have ht := cut_three t k i (by omega) h2
  rw [← h3] at ht
  obtain ⟨r, hr⟩ : ∃ r, t.extract i t.size = r := ⟨_, rfl⟩
  obtain ⟨a, ha⟩ : ∃ a, t.extract 0 k = a := ⟨_, rfl⟩
  rw [hr, ha] at ht
  rw [ha] at hk
  rw [ht, ← hk] at h
  obtain ⟨j, hj, h'⟩ := name_unshift (k := 0) h
  obtain rfl : j = n.size := by omega
  obtain ⟨g1, g2, g3, g4, g5, g6, g7⟩ := name_ok h'
  have hs := size_cat n r
  have hp := parts_alone n r (n ++ r).size n.size 0 (Nat.zero_le _) (by omega) (by omega) g4
  have hgo : goesB (n ++ r) 0 := ⟨g5, g6, g7.imp id start_part⟩
  have hns := next_step g5 g6
  have hle : (nextF (n ++ r) 0).2.1 ≤ n.size := by
    obtain ⟨f, hf⟩ : ∃ f, (n ++ r).size = f + 1 := ⟨(n ++ r).size - 1, by omega⟩
    have h9 := g4
    rw [hf, parts_step hgo] at h9
    have := (parts_bound (n ++ r) f _ hns.2).1
    omega
  have hb := next_back n r 0 g6 hle
  refine ⟨?_, by omega⟩
  unfold nameF
  rw [hb, if_pos ⟨by omega, g6, g7⟩, hp]
  congr 2
  apply eq_of_list
  have e : n.data.toList.length = n.size := Array.length_toList
  simp only [ByteArray.data_extract, Array.toList_extract, List.extract_eq_take_drop, List.drop_zero, Nat.sub_zero]
  rw [List.take_of_length_le (by omega)]
theorem qual_alone {t n : ByteArray} {k i : Nat} (h : qualF t k = .ok (n, i)) : qualF n 0 = .ok (n, n.size) ∧ i = k + n.size := by
  obtain ⟨h1, h2⟩ := qual_ok h
  obtain ⟨h3, h4⟩ := name_alone h1
  refine ⟨?_, h4⟩
  unfold qualF
  rw [h3]
  simp only
  rw [if_pos h2]
theorem name_here {t n : ByteArray} {k : Nat} {c : UInt8} {l : List UInt8} (hn : nameF n 0 = .ok (n, n.size)) (h : From t k (n.data.toList ++ c :: l)) (hc : StopB c) : nameF t k = .ok (n, k + n.size) := by
  have ht : t = t.extract 0 k ++ (n ++ ⟨(c :: l).toArray⟩) := by
    apply eq_of_list
    simp only [ByteArray.data_extract, ByteArray.data_append, Array.toList_extract, Array.toList_append, List.extract_eq_take_drop, List.drop_zero, Nat.sub_zero]
    rw [← h.2, List.take_append_drop]
  have hk : (t.extract 0 k).size = k := by
    have := h.1
    simp
    omega
  have := name_shift (t.extract 0 k) (name_join hc (r := ⟨(c :: l).toArray⟩) ⟨l, rfl⟩ hn)
  rw [← ht, hk, Nat.add_zero] at this
  exact this
theorem qual_here {t n : ByteArray} {k : Nat} {c : UInt8} {l : List UInt8} (hn : qualF n 0 = .ok (n, n.size)) (h : From t k (n.data.toList ++ c :: l)) (hc : StopB c) : qualF t k = .ok (n, k + n.size) := by
  obtain ⟨h1, h2⟩ := qual_ok hn
  unfold qualF
  rw [name_here h1 h hc]
  simp only
  rw [if_pos h2]
/-- What a name begins with. -/
theorem name_first {n : ByteArray} (h : nameF n 0 = .ok (n, n.size)) : ∃ c l, n.data.toList = c :: l ∧ (128 ≤ c.toNat ∨ c.toNat = 58 ∨ startB (c.toNat : Int) = true) := by
  obtain ⟨h1, h2, h3, h4, h5, h6, h7⟩ := name_ok h
  have hd := drop_at n 0 h5
  rw [List.drop_zero] at hd
  refine ⟨n.get! 0, n.data.toList.drop 1, hd, ?_⟩
  by_cases hx : 128 ≤ (n.get! 0).toNat
  · exact .inl hx
  · right
    have e : rd n 0 = ((n.get! 0).toNat, 1) := rd_ascii (by omega)
    unfold nextF at h6 h7
    rw [e] at h6 h7
    simp only at h6 h7
    rw [if_neg (by omega)] at h6 h7
    split at h7
    · exact h7
    · rename_i hc
      rw [if_neg hc] at h6
      cases h6
theorem first_not {c : UInt8} (h : 128 ≤ c.toNat ∨ c.toNat = 58 ∨ startB (c.toNat : Int) = true) (d : UInt8) (h1 : d.toNat < 128) (h2 : d.toNat ≠ 58) (h3 : startB (d.toNat : Int) = false) : c ≠ d := by
  rintro rfl
  rcases h with h | h | h
  · omega
  · exact h2 h
  · rw [h3] at h
    cases h
theorem first_blank {c : UInt8} (h : 128 ≤ c.toNat ∨ c.toNat = 58 ∨ startB (c.toNat : Int) = true) : isB c = false := by
  unfold isB
  have h1 := first_not h 32 (by decide) (by decide) (by decide)
  have h2 := first_not h 9 (by decide) (by decide) (by decide)
  have h3 := first_not h 10 (by decide) (by decide) (by decide)
  have h4 := first_not h 13 (by decide) (by decide) (by decide)
  simp [h1, h2, h3, h4]
theorem fault_front {c : UInt8} {a r : ByteArray} (hc : c.toNat < 128) (hr : Beg c r) (h : (faultF (a ++ r)).2 = 0) : (faultF a).2 = 0 := by
  have hs := size_cat a r
  have go : ∀ f pos, a.size ≤ pos + f → pos ≤ a.size → (faultAt (a ++ r) pos).2 = 0 → (faultAt a pos).2 = 0 := by
    intro f
    induction f with
    | zero =>
      intro pos h1 h2 _
      rw [faultAt_end a pos (by omega)]
    | succ f ih =>
      intro pos h1 h2 h3
      by_cases hlt : pos < a.size
      · by_cases h0 : (rd a pos).2 = 0
        · rw [faultAt_bad (a ++ r) pos (by omega) (rd_join0 hc hr hlt h0)] at h3
          cases h3
        · have e := rd_left a r pos hlt h0
          cases hch : charB (rd a pos).1
          · rw [faultAt_no (a ++ r) pos (by omega) (by rw [e]; exact h0) (by rw [e]; exact hch)] at h3
            cases h3
          · rw [faultAt_step (a ++ r) pos (by omega) (by rw [e]; exact h0) (by rw [e]; exact hch), e] at h3
            rw [faultAt_step a pos hlt h0 hch]
            have := rd_le a pos hlt
            exact ih _ (by omega) (by omega) h3
      · rw [faultAt_end a pos hlt]
  exact go a.size 0 (by omega) (Nat.zero_le _) h
end Go.Proofs.YtcfecnleibeegaaDoor
