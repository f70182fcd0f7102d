/- Proved here: a token that is no text is read of a text with anything more behind it as well. | Proved here: a token that is no text is read of a text with anything more behind it as well: the declaration, and all of them. | Proved here: a token that ends within the first part of a text is read of that part alone as well. | Proved here: a token that ends within the first part of a text is read of that part alone as well: all kinds of them. | Proved here: what is wrong with the first bytes of a text without faults. | Proved here: the tokens of the first bytes of a text, as the tokens of the text tell them. | Proved here: a token that is no text ends with a >; tokens stand side by side; what is found of the first bytes of a text, as bytes. | Proved here: what the scanner answers of the first bytes of a text without faults, as the tokens of the text tell it. -/
import Derived.Test.YteipiaefamfleaaGreatDoorM24
import Derived.Test.YteipiaefamfleaaGreatDoorM19
import Derived.Test.YteipiaefamfleaaGreatDoorM1
namespace Go.Proofs.YteipiaefamfleaaGreatDoor
open Go.RowKit

theorem next_nz {t : ByteArray} {k : Nat} (h : (nextF t k).2.2 = 0) : (rd t k).2 ≠ 0 := by
  intro e
  unfold nextF at h
  rw [if_pos e] at h
  cases h
theorem next_ext {t : ByteArray} (r : ByteArray) {k : Nat} (hk : k < t.size) (h : (nextF t k).2.2 = 0) : nextF (t ++ r) k = nextF t k := by
  unfold nextF
  rw [rd_left t r k hk (next_nz h)]
theorem goes_ext {t : ByteArray} (r : ByteArray) {k : Nat} (h : goesB t k) : goesB (t ++ r) k := by
  have hs := size_cat t r
  have e := next_ext r h.1 h.2.1
  refine ⟨by have := h.1; omega, ?_⟩
  rw [e]
  exact h.2
theorem stop_at {t : ByteArray} {i : Nat} (hc : StopB (t.get! i)) : ¬ goesB t i := by
  have e : rd t i = ((t.get! i).toNat, 1) := by
    unfold rd
    exact rd_ascii hc.low
  have hn : nextF t i = if charB ((t.get! i).toNat : Int) then ((t.get! i).toNat, i + 1, 0) else (0, 0, 21) := by
    unfold nextF
    rw [e, if_neg (by simp)]
  rintro ⟨_, h0, g⟩
  rw [hn] at g h0
  split at g
  · rcases g with g | g
    · exact hc.colon g
    · rw [hc.part] at g
      cases g
  · rename_i q
    rw [if_neg q] at h0
    cases h0
theorem parts_ext {t : ByteArray} (r : ByteArray) : ∀ f g k i, k ≤ t.size → t.size ≤ k + f → t.size ≤ k + g → partsGo t f k = i → i < t.size → StopB (t.get! i) → partsGo (t ++ r) g k = i
  | 0, g, k, i, hk, hf, _, hp, hi, _ => by
    have : k = i := hp
    omega
  | f + 1, g, k, i, hk, hf, hg, hp, hi, hc => by
    by_cases h : goesB t k
    · have hlt := h.1
      obtain ⟨g', rfl⟩ : ∃ g', g = g' + 1 := ⟨g - 1, by omega⟩
      have hn := next_step h.1 h.2.1
      rw [parts_step h] at hp
      rw [parts_step (goes_ext r h), next_ext r hlt h.2.1]
      exact parts_ext r f g' _ i hn.2 (by omega) (by omega) hp hi hc
    · rw [parts_stop h] at hp
      subst hp
      rw [parts_stop (stop_at (by rw [get!_left t r k hi]; exact hc))]
theorem name_ext {t n : ByteArray} (r : ByteArray) {k i : Nat} (h : nameF t k = .ok (n, i)) (hi : i < t.size) (hc : StopB (t.get! i)) : nameF (t ++ r) k = .ok (n, i) := by
  obtain ⟨h1, h2, h3, h4, h5, h6, h7⟩ := name_ok h
  have hs := size_cat t r
  have hp : partsGo (t ++ r) (t ++ r).size k = i := parts_ext r t.size (t ++ r).size k i (by omega) (by omega) (by omega) h4 hi hc
  unfold nameF
  rw [next_ext r h5 h6, if_pos ⟨by omega, h6, h7⟩, hp, ext_left t r k i h2, h3]
theorem qual_ext {t n : ByteArray} (r : ByteArray) {k i : Nat} (h : qualF t k = .ok (n, i)) (hi : i < t.size) (hc : StopB (t.get! i)) : qualF (t ++ r) k = .ok (n, i) := by
  obtain ⟨h1, h2⟩ := qual_ok h
  unfold qualF
  rw [name_ext r h1 hi hc]
  simp only
  rw [if_pos h2]
theorem tw_ext : ∀ (L l : List UInt8), (L.takeWhile isB).length < L.length → (L ++ l).takeWhile isB = L.takeWhile isB
  | [], _, h => absurd h (by simp)
  | a :: L, l, h => by
    rw [List.cons_append, List.takeWhile_cons, List.takeWhile_cons]
    cases ha : isB a
    · simp
    · rw [List.takeWhile_cons, ha] at h
      simp only [if_true, List.length_cons] at h ⊢
      rw [tw_ext L l (by omega)]
theorem white_ext {t : ByteArray} (r : ByteArray) {k : Nat} (hk : k ≤ t.size) (h : whiteTo t k < t.size) : whiteTo (t ++ r) k = whiteTo t k := by
  unfold whiteTo at h ⊢
  have hl : (t.data.toList.drop k).length = t.size - k := by simp
  rw [show (t ++ r).data.toList.drop k = t.data.toList.drop k ++ r.data.toList by
    rw [ByteArray.data_append, Array.toList_append, List.drop_append_of_le_length (by simp; exact hk)]]
  rw [tw_ext _ _ (by omega)]
theorem sees_same {t : ByteArray} (r : ByteArray) {k : Nat} {s : List UInt8} (h : k + s.length ≤ t.size) : seesB (t ++ r) k s = seesB t k s := by
  cases hs : seesB t k s
  · cases hs2 : seesB (t ++ r) k s
    · rfl
    · rw [sees_back h hs2] at hs
      cases hs
  · exact sees_mono r (by omega) hs
theorem stop_white {c : UInt8} (h : isB c = true) : StopB c := by
  unfold isB at h
  simp only [Bool.or_eq_true, beq_iff_eq] at h
  rcases h with ((h | h) | h) | h <;> subst h <;> exact ⟨by decide, by decide, by decide⟩
/-- Behind a name stands white space, or what stops it. -/
theorem first_stop {t : ByteArray} {i : Nat} (hw : whiteTo t i < t.size) (hs : StopB (t.get! (whiteTo t i))) : i < t.size ∧ StopB (t.get! i) := by
  have hg := white_ge t i
  by_cases h : i < t.size ∧ isB (t.get! i) = true
  · exact ⟨h.1, stop_white h.2⟩
  · rw [ws_stop h] at hs hw
    exact ⟨hw, hs⟩
theorem sees_get {t : ByteArray} {k : Nat} {c : UInt8} {s : List UInt8} (hk : k ≤ t.size) (h : seesB t k (c :: s) = true) : k < t.size ∧ t.get! k = c := by
  have hr := sees_room hk h
  simp only [List.length_cons] at hr
  have hlt : k < t.size := by omega
  have h1 := sees_first h
  rw [sees_one hlt, beq_iff_eq] at h1
  exact ⟨hlt, h1⟩
theorem equals_ext {t : ByteArray} (r : ByteArray) {k j : Nat} (hk : k ≤ t.size) (h : equalsF t k = some j) (hj : j < t.size) : equalsF (t ++ r) k = some j := by
  unfold equalsF at h ⊢
  split at h
  · rename_i g
    have hw := white_le hk
    obtain ⟨h1, _⟩ := sees_get hw g
    injection h with h
    rw [white_ext r hk h1, if_pos (sees_mono r hw g), white_ext r (by omega) (by omega), h]
  · cases h
theorem quoted_ext {t raw : ByteArray} (r : ByteArray) {k m : Nat} (hk : k ≤ t.size) (h : quotedF t k = some (raw, m)) : quotedF (t ++ r) k = some (raw, m) := by
  unfold quotedF at h ⊢
  split at h
  · rename_i g
    have hk1 := sees_room hk g
    rw [if_pos (sees_mono r hk g)]
    simp only [List.length_cons, List.length_nil] at hk1
    cases hf : findF t (k + 1) [39] with
    | none => rw [hf] at h; cases h
    | some i =>
      rw [hf] at h
      rw [find_join r hk1 hf]
      have hi := ((find_iff hk1).1 hf).2.1
      simp only [Option.map_some] at h ⊢
      rw [ext_left t r _ i hi]
      exact h
  · rename_i g
    split at h
    · rename_i g2
      have hk1 := sees_room hk g2
      simp only [List.length_cons, List.length_nil] at hk1
      rw [sees_same r (by simp only [List.length_cons, List.length_nil]; omega), if_neg g, if_pos (sees_mono r hk g2)]
      cases hf : findF t (k + 1) [34] with
      | none => rw [hf] at h; cases h
      | some i =>
        rw [hf] at h
        rw [find_join r hk1 hf]
        have hi := ((find_iff hk1).1 hf).2.1
        simp only [Option.map_some] at h ⊢
        rw [ext_left t r _ i hi]
        exact h
    · cases h
/-- A pair's name and equals stand within. -/
theorem equals_stop {t : ByteArray} {i j : Nat} (hi : i ≤ t.size) (h : equalsF t i = some j) : i < t.size ∧ StopB (t.get! i) := by
  unfold equalsF at h
  split at h
  · rename_i g
    obtain ⟨h1, h2⟩ := sees_get (white_le hi) g
    exact first_stop h1 (by rw [h2]; exact ⟨by decide, by decide, by decide⟩)
  · cases h
theorem pair_ext {t : ByteArray} (r : ByteArray) {k m : Nat} {p : ByteArray × ByteArray} (h : pairF t k = .ok (p, m)) : pairF (t ++ r) k = .ok (p, m) ∧ k + 3 ≤ t.size := by
  unfold pairF at h ⊢
  split at h
  · cases h
  · rename_i n i hq
    obtain ⟨n1, n2, _⟩ := name_ok (qual_ok hq).1
    split at h
    · cases h
    · rename_i j hj
      obtain ⟨e1, e2⟩ := equals_ok n2 hj
      obtain ⟨s1, s2⟩ := equals_stop n2 hj
      split at h
      · cases h
      · rename_i raw m' hqq
        obtain ⟨q1, q2, _⟩ := quoted_ok e2 hqq
        rw [qual_ext r hq s1 s2]
        simp only
        rw [equals_ext r n2 hj (by omega)]
        simp only
        rw [quoted_ext r e2 hqq]
        exact ⟨h, by omega⟩
theorem tag_ext {t : ByteArray} (r n : ByteArray) : ∀ f g k ps x i, k ≤ t.size → f ≤ g → tagGo t n f k ps = .ok (x, i) → tagGo (t ++ r) n g k ps = .ok (x, i)
  | 0, _, _, _, _, _, _, _, h => by cases h
  | f + 1, 0, _, _, _, _, _, hfg, _ => absurd hfg (by omega)
  | f + 1, g + 1, k, ps, x, i, hk, hfg, h => by
    have hw := white_le hk
    unfold tagGo at h ⊢
    split at h
    · rename_i c
      obtain ⟨c1, _⟩ := sees_get hw c
      rw [white_ext r hk c1, if_pos (sees_mono r hw c)]
      exact h
    rename_i c1
    split at h
    · rename_i c
      have hr := sees_room hw c
      simp only [List.length_cons, List.length_nil] at hr
      rw [white_ext r hk (by omega), sees_same r (by simp only [List.length_cons, List.length_nil]; omega), if_neg c1, if_pos (sees_mono r hw c)]
      exact h
    rename_i c2
    split at h
    · cases h
    rename_i c3
    split at h
    · cases h
    rename_i p j hp
    obtain ⟨hp2, hp3⟩ := pair_ext r hp
    rw [white_ext r hk (by omega), sees_same r (by simp only [List.length_cons, List.length_nil]; omega), if_neg c1, sees_same r (by simp only [List.length_cons, List.length_nil]; omega), if_neg c2, if_neg c3, hp2]
    simp only
    split at h
    · cases h
    rename_i c4
    rw [if_neg c4]
    exact tag_ext r n f g j _ x i (pair_bd hp).2.1 (by omega) h
theorem closing_ext {t : ByteArray} (r : ByteArray) {k i : Nat} {x : Tok} (h : closingF t k = .ok (x, i)) : closingF (t ++ r) k = .ok (x, i) := by
  unfold closingF at h ⊢
  split at h
  · cases h
  rename_i n j hn
  obtain ⟨n1, n2, _⟩ := name_ok (qual_ok hn).1
  split at h
  · rename_i c
    obtain ⟨c1, c2⟩ := sees_get (white_le n2) c
    obtain ⟨s1, s2⟩ := first_stop c1 (by rw [c2]; exact ⟨by decide, by decide, by decide⟩)
    rw [qual_ext r hn s1 s2]
    simp only
    rw [white_ext r n2 c1, if_pos (sees_mono r (white_le n2) c)]
    exact h
  · cases h
theorem instr_ext {t : ByteArray} (r : ByteArray) {k i : Nat} {x : Tok} (h : instrF t k = .ok (x, i)) : instrF (t ++ r) k = .ok (x, i) := by
  unfold instrF at h ⊢
  split at h
  · cases h
  rename_i n j hn
  obtain ⟨n1, n2, _⟩ := name_ok hn
  split at h
  · cases h
  rename_i c1
  split at h
  · cases h
  rename_i c2
  split at h
  · cases h
  rename_i c3
  split at h
  · cases h
  rename_i m hm
  have hw := white_le n2
  obtain ⟨g1, g2, g3⟩ := find_some hw hm
  simp only [List.length_cons, List.length_nil] at g3
  have hwl : whiteTo t j < t.size := by omega
  have hst : j < t.size ∧ StopB (t.get! j) := by
    by_cases hj : j < t.size ∧ isB (t.get! j) = true
    · exact ⟨hj.1, stop_white hj.2⟩
    · have e := ws_stop hj
      have hs : seesB t j [63, 62] = true := by
        rw [← Bool.not_eq_false]
        exact fun q => c3 ⟨e, q⟩
      obtain ⟨a1, a2⟩ := sees_get n2 hs
      exact ⟨a1, by rw [a2]; exact ⟨by decide, by decide, by decide⟩⟩
  rw [name_ext r hn hst.1 hst.2]
  simp only
  rw [if_neg c1, if_neg c2, white_ext r n2 hwl]
  have c3' : ¬ (whiteTo t j = j ∧ seesB (t ++ r) j [63, 62] = false) := by
    rintro ⟨e, q⟩
    refine c3 ⟨e, ?_⟩
    cases hs : seesB t j [63, 62]
    · rfl
    · rw [sees_mono r n2 hs] at q
      cases q
  rw [if_neg c3', find_join r hw hm]
  simp only
  rw [ext_left t r _ m (by omega)]
  exact h
end Go.Proofs.YteipiaefamfleaaGreatDoor
namespace Go.Proofs.YteipiaefamfleaaGreatDoor
open Go.RowKit

theorem prop_ext {t : ByteArray} (r : ByteArray) {k i : Nat} {word : List UInt8} {right : ByteArray → Bool} {p : ByteArray × ByteArray} (hw0 : 0 < word.length) (hk : k ≤ t.size) (h : propF t k word right = some (p, i)) : propF (t ++ r) k word right = some (p, i) := by
  have hw := white_le hk
  unfold propF at h ⊢
  split at h
  · cases h
  rename_i c
  have hs2 : seesB t (whiteTo t k) word = true := by
    rw [← Bool.not_eq_false]
    exact fun e => c (.inr e)
  have hro := sees_room hw hs2
  split at h
  · cases h
  rename_i j hj
  have hje := (equals_ok hro hj).2
  split at h
  · cases h
  rename_i raw m hqq
  obtain ⟨q1, q2, _⟩ := quoted_ok hje hqq
  have c' : ¬ (whiteTo t k = k ∨ true = false) := by
    rintro (e | e)
    · exact c (.inl e)
    · cases e
  rw [white_ext r hk (by omega), sees_mono r hw hs2, if_neg c', equals_ext r hro hj (by omega)]
  simp only
  rw [quoted_ext r hje hqq]
  exact h
theorem prop_clash {t : ByteArray} {k : Nat} {a c : UInt8} {s word : List UInt8} (right : ByteArray → Bool) (hw : whiteTo t k ≤ t.size) (h : seesB t (whiteTo t k) (a :: s) = true) (hac : a ≠ c) : propF t k (c :: word) right = none := by
  unfold propF
  refine if_pos (.inr ?_)
  cases hs : seesB t (whiteTo t k) (c :: word)
  · rfl
  · exact absurd (sees_clash hw h hs) hac
theorem decl_end_ext {t : ByteArray} (r : ByteArray) {k i : Nat} {ps : List (ByteArray × ByteArray)} {q : Bool} {x : Tok} (hk : k ≤ t.size) (h : declEnd t k ps q = .ok (x, i)) : declEnd (t ++ r) k ps q = .ok (x, i) ∧ ∀ c word right, c ≠ 63 → propF (t ++ r) k (c :: word) right = none := by
  have hs := size_cat t r
  have hw := white_le hk
  unfold declEnd at h ⊢
  split at h
  · rename_i g
    obtain ⟨g1, _⟩ := sees_get hw g
    have e := white_ext r hk g1
    rw [e, if_pos (sees_mono r hw g)]
    refine ⟨h, fun c word right hc => ?_⟩
    exact prop_clash right (by rw [e]; omega) (by rw [e]; exact sees_mono r hw g) (Ne.symm hc)
  · cases h
theorem decl_alone_ext {t : ByteArray} (r : ByteArray) {k i : Nat} {ps : List (ByteArray × ByteArray)} {q : Bool} {x : Tok} (hk : k ≤ t.size) (h : declAlone t k ps q = .ok (x, i)) : declAlone (t ++ r) k ps q = .ok (x, i) ∧ ∀ c word right, c ≠ 63 → c ≠ 115 → propF (t ++ r) k (c :: word) right = none := by
  have hs := size_cat t r
  have hw := white_le hk
  unfold declAlone at h ⊢
  split at h
  · have g := decl_end_ext r hk h
    rw [g.2 115 _ _ (by decide)]
    exact ⟨g.1, fun c word right hc _ => g.2 c word right hc⟩
  · rename_i p j hp
    have hb := prop_ok hk hp
    rw [prop_ext r (by decide) hk hp]
    refine ⟨(decl_end_ext r hb.2.1 h).1, fun c word right _ hc => ?_⟩
    unfold propF at hp
    split at hp
    · cases hp
    rename_i g
    have hs2 : seesB t (whiteTo t k) [115, 116, 97, 110, 100, 97, 108, 111, 110, 101] = true := by
      rw [← Bool.not_eq_false]
      exact fun e => g (.inr e)
    obtain ⟨g1, _⟩ := sees_get hw hs2
    have e := white_ext r hk g1
    exact prop_clash right (by rw [e]; omega) (by rw [e]; exact sees_mono r hw hs2) (Ne.symm hc)
theorem decl_ext {t : ByteArray} (r : ByteArray) {k i : Nat} {x : Tok} (hk : k ≤ t.size) (h : declF t k = .ok (x, i)) : declF (t ++ r) k = .ok (x, i) := by
  unfold declF at h ⊢
  split at h
  · cases h
  rename_i v j hv
  have hj := (prop_ok hk hv).2.1
  rw [prop_ext r (by decide) hk hv]
  simp only
  split at h
  · have g := decl_alone_ext r hj h
    rw [g.2 101 _ _ (by decide) (by decide)]
    exact g.1
  · rename_i c m hc
    rw [prop_ext r (by decide) hj hc]
    exact (decl_alone_ext r (prop_ok hj hc).2.1 h).1
theorem pre_of {t : ByteArray} {k : Nat} {s : List UInt8} (h : seesB t k s = true) : ∃ l, t.data.toList.drop k = s ++ l := by
  obtain ⟨l, hl⟩ := List.isPrefixOf_iff_prefix.1 h
  exact ⟨l, hl.symm⟩
theorem sees_two {t : ByteArray} {k : Nat} {a b : UInt8} {s : List UInt8} (h : seesB t k [a, b] = false) : seesB t k (a :: b :: s) = false := by
  cases hs : seesB t k (a :: b :: s)
  · rfl
  · obtain ⟨l, hl⟩ := pre_of hs
    unfold seesB at h
    rw [hl] at h
    simp [Lib.hasPrefix] at h
theorem opens_two {t : ByteArray} {k : Nat} (h : seesB t k [60, 63] = false) : opensB t k = false := by
  unfold opensB
  by_cases hk : k = 0
  · subst hk
    rw [sees_two h]
    simp
  · rw [decide_eq_false hk]
    simp
/-- The instruction at the begin of a text is no declaration, whatever stands behind. -/
theorem opens_instr {t : ByteArray} (r : ByteArray) {k i : Nat} {x : Tok} (hk : k < t.size) (ho : opensB t k = false) (h : instrF t (k + 2) = .ok (x, i)) : opensB (t ++ r) k = false := by
  by_cases hk0 : k = 0
  rotate_left
  · unfold opensB
    rw [decide_eq_false hk0]
    simp
  subst hk0
  unfold instrF at h
  split at h
  · cases h
  rename_i n j hn
  obtain ⟨n1, n2, _⟩ := name_ok hn
  split at h
  · cases h
  split at h
  · cases h
  split at h
  · cases h
  split at h
  · cases h
  rename_i m hm
  have hw := white_le n2
  have hg := white_ge t j
  obtain ⟨g1, g2, g3⟩ := find_some hw hm
  simp only [List.length_cons, List.length_nil] at g3
  have hs := size_cat t r
  have hsm := ((find_iff hw).1 hm).2.2.1
  have e5 : seesB (t ++ r) 0 [60, 63, 120, 109, 108] = seesB t 0 [60, 63, 120, 109, 108] := sees_same r (by simp only [List.length_cons, List.length_nil]; omega)
  unfold opensB at ho ⊢
  rw [e5]
  cases hx : seesB t 0 [60, 63, 120, 109, 108]
  · simp
  · rw [hx] at ho
    by_cases h6 : 5 < t.size
    · rw [get!_left t r 5 h6, decide_eq_true (show 5 < (t ++ r).size by omega)]
      rw [decide_eq_true h6] at ho
      exact ho
    · exfalso
      obtain rfl : m = 3 := by omega
      obtain ⟨l, hl⟩ := pre_of hx
      obtain ⟨l2, hl2⟩ := pre_of hsm
      rw [List.drop_zero] at hl
      rw [hl] at hl2
      simp at hl2
/-- WHAT IS NO TEXT IS READ OF A TEXT WITH MORE BEHIND IT AS WELL. -/
theorem tok_ext {t : ByteArray} (r : ByteArray) {k i : Nat} {x : Tok} (hk : k < t.size) (h : tokF t k = .ok (x, i)) (h5 : x.kind ≠ 5) : tokF (t ++ r) k = .ok (x, i) := by
  have hs := size_cat t r
  have hle := Nat.le_of_lt hk
  unfold tokF at h ⊢
  split at h
  · rename_i ho
    have ho2 : opensB (t ++ r) k = true := by
      unfold opensB at ho ⊢
      simp only [Bool.and_eq_true, decide_eq_true_eq] at ho ⊢
      exact ⟨⟨⟨ho.1.1.1, sees_mono r (Nat.zero_le _) ho.1.1.2⟩, by omega⟩, by rw [get!_left t r 5 ho.1.2]; exact ho.2⟩
    rw [if_pos ho2]
    unfold opensB at ho
    simp only [Bool.and_eq_true, decide_eq_true_eq] at ho
    exact decl_ext r (by omega) h
  rename_i c0
  have c0' : opensB t k = false := by simpa using c0
  split at h
  · rename_i c
    have cT := sees_mono r hle c
    obtain ⟨l, hl⟩ := pre_of cT
    have o : opensB (t ++ r) k = false := opens_two (by unfold seesB; rw [hl]; rfl)
    rw [o, if_neg (by decide), if_pos cT]
    have hro := sees_room hle c
    simp only [List.length_cons, List.length_nil] at hro
    unfold commentF at h ⊢
    split at h
    · cases h
    rename_i j hj
    rw [find_join r hro hj]
    simp only
    obtain ⟨_, g2, g3⟩ := find_some hro hj
    simp only [List.length_cons, List.length_nil] at g3
    split at h
    · rename_i c2
      rw [if_pos (sees_mono r (by omega) c2), ext_left t r _ j (by omega)]
      exact h
    · cases h
  split at h
  · rename_i c
    have cT := sees_mono r hle c
    obtain ⟨l, hl⟩ := pre_of cT
    have o : opensB (t ++ r) k = false := opens_two (by unfold seesB; rw [hl]; rfl)
    rw [o, if_neg (by decide), if_neg (by unfold seesB; rw [hl]; exact Bool.false_ne_true), if_pos cT]
    have hro := sees_room hle c
    simp only [List.length_cons, List.length_nil] at hro
    unfold dataF at h ⊢
    split at h
    · cases h
    rename_i j hj
    rw [find_join r hro hj]
    simp only
    obtain ⟨_, g2, g3⟩ := find_some hro hj
    simp only [List.length_cons, List.length_nil] at g3
    rw [ext_left t r _ j (by omega)]
    exact h
  split at h
  · cases h
  split at h
  · cases h
  rename_i c3
  split at h
  · rename_i c
    have cT := sees_mono r hle c
    obtain ⟨l, hl⟩ := pre_of cT
    have q : seesB (t ++ r) k [60, 33] = false := by unfold seesB; rw [hl]; rfl
    rw [opens_instr r hk c0' h, if_neg (by decide), sees_two q, if_neg (by decide), sees_two q, if_neg (by decide), sees_two q, if_neg (by decide), q, if_neg (by decide), if_pos cT]
    exact instr_ext r h
  rename_i c4
  split at h
  · rename_i c
    have cT := sees_mono r hle c
    obtain ⟨l, hl⟩ := pre_of cT
    have q : seesB (t ++ r) k [60, 33] = false := by unfold seesB; rw [hl]; rfl
    have q2 : seesB (t ++ r) k [60, 63] = false := by unfold seesB; rw [hl]; rfl
    rw [opens_two q2, if_neg (by decide), sees_two q, if_neg (by decide), sees_two q, if_neg (by decide), sees_two q, if_neg (by decide), q, if_neg (by decide), q2, if_neg (by decide), if_pos cT]
    exact closing_ext r h
  rename_i c5
  split at h
  · rename_i c
    unfold tagF at h
    split at h
    · cases h
    rename_i n j hn
    obtain ⟨n1, n2, _⟩ := name_ok (qual_ok hn).1
    have q : seesB (t ++ r) k [60, 33] = false := by rw [sees_same r (by simp only [List.length_cons, List.length_nil]; omega)]; simpa using c3
    have q2 : seesB (t ++ r) k [60, 63] = false := by rw [sees_same r (by simp only [List.length_cons, List.length_nil]; omega)]; simpa using c4
    have q3 : seesB (t ++ r) k [60, 47] = false := by rw [sees_same r (by simp only [List.length_cons, List.length_nil]; omega)]; simpa using c5
    rw [opens_two q2, if_neg (by decide), sees_two q, if_neg (by decide), sees_two q, if_neg (by decide), sees_two q, if_neg (by decide), q, if_neg (by decide), q2, if_neg (by decide), q3, if_neg (by decide), if_pos (sees_mono r hle c)]
    have hst : j < t.size ∧ StopB (t.get! j) := by
      have h' := h
      unfold tagGo at h'
      split at h'
      · rename_i g
        obtain ⟨g1, g2⟩ := sees_get (white_le n2) g
        exact first_stop g1 (by rw [g2]; exact ⟨by decide, by decide, by decide⟩)
      split at h'
      · rename_i g
        obtain ⟨g1, g2⟩ := sees_get (white_le n2) g
        exact first_stop g1 (by rw [g2]; exact ⟨by decide, by decide, by decide⟩)
      split at h'
      · cases h'
      · rename_i g
        by_cases hj : j < t.size ∧ isB (t.get! j) = true
        · exact ⟨hj.1, stop_white hj.2⟩
        · exact absurd (ws_stop hj) g
    unfold tagF
    rw [qual_ext r hn hst.1 hst.2]
    exact tag_ext r n _ _ j [] x i n2 (by omega) h
  · exfalso
    unfold charsF at h
    simp only at h
    split at h
    · injection h with h
      injection h with h1 h2
      subst h1
      exact h5 rfl
    · cases h
end Go.Proofs.YteipiaefamfleaaGreatDoor
namespace Go.Proofs.YteipiaefamfleaaGreatDoor
open Go.RowKit

theorem rdN_less (n n' x0 x1 x2 x3 y1 y2 y3 : Nat) (h0 : x0 < 256) (h : (rdN n' x0 y1 y2 y3).2 ≠ 0) (hn : (rdN n' x0 y1 y2 y3).2 ≤ n)
    (e1 : 2 ≤ (rdN n' x0 y1 y2 y3).2 → x1 = y1) (e2 : 3 ≤ (rdN n' x0 y1 y2 y3).2 → x2 = y2) (e3 : 4 ≤ (rdN n' x0 y1 y2 y3).2 → x3 = y3) : rdN n x0 x1 x2 x3 = rdN n' x0 y1 y2 y3 := by
  by_cases a : x0 < 128
  · rw [rd_ascii a, rd_ascii a]
  by_cases a2 : x0 < 192 ∨ 248 ≤ x0
  · exact absurd (by rw [rd_none (by omega) h0]) h
  by_cases a3 : x0 < 224
  · by_cases g : n' < 2 ∨ y1 < 128 ∨ 191 < y1 ∨ 64 * (x0 - 192) + (y1 - 128) < 128
    · exact absurd (by rw [rd2_no (by omega) g]) h
    · have e := rd2_yes (n := n') (x0 := x0) (x1 := y1) (x2 := y2) (x3 := y3) (by omega) (by omega) (by omega) (by omega) (by omega)
      rw [e] at e1 hn ⊢
      obtain rfl := e1 (by simp)
      exact rd2_yes (by omega) hn (by omega) (by omega) (by omega)
  by_cases a4 : x0 < 240
  · by_cases g : n' < 3 ∨ y1 < 128 ∨ 191 < y1 ∨ y2 < 128 ∨ 191 < y2 ∨ v3 x0 y1 y2 < 2048 ∨ (55296 ≤ v3 x0 y1 y2 ∧ v3 x0 y1 y2 ≤ 57343)
    · exact absurd (by rw [rd3_no (by omega) g]) h
    · have e := rd3_yes (n := n') (x0 := x0) (x1 := y1) (x2 := y2) (x3 := y3) (by omega) (by omega) (by omega) (by omega) (by omega) (by omega) (by omega) (by omega)
      rw [e] at e1 e2 hn ⊢
      obtain rfl := e1 (by simp)
      obtain rfl := e2 (by simp)
      exact rd3_yes (by omega) hn (by omega) (by omega) (by omega) (by omega) (by omega) (by omega)
  · by_cases g : n' < 4 ∨ y1 < 128 ∨ 191 < y1 ∨ y2 < 128 ∨ 191 < y2 ∨ y3 < 128 ∨ 191 < y3 ∨ v4 x0 y1 y2 y3 < 65536 ∨ 1114111 < v4 x0 y1 y2 y3
    · exact absurd (by rw [rd4_no (by omega) g]) h
    · have e := rd4_yes (n := n') (x0 := x0) (x1 := y1) (x2 := y2) (x3 := y3) (by omega) (by omega) (by omega) (by omega) (by omega) (by omega) (by omega) (by omega) (by omega) (by omega)
      rw [e] at e1 e2 e3 hn ⊢
      obtain rfl := e1 (by simp)
      obtain rfl := e2 (by simp)
      obtain rfl := e3 (by simp)
      exact rd4_yes (by omega) hn (by omega) (by omega) (by omega) (by omega) (by omega) (by omega) (by omega) (by omega)
theorem rd_cut {t : ByteArray} (r : ByteArray) {k : Nat} (hk : k < t.size) (h : (rd (t ++ r) k).2 ≠ 0) (hl : k + (rd (t ++ r) k).2 ≤ t.size) : rd t k = rd (t ++ r) k := by
  unfold rd at h hl ⊢
  rw [get!_left t r k hk] at h hl ⊢
  refine rdN_less _ _ _ _ _ _ _ _ _ (t.get! k).toNat_lt h (by omega) (fun g => ?_) (fun g => ?_) (fun g => ?_)
  · rw [get!_left t r (k + 1) (by omega)]
  · rw [get!_left t r (k + 2) (by omega)]
  · rw [get!_left t r (k + 3) (by omega)]
theorem next_cut {t : ByteArray} (r : ByteArray) {k : Nat} (hk : k < t.size) (h : (nextF (t ++ r) k).2.2 = 0) (hl : (nextF (t ++ r) k).2.1 ≤ t.size) : nextF t k = nextF (t ++ r) k := by
  have hz := next_nz h
  have e : (nextF (t ++ r) k).2.1 = k + (rd (t ++ r) k).2 := by
    unfold nextF at h ⊢
    rw [if_neg hz] at h ⊢
    split at h
    · rename_i c
      rw [if_pos c]
    · cases h
  have er := rd_cut r hk hz (by omega)
  unfold nextF
  rw [er]
theorem parts_ge' (t : ByteArray) : ∀ f k, k ≤ partsGo t f k
  | 0, k => Nat.le_refl _
  | f + 1, k => by
    by_cases h : goesB t k
    · rw [parts_step h]
      have := (next_step h.1 h.2.1).1
      exact Nat.le_trans (by omega) (parts_ge' t f _)
    · rw [parts_stop h]
      exact Nat.le_refl _
theorem goes_cut {t : ByteArray} (r : ByteArray) {k : Nat} (hk : k < t.size) (h : goesB (t ++ r) k) (hl : (nextF (t ++ r) k).2.1 ≤ t.size) : goesB t k := by
  have e := next_cut r hk h.2.1 hl
  refine ⟨hk, ?_⟩
  rw [e]
  exact h.2
theorem parts_cut {t : ByteArray} (r : ByteArray) : ∀ g f k i, k ≤ t.size → t.size ≤ k + f → partsGo (t ++ r) g k = i → i < t.size → StopB (t.get! i) → partsGo t f k = i
  | 0, f, k, i, hk, hf, hp, hi, hc => by
    have : k = i := hp
    subst this
    exact parts_stop (stop_at hc)
  | g + 1, f, k, i, hk, hf, hp, hi, hc => by
    by_cases h : goesB (t ++ r) k
    · rw [parts_step h] at hp
      have hg := parts_ge' (t ++ r) g (nextF (t ++ r) k).2.1
      have hn := next_step h.1 h.2.1
      have hlt : k < t.size := by omega
      obtain ⟨f', rfl⟩ : ∃ f', f = f' + 1 := ⟨f - 1, by omega⟩
      have e := next_cut r hlt h.2.1 (by omega)
      rw [parts_step (goes_cut r hlt h (by omega)), e]
      exact parts_cut r g f' _ i (by omega) (by omega) hp hi hc
    · rw [parts_stop h] at hp
      subst hp
      exact parts_stop (stop_at hc)
theorem name_cut {t n : ByteArray} (r : ByteArray) {k i : Nat} (h : nameF (t ++ r) k = .ok (n, i)) (hi : i < t.size) (hc : StopB (t.get! i)) : nameF t k = .ok (n, i) := by
  obtain ⟨h1, h2, h3, h4, h5, h6, h7⟩ := name_ok h
  have hp : partsGo t t.size k = i := parts_cut r _ t.size k i (by omega) (by omega) h4 hi hc
  have hgo : goesB (t ++ r) k := by
    apply Classical.byContradiction
    intro q
    rw [parts_stop q] at h4
    omega
  have hle : (nextF (t ++ r) k).2.1 ≤ i := by
    have hz : (t ++ r).size = ((t ++ r).size - 1) + 1 := by omega
    rw [hz, parts_step hgo] at h4
    rw [← h4]
    exact parts_ge' _ _ _
  have e := next_cut r (show k < t.size by omega) h6 (by omega)
  unfold nameF
  rw [e, if_pos ⟨by omega, h6, h7⟩, hp, h3, ext_left t r k i (by omega)]
theorem qual_cut {t n : ByteArray} (r : ByteArray) {k i : Nat} (h : qualF (t ++ r) k = .ok (n, i)) (hi : i < t.size) (hc : StopB (t.get! i)) : qualF t k = .ok (n, i) := by
  obtain ⟨h1, h2⟩ := qual_ok h
  unfold qualF
  rw [name_cut r h1 hi hc]
  simp only
  rw [if_pos h2]
theorem tw_ge : ∀ (L l : List UInt8), (L.takeWhile isB).length ≤ ((L ++ l).takeWhile isB).length
  | [], _ => by simp
  | a :: L, l => by
    rw [List.cons_append, List.takeWhile_cons, List.takeWhile_cons]
    cases ha : isB a
    · simp
    · simp only [if_true, List.length_cons]
      have := tw_ge L l
      omega
theorem white_cut {t : ByteArray} (r : ByteArray) {k : Nat} (hk : k ≤ t.size) (h : whiteTo (t ++ r) k < t.size) : whiteTo t k = whiteTo (t ++ r) k := by
  have hge : whiteTo t k ≤ whiteTo (t ++ r) k := by
    unfold whiteTo
    rw [show (t ++ r).data.toList.drop k = t.data.toList.drop k ++ r.data.toList by
      rw [ByteArray.data_append, Array.toList_append, List.drop_append_of_le_length (by simp; exact hk)]]
    have := tw_ge (t.data.toList.drop k) r.data.toList
    omega
  exact (white_ext r hk (by omega)).symm
theorem find_cut {t : ByteArray} (r : ByteArray) {k i : Nat} {s : List UInt8} (hk : k ≤ t.size) (h : findF (t ++ r) k s = some i) (hi : i + s.length ≤ t.size) : findF t k s = some i := by
  have hs := size_cat t r
  obtain ⟨h1, h2, h3, h4⟩ := (find_iff (show k ≤ (t ++ r).size by omega)).1 h
  refine (find_iff hk).2 ⟨h1, by omega, ?_, fun j q1 q2 => ?_⟩
  · rw [← sees_same r hi]
    exact h3
  · rw [← sees_same r (by omega)]
    exact h4 j q1 q2
theorem equals_cut {t : ByteArray} (r : ByteArray) {k j : Nat} (hk : k ≤ t.size) (h : equalsF (t ++ r) k = some j) (hj : j < t.size) : equalsF t k = some j := by
  have hs := size_cat t r
  unfold equalsF at h ⊢
  split at h
  · rename_i g
    injection h with h
    have hg := white_ge (t ++ r) (whiteTo (t ++ r) k + 1)
    have e := white_cut r hk (by omega)
    rw [sees_same r (by simp only [List.length_cons, List.length_nil]; omega)] at g
    rw [e, if_pos g, white_cut r (by omega) (by omega), h]
  · cases h
theorem quoted_cut {t raw : ByteArray} (r : ByteArray) {k m : Nat} (h : quotedF (t ++ r) k = some (raw, m)) (hm : m ≤ t.size) : quotedF t k = some (raw, m) := by
  have hs := size_cat t r
  unfold quotedF at h ⊢
  split at h
  · rename_i g
    cases hf : findF (t ++ r) (k + 1) [39] with
    | none => rw [hf] at h; cases h
    | some i =>
      rw [hf] at h
      simp only [Option.map_some] at h
      injection h with h
      injection h with h1 h2
      have hi := ((find_iff (by
        rcases Nat.lt_or_ge (t ++ r).size (k + 1) with q | q
        · rw [sees_far (by simp only [List.length_cons, List.length_nil]; omega) (by decide)] at g
          cases g
        · exact q)).1 hf).1
      rw [sees_same r (by simp only [List.length_cons, List.length_nil]; omega)] at g
      rw [if_pos g, find_cut r (by omega) hf (by simp only [List.length_cons, List.length_nil]; omega)]
      simp only [Option.map_some]
      rw [← h1, ← h2, ext_left t r _ i (by omega)]
  · rename_i g
    split at h
    · rename_i g2
      cases hf : findF (t ++ r) (k + 1) [34] with
      | none => rw [hf] at h; cases h
      | some i =>
        rw [hf] at h
        simp only [Option.map_some] at h
        injection h with h
        injection h with h1 h2
        have hi := ((find_iff (by
          rcases Nat.lt_or_ge (t ++ r).size (k + 1) with q | q
          · rw [sees_far (by simp only [List.length_cons, List.length_nil]; omega) (by decide)] at g2
            cases g2
          · exact q)).1 hf).1
        rw [sees_same r (by simp only [List.length_cons, List.length_nil]; omega)] at g g2
        rw [if_neg g, if_pos g2, find_cut r (by omega) hf (by simp only [List.length_cons, List.length_nil]; omega)]
        simp only [Option.map_some]
        rw [← h1, ← h2, ext_left t r _ i (by omega)]
    · cases h
theorem stop_left {t : ByteArray} (r : ByteArray) {i : Nat} (hi : i < t.size) (h : StopB ((t ++ r).get! i)) : StopB (t.get! i) := by
  rw [get!_left t r i hi] at h
  exact h
theorem pair_cut {t : ByteArray} (r : ByteArray) {k m : Nat} {p : ByteArray × ByteArray} (h : pairF (t ++ r) k = .ok (p, m)) (hm : m ≤ t.size) : pairF t k = .ok (p, m) := by
  unfold pairF at h ⊢
  split at h
  · cases h
  · rename_i n i hq
    obtain ⟨n1, n2, _⟩ := name_ok (qual_ok hq).1
    split at h
    · cases h
    · rename_i j hj
      obtain ⟨e1, e2⟩ := equals_ok n2 hj
      obtain ⟨s1, s2⟩ := equals_stop n2 hj
      split at h
      · cases h
      · rename_i raw m' hqq
        obtain ⟨q1, q2, _⟩ := quoted_ok e2 hqq
        have hmm : m' = m := by
          split at h
          · injection h with h
            injection h with _ h
          · cases h
        subst hmm
        rw [qual_cut r hq (by omega) (stop_left r (by omega) s2)]
        simp only
        rw [equals_cut r (by omega) hj (by omega)]
        simp only
        rw [quoted_cut r hqq hm]
        exact h
end Go.Proofs.YteipiaefamfleaaGreatDoor
namespace Go.Proofs.YteipiaefamfleaaGreatDoor
open Go.RowKit

theorem tag_rise (t n : ByteArray) : ∀ f k ps x i, k ≤ t.size → tagGo t n f k ps = .ok (x, i) → k < i
  | 0, _, _, _, _, _, h => by cases h
  | f + 1, k, ps, x, i, hk, h => by
    have hg := white_ge t k
    unfold tagGo at h
    split at h
    · injection h with h
      injection h with h1 h2
      omega
    split at h
    · injection h with h
      injection h with h1 h2
      omega
    split at h
    · cases h
    split at h
    · cases h
    rename_i p j hp
    have hb := pair_bd hp
    split at h
    · cases h
    · have := tag_rise t n f j _ x i hb.2.1 h
      omega
theorem tag_cut {t : ByteArray} (r n : ByteArray) : ∀ f g k ps x i, k ≤ t.size → t.size < k + f → i ≤ t.size → tagGo (t ++ r) n g k ps = .ok (x, i) → tagGo t n f k ps = .ok (x, i)
  | 0, _, k, _, _, _, hk, hf, _, _ => absurd hf (by omega)
  | _ + 1, 0, _, _, _, _, _, _, _, h => by cases h
  | f + 1, g + 1, k, ps, x, i, hk, hf, hi, h => by
    have hs := size_cat t r
    have hg := white_ge (t ++ r) k
    unfold tagGo at h ⊢
    split at h
    · rename_i c
      have hii : whiteTo (t ++ r) k + 1 = i := by
        injection h with h
        injection h with _ h
      rw [sees_same r (by simp only [List.length_cons, List.length_nil]; omega)] at c
      rw [white_cut r hk (by omega), if_pos c]
      exact h
    rename_i c1
    split at h
    · rename_i c
      have hii : whiteTo (t ++ r) k + 2 = i := by
        injection h with h
        injection h with _ h
      rw [sees_same r (by simp only [List.length_cons, List.length_nil]; omega)] at c c1
      rw [white_cut r hk (by omega), if_neg c1, if_pos c]
      exact h
    rename_i c2
    split at h
    · cases h
    rename_i c3
    split at h
    · cases h
    rename_i p j hp
    have hb := pair_bd hp
    split at h
    · cases h
    rename_i c4
    have hr := tag_rise (t ++ r) n g j _ x i hb.2.1 h
    have hp' := pair_cut r hp (by omega)
    have h3 := (pair_ext r hp').2
    have hb' := pair_bd hp'
    rw [sees_same r (by simp only [List.length_cons, List.length_nil]; omega)] at c1 c2
    rw [white_cut r hk (by omega), if_neg c1, if_neg c2, if_neg c3, hp']
    simp only
    rw [if_neg c4]
    exact tag_cut r n f g j _ x i hb'.2.1 (by omega) hi h
theorem closing_cut {t : ByteArray} (r : ByteArray) {k i : Nat} {x : Tok} (h : closingF (t ++ r) k = .ok (x, i)) (hi : i ≤ t.size) : closingF t k = .ok (x, i) := by
  have hs := size_cat t r
  unfold closingF at h ⊢
  split at h
  · cases h
  rename_i n j hn
  obtain ⟨n1, n2, _⟩ := name_ok (qual_ok hn).1
  split at h
  · rename_i c
    have hii : whiteTo (t ++ r) j + 1 = i := by
      injection h with h
      injection h with _ h
    have hg := white_ge (t ++ r) j
    obtain ⟨c1, c2⟩ := sees_get (white_le n2) c
    obtain ⟨s1, s2⟩ := first_stop c1 (by rw [c2]; exact ⟨by decide, by decide, by decide⟩)
    rw [qual_cut r hn (by omega) (stop_left r (by omega) s2)]
    simp only
    rw [sees_same r (by simp only [List.length_cons, List.length_nil]; omega)] at c
    rw [white_cut r (by omega) (by omega), if_pos c]
    exact h
  · cases h
theorem instr_cut {t : ByteArray} (r : ByteArray) {k i : Nat} {x : Tok} (h : instrF (t ++ r) k = .ok (x, i)) (hi : i ≤ t.size) : instrF t k = .ok (x, i) := by
  have hs := size_cat t r
  unfold instrF at h ⊢
  split at h
  · cases h
  rename_i n j hn
  obtain ⟨n1, n2, _⟩ := name_ok hn
  split at h
  · cases h
  rename_i c1
  split at h
  · cases h
  rename_i c2
  split at h
  · cases h
  rename_i c3
  split at h
  · cases h
  rename_i m hm
  have hw := white_le n2
  have hg := white_ge (t ++ r) j
  obtain ⟨g1, g2, g3⟩ := find_some hw hm
  simp only [List.length_cons, List.length_nil] at g3
  have hii : m + 2 = i := by
    injection h with h
    injection h with _ h
  have hst : StopB ((t ++ r).get! j) := by
    by_cases hj : j < (t ++ r).size ∧ isB ((t ++ r).get! j) = true
    · exact stop_white hj.2
    · have e := ws_stop hj
      have hs2 : seesB (t ++ r) j [63, 62] = true := by
        rw [← Bool.not_eq_false]
        exact fun q => c3 ⟨e, q⟩
      obtain ⟨_, a2⟩ := sees_get n2 hs2
      rw [a2]
      exact ⟨by decide, by decide, by decide⟩
  rw [name_cut r hn (by omega) (stop_left r (by omega) hst)]
  simp only
  rw [if_neg c1, if_neg c2, white_cut r (by omega) (by omega), ← sees_same r (show j + ([63, 62] : List UInt8).length ≤ t.size by simp only [List.length_cons, List.length_nil]; omega), if_neg c3, find_cut r (by omega) hm (by simp only [List.length_cons, List.length_nil]; omega)]
  simp only
  rw [← ext_left t r _ m (by omega)]
  exact h
theorem prop_cut {t : ByteArray} (r : ByteArray) {k i : Nat} {word : List UInt8} {right : ByteArray → Bool} {p : ByteArray × ByteArray} (hk : k ≤ t.size) (h : propF (t ++ r) k word right = some (p, i)) (hi : i ≤ t.size) : propF t k word right = some (p, i) := by
  have hs := size_cat t r
  have hg := white_ge (t ++ r) k
  unfold propF at h ⊢
  split at h
  · cases h
  rename_i c
  have hs2 : seesB (t ++ r) (whiteTo (t ++ r) k) word = true := by
    rw [← Bool.not_eq_false]
    exact fun e => c (.inr e)
  have hro := sees_room (white_le (show k ≤ (t ++ r).size by omega)) hs2
  split at h
  · cases h
  rename_i j hj
  obtain ⟨j1, j2⟩ := equals_ok hro hj
  split at h
  · cases h
  rename_i raw m hqq
  obtain ⟨q1, q2, _⟩ := quoted_ok j2 hqq
  have hmi : m = i := by
    split at h
    · injection h with h
      injection h with _ h
    · cases h
  subst hmi
  have e := white_cut r hk (by omega)
  have hs3 : seesB t (whiteTo (t ++ r) k) word = true := by rw [← sees_same r (by omega)]; exact hs2
  have c' : ¬ (whiteTo (t ++ r) k = k ∨ true = false) := by
    rintro (q | q)
    · exact c (.inl q)
    · cases q
  rw [e, hs3, if_neg c', equals_cut r (by omega) hj (by omega)]
  simp only
  rw [quoted_cut r hqq hi]
  exact h
theorem decl_end_cut {t : ByteArray} (r : ByteArray) {k i : Nat} {ps : List (ByteArray × ByteArray)} {q : Bool} {x : Tok} (hk : k ≤ t.size) (h : declEnd (t ++ r) k ps q = .ok (x, i)) (hi : i ≤ t.size) : k < i ∧ declEnd t k ps q = .ok (x, i) ∧ ∀ c word right, c ≠ 63 → propF t k (c :: word) right = none := by
  have hs := size_cat t r
  have hg := white_ge (t ++ r) k
  unfold declEnd at h ⊢
  split at h
  · rename_i g
    have hii : whiteTo (t ++ r) k + 2 = i := by
      split at h
      · injection h with h
        injection h with _ h
      · cases h
    have e := white_cut r hk (by omega)
    rw [sees_same r (by simp only [List.length_cons, List.length_nil]; omega)] at g
    rw [e, if_pos g]
    refine ⟨by omega, h, fun c word right hc => ?_⟩
    exact prop_clash right (by rw [e]; omega) (by rw [e]; exact g) (Ne.symm hc)
  · cases h
theorem decl_alone_cut {t : ByteArray} (r : ByteArray) {k i : Nat} {ps : List (ByteArray × ByteArray)} {q : Bool} {x : Tok} (hk : k ≤ t.size) (h : declAlone (t ++ r) k ps q = .ok (x, i)) (hi : i ≤ t.size) : k < i ∧ declAlone t k ps q = .ok (x, i) ∧ ∀ c word right, c ≠ 63 → c ≠ 115 → propF t k (c :: word) right = none := by
  have hs := size_cat t r
  unfold declAlone at h ⊢
  split at h
  · have g := decl_end_cut r hk h hi
    rw [g.2.2 115 _ _ (by decide)]
    exact ⟨g.1, g.2.1, fun c word right hc _ => g.2.2 c word right hc⟩
  · rename_i p j hp
    have hb := prop_ok (show k ≤ (t ++ r).size by omega) hp
    have hjt : j ≤ t.size := by
      apply Decidable.byContradiction
      intro hj
      have hg := white_ge (t ++ r) j
      unfold declEnd at h
      split at h
      · have hii : whiteTo (t ++ r) j + 2 = i := by
          split at h
          · injection h with h
            injection h with _ h
          · cases h
        omega
      · cases h
    have g := decl_end_cut r hjt h hi
    have hp' := prop_cut r hk hp hjt
    rw [hp']
    refine ⟨by omega, g.2.1, fun c word right _ hc => ?_⟩
    unfold propF at hp'
    split at hp'
    · cases hp'
    rename_i g
    have hs2 : seesB t (whiteTo t k) [115, 116, 97, 110, 100, 97, 108, 111, 110, 101] = true := by
      rw [← Bool.not_eq_false]
      exact fun e => g (.inr e)
    exact prop_clash right (white_le hk) hs2 (Ne.symm hc)
theorem alone_rise {t : ByteArray} {k i : Nat} {ps : List (ByteArray × ByteArray)} {q : Bool} {x : Tok} (hk : k ≤ t.size) (h : declAlone t k ps q = .ok (x, i)) : k < i := by
  have e : t ++ ⟨#[]⟩ = t := by
    apply ByteArray.ext
    simp
  have hle : i ≤ t.size := by
    unfold declAlone declEnd at h
    have go : ∀ (j : Nat) (ps' : List (ByteArray × ByteArray)), j ≤ t.size → (if seesB t (whiteTo t j) [63, 62] = true then (if q = true then (.ok (⟨1, ⟨#[]⟩, ps', ⟨#[]⟩, 0⟩, whiteTo t j + 2) : Except Nat (Tok × Nat)) else .error 25) else .error 23) = .ok (x, i) → i ≤ t.size := by
      intro j ps' hj h
      split at h
      · rename_i g
        have hro := sees_room (white_le hj) g
        simp only [List.length_cons, List.length_nil] at hro
        split at h
        · injection h with h
          injection h with _ h
          omega
        · cases h
      · cases h
    split at h
    · exact go _ _ hk h
    · rename_i p j hp
      exact go _ _ (prop_ok hk hp).2.1 h
  exact (decl_alone_cut (t := t) ⟨#[]⟩ hk (by rw [e]; exact h) hle).1
theorem decl_cut {t : ByteArray} (r : ByteArray) {k i : Nat} {x : Tok} (hk : k ≤ t.size) (h : declF (t ++ r) k = .ok (x, i)) (hi : i ≤ t.size) : declF t k = .ok (x, i) := by
  have hs := size_cat t r
  unfold declF at h ⊢
  split at h
  · cases h
  rename_i v j hv
  have hj := (prop_ok (show k ≤ (t ++ r).size by omega) hv).2.1
  split at h
  · have hr := alone_rise hj h
    have g := decl_alone_cut r (show j ≤ t.size by omega) h hi
    rw [prop_cut r hk hv (by omega)]
    simp only
    rw [g.2.2 101 _ _ (by decide) (by decide)]
    exact g.2.1
  · rename_i c m hc
    have hm := (prop_ok hj hc)
    have hr := alone_rise hm.2.1 h
    rw [prop_cut r hk hv (by omega)]
    simp only
    rw [prop_cut r (by omega) hc (by omega)]
    exact (decl_alone_cut r (by omega) h hi).2.1
theorem chars_cut {t : ByteArray} (r : ByteArray) {k : Nat} (hk : k ≤ t.size) (h : charsTo (t ++ r) k ≤ t.size) : charsTo t k = charsTo (t ++ r) k := by
  have hs := size_cat t r
  unfold charsTo at h ⊢
  cases hf : findF (t ++ r) k [60] with
  | none =>
    rw [hf] at h
    simp only [Option.getD_none] at h ⊢
    have hn := (find_none_iff (show k ≤ (t ++ r).size by omega)).1 hf
    have ht : findF t k [60] = none := (find_none_iff hk).2 fun j q1 q2 => by
      cases hx : seesB t j [60]
      · rfl
      · have := hn j q1 (by omega)
        rw [sees_mono r q2 hx] at this
        cases this
    rw [ht]
    simp only [Option.getD_none]
    omega
  | some i =>
    rw [hf] at h
    simp only [Option.getD_some] at h ⊢
    obtain ⟨h1, h2, h3, h4⟩ := (find_iff (show k ≤ (t ++ r).size by omega)).1 hf
    by_cases hi : i < t.size
    · rw [find_cut r hk hf (by simp only [List.length_cons, List.length_nil]; omega)]
      rfl
    · have ht : findF t k [60] = none := (find_none_iff hk).2 fun j q1 q2 => by
        cases hx : seesB t j [60]
        · rfl
        · have hro := sees_room q2 hx
          simp only [List.length_cons, List.length_nil] at hro
          have := h4 j q1 (by omega)
          rw [sees_mono r q2 hx] at this
          cases this
      rw [ht]
      simp only [Option.getD_none]
      omega
theorem not_sees {t : ByteArray} (r : ByteArray) {k : Nat} {s : List UInt8} (hk : k ≤ t.size) (h : ¬ seesB (t ++ r) k s = true) : ¬ seesB t k s = true := fun q => h (sees_mono r hk q)
/-- WHAT ENDS WITHIN THE FIRST PART OF A TEXT IS READ OF THAT PART. -/
theorem tok_cut {t : ByteArray} (r : ByteArray) {k i : Nat} {x : Tok} (hk : k < t.size) (h : tokF (t ++ r) k = .ok (x, i)) (hi : i ≤ t.size) : tokF t k = .ok (x, i) := by
  have hs := size_cat t r
  have hle := Nat.le_of_lt hk
  have hlt : k < (t ++ r).size := by omega
  unfold tokF at h ⊢
  split at h
  · rename_i ho
    unfold opensB at ho
    simp only [Bool.and_eq_true, decide_eq_true_eq] at ho
    obtain ⟨⟨⟨o1, o2⟩, o3⟩, o4⟩ := ho
    have h0 := h
    have hr := (decl_ok (show k + 5 ≤ (t ++ r).size by omega) h).1
    have ho2 : opensB t k = true := by
      unfold opensB
      simp only [Bool.and_eq_true, decide_eq_true_eq]
      rw [sees_same r (by simp only [List.length_cons, List.length_nil]; omega)] at o2
      rw [get!_left t r 5 (by omega)] at o4
      exact ⟨⟨⟨o1, o2⟩, by omega⟩, o4⟩
    rw [if_pos ho2]
    exact decl_cut r (by omega) h hi
  rename_i c0
  have c0' : ¬ opensB t k = true := by
    intro q
    unfold opensB at q c0
    simp only [Bool.and_eq_true, decide_eq_true_eq] at q
    refine c0 ?_
    simp only [Bool.and_eq_true, decide_eq_true_eq]
    exact ⟨⟨⟨q.1.1.1, sees_mono r (Nat.zero_le _) q.1.1.2⟩, by omega⟩, by rw [get!_left t r 5 q.1.2]; exact q.2⟩
  rw [if_neg c0']
  split at h
  · rename_i c
    have hro := sees_room (Nat.le_of_lt hlt) c
    simp only [List.length_cons, List.length_nil] at hro
    unfold commentF at h ⊢
    split at h
    · cases h
    rename_i j hj
    obtain ⟨_, g2, g3⟩ := find_some hro hj
    simp only [List.length_cons, List.length_nil] at g3
    split at h
    · rename_i c2
      have hii : j + 3 = i := by
        injection h with h
        injection h with _ h
      rw [sees_same r (by simp only [List.length_cons, List.length_nil]; omega)] at c c2
      rw [if_pos c, find_cut r (by omega) hj (by simp only [List.length_cons, List.length_nil]; omega)]
      simp only
      rw [if_pos c2, ← ext_left t r _ j (by omega)]
      exact h
    · cases h
  rename_i c1
  rw [if_neg (not_sees r hle c1)]
  split at h
  · rename_i c
    have hro := sees_room (Nat.le_of_lt hlt) c
    simp only [List.length_cons, List.length_nil] at hro
    unfold dataF at h ⊢
    split at h
    · cases h
    rename_i j hj
    obtain ⟨_, g2, g3⟩ := find_some hro hj
    simp only [List.length_cons, List.length_nil] at g3
    have hii : j + 3 = i := by
      injection h with h
      injection h with _ h
    rw [sees_same r (by simp only [List.length_cons, List.length_nil]; omega)] at c
    rw [if_pos c, find_cut r (by omega) hj (by simp only [List.length_cons, List.length_nil]; omega)]
    simp only
    rw [← ext_left t r _ j (by omega)]
    exact h
  rename_i c2
  rw [if_neg (not_sees r hle c2)]
  split at h
  · cases h
  rename_i c3
  rw [if_neg (not_sees r hle c3)]
  split at h
  · cases h
  rename_i c4
  rw [if_neg (not_sees r hle c4)]
  split at h
  · rename_i c
    have hr : k + 2 < i := by
      unfold instrF at h
      split at h
      · cases h
      rename_i n j hn
      obtain ⟨n1, n2, _⟩ := name_ok hn
      split at h
      · cases h
      split at h
      · cases h
      split at h
      · cases h
      split at h
      · cases h
      rename_i m hm
      have hg := white_ge (t ++ r) j
      obtain ⟨g1, g2, g3⟩ := find_some (white_le n2) hm
      injection h with h
      injection h with _ h
      omega
    rw [sees_same r (by simp only [List.length_cons, List.length_nil]; omega)] at c
    rw [if_pos c]
    exact instr_cut r h hi
  rename_i c5
  rw [if_neg (not_sees r hle c5)]
  split at h
  · rename_i c
    have hr : k + 2 < i := by
      unfold closingF at h
      split at h
      · cases h
      rename_i n j hn
      obtain ⟨n1, n2, _⟩ := name_ok (qual_ok hn).1
      have hg := white_ge (t ++ r) j
      split at h
      · injection h with h
        injection h with _ h
        omega
      · cases h
    rw [sees_same r (by simp only [List.length_cons, List.length_nil]; omega)] at c
    rw [if_pos c]
    exact closing_cut r h hi
  rename_i c6
  rw [if_neg (not_sees r hle c6)]
  split at h
  · rename_i c
    unfold tagF at h ⊢
    split at h
    · cases h
    rename_i n j hn
    obtain ⟨n1, n2, _⟩ := name_ok (qual_ok hn).1
    have hr := tag_rise (t ++ r) n _ j [] x i n2 h
    have hst : StopB ((t ++ r).get! j) := by
      have h' := h
      unfold tagGo at h'
      split at h'
      · rename_i g
        obtain ⟨g1, g2⟩ := sees_get (white_le n2) g
        exact (first_stop g1 (by rw [g2]; exact ⟨by decide, by decide, by decide⟩)).2
      split at h'
      · rename_i g
        obtain ⟨g1, g2⟩ := sees_get (white_le n2) g
        exact (first_stop g1 (by rw [g2]; exact ⟨by decide, by decide, by decide⟩)).2
      split at h'
      · cases h'
      · rename_i g
        by_cases hj : j < (t ++ r).size ∧ isB ((t ++ r).get! j) = true
        · exact stop_white hj.2
        · exact absurd (ws_stop hj) g
    rw [sees_same r (by simp only [List.length_cons, List.length_nil]; omega)] at c
    rw [if_pos c, qual_cut r hn (by omega) (stop_left r (by omega) hst)]
    simp only
    exact tag_cut r n (t.size + 1) _ j [] x i (by omega) (by omega) hi h
  rename_i c7
  rw [if_neg (not_sees r hle c7)]
  unfold charsF at h ⊢
  simp only at h ⊢
  have hii : charsTo (t ++ r) k = i := by
    split at h
    · injection h with h
      injection h with _ h
    · cases h
  rw [chars_cut r hle (by omega), ← ext_left t r _ _ (show charsTo (t ++ r) k ≤ t.size by omega)]
  exact h
end Go.Proofs.YteipiaefamfleaaGreatDoor
namespace Go.Proofs.YteipiaefamfleaaGreatDoor
open Go.RowKit

/-- The first byte of a char is no later one; its later ones are. -/
theorem rdN_parts (n x0 x1 x2 x3 : Nat) (h0 : x0 < 256) (h : (rdN n x0 x1 x2 x3).2 ≠ 0) : ¬ (128 ≤ x0 ∧ x0 ≤ 191) ∧ (2 ≤ (rdN n x0 x1 x2 x3).2 → 128 ≤ x0 ∧ 128 ≤ x1 ∧ x1 ≤ 191) ∧ (3 ≤ (rdN n x0 x1 x2 x3).2 → 128 ≤ x2 ∧ x2 ≤ 191) ∧ (4 ≤ (rdN n x0 x1 x2 x3).2 → 128 ≤ x3 ∧ x3 ≤ 191) := by
  by_cases a : x0 < 128
  · rw [rd_ascii a]
    simp only
    omega
  by_cases a2 : x0 < 192 ∨ 248 ≤ x0
  · exact absurd (by rw [rd_none (by omega) h0]) h
  by_cases a3 : x0 < 224
  · by_cases g : n < 2 ∨ x1 < 128 ∨ 191 < x1 ∨ 64 * (x0 - 192) + (x1 - 128) < 128
    · exact absurd (by rw [rd2_no (by omega) g]) h
    · rw [rd2_yes (by omega) (by omega) (by omega) (by omega) (by omega)]
      simp only
      omega
  by_cases a4 : x0 < 240
  · by_cases g : n < 3 ∨ x1 < 128 ∨ 191 < x1 ∨ x2 < 128 ∨ 191 < x2 ∨ v3 x0 x1 x2 < 2048 ∨ (55296 ≤ v3 x0 x1 x2 ∧ v3 x0 x1 x2 ≤ 57343)
    · exact absurd (by rw [rd3_no (by omega) g]) h
    · rw [rd3_yes (by omega) (by omega) (by omega) (by omega) (by omega) (by omega) (by omega) (by omega)]
      simp only
      omega
  · by_cases g : n < 4 ∨ x1 < 128 ∨ 191 < x1 ∨ x2 < 128 ∨ 191 < x2 ∨ x3 < 128 ∨ 191 < x3 ∨ v4 x0 x1 x2 x3 < 65536 ∨ 1114111 < v4 x0 x1 x2 x3
    · exact absurd (by rw [rd4_no (by omega) g]) h
    · rw [rd4_yes (by omega) (by omega) (by omega) (by omega) (by omega) (by omega) (by omega) (by omega) (by omega) (by omega)]
      simp only
      omega
def laterB (c : UInt8) : Prop := 128 ≤ c.toNat ∧ c.toNat ≤ 191
theorem rd_begin {t : ByteArray} {p : Nat} (h : (rd t p).2 ≠ 0) : ¬ laterB (t.get! p) := by
  unfold rd at h
  exact (rdN_parts _ _ _ _ _ (t.get! p).toNat_lt h).1
theorem rd_later {t : ByteArray} {p j : Nat} (h : (rd t p).2 ≠ 0) (hj : 0 < j) (hl : j < (rd t p).2) : laterB (t.get! (p + j)) := by
  have hb := (rd_bd t p).2
  unfold rd at h hl hb
  obtain ⟨_, h1, h2, h3⟩ := rdN_parts _ _ _ _ _ (t.get! p).toNat_lt h
  obtain rfl | rfl | rfl : j = 1 ∨ j = 2 ∨ j = 3 := by omega
  · exact (h1 (by omega)).2
  · exact h2 (by omega)
  · exact h3 (by omega)
theorem rd_top {t : ByteArray} {p : Nat} (h : (rd t p).2 ≠ 0) (hl : 2 ≤ (rd t p).2) : 128 ≤ (t.get! p).toNat := by
  unfold rd at h hl
  exact ((rdN_parts _ _ _ _ _ (t.get! p).toNat_lt h).2.1 hl).1
/-- The first part of a text without faults: it has none, or its last char is cut. -/
theorem fault_cutAt (t r : ByteArray) : ∀ f p, p ≤ t.size → t.size ≤ p + f → (faultAt (t ++ r) p).2 = 0 → 0 < r.size →
    ((faultAt t p).2 = 0 ∧ ¬ laterB ((t ++ r).get! t.size)) ∨ ((faultAt t p).2 = 20 ∧ (faultAt t p).1 < t.size ∧ t.size < (faultAt t p).1 + 4 ∧ laterB ((t ++ r).get! t.size) ∧ 128 ≤ (t.get! (t.size - 1)).toNat)
  | 0, p, hp, hf, h, hr => by
    have hs := size_cat t r
    obtain rfl : p = t.size := by omega
    left
    have hlt : t.size < (t ++ r).size := by omega
    have h0 : (rd (t ++ r) t.size).2 ≠ 0 := by
      intro e
      rw [faultAt_bad _ _ hlt e] at h
      cases h
    rw [faultAt_end _ _ (by omega)]
    exact ⟨rfl, rd_begin h0⟩
  | f + 1, p, hp, hf, h, hr => by
    have hs := size_cat t r
    have hlt : p < (t ++ r).size := by omega
    have h0 : (rd (t ++ r) p).2 ≠ 0 := by
      intro e
      rw [faultAt_bad _ _ hlt e] at h
      cases h
    have hc : charB (rd (t ++ r) p).1 = true := by
      cases hc : charB (rd (t ++ r) p).1
      · rw [faultAt_no _ _ hlt h0 hc] at h
        cases h
      · rfl
    by_cases he : p = t.size
    · subst he
      left
      rw [faultAt_end _ _ (by omega)]
      exact ⟨rfl, rd_begin h0⟩
    have hpl : p < t.size := by omega
    rw [faultAt_step _ _ hlt h0 hc] at h
    by_cases hl : p + (rd (t ++ r) p).2 ≤ t.size
    · have e := rd_cut r hpl h0 hl
      rw [faultAt_step t p hpl (by rw [e]; exact h0) (by rw [e]; exact hc), e]
      exact fault_cutAt t r f _ hl (by omega) h hr
    · right
      have hz : (rd t p).2 = 0 := by
        apply Decidable.byContradiction
        intro q
        have := rd_left t r p hpl q
        have hle := rd_le t p hpl
        rw [this] at hl
        omega
      have hb := (rd_bd (t ++ r) p).2
      rw [faultAt_bad t p hpl hz]
      have hl1 := rd_later (j := t.size - p) h0 (by omega) (by omega)
      rw [show p + (t.size - p) = t.size by omega] at hl1
      refine ⟨rfl, hpl, by show t.size < p + 4; omega, hl1, ?_⟩
      by_cases hq : t.size - 1 = p
      · rw [hq, ← get!_left t r p hpl]
        exact rd_top h0 (by omega)
      · have hl2 := rd_later (j := t.size - 1 - p) h0 (by omega) (by omega)
        rw [show p + (t.size - 1 - p) = t.size - 1 by omega, get!_left t r _ (by omega)] at hl2
        exact hl2.1
end Go.Proofs.YteipiaefamfleaaGreatDoor
namespace Go.Proofs.YteipiaefamfleaaGreatDoor
open Go.RowKit

/-- Tokens that stand one behind the other from a place on to the text's end. -/
inductive Chain (t : ByteArray) : Nat → List (Nat × Tok) → Prop
  | nil : Chain t t.size []
  | cons {k i : Nat} {x : Tok} {l : List (Nat × Tok)} : k < t.size → tokF t k = .ok (x, i) → Chain t i l → Chain t k ((k, x) :: l)
theorem chain_of {t : ByteArray} : ∀ f k l0 l', k ≤ t.size → t.size ≤ k + f → toksGo t f k l0 = .ok l' → ∃ l1, l' = l0 ++ l1 ∧ Chain t k l1
  | 0, k, l0, l', hk, hf, h => by
    injection h with h
    subst h
    obtain rfl : k = t.size := by omega
    exact ⟨[], by simp, .nil⟩
  | f + 1, k, l0, l', hk, hf, h => by
    unfold toksGo at h
    split at h
    · rename_i hlt
      split at h
      · cases h
      · rename_i x i hx
        obtain ⟨h1, h2, _⟩ := tok_ok hlt hx
        obtain ⟨l1, e, hc⟩ := chain_of f i _ l' h2 (by omega) h
        exact ⟨(k, x) :: l1, by rw [e, List.append_assoc]; rfl, .cons hlt hx hc⟩
    · injection h with h
      subst h
      obtain rfl : k = t.size := by omega
      exact ⟨[], by simp, .nil⟩
theorem Chain.first {t : ByteArray} {k : Nat} {l : List (Nat × Tok)} (h : Chain t k l) : (l = [] ∧ k = t.size) ∨ ∃ x r, l = (k, x) :: r ∧ k < t.size := by
  cases h with
  | nil => exact .inl ⟨rfl, rfl⟩
  | cons h1 h2 h3 => exact .inr ⟨_, _, rfl, h1⟩
/-- What is found of the first bytes: all tokens that begin there, the last one cut or not. -/
structure CutEnds (t : ByteArray) (n i : Nat) (l l0 : List (Nat × Tok)) (R : Except (Nat × Nat) (List (Nat × Tok))) : Prop where
  all : R = .ok (l0 ++ l.take i)
structure CutIn (n i : Nat) (l l0 : List (Nat × Tok)) (R : Except (Nat × Nat) (List (Nat × Tok))) : Prop where
  pos : 0 < i
  res : ∃ y, l[i - 1]? = some y ∧ ((∃ e, e ≠ 0 ∧ R = .error (y.1, e)) ∨ (y.2.kind = 5 ∧ ∃ m, R = .ok m ∧ m.length = l0.length + i))
theorem tok_kind5 {t : ByteArray} {k i : Nat} {x : Tok} (hk : k < t.size) (h : tokF t k = .ok (x, i)) (h60 : seesB t k [60] = false) : x.kind = 5 ∧ i = charsTo t k := by
  have no : ∀ s, seesB t k (60 :: s) = false := fun s => by
    cases hs : seesB t k (60 :: s)
    · rfl
    · obtain ⟨l, hl⟩ := pre_of hs
      unfold seesB at h60
      rw [hl] at h60
      simp [Lib.hasPrefix] at h60
  have ho : opensB t k = false := by
    unfold opensB
    by_cases hk0 : k = 0
    · subst hk0
      rw [no]
      simp
    · rw [decide_eq_false hk0]
      simp
  unfold tokF at h
  rw [ho, no, no, no, no, no, no, h60] at h
  simp only [Bool.false_eq_true, if_false] at h
  unfold charsF at h
  simp only at h
  split at h
  · injection h with h
    injection h with h1 h2
    subst h1
    exact ⟨rfl, h2.symm⟩
  · cases h
theorem toks_cut {u v : ByteArray} : ∀ {k : Nat} {l : List (Nat × Tok)}, Chain (u ++ v) k l → ∀ f l0, k ≤ u.size → u.size ≤ k + f →
    ∃ i, i ≤ l.length ∧ (∀ j y, j < i → l[j]? = some y → y.1 < u.size) ∧ (∀ y, l[i]? = some y → u.size ≤ y.1) ∧
      ((((i = l.length ∧ u.size = (u ++ v).size) ∨ ∃ y, l[i]? = some y ∧ y.1 = u.size) ∧ CutEnds (u ++ v) u.size i l l0 (toksGo u f k l0)) ∨
       (¬ ((i = l.length ∧ u.size = (u ++ v).size) ∨ ∃ y, l[i]? = some y ∧ y.1 = u.size) ∧ CutIn u.size i l l0 (toksGo u f k l0))) := by
  intro k l h
  have hs := size_cat u v
  induction h with
  | nil =>
    intro f l0 hk hf
    have e : (u ++ v).size = u.size := by omega
    rw [e]
    refine ⟨0, Nat.le_refl _, fun j y hj => absurd hj (Nat.not_lt_zero _), fun y hy => (by cases hy), .inl ⟨.inl ⟨rfl, rfl⟩, ⟨?_⟩⟩⟩
    cases f with
    | zero => simp [toksGo]
    | succ f =>
      unfold toksGo
      rw [if_neg (by omega)]
      simp
  | @cons k i2 x l hlt hx hc ih =>
    intro f l0 hk hf
    by_cases hkn : k = u.size
    · subst hkn
      refine ⟨0, Nat.zero_le _, fun j y hj => absurd hj (Nat.not_lt_zero _), fun y hy => ?_, .inl ⟨.inr ⟨(u.size, x), rfl, rfl⟩, ⟨?_⟩⟩⟩
      · have e : (u.size, x) = y := by simpa using hy
        rw [← e]
        exact Nat.le_refl _
      · cases f with
        | zero => simp [toksGo]
        | succ f =>
          unfold toksGo
          rw [if_neg (by omega)]
          simp
    have hku : k < u.size := by omega
    obtain ⟨f, rfl⟩ : ∃ f', f = f' + 1 := ⟨f - 1, by omega⟩
    by_cases hi2 : i2 ≤ u.size
    · have hcut := tok_cut v hku hx hi2
      have hrise := (tok_ok hku hcut).1
      obtain ⟨i, a1, a2, a3, a4⟩ := ih f (l0 ++ [(k, x)]) hi2 (by omega)
      have hgo : toksGo u (f + 1) k l0 = toksGo u f i2 (l0 ++ [(k, x)]) := by
        rw [toksGo, if_pos hku, hcut]
      refine ⟨i + 1, by simpa using a1, ?_, ?_, ?_⟩
      · intro j y hj hy
        cases j with
        | zero =>
          have e : (k, x) = y := by simpa using hy
          rw [← e]
          exact hku
        | succ j => exact a2 j y (by omega) (by simpa using hy)
      · intro y hy
        exact a3 y (by simpa using hy)
      · rw [hgo]
        simp only [List.length_cons, List.getElem?_cons_succ, Nat.add_right_cancel_iff]
        rcases a4 with ⟨b1, b2⟩ | ⟨b1, b2⟩
        · exact .inl ⟨b1, ⟨by rw [b2.all, List.take_succ_cons, List.append_assoc]; rfl⟩⟩
        · refine .inr ⟨b1, ⟨Nat.succ_pos _, ?_⟩⟩
          obtain ⟨y, c1, c2⟩ := b2.res
          have hp := b2.pos
          refine ⟨y, ?_, ?_⟩
          · obtain ⟨i', rfl⟩ : ∃ i', i = i' + 1 := ⟨i - 1, by omega⟩
            simpa using c1
          · rcases c2 with c2 | ⟨c2, m, c3, c4⟩
            · exact .inl c2
            · refine .inr ⟨c2, m, c3, ?_⟩
              rw [List.length_append] at c4
              simp only [List.length_cons, List.length_nil] at c4
              omega
    · refine ⟨1, by simp, ?_, ?_, .inr ⟨?_, ⟨Nat.one_pos, (k, x), rfl, ?_⟩⟩⟩
      · intro j y hj hy
        obtain rfl : j = 0 := by omega
        have e : (k, x) = y := by simpa using hy
        rw [← e]
        exact hku
      · intro y hy
        rcases hc.first with ⟨e, _⟩ | ⟨x', r', e, _⟩
        · rw [e] at hy
          simp at hy
        · rw [e] at hy
          have e2 : (i2, x') = y := by simpa using hy
          rw [← e2]
          show u.size ≤ i2
          omega
      · rintro (⟨e1, e2⟩ | ⟨y, hy, e⟩)
        · have := (tok_ok hlt hx).2.1
          omega
        · rcases hc.first with ⟨q, _⟩ | ⟨x', r', q, _⟩
          · rw [q] at hy
            simp at hy
          · rw [q] at hy
            have e2 : (i2, x') = y := by simpa using hy
            rw [← e2] at e
            have : i2 = u.size := e
            omega
      · rw [toksGo, if_pos hku]
        cases hr : tokF u k with
        | error e => exact .inl ⟨e, tok_err_ne hku hr, rfl⟩
        | ok xi =>
          obtain ⟨x', i'⟩ := xi
          simp only
          obtain ⟨q1, q2, _, _, q5⟩ := tok_ok hku hr
          by_cases h5 : x'.kind = 5
          · obtain ⟨r1, r2⟩ := q5 h5
            have r1' : seesB (u ++ v) k [60] = false := by
              rw [sees_same v (by simp only [List.length_cons, List.length_nil]; omega)]
              exact r1
            obtain ⟨k5, hi5⟩ := tok_kind5 hlt hx r1'
            have hi' : i' = u.size := by
              apply Decidable.byContradiction
              intro hne
              have h60 := sees_mono v q2 (r2 (by omega))
              have hch : charsTo (u ++ v) k ≤ i' := by
                unfold charsTo
                cases hf : findF (u ++ v) k [60] with
                | none =>
                  have := (find_none_iff (Nat.le_of_lt hlt)).1 hf i' (by omega) (by omega)
                  rw [h60] at this
                  cases this
                | some z =>
                  simp only [Option.getD_some]
                  have := ((find_iff (Nat.le_of_lt hlt)).1 hf).2.2.2
                  apply Decidable.byContradiction
                  intro hz
                  have := this i' (by omega) (by omega)
                  rw [h60] at this
                  cases this
              omega
            subst hi'
            refine .inr ⟨k5, l0 ++ [(k, x')], ?_, by simp⟩
            cases f with
            | zero => rfl
            | succ f => rw [toksGo, if_neg (by omega)]
          · exfalso
            have := tok_ext v hku hr h5
            rw [hx] at this
            injection this with this
            injection this with _ this
            omega
end Go.Proofs.YteipiaefamfleaaGreatDoor
namespace Go.Proofs.YteipiaefamfleaaGreatDoor
open Go.RowKit

theorem get_at {t : ByteArray} {k : Nat} {c : UInt8} {s : List UInt8} (j : Nat) (hk : k ≤ t.size) (h : seesB t k s = true) (hj : s[j]? = some c) : t.get! (k + j) = c := by
  have hr := sees_room hk h
  obtain ⟨l, hl⟩ := pre_of h
  have hjl : j < s.length := (List.getElem?_eq_some_iff.1 hj).1
  have h1 := get!_of t (k + j) (by omega)
  have h2 : (t.data.toList.drop k)[j]? = some c := by
    rw [hl, List.getElem?_append_left hjl]
    exact hj
  rw [List.getElem?_drop] at h2
  rw [h2] at h1
  exact (Option.some.inj h1).symm
theorem tag_last (t n : ByteArray) : ∀ f k ps x i, k ≤ t.size → tagGo t n f k ps = .ok (x, i) → t.get! (i - 1) = 62
  | 0, _, _, _, _, _, h => by cases h
  | f + 1, k, ps, x, i, hk, h => by
    have hw := white_le hk
    unfold tagGo at h
    split at h
    · rename_i c
      injection h with h
      injection h with _ h
      subst h
      exact get_at 0 hw c rfl
    split at h
    · rename_i c
      injection h with h
      injection h with _ h
      subst h
      exact get_at 1 hw c rfl
    split at h
    · cases h
    split at h
    · cases h
    rename_i p j hp
    split at h
    · cases h
    · exact tag_last t n f j _ x i (pair_bd hp).2.1 h
theorem end_last {t : ByteArray} {k i : Nat} {ps : List (ByteArray × ByteArray)} {q : Bool} {x : Tok} (hk : k ≤ t.size) (h : declEnd t k ps q = .ok (x, i)) : t.get! (i - 1) = 62 := by
  unfold declEnd at h
  split at h
  · rename_i c
    split at h
    · injection h with h
      injection h with _ h
      subst h
      exact get_at 1 (white_le hk) c rfl
    · cases h
  · cases h
theorem alone_last {t : ByteArray} {k i : Nat} {ps : List (ByteArray × ByteArray)} {q : Bool} {x : Tok} (hk : k ≤ t.size) (h : declAlone t k ps q = .ok (x, i)) : t.get! (i - 1) = 62 := by
  unfold declAlone at h
  split at h
  · exact end_last hk h
  · rename_i p j hp
    exact end_last (prop_ok hk hp).2.1 h
theorem tok_last {t : ByteArray} {k i : Nat} {x : Tok} (hk : k < t.size) (h : tokF t k = .ok (x, i)) (h5 : x.kind ≠ 5) : t.get! (i - 1) = 62 := by
  have hle := Nat.le_of_lt hk
  unfold tokF at h
  split at h
  · rename_i ho
    unfold opensB at ho
    simp only [Bool.and_eq_true, decide_eq_true_eq] at ho
    have h5' : k + 5 ≤ t.size := by omega
    unfold declF at h
    split at h
    · cases h
    rename_i v j hv
    have hj := (prop_ok h5' hv).2.1
    split at h
    · exact alone_last hj h
    · rename_i c m hc
      exact alone_last (prop_ok hj hc).2.1 h
  split at h
  · rename_i c
    have hro := sees_room hle c
    simp only [List.length_cons, List.length_nil] at hro
    unfold commentF at h
    split at h
    · cases h
    rename_i j hj
    obtain ⟨_, g2, g3⟩ := find_some hro hj
    simp only [List.length_cons, List.length_nil] at g3
    split at h
    · rename_i c2
      injection h with h
      injection h with _ h
      subst h
      have hz : j + 2 ≤ t.size := by omega
      exact get_at (k := j + 2) 0 hz c2 rfl
    · cases h
  split at h
  · rename_i c
    have hro := sees_room hle c
    simp only [List.length_cons, List.length_nil] at hro
    unfold dataF at h
    split at h
    · cases h
    rename_i j hj
    obtain ⟨h1, h2, h3, _⟩ := (find_iff hro).1 hj
    injection h with h
    injection h with _ h
    subst h
    exact get_at 2 h2 h3 rfl
  split at h
  · cases h
  split at h
  · cases h
  split at h
  · unfold instrF at h
    split at h
    · cases h
    rename_i n j hn
    obtain ⟨n1, n2, _⟩ := name_ok hn
    split at h
    · cases h
    split at h
    · cases h
    split at h
    · cases h
    split at h
    · cases h
    rename_i m hm
    obtain ⟨h1, h2, h3, _⟩ := (find_iff (white_le n2)).1 hm
    injection h with h
    injection h with _ h
    subst h
    exact get_at 1 h2 h3 rfl
  split at h
  · unfold closingF at h
    split at h
    · cases h
    rename_i n j hn
    obtain ⟨n1, n2, _⟩ := name_ok (qual_ok hn).1
    split at h
    · rename_i c
      injection h with h
      injection h with _ h
      subst h
      exact get_at 0 (white_le n2) c rfl
    · cases h
  split at h
  · unfold tagF at h
    split at h
    · cases h
    rename_i n j hn
    exact tag_last t n _ j [] x i (name_ok (qual_ok hn).1).2.1 h
  · exfalso
    unfold charsF at h
    simp only at h
    split at h
    · injection h with h
      injection h with h1 h2
      subst h1
      exact h5 rfl
    · cases h
theorem chain_adj {t : ByteArray} {k : Nat} {l : List (Nat × Tok)} (h : Chain t k l) : ∀ j a c, l[j]? = some a → l[j + 1]? = some c → a.1 < t.size ∧ tokF t a.1 = .ok (a.2, c.1) := by
  induction h with
  | nil =>
    intro j a c ha
    cases ha
  | @cons k i x l hlt hx hc ih =>
    intro j a c ha hc2
    cases j with
    | zero =>
      have e : (k, x) = a := by simpa using ha
      subst e
      rcases hc.first with ⟨e, _⟩ | ⟨x', r', e, _⟩
      · rw [e] at hc2
        simp at hc2
      · rw [e] at hc2
        have e2 : (i, x') = c := by simpa using hc2
        subst e2
        exact ⟨hlt, hx⟩
    | succ j => exact ih j a c (by simpa using ha) (by simpa using hc2)
end Go.Proofs.YteipiaefamfleaaGreatDoor
namespace Go.Proofs.YteipiaefamfleaaGreatDoor
open Go.RowKit

theorem lines_begin {c : UInt8} {l r : List UInt8} (hc : c ≠ 10) (h : linesL l = c :: r) : ∃ l', l = c :: l' ∧ linesL l' = r := by
  cases l with
  | nil => simp [linesL] at h
  | cons a l =>
    unfold linesL at h
    split at h
    · injection h with h1 h2
      exact ⟨l, by rw [h1], h2⟩
    · split at h
      · rename_i q
        cases l with
        | nil => simp at q
        | cons b l =>
          have e : b = 10 := by simpa using q
          subst e
          unfold linesL at h
          rw [if_pos (by decide)] at h
          injection h with h1 _
          exact absurd h1.symm hc
      · injection h with h1 _
        exact absurd h1.symm hc
def markedB (u : ByteArray) : ByteArray := if Lib.hasPrefix u.data.toList [239, 187, 191] then markB ++ u else u
theorem text_marked {u : ByteArray} (h : (13 : UInt8) ∉ u.data.toList) : textF (markedB u) = u := by
  have hid : linesB u = u := eq_of_list (by rw [linesB_list, lines_id _ h])
  unfold markedB
  cases hp : Lib.hasPrefix u.data.toList [239, 187, 191]
  · rw [if_neg (by decide)]
    unfold textF
    rw [hp, if_neg (by decide)]
    exact hid
  · rw [if_pos rfl]
    have e : (markB ++ u).data.toList = 239 :: 187 :: 191 :: u.data.toList := by simp [markB]
    have hx : (markB ++ u).extract 3 (markB ++ u).size = u := by
      apply eq_of_list
      simp only [ByteArray.data_extract, Array.toList_extract, List.extract_eq_take_drop]
      rw [e]
      simp only [List.drop_succ_cons, List.drop_zero]
      have hz : (markB ++ u).size - 3 = u.data.toList.length := by
        rw [size_cat]
        show 3 + u.size - 3 = _
        simp
      rw [hz, List.take_length]
    unfold textF
    rw [if_pos (by rw [e]; rfl), hx]
    exact hid
theorem pre_split {l : List UInt8} {s : List UInt8} (h : Lib.hasPrefix l s = true) : ∃ r, l = s ++ r := by
  obtain ⟨r, hr⟩ := List.isPrefixOf_iff_prefix.1 h
  exact ⟨r, hr.symm⟩
theorem marked_size {b u v : ByteArray} (h : textF b = u ++ v) : (markedB u).size ≤ b.size := by
  have hl : (textF b).size ≤ b.size := text_size b
  have hs := size_cat u v
  have huz : u.size ≤ b.size := by rw [h] at hl; omega
  unfold markedB
  cases hp : Lib.hasPrefix u.data.toList [239, 187, 191]
  · rw [if_neg (by decide)]
    exact huz
  · rw [if_pos rfl, size_cat]
    show 3 + u.size ≤ b.size
    rw [text_bare] at h
    cases hb : Lib.hasPrefix b.data.toList [239, 187, 191]
    · exfalso
      have e : bareB b = b := by unfold bareB; rw [hb]; rfl
      rw [e] at h
      obtain ⟨r, hr⟩ := pre_split hp
      have h2 : linesL b.data.toList = 239 :: 187 :: 191 :: (r ++ v.data.toList) := by
        rw [← linesB_list, h, ByteArray.data_append, Array.toList_append, hr]
        rfl
      obtain ⟨l1, e1, q1⟩ := lines_begin (by decide) h2
      obtain ⟨l2, e2, q2⟩ := lines_begin (by decide) q1
      obtain ⟨l3, e3, _⟩ := lines_begin (by decide) q2
      rw [e1, e2, e3] at hb
      simp [Lib.hasPrefix] at hb
    · have e : (bareB b).size = b.size - 3 := by unfold bareB; rw [hb]; simp
      have h3 : 3 ≤ b.size := by
        obtain ⟨r, hr⟩ := pre_split hb
        have := congrArg List.length hr
        simp only [List.length_append, List.length_cons, List.length_nil, Array.length_toList] at this
        show 3 ≤ b.data.size
        omega
      have h4 := linesB_size (bareB b)
      rw [h] at h4
      omega
/-- Do the first bytes end where a token begins, or where the text ends? -/
def endsAt (n s i : Nat) (l : List (Nat × Tok)) : Prop := (i = l.length ∧ n = s) ∨ ∃ y, l[i]? = some y ∧ y.1 = n
theorem cuts_plain {b u v : ByteArray} {l : List (Nat × Tok)} (h : allF b = .ok l) (ht : textF b = u ++ v) :
    ∃ i, i ≤ l.length ∧ (∀ j y, j < i → l[j]? = some y → y.1 < u.size) ∧ (∀ y, l[i]? = some y → u.size ≤ y.1) ∧
      ((endsAt u.size (u ++ v).size i l ∧ allF (markedB u) = .ok (l.take i)) ∨
       (¬ endsAt u.size (u ++ v).size i l ∧ 0 < i ∧ 0 < v.size ∧
        ((laterB (v.get! 0) ∧ ∃ k, allF (markedB u) = .error (k, 20) ∧ k < u.size ∧ u.size < k + 4) ∨
         (¬ laterB (v.get! 0) ∧ ∃ y, l[i - 1]? = some y ∧ ((∃ e, e ≠ 0 ∧ allF (markedB u) = .error (y.1, e)) ∨ (y.2.kind = 5 ∧ ∃ m, allF (markedB u) = .ok m ∧ m.length = i)))))) := by
  have hs := size_cat u v
  have hb := (all_ok h).2
  have hms := marked_size ht
  have h13 : (13 : UInt8) ∉ u.data.toList := by
    intro q
    have e : (textF b).data.toList = u.data.toList ++ v.data.toList := by rw [ht]; simp
    rw [text_bare, linesB_list] at e
    exact lines_no13 _ (by rw [e]; exact List.mem_append_left _ q)
  have hall : allF (markedB u) = if (faultF u).2 ≠ 0 then .error (faultF u) else toksF u := by
    unfold allF
    rw [if_neg (by omega), text_marked h13]
  obtain ⟨hf0, hc⟩ : (faultF (u ++ v)).2 = 0 ∧ Chain (u ++ v) 0 l := by
    unfold allF at h
    rw [if_neg (by omega), ht] at h
    split at h
    · cases h
    · rename_i q
      have h2 : toksGo (u ++ v) (u ++ v).size 0 [] = .ok l := h
      obtain ⟨l1, e, hc⟩ := chain_of _ 0 [] l (Nat.zero_le _) (by omega) h2
      rw [List.nil_append] at e
      subst e
      exact ⟨by simpa using q, hc⟩
  obtain ⟨i, a1, a2, a3, a4⟩ := toks_cut hc u.size [] (Nat.zero_le _) (by omega)
  have hg0 : v.get! 0 = (u ++ v).get! u.size := by
    have := get!_right u v 0
    rw [Nat.add_zero] at this
    exact this.symm
  refine ⟨i, a1, a2, a3, ?_⟩
  by_cases hv : 0 < v.size
  · have hfc := fault_cutAt u v u.size 0 (Nat.zero_le _) (by omega) hf0 hv
    rw [← hg0] at hfc
    rcases a4 with ⟨b1, b2⟩ | ⟨b1, b2⟩
    · refine .inl ⟨b1, ?_⟩
      rcases hfc with ⟨c1, _⟩ | ⟨_, _, _, c4, c5⟩
      · rw [hall, if_neg (by simpa [faultF, faultAt] using c1)]
        exact b2.all
      · exfalso
        rcases b1 with ⟨_, e⟩ | ⟨y, hy, e⟩
        · omega
        · by_cases hi : i = 0
          · subst hi
            rcases hc.first with ⟨q, _⟩ | ⟨x', r', q, _⟩
            · rw [q] at hy
              simp at hy
            · rw [q] at hy
              have e2 : (0, x') = y := by simpa using hy
              rw [← e2] at e
              have hz : 0 = u.size := e
              rename_i c2 c3
              omega
          · obtain ⟨i', rfl⟩ : ∃ i', i = i' + 1 := ⟨i - 1, by omega⟩
            have hil : i' < l.length := by
              have := (List.getElem?_eq_some_iff.1 hy).1
              omega
            obtain ⟨hlt, htk⟩ := chain_adj hc i' _ y (List.getElem?_eq_getElem hil) hy
            rw [e] at htk
            by_cases h5 : (l[i']'hil).2.kind = 5
            · have h60 := ((tok_ok hlt htk).2.2.2.2 h5).2 (by omega)
              obtain ⟨_, hg⟩ := sees_get (by omega) h60
              rw [hg0, hg] at c4
              exact absurd c4.1 (by decide)
            · have := tok_last hlt htk h5
              have hr := (tok_ok hlt htk).1
              rw [get!_left u v _ (by omega)] at this
              rw [this] at c5
              exact absurd c5 (by decide)
    · refine .inr ⟨b1, b2.pos, hv, ?_⟩
      rcases hfc with ⟨c1, c2⟩ | ⟨c1, c2, c3, c4, _⟩
      · refine .inr ⟨c2, ?_⟩
        have e : allF (markedB u) = toksGo u u.size 0 [] := by
          rw [hall, if_neg (by simpa [faultF, faultAt] using c1)]
          rfl
        obtain ⟨y, d1, d2⟩ := b2.res
        rw [e]
        refine ⟨y, d1, ?_⟩
        rcases d2 with d2 | ⟨d2, m, d3, d4⟩
        · exact .inl d2
        · exact .inr ⟨d2, m, d3, by simpa using d4⟩
      · refine .inl ⟨c4, (faultF u).1, ?_, c2, c3⟩
        have c1' : (faultF u).2 = 20 := c1
        rw [hall, if_pos (by rw [c1']; decide)]
        congr 1
        exact Prod.ext rfl c1'
  · have hn : u.size = (u ++ v).size := by omega
    have huv : u ++ v = u := by
      apply eq_of_list
      rw [ByteArray.data_append, Array.toList_append]
      have : v.data.toList = [] := by
        apply List.eq_nil_of_length_eq_zero
        have : v.size = 0 := by omega
        simpa using this
      rw [this, List.append_nil]
    rcases a4 with ⟨b1, b2⟩ | ⟨b1, b2⟩
    · refine .inl ⟨b1, ?_⟩
      rw [huv] at hf0
      rw [hall, if_neg (by simpa using hf0)]
      exact b2.all
    · exfalso
      refine b1 (.inl ⟨?_, hn⟩)
      apply Decidable.byContradiction
      intro q
      have hil : i < l.length := by omega
      have hx : l[i]? = some l[i] := List.getElem?_eq_getElem hil
      have h1 := a3 _ hx
      have h2 := ((all_ok h).1.here i _ hx).2.1
      rw [ht] at h2
      omega
end Go.Proofs.YteipiaefamfleaaGreatDoor
