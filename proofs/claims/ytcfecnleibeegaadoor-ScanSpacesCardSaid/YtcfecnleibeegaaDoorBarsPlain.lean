/- Proved here: plain facts: a definition of a type, and other signs that begin nothing, bar a text in which they stand behind tokens; what is no char bars all; no walk. -/
import Derived.Test.YtcfecnleibeegaaDoorJoinScan
import Derived.Test.YtcfecnleibeegaaDoorM1
import Derived.Test.YtcfecnleibeegaaDoorPlain
namespace Go.Proofs.YtcfecnleibeegaaDoor
open Go.RowKit

theorem rdN_exact (n x0 x1 x2 x3 y1 y2 y3 : Nat) (h0 : x0 < 256) (h : (rdN n x0 x1 x2 x3).2 ≠ 0)
    (e1 : 2 ≤ (rdN n x0 x1 x2 x3).2 → y1 = x1) (e2 : 3 ≤ (rdN n x0 x1 x2 x3).2 → y2 = x2) (e3 : 4 ≤ (rdN n x0 x1 x2 x3).2 → y3 = x3) : rdN (rdN n x0 x1 x2 x3).2 x0 y1 y2 y3 = rdN n x0 x1 x2 x3 := by
  by_cases a : x0 < 128
  · rw [rd_ascii a, rd_ascii a]
  by_cases a2 : x0 < 192 ∨ 248 ≤ x0
  · exact absurd (by rw [rd_none (by omega) h0]) h
  by_cases a3 : x0 < 224
  · by_cases g : n < 2 ∨ x1 < 128 ∨ 191 < x1 ∨ 64 * (x0 - 192) + (x1 - 128) < 128
    · exact absurd (by rw [rd2_no (by omega) g]) h
    · have e := rd2_yes (n := n) (x0 := x0) (x1 := x1) (x2 := x2) (x3 := x3) (by omega) (by omega) (by omega) (by omega) (by omega)
      rw [e] at e1 ⊢
      obtain rfl := e1 (by simp)
      show rdN 2 _ _ _ _ = _
      rw [rd2_yes (by omega) (by omega) (by omega) (by omega) (by omega)]
  by_cases a4 : x0 < 240
  · by_cases g : n < 3 ∨ x1 < 128 ∨ 191 < x1 ∨ x2 < 128 ∨ 191 < x2 ∨ v3 x0 x1 x2 < 2048 ∨ (55296 ≤ v3 x0 x1 x2 ∧ v3 x0 x1 x2 ≤ 57343)
    · exact absurd (by rw [rd3_no (by omega) g]) h
    · have e := rd3_yes (n := n) (x0 := x0) (x1 := x1) (x2 := x2) (x3 := x3) (by omega) (by omega) (by omega) (by omega) (by omega) (by omega) (by omega) (by omega)
      rw [e] at e1 e2 ⊢
      obtain rfl := e1 (by simp)
      obtain rfl := e2 (by simp)
      show rdN 3 _ _ _ _ = _
      rw [rd3_yes (by omega) (by omega) (by omega) (by omega) (by omega) (by omega) (by omega) (by omega)]
  · by_cases g : n < 4 ∨ x1 < 128 ∨ 191 < x1 ∨ x2 < 128 ∨ 191 < x2 ∨ x3 < 128 ∨ 191 < x3 ∨ v4 x0 x1 x2 x3 < 65536 ∨ 1114111 < v4 x0 x1 x2 x3
    · exact absurd (by rw [rd4_no (by omega) g]) h
    · have e := rd4_yes (n := n) (x0 := x0) (x1 := x1) (x2 := x2) (x3 := x3) (by omega) (by omega) (by omega) (by omega) (by omega) (by omega) (by omega) (by omega) (by omega) (by omega)
      rw [e] at e1 e2 e3 ⊢
      obtain rfl := e1 (by simp)
      obtain rfl := e2 (by simp)
      obtain rfl := e3 (by simp)
      show rdN 4 _ _ _ _ = _
      rw [rd4_yes (by omega) (by omega) (by omega) (by omega) (by omega) (by omega) (by omega) (by omega) (by omega) (by omega)]
theorem cut_cat (s : ByteArray) (w : Nat) (_h : w ≤ s.size) : s = s.extract 0 w ++ s.extract w s.size := by
  apply eq_of_list
  have hl : s.data.toList.length = s.size := by simp
  simp only [ByteArray.data_extract, ByteArray.data_append, Array.toList_extract, Array.toList_append, List.extract_eq_take_drop, List.drop_zero, Nat.sub_zero]
  rw [List.take_of_length_le (l := List.drop w s.data.toList) (by simp), List.take_append_drop]
theorem rd_first {a b : ByteArray} (h0 : 0 < a.size) (h : (rd (a ++ b) 0).2 = a.size) : rd a 0 = rd (a ++ b) 0 := by
  unfold rd at h ⊢
  rw [Nat.sub_zero] at h ⊢
  rw [get!_left a b 0 h0] at h ⊢
  have := rdN_exact ((a ++ b).size) (a.get! 0).toNat ((a ++ b).get! (0 + 1)).toNat ((a ++ b).get! (0 + 2)).toNat ((a ++ b).get! (0 + 3)).toNat (a.get! (0 + 1)).toNat (a.get! (0 + 2)).toNat (a.get! (0 + 3)).toNat (a.get! 0).toNat_lt (by omega)
    (fun q => by rw [get!_left a b (0 + 1) (by omega)]) (fun q => by rw [get!_left a b (0 + 2) (by omega)]) (fun q => by rw [get!_left a b (0 + 3) (by omega)])
  rw [h] at this
  rw [Nat.sub_zero]
  exact this
theorem high_of {a b : ByteArray} (h : (rd (a ++ b) 0).2 = a.size) (hx : 128 ≤ (a.get! 0).toNat) (h0 : 0 < a.size) : ∀ y ∈ a.data.toList, 128 ≤ y.toNat := by
  have e : (a ++ b).data.toList = a.data.toList ++ b.data.toList := by simp
  have hd : a.data.toList = a.get! 0 :: a.data.toList.drop 1 := by
    have := drop_at a 0 h0
    rwa [List.drop_zero] at this
  rw [rd_list, List.drop_zero, e, hd, List.cons_append] at h
  have g := rdL_take_high (a.get! 0) (a.data.toList.drop 1 ++ b.data.toList) hx (by omega)
  rw [h, ← List.cons_append, ← hd, List.take_append_of_le_length (by simp), List.take_of_length_le (by simp)] at g
  exact g
theorem fault_none {s : ByteArray} (h : s.size = 0) : faultF s = (0, 0) := faultGo_end s _ 0 (by omega)
theorem fault_cat {a b : ByteArray} (ha : (faultF a).2 = 0) (hb : (faultF b).2 = 0) : (faultF (a ++ b)).2 = 0 := by
  rcases fault_join a b with ⟨h, _⟩ | ⟨h, _⟩ | ⟨_, h, _⟩ | ⟨_, _, h⟩
  · rw [ha] at h; cases h
  · rw [ha] at h; cases h
  · exact absurd hb h
  · rw [h]
theorem fault_tail {a b : ByteArray} (ha : (faultF a).2 = 0) (h : (faultF (a ++ b)).2 = 0) : (faultF b).2 = 0 := by
  rcases fault_join a b with ⟨g, _⟩ | ⟨g, _⟩ | ⟨_, g, e⟩ | ⟨_, e, _⟩
  · rw [ha] at g; cases g
  · rw [ha] at g; cases g
  · rw [e] at h
    exact absurd h g
  · exact e
/-- WHERE LINE ENDS ARE MADE ONE, NO FAULT COMES. -/
theorem lines_fault : ∀ (n : Nat) (s : ByteArray), s.size ≤ n → (faultF s).2 = 0 → (faultF (linesB s)).2 = 0
  | n, s, hn, h => by
    by_cases hz : s.size = 0
    · have := linesB_size s
      rw [fault_none (by omega)]
    cases n with
    | zero => omega
    | succ n =>
    have h0 : 0 < s.size := by omega
    have hf : faultF s = faultAt s 0 := rfl
    have hr : (rd s 0).2 ≠ 0 := by
      intro e
      rw [hf, faultAt_bad s 0 h0 e] at h
      cases h
    have hc : charB (rd s 0).1 = true := by
      cases hc : charB (rd s 0).1
      · rw [hf, faultAt_no s 0 h0 hr hc] at h
        cases h
      · rfl
    obtain ⟨a, b, hab, hsz⟩ : ∃ a b : ByteArray, s = a ++ b ∧ (rd s 0).2 = a.size := by
      have hle := rd_le s 0 h0
      refine ⟨s.extract 0 (rd s 0).2, s.extract (rd s 0).2 s.size, cut_cat s _ (by omega), ?_⟩
      simp
      omega
    subst hab
    have ha0 : 0 < a.size := by omega
    have hra := rd_first ha0 hsz
    have hs := size_cat a b
    have hfa : (faultF a).2 = 0 := by
      show (faultAt a 0).2 = 0
      rw [faultAt_step a 0 ha0 (by rw [hra]; exact hr) (by rw [hra]; exact hc), faultAt_end a _ (by rw [hra]; omega)]
    have hfb := fault_tail hfa h
    have ih := lines_fault n b (by omega) hfb
    have hga : (a ++ b).get! 0 = a.get! 0 := get!_left a b 0 ha0
    by_cases h13 : a.get! 0 = 13
    · have hw : a.size = 1 := by
        rw [← hsz]
        unfold rd
        rw [hga, h13, rd_ascii (by decide)]
      have hl : a.data.toList = [13] := by
        have := drop_at a 0 ha0
        rw [List.drop_zero, h13, List.drop_eq_nil_of_le (by simp; omega)] at this
        exact this
      have hcat : (a ++ b).data.toList = 13 :: b.data.toList := by
        rw [ByteArray.data_append, Array.toList_append, hl]
        rfl
      by_cases h10 : b.data.toList.head? = some 10
      · have : linesB (a ++ b) = linesB b := by
          apply eq_of_list
          rw [linesB_list, linesB_list, hcat, linesL, if_neg (by simp), if_pos h10]
        rw [this]
        exact ih
      · have : linesB (a ++ b) = ⟨#[10]⟩ ++ linesB b := by
          apply eq_of_list
          rw [linesB_list, hcat, linesL, if_neg (by simp), if_neg h10, ByteArray.data_append, Array.toList_append, linesB_list]
          rfl
        rw [this]
        exact fault_cat (by decide) ih
    · have hno : (13 : UInt8) ∉ a.data.toList := by
        intro hm
        by_cases hx : 128 ≤ (a.get! 0).toNat
        · have := high_of hsz hx ha0 13 hm
          revert this
          decide
        · have hw : a.size = 1 := by
            rw [← hsz]
            unfold rd
            rw [hga, rd_ascii (by omega)]
          have := drop_at a 0 ha0
          rw [List.drop_zero, List.drop_eq_nil_of_le (by simp; omega)] at this
          rw [this] at hm
          exact h13 (List.mem_singleton.1 hm).symm
      have hla : linesB a = a := by
        apply eq_of_list
        rw [linesB_list, lines_id _ hno]
      have hlast : a.get! (a.size - 1) ≠ 13 := by
        intro e
        have := get!_of a (a.size - 1) (by omega)
        rw [e] at this
        exact hno (List.mem_of_getElem? this)
      rw [linesB_append a b (fun q => hlast q.2.2.1), hla]
      exact fault_cat hfa ih
theorem bare_cat {b x : ByteArray} {c : UInt8} {l : List UInt8} (hx : x.data.toList = c :: l) (hc : c ∉ ([239, 187, 191] : List UInt8)) : bareB (b ++ x) = bareB b ++ x := by
  have e : (b ++ x).data.toList = b.data.toList ++ c :: l := by rw [ByteArray.data_append, Array.toList_append, hx]
  have hp : Lib.hasPrefix (b ++ x).data.toList [239, 187, 191] = Lib.hasPrefix b.data.toList [239, 187, 191] := by
    unfold Lib.hasPrefix
    rw [e, pfx_join c _ _ l hc]
  unfold bareB
  rw [hp]
  cases h : Lib.hasPrefix b.data.toList [239, 187, 191]
  · rfl
  · rw [if_pos rfl, if_pos rfl]
    have h3 : 3 ≤ b.data.toList.length := (List.isPrefixOf_iff_prefix.1 h).length_le
    have hs := size_cat b x
    apply eq_of_list
    simp only [ByteArray.data_extract, ByteArray.data_append, Array.toList_extract, Array.toList_append, List.extract_eq_take_drop]
    have e1 : b.data.size = b.size := rfl
    have e2 : x.data.size = x.size := rfl
    rw [Array.length_toList] at h3
    rw [List.drop_append_of_le_length (by rw [Array.length_toList]; exact h3), List.take_of_length_le (by rw [List.length_append, List.length_drop, Array.length_toList, Array.length_toList]; omega), List.take_of_length_le (by rw [List.length_drop, Array.length_toList]; omega)]
theorem get_first {x : ByteArray} {c : UInt8} {l : List UInt8} (hx : x.data.toList = c :: l) : x.get! 0 = c := by
  have hz : 0 < x.size := by
    have := congrArg List.length hx
    rw [Array.length_toList, List.length_cons] at this
    show 0 < x.data.size
    omega
  have h1 := get!_of x 0 hz
  rw [hx] at h1
  exact (Option.some.inj h1).symm
theorem text_cat {b x : ByteArray} {c : UInt8} {l : List UInt8} (hx : x.data.toList = c :: l) (hc : c ∉ ([239, 187, 191, 10] : List UInt8)) : textF (b ++ x) = textF b ++ linesB x := by
  rw [text_bare, text_bare, bare_cat hx (fun h => hc (List.mem_append_left [10] h)), linesB_append]
  rintro ⟨_, _, _, g⟩
  rw [get_first hx] at g
  subst g
  exact hc (by simp)
/-- Signs that begin nothing. -/
structure Odd (o : ByteArray) : Prop where
  lt : Lt o
  no13 : (13 : UInt8) ∉ o.data.toList
  fault : (faultF o).2 = 0
theorem bars_text {b o rest : ByteArray} (ho : Odd o) : textF (b ++ (o ++ rest)) = textF b ++ (o ++ linesB rest) := by
  obtain ⟨l, hl⟩ := ho.lt
  have e : (o ++ rest).data.toList = 60 :: (l ++ rest.data.toList) := by rw [ByteArray.data_append, Array.toList_append, hl]; rfl
  rw [text_cat e (by decide), linesB_append o rest, show linesB o = o from eq_of_list (by rw [linesB_list, lines_id _ ho.no13])]
  rintro ⟨_, _, g, _⟩
  have hz := ho.lt.size
  have := get!_of o (o.size - 1) (by omega)
  rw [g] at this
  exact ho.no13 (List.mem_of_getElem? this)
theorem all_ok2 {s : ByteArray} {l : List (Nat × Tok)} (h : allF s = .ok l) : s.size ≤ 65536 ∧ (faultF (textF s)).2 = 0 ∧ toksF (textF s) = .ok l := by
  unfold allF at h
  split at h
  · cases h
  · split at h
    · cases h
    · rename_i h1 h2
      exact ⟨by omega, by omega, h⟩
/-- SIGNS THAT BEGIN NOTHING BAR A TEXT IN WHICH THEY STAND BEHIND TOKENS. -/
theorem bars_all {b o rest : ByteArray} {l : List (Nat × Tok)} {want : Nat} (hb : allF b = .ok l) (ho : Odd o) (hr : (faultF rest).2 = 0) (hz : (b ++ (o ++ rest)).size ≤ 65536)
    (hw : tokF (textF b ++ (o ++ linesB rest)) (textF b).size = .error want) : allF (b ++ (o ++ rest)) = .error ((textF b).size, want) := by
  obtain ⟨h1, h2, h3⟩ := all_ok2 hb
  have hlt : Lt (o ++ linesB rest) := by
    obtain ⟨q, hq⟩ := ho.lt
    exact ⟨q ++ (linesB rest).data.toList, by rw [ByteArray.data_append, Array.toList_append, hq]; rfl⟩
  have hs := size_cat (textF b) (o ++ linesB rest)
  have hz2 := hlt.size
  unfold allF
  rw [if_neg (by omega), bars_text ho, if_neg (by rw [fault_cat h2 (fault_cat ho.fault (lines_fault _ _ (Nat.le_refl _) hr))]; simp), toksF_join hlt h3]
  obtain ⟨f, hf⟩ : ∃ f, (textF b ++ (o ++ linesB rest)).size = f + 1 := ⟨(textF b ++ (o ++ linesB rest)).size - 1, by omega⟩
  rw [hf, toksGo, if_pos (by omega), hw]
theorem sees_at (t r : ByteArray) (s : List UInt8) : seesB (t ++ r) t.size s = s.isPrefixOf r.data.toList := by
  unfold seesB Lib.hasPrefix
  have := drop_right t r 0
  rw [Nat.add_zero, List.drop_zero] at this
  rw [this]
theorem opens_at (t r : ByteArray) (h : ([60, 63, 120, 109, 108] : List UInt8).isPrefixOf r.data.toList = false) : opensB (t ++ r) t.size = false := by
  unfold opensB
  by_cases hz : t.size = 0
  · have e := sees_at t r [60, 63, 120, 109, 108]
    rw [hz, h] at e
    rw [e]
    simp
  · rw [decide_eq_false hz]
    rfl
def oddB (w : Nat) : ByteArray := match w % 4 with
  | 0 => ⟨#[60, 33, 68, 79, 67, 84, 89, 80, 69]⟩
  | 1 => ⟨#[60, 33, 69, 76, 69, 77, 69, 78, 84]⟩
  | 2 => ⟨#[60, 33, 91, 73, 78, 67, 76, 85, 68, 69, 91]⟩
  | _ => ⟨#[60, 32]⟩
def wantB (w : Nat) : Nat := if w % 4 = 0 then 25 else 23
theorem odd_all : ∀ w, w < 4 → Odd (oddB w)
  | 0, _ => ⟨⟨_, rfl⟩, by decide, by decide⟩
  | 1, _ => ⟨⟨_, rfl⟩, by decide, by decide⟩
  | 2, _ => ⟨⟨_, rfl⟩, by decide, by decide⟩
  | 3, _ => ⟨⟨_, rfl⟩, by decide, by decide⟩
  | n + 4, h => absurd h (by omega)
theorem odd_list (w : Nat) (R : ByteArray) : (oddB w ++ R).data.toList = (oddB w).data.toList ++ R.data.toList := by rw [ByteArray.data_append, Array.toList_append]
theorem odd_tok (t R : ByteArray) : ∀ w, w < 4 → tokF (t ++ (oddB w ++ R)) t.size = .error (wantB w)
  | 0, _ => by
    have hl : (oddB 0 ++ R).data.toList = [60, 33, 68, 79, 67, 84, 89, 80, 69] ++ R.data.toList := odd_list 0 R
    unfold tokF
    rw [opens_at _ _ (by rw [hl]; rfl)]
    simp only [sees_at, hl]
    rfl
  | 1, _ => by
    have hl : (oddB 1 ++ R).data.toList = [60, 33, 69, 76, 69, 77, 69, 78, 84] ++ R.data.toList := odd_list 1 R
    unfold tokF
    rw [opens_at _ _ (by rw [hl]; rfl)]
    simp only [sees_at, hl]
    rfl
  | 2, _ => by
    have hl : (oddB 2 ++ R).data.toList = [60, 33, 91, 73, 78, 67, 76, 85, 68, 69, 91] ++ R.data.toList := odd_list 2 R
    unfold tokF
    rw [opens_at _ _ (by rw [hl]; rfl)]
    simp only [sees_at, hl]
    rfl
  | 3, _ => by
    have hl : (oddB 3 ++ R).data.toList = [60, 32] ++ R.data.toList := odd_list 3 R
    have hz : 2 ≤ (oddB 3 ++ R).size := by
      rw [size_cat]
      show 2 ≤ 2 + R.size
      omega
    have hs := size_cat t (oddB 3 ++ R)
    have h1 : (t ++ (oddB 3 ++ R)).get! (t.size + 1) = 32 := by
      rw [get!_right]
      have := get!_of (oddB 3 ++ R) 1 (by omega)
      rw [hl] at this
      exact (Option.some.inj this).symm
    have hn : (nextF (t ++ (oddB 3 ++ R)) (t.size + 1)).1 = 32 := by
      unfold nextF rd
      rw [h1, rd_ascii (by decide)]
      rfl
    have hq : qualF (t ++ (oddB 3 ++ R)) (t.size + 1) = .error 23 := by
      unfold qualF nameF
      rw [hn, if_neg]
      rintro ⟨_, _, g⟩
      rcases g with g | g
      · cases g
      · revert g
        decide
    unfold tokF
    rw [opens_at _ _ (by rw [hl]; rfl)]
    simp only [sees_at, hl]
    unfold tagF
    rw [hq]
    rfl
  | n + 4, h => absurd h (by omega)
/-- What is no char bars all. -/
theorem nul_all {b : ByteArray} {l : List (Nat × Tok)} (hb : allF b = .ok l) (hz : b.size < 65536) : ∃ k, allF (b ++ ⟨#[0]⟩) = .error (k, 21) := by
  obtain ⟨h1, h2, h3⟩ := all_ok2 hb
  have ht : textF (b ++ ⟨#[0]⟩) = textF b ++ ⟨#[0]⟩ := text_cat (x := ⟨#[0]⟩) (c := 0) (l := []) rfl (by decide)
  have hs := size_cat b ⟨#[0]⟩
  have h1 : (⟨#[0]⟩ : ByteArray).size = 1 := rfl
  have hf : (faultF (textF b ++ ⟨#[0]⟩)).2 = 21 := by
    rcases fault_join (textF b) ⟨#[0]⟩ with ⟨g, _⟩ | ⟨g, _⟩ | ⟨_, g, e⟩ | ⟨_, e, _⟩
    · rw [h2] at g; cases g
    · rw [h2] at g; cases g
    · rw [e]
      show (faultF ⟨#[0]⟩).2 = 21
      decide
    · exact absurd e (by decide)
  refine ⟨(faultF (textF b ++ ⟨#[0]⟩)).1, ?_⟩
  unfold allF
  rw [if_neg (by omega), ht, if_pos (by rw [hf]; decide), ← hf]
end Go.Proofs.YtcfecnleibeegaaDoor
