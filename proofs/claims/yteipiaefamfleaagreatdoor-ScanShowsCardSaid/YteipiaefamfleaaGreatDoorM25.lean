/- Proved here: plain facts: a definition of a type, and other signs that begin nothing, bar a text in which they stand behind tokens; what is no char bars all; no walk. | Proved here: plain facts: what the scanner reads at a place hangs on what stands from there on alone; no walk. | Proved here: plain facts: more white space within a lone tag, and about its equals, changes nothing of what it says; no walk. | Proved here: plain facts on values written for single quotes, each byte that means something as a number of three digits: they are read back; no program is named. | Proved here: plain facts on how Go lays a number as UTF-8: what it lays for a character is read as it; a name with a part behind it. No program is named. -/
import Derived.Test.YteipiaefamfleaaGreatDoorM24
import Derived.Test.YteipiaefamfleaaGreatDoorM1
import Derived.Test.YteipiaefamfleaaGreatDoorM19
namespace Go.Proofs.YteipiaefamfleaaGreatDoor
open Go.RowKit

theorem rdN_exact (n x0 x1 x2 x3 y1 y2 y3 : Nat) (h0 : x0 < 256) (h : (rdN n x0 x1 x2 x3).2 ≠ 0)
    (e1 : 2 ≤ (rdN n x0 x1 x2 x3).2 → y1 = x1) (e2 : 3 ≤ (rdN n x0 x1 x2 x3).2 → y2 = x2) (e3 : 4 ≤ (rdN n x0 x1 x2 x3).2 → y3 = x3) : rdN (rdN n x0 x1 x2 x3).2 x0 y1 y2 y3 = rdN n x0 x1 x2 x3 := by
  by_cases a : x0 < 128
  · rw [rd_ascii a, rd_ascii a]
  by_cases a2 : x0 < 192 ∨ 248 ≤ x0
  · exact absurd (by rw [rd_none (by omega) h0]) h
  by_cases a3 : x0 < 224
  · by_cases g : n < 2 ∨ x1 < 128 ∨ 191 < x1 ∨ 64 * (x0 - 192) + (x1 - 128) < 128
    · exact absurd (by rw [rd2_no (by omega) g]) h
    · have e := rd2_yes (n := n) (x0 := x0) (x1 := x1) (x2 := x2) (x3 := x3) (by omega) (by omega) (by omega) (by omega) (by omega)
      rw [e] at e1 ⊢
      obtain rfl := e1 (by simp)
      show rdN 2 _ _ _ _ = _
      rw [rd2_yes (by omega) (by omega) (by omega) (by omega) (by omega)]
  by_cases a4 : x0 < 240
  · by_cases g : n < 3 ∨ x1 < 128 ∨ 191 < x1 ∨ x2 < 128 ∨ 191 < x2 ∨ v3 x0 x1 x2 < 2048 ∨ (55296 ≤ v3 x0 x1 x2 ∧ v3 x0 x1 x2 ≤ 57343)
    · exact absurd (by rw [rd3_no (by omega) g]) h
    · have e := rd3_yes (n := n) (x0 := x0) (x1 := x1) (x2 := x2) (x3 := x3) (by omega) (by omega) (by omega) (by omega) (by omega) (by omega) (by omega) (by omega)
      rw [e] at e1 e2 ⊢
      obtain rfl := e1 (by simp)
      obtain rfl := e2 (by simp)
      show rdN 3 _ _ _ _ = _
      rw [rd3_yes (by omega) (by omega) (by omega) (by omega) (by omega) (by omega) (by omega) (by omega)]
  · by_cases g : n < 4 ∨ x1 < 128 ∨ 191 < x1 ∨ x2 < 128 ∨ 191 < x2 ∨ x3 < 128 ∨ 191 < x3 ∨ v4 x0 x1 x2 x3 < 65536 ∨ 1114111 < v4 x0 x1 x2 x3
    · exact absurd (by rw [rd4_no (by omega) g]) h
    · have e := rd4_yes (n := n) (x0 := x0) (x1 := x1) (x2 := x2) (x3 := x3) (by omega) (by omega) (by omega) (by omega) (by omega) (by omega) (by omega) (by omega) (by omega) (by omega)
      rw [e] at e1 e2 e3 ⊢
      obtain rfl := e1 (by simp)
      obtain rfl := e2 (by simp)
      obtain rfl := e3 (by simp)
      show rdN 4 _ _ _ _ = _
      rw [rd4_yes (by omega) (by omega) (by omega) (by omega) (by omega) (by omega) (by omega) (by omega) (by omega) (by omega)]
theorem cut_cat (s : ByteArray) (w : Nat) (_h : w ≤ s.size) : s = s.extract 0 w ++ s.extract w s.size := by
  apply eq_of_list
  have hl : s.data.toList.length = s.size := by simp
  simp only [ByteArray.data_extract, ByteArray.data_append, Array.toList_extract, Array.toList_append, List.extract_eq_take_drop, List.drop_zero, Nat.sub_zero]
  rw [List.take_of_length_le (l := List.drop w s.data.toList) (by simp), List.take_append_drop]
theorem rd_first {a b : ByteArray} (h0 : 0 < a.size) (h : (rd (a ++ b) 0).2 = a.size) : rd a 0 = rd (a ++ b) 0 := by
  unfold rd at h ⊢
  rw [Nat.sub_zero] at h ⊢
  rw [get!_left a b 0 h0] at h ⊢
  have := rdN_exact ((a ++ b).size) (a.get! 0).toNat ((a ++ b).get! (0 + 1)).toNat ((a ++ b).get! (0 + 2)).toNat ((a ++ b).get! (0 + 3)).toNat (a.get! (0 + 1)).toNat (a.get! (0 + 2)).toNat (a.get! (0 + 3)).toNat (a.get! 0).toNat_lt (by omega)
    (fun q => by rw [get!_left a b (0 + 1) (by omega)]) (fun q => by rw [get!_left a b (0 + 2) (by omega)]) (fun q => by rw [get!_left a b (0 + 3) (by omega)])
  rw [h] at this
  rw [Nat.sub_zero]
  exact this
theorem high_of {a b : ByteArray} (h : (rd (a ++ b) 0).2 = a.size) (hx : 128 ≤ (a.get! 0).toNat) (h0 : 0 < a.size) : ∀ y ∈ a.data.toList, 128 ≤ y.toNat := by
  have e : (a ++ b).data.toList = a.data.toList ++ b.data.toList := by simp
  have hd : a.data.toList = a.get! 0 :: a.data.toList.drop 1 := by
    have := drop_at a 0 h0
    rwa [List.drop_zero] at this
  rw [rd_list, List.drop_zero, e, hd, List.cons_append] at h
  have g := rdL_take_high (a.get! 0) (a.data.toList.drop 1 ++ b.data.toList) hx (by omega)
  rw [h, ← List.cons_append, ← hd, List.take_append_of_le_length (by simp), List.take_of_length_le (by simp)] at g
  exact g
theorem fault_none {s : ByteArray} (h : s.size = 0) : faultF s = (0, 0) := faultGo_end s _ 0 (by omega)
theorem fault_cat {a b : ByteArray} (ha : (faultF a).2 = 0) (hb : (faultF b).2 = 0) : (faultF (a ++ b)).2 = 0 := by
  rcases fault_join a b with ⟨h, _⟩ | ⟨h, _⟩ | ⟨_, h, _⟩ | ⟨_, _, h⟩
  · rw [ha] at h; cases h
  · rw [ha] at h; cases h
  · exact absurd hb h
  · rw [h]
theorem fault_tail {a b : ByteArray} (ha : (faultF a).2 = 0) (h : (faultF (a ++ b)).2 = 0) : (faultF b).2 = 0 := by
  rcases fault_join a b with ⟨g, _⟩ | ⟨g, _⟩ | ⟨_, g, e⟩ | ⟨_, e, _⟩
  · rw [ha] at g; cases g
  · rw [ha] at g; cases g
  · rw [e] at h
    exact absurd h g
  · exact e
/-- WHERE LINE ENDS ARE MADE ONE, NO FAULT COMES. -/
theorem lines_fault : ∀ (n : Nat) (s : ByteArray), s.size ≤ n → (faultF s).2 = 0 → (faultF (linesB s)).2 = 0
  | n, s, hn, h => by
    by_cases hz : s.size = 0
    · have := linesB_size s
      rw [fault_none (by omega)]
    cases n with
    | zero => omega
    | succ n =>
    have h0 : 0 < s.size := by omega
    have hf : faultF s = faultAt s 0 := rfl
    have hr : (rd s 0).2 ≠ 0 := by
      intro e
      rw [hf, faultAt_bad s 0 h0 e] at h
      cases h
    have hc : charB (rd s 0).1 = true := by
      cases hc : charB (rd s 0).1
      · rw [hf, faultAt_no s 0 h0 hr hc] at h
        cases h
      · rfl
    obtain ⟨a, b, hab, hsz⟩ : ∃ a b : ByteArray, s = a ++ b ∧ (rd s 0).2 = a.size := by
      have hle := rd_le s 0 h0
      refine ⟨s.extract 0 (rd s 0).2, s.extract (rd s 0).2 s.size, cut_cat s _ (by omega), ?_⟩
      simp
      omega
    subst hab
    have ha0 : 0 < a.size := by omega
    have hra := rd_first ha0 hsz
    have hs := size_cat a b
    have hfa : (faultF a).2 = 0 := by
      show (faultAt a 0).2 = 0
      rw [faultAt_step a 0 ha0 (by rw [hra]; exact hr) (by rw [hra]; exact hc), faultAt_end a _ (by rw [hra]; omega)]
    have hfb := fault_tail hfa h
    have ih := lines_fault n b (by omega) hfb
    have hga : (a ++ b).get! 0 = a.get! 0 := get!_left a b 0 ha0
    by_cases h13 : a.get! 0 = 13
    · have hw : a.size = 1 := by
        rw [← hsz]
        unfold rd
        rw [hga, h13, rd_ascii (by decide)]
      have hl : a.data.toList = [13] := by
        have := drop_at a 0 ha0
        rw [List.drop_zero, h13, List.drop_eq_nil_of_le (by simp; omega)] at this
        exact this
      have hcat : (a ++ b).data.toList = 13 :: b.data.toList := by
        rw [ByteArray.data_append, Array.toList_append, hl]
        rfl
      by_cases h10 : b.data.toList.head? = some 10
      · have : linesB (a ++ b) = linesB b := by
          apply eq_of_list
          rw [linesB_list, linesB_list, hcat, linesL, if_neg (by simp), if_pos h10]
        rw [this]
        exact ih
      · have : linesB (a ++ b) = ⟨#[10]⟩ ++ linesB b := by
          apply eq_of_list
          rw [linesB_list, hcat, linesL, if_neg (by simp), if_neg h10, ByteArray.data_append, Array.toList_append, linesB_list]
          rfl
        rw [this]
        exact fault_cat (by decide) ih
    · have hno : (13 : UInt8) ∉ a.data.toList := by
        intro hm
        by_cases hx : 128 ≤ (a.get! 0).toNat
        · have := high_of hsz hx ha0 13 hm
          revert this
          decide
        · have hw : a.size = 1 := by
            rw [← hsz]
            unfold rd
            rw [hga, rd_ascii (by omega)]
          have := drop_at a 0 ha0
          rw [List.drop_zero, List.drop_eq_nil_of_le (by simp; omega)] at this
          rw [this] at hm
          exact h13 (List.mem_singleton.1 hm).symm
      have hla : linesB a = a := by
        apply eq_of_list
        rw [linesB_list, lines_id _ hno]
      have hlast : a.get! (a.size - 1) ≠ 13 := by
        intro e
        have := get!_of a (a.size - 1) (by omega)
        rw [e] at this
        exact hno (List.mem_of_getElem? this)
      rw [linesB_append a b (fun q => hlast q.2.2.1), hla]
      exact fault_cat hfa ih
theorem bare_cat {b x : ByteArray} {c : UInt8} {l : List UInt8} (hx : x.data.toList = c :: l) (hc : c ∉ ([239, 187, 191] : List UInt8)) : bareB (b ++ x) = bareB b ++ x := by
  have e : (b ++ x).data.toList = b.data.toList ++ c :: l := by rw [ByteArray.data_append, Array.toList_append, hx]
  have hp : Lib.hasPrefix (b ++ x).data.toList [239, 187, 191] = Lib.hasPrefix b.data.toList [239, 187, 191] := by
    unfold Lib.hasPrefix
    rw [e, pfx_join c _ _ l hc]
  unfold bareB
  rw [hp]
  cases h : Lib.hasPrefix b.data.toList [239, 187, 191]
  · rfl
  · rw [if_pos rfl, if_pos rfl]
    have h3 : 3 ≤ b.data.toList.length := (List.isPrefixOf_iff_prefix.1 h).length_le
    have hs := size_cat b x
    apply eq_of_list
    simp only [ByteArray.data_extract, ByteArray.data_append, Array.toList_extract, Array.toList_append, List.extract_eq_take_drop]
    have e1 : b.data.size = b.size := rfl
    have e2 : x.data.size = x.size := rfl
    rw [Array.length_toList] at h3
    rw [List.drop_append_of_le_length (by rw [Array.length_toList]; exact h3), List.take_of_length_le (by rw [List.length_append, List.length_drop, Array.length_toList, Array.length_toList]; omega), List.take_of_length_le (by rw [List.length_drop, Array.length_toList]; omega)]
theorem get_first {x : ByteArray} {c : UInt8} {l : List UInt8} (hx : x.data.toList = c :: l) : x.get! 0 = c := by
  have hz : 0 < x.size := by
    have := congrArg List.length hx
    rw [Array.length_toList, List.length_cons] at this
    show 0 < x.data.size
    omega
  have h1 := get!_of x 0 hz
  rw [hx] at h1
  exact (Option.some.inj h1).symm
theorem text_cat {b x : ByteArray} {c : UInt8} {l : List UInt8} (hx : x.data.toList = c :: l) (hc : c ∉ ([239, 187, 191, 10] : List UInt8)) : textF (b ++ x) = textF b ++ linesB x := by
  rw [text_bare, text_bare, bare_cat hx (fun h => hc (List.mem_append_left [10] h)), linesB_append]
  rintro ⟨_, _, _, g⟩
  rw [get_first hx] at g
  subst g
  exact hc (by simp)
/-- Signs that begin nothing. -/
structure Odd (o : ByteArray) : Prop where
  lt : Lt o
  no13 : (13 : UInt8) ∉ o.data.toList
  fault : (faultF o).2 = 0
theorem bars_text {b o rest : ByteArray} (ho : Odd o) : textF (b ++ (o ++ rest)) = textF b ++ (o ++ linesB rest) := by
  obtain ⟨l, hl⟩ := ho.lt
  have e : (o ++ rest).data.toList = 60 :: (l ++ rest.data.toList) := by rw [ByteArray.data_append, Array.toList_append, hl]; rfl
  rw [text_cat e (by decide), linesB_append o rest, show linesB o = o from eq_of_list (by rw [linesB_list, lines_id _ ho.no13])]
  rintro ⟨_, _, g, _⟩
  have hz := ho.lt.size
  have := get!_of o (o.size - 1) (by omega)
  rw [g] at this
  exact ho.no13 (List.mem_of_getElem? this)
theorem all_ok2 {s : ByteArray} {l : List (Nat × Tok)} (h : allF s = .ok l) : s.size ≤ 65536 ∧ (faultF (textF s)).2 = 0 ∧ toksF (textF s) = .ok l := by
  unfold allF at h
  split at h
  · cases h
  · split at h
    · cases h
    · rename_i h1 h2
      exact ⟨by omega, by omega, h⟩
/-- SIGNS THAT BEGIN NOTHING BAR A TEXT IN WHICH THEY STAND BEHIND TOKENS. -/
theorem bars_all {b o rest : ByteArray} {l : List (Nat × Tok)} {want : Nat} (hb : allF b = .ok l) (ho : Odd o) (hr : (faultF rest).2 = 0) (hz : (b ++ (o ++ rest)).size ≤ 65536)
    (hw : tokF (textF b ++ (o ++ linesB rest)) (textF b).size = .error want) : allF (b ++ (o ++ rest)) = .error ((textF b).size, want) := by
  obtain ⟨h1, h2, h3⟩ := all_ok2 hb
  have hlt : Lt (o ++ linesB rest) := by
    obtain ⟨q, hq⟩ := ho.lt
    exact ⟨q ++ (linesB rest).data.toList, by rw [ByteArray.data_append, Array.toList_append, hq]; rfl⟩
  have hs := size_cat (textF b) (o ++ linesB rest)
  have hz2 := hlt.size
  unfold allF
  rw [if_neg (by omega), bars_text ho, if_neg (by rw [fault_cat h2 (fault_cat ho.fault (lines_fault _ _ (Nat.le_refl _) hr))]; simp), toksF_join hlt h3]
  obtain ⟨f, hf⟩ : ∃ f, (textF b ++ (o ++ linesB rest)).size = f + 1 := ⟨(textF b ++ (o ++ linesB rest)).size - 1, by omega⟩
  rw [hf, toksGo, if_pos (by omega), hw]
theorem sees_at (t r : ByteArray) (s : List UInt8) : seesB (t ++ r) t.size s = s.isPrefixOf r.data.toList := by
  unfold seesB Lib.hasPrefix
  have := drop_right t r 0
  rw [Nat.add_zero, List.drop_zero] at this
  rw [this]
theorem opens_at (t r : ByteArray) (h : ([60, 63, 120, 109, 108] : List UInt8).isPrefixOf r.data.toList = false) : opensB (t ++ r) t.size = false := by
  unfold opensB
  by_cases hz : t.size = 0
  · have e := sees_at t r [60, 63, 120, 109, 108]
    rw [hz, h] at e
    rw [e]
    simp
  · rw [decide_eq_false hz]
    rfl
def oddB (w : Nat) : ByteArray := match w % 4 with
  | 0 => ⟨#[60, 33, 68, 79, 67, 84, 89, 80, 69]⟩
  | 1 => ⟨#[60, 33, 69, 76, 69, 77, 69, 78, 84]⟩
  | 2 => ⟨#[60, 33, 91, 73, 78, 67, 76, 85, 68, 69, 91]⟩
  | _ => ⟨#[60, 32]⟩
def wantB (w : Nat) : Nat := if w % 4 = 0 then 25 else 23
theorem odd_all : ∀ w, w < 4 → Odd (oddB w)
  | 0, _ => ⟨⟨_, rfl⟩, by decide, by decide⟩
  | 1, _ => ⟨⟨_, rfl⟩, by decide, by decide⟩
  | 2, _ => ⟨⟨_, rfl⟩, by decide, by decide⟩
  | 3, _ => ⟨⟨_, rfl⟩, by decide, by decide⟩
  | n + 4, h => absurd h (by omega)
theorem odd_list (w : Nat) (R : ByteArray) : (oddB w ++ R).data.toList = (oddB w).data.toList ++ R.data.toList := by rw [ByteArray.data_append, Array.toList_append]
theorem odd_tok (t R : ByteArray) : ∀ w, w < 4 → tokF (t ++ (oddB w ++ R)) t.size = .error (wantB w)
  | 0, _ => by
    have hl : (oddB 0 ++ R).data.toList = [60, 33, 68, 79, 67, 84, 89, 80, 69] ++ R.data.toList := odd_list 0 R
    unfold tokF
    rw [opens_at _ _ (by rw [hl]; rfl)]
    simp only [sees_at, hl]
    rfl
  | 1, _ => by
    have hl : (oddB 1 ++ R).data.toList = [60, 33, 69, 76, 69, 77, 69, 78, 84] ++ R.data.toList := odd_list 1 R
    unfold tokF
    rw [opens_at _ _ (by rw [hl]; rfl)]
    simp only [sees_at, hl]
    rfl
  | 2, _ => by
    have hl : (oddB 2 ++ R).data.toList = [60, 33, 91, 73, 78, 67, 76, 85, 68, 69, 91] ++ R.data.toList := odd_list 2 R
    unfold tokF
    rw [opens_at _ _ (by rw [hl]; rfl)]
    simp only [sees_at, hl]
    rfl
  | 3, _ => by
    have hl : (oddB 3 ++ R).data.toList = [60, 32] ++ R.data.toList := odd_list 3 R
    have hz : 2 ≤ (oddB 3 ++ R).size := by
      rw [size_cat]
      show 2 ≤ 2 + R.size
      omega
    have hs := size_cat t (oddB 3 ++ R)
    have h1 : (t ++ (oddB 3 ++ R)).get! (t.size + 1) = 32 := by
      rw [get!_right]
      have := get!_of (oddB 3 ++ R) 1 (by omega)
      rw [hl] at this
      exact (Option.some.inj this).symm
    have hn : (nextF (t ++ (oddB 3 ++ R)) (t.size + 1)).1 = 32 := by
      unfold nextF rd
      rw [h1, rd_ascii (by decide)]
      rfl
    have hq : qualF (t ++ (oddB 3 ++ R)) (t.size + 1) = .error 23 := by
      unfold qualF nameF
      rw [hn, if_neg]
      rintro ⟨_, _, g⟩
      rcases g with g | g
      · cases g
      · revert g
        decide
    unfold tokF
    rw [opens_at _ _ (by rw [hl]; rfl)]
    simp only [sees_at, hl]
    unfold tagF
    rw [hq]
    rfl
  | n + 4, h => absurd h (by omega)
/-- What is no char bars all. -/
theorem nul_all {b : ByteArray} {l : List (Nat × Tok)} (hb : allF b = .ok l) (hz : b.size < 65536) : ∃ k, allF (b ++ ⟨#[0]⟩) = .error (k, 21) := by
  obtain ⟨h1, h2, h3⟩ := all_ok2 hb
  have ht : textF (b ++ ⟨#[0]⟩) = textF b ++ ⟨#[0]⟩ := text_cat (x := ⟨#[0]⟩) (c := 0) (l := []) rfl (by decide)
  have hs := size_cat b ⟨#[0]⟩
  have h1 : (⟨#[0]⟩ : ByteArray).size = 1 := rfl
  have hf : (faultF (textF b ++ ⟨#[0]⟩)).2 = 21 := by
    rcases fault_join (textF b) ⟨#[0]⟩ with ⟨g, _⟩ | ⟨g, _⟩ | ⟨_, g, e⟩ | ⟨_, e, _⟩
    · rw [h2] at g; cases g
    · rw [h2] at g; cases g
    · rw [e]
      show (faultF ⟨#[0]⟩).2 = 21
      decide
    · exact absurd e (by decide)
  refine ⟨(faultF (textF b ++ ⟨#[0]⟩)).1, ?_⟩
  unfold allF
  rw [if_neg (by omega), ht, if_pos (by rw [hf]; decide), ← hf]
end Go.Proofs.YteipiaefamfleaaGreatDoor
namespace Go.Proofs.YteipiaefamfleaaGreatDoor
open Go.RowKit

/-- From the place k on just these bytes stand. -/
def From (t : ByteArray) (k : Nat) (l : List UInt8) : Prop := k ≤ t.size ∧ t.data.toList.drop k = l
theorem From.len {t : ByteArray} {k : Nat} {l : List UInt8} (h : From t k l) : t.size = k + l.length := by
  have h1 := congrArg List.length h.2
  rw [List.length_drop, Array.length_toList] at h1
  have e : t.data.size = t.size := rfl
  have := h.1
  omega
theorem From.tail {t : ByteArray} {k : Nat} {a l : List UInt8} (h : From t k (a ++ l)) : From t (k + a.length) l := by
  have h1 := h.len
  rw [List.length_append] at h1
  refine ⟨by omega, ?_⟩
  rw [← List.drop_drop, h.2, List.drop_left]
theorem From.next {t : ByteArray} {k : Nat} {c : UInt8} {l : List UInt8} (h : From t k (c :: l)) : From t (k + 1) l := From.tail (a := [c]) h
theorem From.sees {t : ByteArray} {k : Nat} {l : List UInt8} (h : From t k l) (s : List UInt8) : seesB t k s = s.isPrefixOf l := by
  unfold seesB Lib.hasPrefix
  rw [h.2]
theorem tw_stop (g : List UInt8) (c : UInt8) (l : List UInt8) (hg : ∀ y ∈ g, isB y = true) (hc : isB c = false) : (g ++ c :: l).takeWhile isB = g := by
  induction g with
  | nil => simp [hc]
  | cons a g ih =>
    rw [List.cons_append, List.takeWhile_cons, if_pos (hg a (List.mem_cons_self ..)), ih (fun y hy => hg y (List.mem_cons_of_mem _ hy))]
theorem From.white {t : ByteArray} {k : Nat} {g l : List UInt8} {c : UInt8} (h : From t k (g ++ c :: l)) (hg : ∀ y ∈ g, isB y = true) (hc : isB c = false) : whiteTo t k = k + g.length := by
  unfold whiteTo
  rw [h.2, tw_stop g c l hg hc]
theorem From.white0 {t : ByteArray} {k : Nat} {l : List UInt8} {c : UInt8} (h : From t k (c :: l)) (hc : isB c = false) : whiteTo t k = k :=
  From.white (g := []) h (fun y hy => by cases hy) hc
theorem From.get {t : ByteArray} {k : Nat} {c : UInt8} {l : List UInt8} (h : From t k (c :: l)) : k < t.size ∧ t.get! k = c := by
  have h1 := h.len
  rw [List.length_cons] at h1
  have h2 := drop_at t k (by omega)
  rw [h.2] at h2
  injection h2 with h2
  exact ⟨by omega, h2.symm⟩
theorem From.ext {t : ByteArray} {k : Nat} {a l : List UInt8} (h : From t k (a ++ l)) : t.extract k (k + a.length) = ⟨a.toArray⟩ := by
  apply eq_of_list
  simp only [ByteArray.data_extract, Array.toList_extract, List.extract_eq_take_drop]
  rw [h.2, show k + a.length - k = a.length by omega, List.take_left]
theorem From.find {t : ByteArray} {k i : Nat} {L s : List UInt8} (h : From t k L) (hi : i ≤ L.length) (h1 : s.isPrefixOf (L.drop i) = true) (h2 : ∀ j, j < i → s.isPrefixOf (L.drop j) = false) : findF t k s = some (k + i) := by
  have hl := h.len
  have go : ∀ j, seesB t (k + j) s = s.isPrefixOf (L.drop j) := by
    intro j
    unfold seesB Lib.hasPrefix
    rw [← List.drop_drop, h.2]
  refine (find_iff h.1).2 ⟨by omega, by omega, by rw [go]; exact h1, fun j hj hlt => ?_⟩
  have := go (j - k)
  rw [show k + (j - k) = j by omega] at this
  rw [this]
  exact h2 _ (by omega)
theorem From.find1 {t : ByteArray} {k : Nat} {a l : List UInt8} {c : UInt8} (h : From t k (a ++ c :: l)) (ha : c ∉ a) : findF t k [c] = some (k + a.length) := by
  refine h.find (by simp) (by rw [List.drop_left]; simp [List.isPrefixOf]) (fun j hj => ?_)
  rw [List.drop_append_of_le_length (by omega), List.drop_eq_getElem_cons hj]
  simp only [List.cons_append, List.isPrefixOf, Bool.and_true]
  rw [beq_eq_false_iff_ne]
  intro e
  exact ha (by rw [e]; exact List.getElem_mem hj)

theorem next_shift (a b : ByteArray) (k : Nat) : nextF (a ++ b) (a.size + k) = if (nextF b k).2.2 = 0 then ((nextF b k).1, a.size + (nextF b k).2.1, 0) else nextF b k := by
  unfold nextF
  rw [rd_right]
  by_cases h : (rd b k).2 = 0
  · simp [h]
  · cases hc : charB ((rd b k).1 : Int)
    · simp [h]
    · simp [h]
      omega
theorem goes_shift (a b : ByteArray) (k : Nat) : goesB (a ++ b) (a.size + k) ↔ goesB b k := by
  have hs := size_cat a b
  unfold goesB
  rw [next_shift]
  by_cases h : (nextF b k).2.2 = 0
  · rw [if_pos h]
    constructor
    · rintro ⟨h1, _, h3⟩
      exact ⟨by omega, h, h3⟩
    · rintro ⟨h1, _, h3⟩
      exact ⟨by omega, rfl, h3⟩
  · rw [if_neg h]
    constructor
    · rintro ⟨_, h2, _⟩
      exact absurd h2 h
    · rintro ⟨_, h2, _⟩
      exact absurd h2 h
theorem parts_shift (a b : ByteArray) : ∀ f k, partsGo (a ++ b) f (a.size + k) = a.size + partsGo b f k
  | 0, k => rfl
  | f + 1, k => by
    by_cases h : goesB b k
    · rw [parts_step h, parts_step ((goes_shift a b k).2 h), next_shift, if_pos h.2.1]
      exact parts_shift a b f _
    · rw [parts_stop h, parts_stop (fun q => h ((goes_shift a b k).1 q))]
theorem parts_fuel (t : ByteArray) : ∀ f g k, k ≤ t.size → t.size ≤ k + f → t.size ≤ k + g → partsGo t f k = partsGo t g k
  | 0, g, k, hk, hf, hg => by
    have h : ¬ goesB t k := fun q => by have := q.1; omega
    rw [parts_stop h, parts_stop h]
  | f + 1, g, k, hk, hf, hg => by
    by_cases h : goesB t k
    · have hlt := h.1
      obtain ⟨g', rfl⟩ : ∃ g', g = g' + 1 := ⟨g - 1, by omega⟩
      have hn := next_step h.1 h.2.1
      rw [parts_step h, parts_step h]
      exact parts_fuel t f g' _ hn.2 (by omega) (by omega)
    · rw [parts_stop h, parts_stop h]
theorem ext_right (a b : ByteArray) (k i : Nat) : (a ++ b).extract (a.size + k) (a.size + i) = b.extract k i := by
  apply eq_of_list
  have e : a.data.toList.length = a.size := Array.length_toList
  simp only [ByteArray.data_extract, ByteArray.data_append, Array.toList_extract, Array.toList_append, List.extract_eq_take_drop]
  rw [← List.drop_drop, ← e, List.drop_left, show a.data.toList.length + i - (a.data.toList.length + k) = i - k by omega]
theorem name_shift {b n : ByteArray} (a : ByteArray) {k i : Nat} (h : nameF b k = .ok (n, i)) : nameF (a ++ b) (a.size + k) = .ok (n, a.size + i) := by
  obtain ⟨h1, h2, h3, h4, h5, h6, h7⟩ := name_ok h
  have hs := size_cat a b
  have hp : partsGo (a ++ b) (a ++ b).size (a.size + k) = a.size + i := by rw [parts_shift, parts_fuel b (a ++ b).size b.size k (by omega) (by omega) (by omega), h4]
  unfold nameF
  rw [if_pos ⟨by omega, by rw [next_shift, if_pos h6], by rw [next_shift, if_pos h6]; exact h7⟩, hp, ext_right, h3]
theorem name_unshift {a b n : ByteArray} {k j : Nat} (h : nameF (a ++ b) (a.size + k) = .ok (n, j)) : ∃ i, j = a.size + i ∧ nameF b k = .ok (n, i) := by
  obtain ⟨h1, h2, h3, h4, h5, h6, h7⟩ := name_ok h
  have hs := size_cat a b
  have h6' : (nextF b k).2.2 = 0 := by
    by_cases e : (nextF b k).2.2 = 0
    · exact e
    · rw [next_shift, if_neg e] at h6
      exact absurd h6 e
  rw [next_shift, if_pos h6'] at h7
  rw [parts_shift, parts_fuel b (a ++ b).size b.size k (by omega) (by omega) (by omega)] at h4
  refine ⟨partsGo b b.size k, h4.symm, ?_⟩
  unfold nameF
  rw [if_pos ⟨by omega, h6', h7⟩, h3, ← h4, ext_right]
theorem rd_back (a b : ByteArray) (pos : Nat) (h : (rd (a ++ b) pos).2 ≠ 0) (hfit : pos + (rd (a ++ b) pos).2 ≤ a.size) : rd a pos = rd (a ++ b) pos := by
  have g0 : (a ++ b).get! pos = a.get! pos := get!_left a b pos (by omega)
  obtain ⟨W, hW⟩ : ∃ W, rd (a ++ b) pos = W := ⟨_, rfl⟩
  have hW2 := hW
  unfold rd at hW
  rw [g0] at hW
  rw [hW2] at h hfit ⊢
  have e := rdN_exact ((a ++ b).size - pos) (a.get! pos).toNat ((a ++ b).get! (pos + 1)).toNat ((a ++ b).get! (pos + 2)).toNat ((a ++ b).get! (pos + 3)).toNat (a.get! (pos + 1)).toNat (a.get! (pos + 2)).toNat (a.get! (pos + 3)).toNat (a.get! pos).toNat_lt (by rw [hW]; exact h)
    (fun q => by rw [hW] at q; rw [get!_left a b (pos + 1) (by omega)]) (fun q => by rw [hW] at q; rw [get!_left a b (pos + 2) (by omega)]) (fun q => by rw [hW] at q; rw [get!_left a b (pos + 3) (by omega)])
  rw [hW] at e
  unfold rd
  rw [← e]
  refine rdN_stable W.2 (a.size - pos) _ _ _ _ _ _ _ (a.get! pos).toNat_lt (by rw [e]; exact h) (by omega) (fun _ => rfl) (fun _ => rfl) (fun _ => rfl) |>.trans ?_
  rw [e]
theorem next_back (a b : ByteArray) (pos : Nat) (h : (nextF (a ++ b) pos).2.2 = 0) (hfit : (nextF (a ++ b) pos).2.1 ≤ a.size) : nextF a pos = nextF (a ++ b) pos := by
  have hr : (rd (a ++ b) pos).2 ≠ 0 := by
    intro e
    unfold nextF at h
    rw [if_pos e] at h
    cases h
  have hc : charB ((rd (a ++ b) pos).1 : Int) = true := by
    cases hc : charB ((rd (a ++ b) pos).1 : Int)
    · unfold nextF at h
      rw [if_neg hr, hc] at h
      cases h
    · rfl
  have e : nextF (a ++ b) pos = ((rd (a ++ b) pos).1, pos + (rd (a ++ b) pos).2, 0) := by
    unfold nextF
    rw [if_neg hr, hc]
    rfl
  rw [e] at hfit
  unfold nextF
  rw [rd_back a b pos hr hfit]
theorem parts_alone (n r : ByteArray) : ∀ f g k, k ≤ n.size → (n ++ r).size ≤ k + f → n.size ≤ k + g → partsGo (n ++ r) f k = n.size → partsGo n g k = n.size
  | 0, g, k, hk, hf, hg, h => by
    have hs := size_cat n r
    obtain rfl : k = n.size := by omega
    exact parts_stop (fun q => by have := q.1; omega)
  | f + 1, g, k, hk, hf, hg, h => by
    have hs := size_cat n r
    by_cases hlt : k < n.size
    · have hgo : goesB (n ++ r) k := by
        by_cases q : goesB (n ++ r) k
        · exact q
        · rw [parts_stop q] at h
          omega
      have hn := next_step hgo.1 hgo.2.1
      rw [parts_step hgo] at h
      have hle : (nextF (n ++ r) k).2.1 ≤ n.size := by
        have := (parts_bound (n ++ r) f _ hn.2).1
        omega
      have hb := next_back n r k hgo.2.1 hle
      have hgn : goesB n k := ⟨hlt, by rw [hb]; exact hgo.2.1, by rw [hb]; exact hgo.2.2⟩
      obtain ⟨g', rfl⟩ : ∃ g', g = g' + 1 := ⟨g - 1, by omega⟩
      rw [parts_step hgn, hb]
      exact parts_alone n r f g' _ hle (by omega) (by omega) h
    · obtain rfl : k = n.size := by omega
      exact parts_stop (fun q => by have := q.1; omega)
theorem cut_three (t : ByteArray) (k i : Nat) (hk : k ≤ i) (hi : i ≤ t.size) : t = t.extract 0 k ++ (t.extract k i ++ t.extract i t.size) := by
  apply eq_of_list
  have e : t.data.toList.length = t.size := Array.length_toList
  simp only [ByteArray.data_extract, ByteArray.data_append, Array.toList_extract, Array.toList_append, List.extract_eq_take_drop, List.drop_zero, Nat.sub_zero]
  rw [List.take_of_length_le (l := List.drop i t.data.toList) (by rw [List.length_drop]; omega)]
  have : List.drop i t.data.toList = List.drop (i - k) (List.drop k t.data.toList) := by rw [List.drop_drop, show k + (i - k) = i by omega]
  rw [this, List.take_append_drop, List.take_append_drop]
/-- A name that was read is read, alone. -/
theorem name_alone {t n : ByteArray} {k i : Nat} (h : nameF t k = .ok (n, i)) : nameF n 0 = .ok (n, n.size) ∧ i = k + n.size := by
  obtain ⟨h1, h2, h3, _⟩ := name_ok h
  have hk : (t.extract 0 k).size = k := by simp; omega
  have hn : n.size = i - k := by rw [h3]; simp; omega
  have ht := cut_three t k i (by omega) h2
  rw [← h3] at ht
  obtain ⟨r, hr⟩ : ∃ r, t.extract i t.size = r := ⟨_, rfl⟩
  obtain ⟨a, ha⟩ : ∃ a, t.extract 0 k = a := ⟨_, rfl⟩
  rw [hr, ha] at ht
  rw [ha] at hk
  rw [ht, ← hk] at h
  obtain ⟨j, hj, h'⟩ := name_unshift (k := 0) h
  obtain rfl : j = n.size := by omega
  obtain ⟨g1, g2, g3, g4, g5, g6, g7⟩ := name_ok h'
  have hs := size_cat n r
  have hp := parts_alone n r (n ++ r).size n.size 0 (Nat.zero_le _) (by omega) (by omega) g4
  have hgo : goesB (n ++ r) 0 := ⟨g5, g6, g7.imp id start_part⟩
  have hns := next_step g5 g6
  have hle : (nextF (n ++ r) 0).2.1 ≤ n.size := by
    obtain ⟨f, hf⟩ : ∃ f, (n ++ r).size = f + 1 := ⟨(n ++ r).size - 1, by omega⟩
    have h9 := g4
    rw [hf, parts_step hgo] at h9
    have := (parts_bound (n ++ r) f _ hns.2).1
    omega
  have hb := next_back n r 0 g6 hle
  refine ⟨?_, by omega⟩
  unfold nameF
  rw [hb, if_pos ⟨by omega, g6, g7⟩, hp]
  congr 2
  apply eq_of_list
  have e : n.data.toList.length = n.size := Array.length_toList
  simp only [ByteArray.data_extract, Array.toList_extract, List.extract_eq_take_drop, List.drop_zero, Nat.sub_zero]
  rw [List.take_of_length_le (by omega)]
theorem qual_alone {t n : ByteArray} {k i : Nat} (h : qualF t k = .ok (n, i)) : qualF n 0 = .ok (n, n.size) ∧ i = k + n.size := by
  obtain ⟨h1, h2⟩ := qual_ok h
  obtain ⟨h3, h4⟩ := name_alone h1
  refine ⟨?_, h4⟩
  unfold qualF
  rw [h3]
  simp only
  rw [if_pos h2]
theorem name_here {t n : ByteArray} {k : Nat} {c : UInt8} {l : List UInt8} (hn : nameF n 0 = .ok (n, n.size)) (h : From t k (n.data.toList ++ c :: l)) (hc : StopB c) : nameF t k = .ok (n, k + n.size) := by
  have ht : t = t.extract 0 k ++ (n ++ ⟨(c :: l).toArray⟩) := by
    apply eq_of_list
    simp only [ByteArray.data_extract, ByteArray.data_append, Array.toList_extract, Array.toList_append, List.extract_eq_take_drop, List.drop_zero, Nat.sub_zero]
    rw [← h.2, List.take_append_drop]
  have hk : (t.extract 0 k).size = k := by
    have := h.1
    simp
    omega
  have := name_shift (t.extract 0 k) (name_join hc (r := ⟨(c :: l).toArray⟩) ⟨l, rfl⟩ hn)
  rw [← ht, hk, Nat.add_zero] at this
  exact this
theorem qual_here {t n : ByteArray} {k : Nat} {c : UInt8} {l : List UInt8} (hn : qualF n 0 = .ok (n, n.size)) (h : From t k (n.data.toList ++ c :: l)) (hc : StopB c) : qualF t k = .ok (n, k + n.size) := by
  obtain ⟨h1, h2⟩ := qual_ok hn
  unfold qualF
  rw [name_here h1 h hc]
  simp only
  rw [if_pos h2]
/-- What a name begins with. -/
theorem name_first {n : ByteArray} (h : nameF n 0 = .ok (n, n.size)) : ∃ c l, n.data.toList = c :: l ∧ (128 ≤ c.toNat ∨ c.toNat = 58 ∨ startB (c.toNat : Int) = true) := by
  obtain ⟨h1, h2, h3, h4, h5, h6, h7⟩ := name_ok h
  have hd := drop_at n 0 h5
  rw [List.drop_zero] at hd
  refine ⟨n.get! 0, n.data.toList.drop 1, hd, ?_⟩
  by_cases hx : 128 ≤ (n.get! 0).toNat
  · exact .inl hx
  · right
    have e : rd n 0 = ((n.get! 0).toNat, 1) := rd_ascii (by omega)
    unfold nextF at h6 h7
    rw [e] at h6 h7
    simp only at h6 h7
    rw [if_neg (by omega)] at h6 h7
    split at h7
    · exact h7
    · rename_i hc
      rw [if_neg hc] at h6
      cases h6
theorem first_not {c : UInt8} (h : 128 ≤ c.toNat ∨ c.toNat = 58 ∨ startB (c.toNat : Int) = true) (d : UInt8) (h1 : d.toNat < 128) (h2 : d.toNat ≠ 58) (h3 : startB (d.toNat : Int) = false) : c ≠ d := by
  rintro rfl
  rcases h with h | h | h
  · omega
  · exact h2 h
  · rw [h3] at h
    cases h
theorem first_blank {c : UInt8} (h : 128 ≤ c.toNat ∨ c.toNat = 58 ∨ startB (c.toNat : Int) = true) : isB c = false := by
  unfold isB
  have h1 := first_not h 32 (by decide) (by decide) (by decide)
  have h2 := first_not h 9 (by decide) (by decide) (by decide)
  have h3 := first_not h 10 (by decide) (by decide) (by decide)
  have h4 := first_not h 13 (by decide) (by decide) (by decide)
  simp [h1, h2, h3, h4]
theorem fault_front {c : UInt8} {a r : ByteArray} (hc : c.toNat < 128) (hr : Beg c r) (h : (faultF (a ++ r)).2 = 0) : (faultF a).2 = 0 := by
  have hs := size_cat a r
  have go : ∀ f pos, a.size ≤ pos + f → pos ≤ a.size → (faultAt (a ++ r) pos).2 = 0 → (faultAt a pos).2 = 0 := by
    intro f
    induction f with
    | zero =>
      intro pos h1 h2 _
      rw [faultAt_end a pos (by omega)]
    | succ f ih =>
      intro pos h1 h2 h3
      by_cases hlt : pos < a.size
      · by_cases h0 : (rd a pos).2 = 0
        · rw [faultAt_bad (a ++ r) pos (by omega) (rd_join0 hc hr hlt h0)] at h3
          cases h3
        · have e := rd_left a r pos hlt h0
          cases hch : charB (rd a pos).1
          · rw [faultAt_no (a ++ r) pos (by omega) (by rw [e]; exact h0) (by rw [e]; exact hch)] at h3
            cases h3
          · rw [faultAt_step (a ++ r) pos (by omega) (by rw [e]; exact h0) (by rw [e]; exact hch), e] at h3
            rw [faultAt_step a pos hlt h0 hch]
            have := rd_le a pos hlt
            exact ih _ (by omega) (by omega) h3
      · rw [faultAt_end a pos hlt]
  exact go a.size 0 (by omega) (Nat.zero_le _) h
end Go.Proofs.YteipiaefamfleaaGreatDoor
namespace Go.Proofs.YteipiaefamfleaaGreatDoor
open Go.RowKit

theorem lines_cons {c : UInt8} (l : List UInt8) (h : c ≠ 13) : linesL (c :: l) = c :: linesL l := by rw [linesL, if_pos h]
theorem lines_head (a b : List UInt8) (h : b.head? ≠ some 10) : linesL (a ++ b) = linesL a ++ linesL b := lines_append a b (fun q => h q.2)
theorem lines_keep (a b : List UInt8) (h : (13 : UInt8) ∉ a) : linesL (a ++ b) = a ++ linesL b := by
  rw [lines_append a b, lines_id a h]
  rintro ⟨q, _⟩
  exact h (List.mem_of_mem_getLast? q)
/-- How a tag's pairs grow. -/
theorem tag_pairs {t n : ByteArray} : ∀ f k ps x i, tagGo t n f k ps = .ok (x, i) → ps.length ≤ x.pairs.length ∧ (x.pairs.length = ps.length → x.pairs = ps ∧ ((x.kind = 2) ∨ (x = ⟨4, n, ps, ⟨#[]⟩, 0⟩ ∧ seesB t (whiteTo t k) [47, 62] = true ∧ i = whiteTo t k + 2)))
  | 0, _, _, _, _, h => by cases h
  | f + 1, k, ps, x, i, h => by
    unfold tagGo at h
    split at h
    · injection h with h
      injection h with h1 h2
      subst h1
      exact ⟨Nat.le_refl _, fun _ => ⟨rfl, .inl rfl⟩⟩
    split at h
    · rename_i hs
      injection h with h
      injection h with h1 h2
      subst h1
      exact ⟨Nat.le_refl _, fun _ => ⟨rfl, .inr ⟨rfl, hs, h2.symm⟩⟩⟩
    split at h
    · cases h
    split at h
    · cases h
    rename_i p j hp
    split at h
    · cases h
    have ih := (tag_pairs f j (ps ++ [p]) x i h).1
    rw [List.length_append] at ih
    simp only [List.length_cons, List.length_nil] at ih
    exact ⟨by omega, fun e => by omega⟩
theorem tag_kind {t : ByteArray} {k i : Nat} {x : Tok} (hk : k < t.size) (h : tokF t k = .ok (x, i)) (h4 : x.kind = 4) : tagF t (k + 1) = .ok (x, i) := by
  unfold tokF at h
  split at h
  · rename_i ho
    unfold opensB at ho
    simp only [Bool.and_eq_true, decide_eq_true_eq] at ho
    have := (decl_ok (k := k + 5) (by omega) h).2.2.2
    omega
  split at h
  · unfold commentF at h
    split at h
    · cases h
    split at h
    · injection h with h
      injection h with h1 h2
      subst h1
      cases h4
    · cases h
  split at h
  · unfold dataF at h
    split at h
    · cases h
    injection h with h
    injection h with h1 h2
    subst h1
    cases h4
  split at h
  · cases h
  split at h
  · cases h
  split at h
  · unfold instrF at h
    split at h
    · cases h
    split at h
    · cases h
    split at h
    · cases h
    split at h
    · cases h
    split at h
    · cases h
    injection h with h
    injection h with h1 h2
    subst h1
    cases h4
  split at h
  · unfold closingF at h
    split at h
    · cases h
    split at h
    · injection h with h
      injection h with h1 h2
      subst h1
      cases h4
    · cases h
  split at h
  · exact h
  · unfold charsF at h
    simp only at h
    split at h
    · injection h with h
      injection h with h1 h2
      subst h1
      cases h4
    · cases h
theorem toks_more (t : ByteArray) : ∀ f k l l', toksGo t f k l = .ok l' → l.length ≤ l'.length ∧ (l'.length = l.length → l' = l ∧ (f = 0 ∨ ¬ k < t.size))
  | 0, k, l, l', h => by
    injection h with h
    subst h
    exact ⟨Nat.le_refl _, fun _ => ⟨rfl, .inl rfl⟩⟩
  | f + 1, k, l, l', h => by
    unfold toksGo at h
    split at h
    · split at h
      · cases h
      rename_i x i hx
      have ih := (toks_more t f i _ l' h).1
      rw [List.length_append] at ih
      simp only [List.length_cons, List.length_nil] at ih
      exact ⟨by omega, fun e => by omega⟩
    · rename_i hn
      injection h with h
      subst h
      exact ⟨Nat.le_refl _, fun _ => ⟨rfl, .inr hn⟩⟩
/-- A text of one token. -/
theorem toks_one {t : ByteArray} {y : Nat × Tok} (h : toksF t = .ok [y]) : 0 < t.size ∧ tokF t 0 = .ok (y.2, t.size) ∧ y.1 = 0 := by
  unfold toksF at h
  by_cases hz : 0 < t.size
  · obtain ⟨f, hf⟩ : ∃ f, t.size = f + 1 := ⟨t.size - 1, by omega⟩
    rw [hf, toksGo, if_pos hz] at h
    split at h
    · cases h
    rename_i x i hx
    obtain ⟨_, g⟩ := toks_more t f i _ _ h
    obtain ⟨g1, g2⟩ := g rfl
    have hb := tok_ok hz hx
    have hi : i = t.size := by
      rcases g2 with g2 | g2
      · omega
      · omega
    injection g1 with g1
    subst g1 hi
    exact ⟨hz, hx, rfl⟩
  · obtain h0 : t.size = 0 := by omega
    rw [h0] at h
    injection h with h
    cases h
theorem toks_just {t : ByteArray} {x : Tok} (hz : 0 < t.size) (h : tokF t 0 = .ok (x, t.size)) : toksF t = .ok [(0, x)] := by
  unfold toksF
  obtain ⟨f, hf⟩ : ∃ f, t.size = f + 1 := ⟨t.size - 1, by omega⟩
  have h2 : toksGo t f t.size [(0, x)] = .ok [(0, x)] := by
    cases f with
    | zero => rfl
    | succ f => rw [toksGo, if_neg (by omega)]
  rw [hf, toksGo, if_pos hz, h]
  exact h2
theorem from_zero (t : ByteArray) : From t 0 t.data.toList := ⟨Nat.zero_le _, by rw [List.drop_zero]⟩
theorem from_at {t : ByteArray} {k i : Nat} {n : ByteArray} (hi : i ≤ t.size) (hk : k ≤ i) (hn : n = t.extract k i) : ∃ l, From t k (n.data.toList ++ l) ∧ From t i l ∧ i = k + n.size := by
  have hz : n.size = i - k := by rw [hn]; simp; omega
  refine ⟨t.data.toList.drop i, ⟨by omega, ?_⟩, ⟨hi, rfl⟩, by omega⟩
  rw [hn]
  simp only [ByteArray.data_extract, Array.toList_extract, List.extract_eq_take_drop]
  have : List.drop i t.data.toList = List.drop (i - k) (List.drop k t.data.toList) := by rw [List.drop_drop, show k + (i - k) = i by omega]
  rw [this, List.take_append_drop]
theorem From.same {t : ByteArray} {k : Nat} {l l' : List UInt8} (h : From t k l) (h' : From t k l') : l = l' := h.2.symm.trans h'.2
/-- An equals with white space about it. -/
theorem equals_here {t : ByteArray} {k : Nat} {g g' l : List UInt8} {c : UInt8} (h : From t k (g ++ 61 :: (g' ++ c :: l))) (hg : ∀ y ∈ g, isB y = true) (hg' : ∀ y ∈ g', isB y = true) (hc : isB c = false) : equalsF t k = some (k + g.length + 1 + g'.length) := by
  have hw := h.white hg (by decide)
  have h2 := h.tail
  have h3 := h2.next
  have hw3 := h3.white hg' hc
  unfold equalsF
  rw [hw, h2.sees, show ([61] : List UInt8).isPrefixOf (61 :: (g' ++ c :: l)) = true by simp [List.isPrefixOf], if_pos rfl, hw3]
theorem quoted_here {t : ByteArray} {k : Nat} {raw l : List UInt8} (h : From t k (39 :: (raw ++ 39 :: l))) (hr : (39 : UInt8) ∉ raw) : quotedF t k = some (⟨raw.toArray⟩, k + 1 + raw.length + 1) := by
  have h2 := h.next
  unfold quotedF
  rw [h.sees, show ([39] : List UInt8).isPrefixOf (39 :: (raw ++ 39 :: l)) = true by simp [List.isPrefixOf], if_pos rfl, h2.find1 hr]
  simp only [Option.map_some]
  rw [h2.ext]
theorem stop_blank {y : UInt8} (h : isB y = true) : StopB y := by
  unfold isB at h
  simp only [Bool.or_eq_true, beq_iff_eq] at h
  rcases h with ((rfl | rfl) | rfl) | rfl <;> exact ⟨by decide, by decide, by decide⟩
theorem stop_gap {g : List UInt8} (c : UInt8) (l : List UInt8) (hg : ∀ y ∈ g, isB y = true) (hc : StopB c) : ∃ d m, g ++ c :: l = d :: m ∧ StopB d := by
  cases g with
  | nil => exact ⟨c, l, rfl, hc⟩
  | cons y g => exact ⟨y, g ++ c :: l, rfl, stop_blank (hg y (List.mem_cons_self ..))⟩
theorem pair_here {t a : ByteArray} {k : Nat} {g2 g3 raw l : List UInt8} (ha : qualF a 0 = .ok (a, a.size)) (h : From t k (a.data.toList ++ (g2 ++ 61 :: (g3 ++ 39 :: (raw ++ 39 :: l)))))
    (w2 : ∀ y ∈ g2, isB y = true) (w3 : ∀ y ∈ g3, isB y = true) (hr : (39 : UInt8) ∉ raw) (hv : (readF (stepV ⟨raw.toArray⟩) (⟨raw.toArray⟩ : ByteArray).size).2.2 = 0) :
    pairF t k = .ok ((a, ⟨(readF (stepV ⟨raw.toArray⟩) (⟨raw.toArray⟩ : ByteArray).size).1.toArray⟩), k + a.size + g2.length + 1 + g3.length + 1 + raw.length + 1) := by
  have hal : a.data.toList.length = a.size := Array.length_toList
  obtain ⟨d, m, hd, hsd⟩ := stop_gap 61 (g3 ++ 39 :: (raw ++ 39 :: l)) w2 ⟨by decide, by decide, by decide⟩
  have h2 := h.tail
  rw [hal] at h2
  have he := equals_here h2 w2 w3 (by decide)
  have h5 := (h2.tail.next).tail
  have hq := quoted_here h5 hr
  rw [hd] at h
  unfold pairF
  rw [qual_here ha h hsd]
  simp only
  rw [he]
  simp only
  rw [hq]
  simp only
  rw [if_pos hv]
/-- What a lone tag of one pair says. -/
theorem lone_here {t name a : ByteArray} {g1 g2 g3 g4 raw : List UInt8} (hn : qualF name 0 = .ok (name, name.size)) (ha : qualF a 0 = .ok (a, a.size))
    (h : t.data.toList = 60 :: (name.data.toList ++ (g1 ++ (a.data.toList ++ (g2 ++ 61 :: (g3 ++ 39 :: (raw ++ 39 :: (g4 ++ [47, 62]))))))))
    (w1 : ∀ y ∈ g1, isB y = true) (w2 : ∀ y ∈ g2, isB y = true) (w3 : ∀ y ∈ g3, isB y = true) (w4 : ∀ y ∈ g4, isB y = true) (hg1 : 0 < g1.length)
    (hr : (39 : UInt8) ∉ raw) (hv : (readF (stepV ⟨raw.toArray⟩) (⟨raw.toArray⟩ : ByteArray).size).2.2 = 0) :
    tokF t 0 = .ok (⟨4, name, [(a, ⟨(readF (stepV ⟨raw.toArray⟩) (⟨raw.toArray⟩ : ByteArray).size).1.toArray⟩)], ⟨#[]⟩, 0⟩, t.size) := by
  have hf0 : From t 0 (60 :: (name.data.toList ++ (g1 ++ (a.data.toList ++ (g2 ++ 61 :: (g3 ++ 39 :: (raw ++ 39 :: (g4 ++ [47, 62])))))))) := by
    rw [← h]
    exact from_zero t
  have hlen := hf0.len
  have hnl : name.data.toList.length = name.size := Array.length_toList
  have hal : a.data.toList.length = a.size := Array.length_toList
  simp only [List.length_cons, List.length_append, List.length_nil, hnl, hal] at hlen
  obtain ⟨c, N, hN, hc⟩ := name_first (qual_ok hn).1
  obtain ⟨e, A, hA, he⟩ := name_first (qual_ok ha).1
  have b33 : ((33 : UInt8) == c) = false := by rw [beq_eq_false_iff_ne]; exact (first_not hc 33 (by decide) (by decide) (by decide)).symm
  have b63 : ((63 : UInt8) == c) = false := by rw [beq_eq_false_iff_ne]; exact (first_not hc 63 (by decide) (by decide) (by decide)).symm
  have b47 : ((47 : UInt8) == c) = false := by rw [beq_eq_false_iff_ne]; exact (first_not hc 47 (by decide) (by decide) (by decide)).symm
  have a62 : ((62 : UInt8) == e) = false := by rw [beq_eq_false_iff_ne]; exact (first_not he 62 (by decide) (by decide) (by decide)).symm
  have a47 : ((47 : UInt8) == e) = false := by rw [beq_eq_false_iff_ne]; exact (first_not he 47 (by decide) (by decide) (by decide)).symm
  have hs : ∀ s, seesB t 0 s = s.isPrefixOf (60 :: c :: (N ++ (g1 ++ (a.data.toList ++ (g2 ++ 61 :: (g3 ++ 39 :: (raw ++ 39 :: (g4 ++ [47, 62])))))))) := by
    intro s
    rw [hf0.sees, hN]
    rfl
  have h1 := hf0.next
  obtain ⟨d, m, hd, hsd⟩ : ∃ d m, g1 ++ (a.data.toList ++ (g2 ++ 61 :: (g3 ++ 39 :: (raw ++ 39 :: (g4 ++ [47, 62]))))) = d :: m ∧ StopB d := by
    cases g1 with
    | nil => cases hg1
    | cons y g => exact ⟨y, _, rfl, stop_blank (w1 y (List.mem_cons_self ..))⟩
  have hq : qualF t (0 + 1) = .ok (name, 0 + 1 + name.size) := by
    rw [hd] at h1
    exact qual_here hn h1 hsd
  have h2 := h1.tail
  rw [hnl] at h2
  have h3 := h2.tail
  have hwa : whiteTo t (0 + 1 + name.size) = 0 + 1 + name.size + g1.length := by
    rw [hA] at h2
    exact h2.white w1 (first_blank he)
  have hp := pair_here ha h3 w2 w3 hr hv
  have h9 : From t (0 + 1 + name.size + g1.length + a.size + g2.length + 1 + g3.length + 1 + raw.length + 1) (g4 ++ [47, 62]) := by
    have q := h3.tail
    rw [hal] at q
    exact ((q.tail.next).tail.next).tail.next
  have hw9 := h9.white w4 (by decide)
  have hs9 := h9.tail
  unfold tokF opensB
  simp only [hs, List.isPrefixOf, b33, b63, b47, BEq.rfl, Bool.and_true, Bool.false_and, Bool.and_false]
  rw [if_neg (by simp), if_neg (by simp), if_neg (by simp), if_neg (by simp), if_neg (by simp), if_neg (by simp), if_neg (by simp), if_pos trivial]
  unfold tagF
  rw [hq]
  simp only
  rw [tagGo, hwa, h3.sees, h3.sees, hA]
  simp only [List.cons_append, List.isPrefixOf, a62, a47, Bool.false_and]
  rw [if_neg (by simp), if_neg (by simp), if_neg (by omega), hp]
  simp only
  rw [if_neg (by simp), List.nil_append]
  obtain ⟨f, hf⟩ : ∃ f, t.size = f + 1 := ⟨t.size - 1, by omega⟩
  rw [hf, tagGo, hw9, hs9.sees, hs9.sees]
  simp only [List.isPrefixOf, BEq.rfl, Bool.true_and]
  rw [if_neg (by decide), if_pos (by decide)]
  congr 2
  omega
/-- White space that the statement puts in: its line ends made one it is white space, and there is some. -/
structure Gap (gap : ByteArray) (g : List UInt8) : Prop where
  lines : linesL gap.data.toList = g
  blank : ∀ y ∈ g, isB y = true
  some : 0 < g.length
  fault : (faultF ⟨g.toArray⟩).2 = 0
theorem tw_le (c : UInt8) (r : List UInt8) (hc : isB c = false) : ∀ l : List UInt8, ((l ++ c :: r).takeWhile isB).length ≤ l.length
  | [] => by simp [hc]
  | a :: l => by
    rw [List.cons_append, List.takeWhile_cons]
    split
    · have := tw_le c r hc l
      simp only [List.length_cons]
      omega
    · simp
theorem mem_from {t : ByteArray} {k : Nat} {l : List UInt8} {c : UInt8} (h : From t k l) (hc : c ∈ l) : c ∈ t.data.toList := by
  rw [← h.2] at hc
  exact List.mem_of_mem_drop hc
/-- MORE WHITE SPACE CHANGES NOTHING. -/
theorem spaces_plain {name a v gap s u : ByteArray} {g : List UInt8} {y : Nat × Tok} {val : ByteArray} (hg : Gap gap g)
    (hs : s.data.toList = 60 :: (name.data.toList ++ 32 :: (a.data.toList ++ 61 :: 39 :: (v.data.toList ++ [39, 47, 62]))))
    (hu : u.data.toList = 239 :: 187 :: 191 :: 60 :: (name.data.toList ++ (gap.data.toList ++ (a.data.toList ++ (gap.data.toList ++ 61 :: (gap.data.toList ++ 39 :: (v.data.toList ++ 39 :: (gap.data.toList ++ [47, 62]))))))))
    (h : allF s = .ok [y]) (h4 : y.2.kind = 4) (hp : y.2.pairs = [(a, val)]) (hn : y.2.name = name) (hz : u.size ≤ 65536) : allF u = .ok [y] := by
  obtain ⟨h1, h2, h3⟩ := all_ok2 h
  have hT : (textF s).data.toList = 60 :: linesL (name.data.toList ++ 32 :: (a.data.toList ++ 61 :: 39 :: (v.data.toList ++ [39, 47, 62]))) := by
    have hb : bareB s = s := by
      unfold bareB
      rw [hs]
      rfl
    rw [text_bare, hb, linesB_list, hs, lines_cons _ (by decide)]
  have n13 : (13 : UInt8) ∉ (textF s).data.toList := by
    rw [text_bare, linesB_list]
    exact lines_no13 _
  obtain ⟨T, hTe⟩ : ∃ T, textF s = T := ⟨_, rfl⟩
  rw [hTe] at hT n13 h2 h3
  obtain ⟨t1, t2, t3⟩ := toks_one h3
  have t4 := tag_kind t1 t2 h4
  have hf0 : From T (0 + 1) (linesL (name.data.toList ++ 32 :: (a.data.toList ++ 61 :: 39 :: (v.data.toList ++ [39, 47, 62])))) := by
    have := from_zero T
    rw [hT] at this
    exact this.next
  unfold tagF at t4
  split at t4
  · cases t4
  rename_i n i hq
  rw [tagGo] at t4
  split at t4
  · injection t4 with t4
    injection t4 with t4 _
    rw [← t4] at hp
    cases hp
  split at t4
  · injection t4 with t4
    injection t4 with t4 _
    rw [← t4] at hp
    cases hp
  split at t4
  · cases t4
  split at t4
  · cases t4
  rename_i p m hpair
  split at t4
  · cases t4
  obtain ⟨_, g0⟩ := tag_pairs _ _ _ _ _ t4
  obtain ⟨g1, g2⟩ := g0 (by rw [hp]; rfl)
  rw [hp] at g1
  injection g1 with g1 _
  subst g1
  rcases g2 with g2 | ⟨gx, _, gi⟩
  · omega
  rw [gx] at hn
  have hn' : n = name := hn
  subst hn'
  obtain ⟨hq0, hqi⟩ := qual_alone hq
  obtain ⟨_, n2, n3, _⟩ := name_ok (qual_ok hq).1
  obtain ⟨l, hl1, hl2, _⟩ := from_at n2 (by omega) n3
  have nn : (13 : UInt8) ∉ n.data.toList := fun q => n13 (mem_from hl1 (List.mem_append_left _ q))
  rw [lines_keep _ _ nn, lines_cons _ (by decide)] at hf0
  have hl : l = 32 :: linesL (a.data.toList ++ 61 :: 39 :: (v.data.toList ++ [39, 47, 62])) := List.append_cancel_left (hl1.same hf0)
  subst hl
  obtain ⟨i', j, raw, p1, p2, p3, p4, p5⟩ := pair_ok hpair
  have p1' : qualF T (whiteTo T i) = .ok (a, i') := p1
  obtain ⟨ha0, hai⟩ := qual_alone p1'
  obtain ⟨_, a2, a3, _⟩ := name_ok (qual_ok p1').1
  obtain ⟨l2, hm1, hm2, _⟩ := from_at a2 (by omega) a3
  have na : (13 : UInt8) ∉ a.data.toList := fun q => n13 (mem_from hm1 (List.mem_append_left _ q))
  have hvl : linesL (v.data.toList ++ [39, 47, 62]) = linesL v.data.toList ++ [39, 47, 62] := lines_head _ _ (by simp)
  rw [lines_keep _ _ na, lines_cons _ (by decide), lines_cons _ (by decide), hvl] at hl2
  obtain ⟨e, A, hA, he⟩ := name_first (qual_ok ha0).1
  have hw : whiteTo T i = i + 1 := by
    have q : From T i ([32] ++ e :: (A ++ 61 :: 39 :: (linesL v.data.toList ++ [39, 47, 62]))) := by
      rw [hA] at hl2
      exact hl2
    exact q.white (by simp [isB]) (first_blank he)
  rw [hw] at hm1 hai
  have hl3 : l2 = 61 :: 39 :: (linesL v.data.toList ++ [39, 47, 62]) := List.append_cancel_left (hm1.same hl2.next)
  subst hl3
  have hj := equals_here (g := []) (g' := []) hm2 (fun y hy => by cases hy) (fun y hy => by cases hy) (by decide)
  rw [hj] at p2
  injection p2 with p2
  have p2' : j = i' + 1 := by rw [← p2]; rfl
  subst p2'
  have h39 := hm2.next
  have hno : (39 : UInt8) ∉ linesL v.data.toList := by
    intro hmem
    obtain ⟨L1, L2, hL, hL1⟩ := List.eq_append_cons_of_mem hmem
    have q : From T (i' + 1) (39 :: (L1 ++ 39 :: (L2 ++ [39, 47, 62]))) := by
      rw [hL, List.append_assoc] at h39
      exact h39
    rw [quoted_here q hL1] at p3
    injection p3 with p3
    injection p3 with _ p3
    have q2 := (q.next.tail).next
    rw [p3] at q2
    have hlen := q2.len
    have hle := tw_le 39 [47, 62] (by decide) L2
    unfold whiteTo at gi
    rw [q2.2] at gi
    simp only [List.length_append, List.length_cons, List.length_nil] at hlen
    omega
  rw [quoted_here h39 hno] at p3
  injection p3 with p3
  injection p3 with p3 p6
  subst p3
  -- the other text
  obtain ⟨U, hUe⟩ : ∃ U, textF u = U := ⟨_, rfl⟩
  have hU : U.data.toList = 60 :: (n.data.toList ++ (g ++ (a.data.toList ++ (g ++ 61 :: (g ++ 39 :: (linesL v.data.toList ++ 39 :: (g ++ [47, 62]))))))) := by
    have hb : (bareB u).data.toList = 60 :: (n.data.toList ++ (gap.data.toList ++ (a.data.toList ++ (gap.data.toList ++ 61 :: (gap.data.toList ++ 39 :: (v.data.toList ++ 39 :: (gap.data.toList ++ [47, 62]))))))) := by
      have hpre : Lib.hasPrefix u.data.toList [239, 187, 191] = true := by
        rw [hu]
        simp [Lib.hasPrefix, List.isPrefixOf]
      unfold bareB
      rw [if_pos hpre]
      simp only [ByteArray.data_extract, Array.toList_extract, List.extract_eq_take_drop]
      have hul := congrArg List.length hu
      rw [Array.length_toList] at hul
      have hue : u.data.size = u.size := rfl
      rw [hu]
      rw [List.take_of_length_le]
      · rfl
      · rw [List.length_drop]
        omega
    have hae : (a.data.toList ++ (gap.data.toList ++ 61 :: (gap.data.toList ++ 39 :: (v.data.toList ++ 39 :: (gap.data.toList ++ [47, 62]))))).head? ≠ some 10 := by
      rw [hA]
      intro q
      injection q with q
      rw [q] at he
      have := first_blank he
      revert this
      decide
    rw [← hUe, text_bare, linesB_list, hb, lines_cons _ (by decide), lines_keep _ _ nn, lines_head _ _ hae, lines_keep _ _ na, lines_head _ (61 :: _) (by simp), lines_cons _ (by decide), lines_head _ (39 :: _) (by simp), lines_cons _ (by decide),
      lines_head _ (39 :: _) (by simp), lines_cons _ (by decide), lines_head _ [47, 62] (by simp), hg.lines]
    rfl
  have hlone := lone_here hq0 ha0 hU hg.blank hg.blank hg.blank hg.blank hg.some hno p4
  have hUz : 0 < U.size := by
    have := congrArg List.length hU
    rw [Array.length_toList, List.length_cons] at this
    show 0 < U.data.size
    omega
  -- faults
  have fT : T = ⟨#[60]⟩ ++ (n ++ (⟨#[32]⟩ ++ (a ++ (⟨#[61, 39]⟩ ++ (⟨(linesL v.data.toList).toArray⟩ ++ ⟨#[39, 47, 62]⟩))))) := by
    apply eq_of_list
    rw [hT, lines_keep _ _ nn, lines_cons _ (by decide), lines_keep _ _ na, lines_cons _ (by decide), lines_cons _ (by decide), hvl]
    simp
  rw [fT] at h2
  have f1 := fault_tail (by decide) h2
  have f2 := fault_front (c := 32) (by decide) ⟨_, by rw [ByteArray.data_append, Array.toList_append]; rfl⟩ f1
  have f3 := fault_tail f2 f1
  have f4 := fault_tail (by decide) f3
  have f5 := fault_front (c := 61) (by decide) ⟨_, by rw [ByteArray.data_append, Array.toList_append]; rfl⟩ f4
  have f6 := fault_tail f5 f4
  have f7 := fault_tail (by decide) f6
  have f8 := fault_front (c := 39) (by decide) ⟨_, rfl⟩ f7
  have fU : U = ⟨#[60]⟩ ++ (n ++ (⟨g.toArray⟩ ++ (a ++ (⟨g.toArray⟩ ++ (⟨#[61]⟩ ++ (⟨g.toArray⟩ ++ (⟨#[39]⟩ ++ (⟨(linesL v.data.toList).toArray⟩ ++ (⟨#[39]⟩ ++ (⟨g.toArray⟩ ++ ⟨#[47, 62]⟩)))))))))) := by
    apply eq_of_list
    rw [hU]
    simp
  have fUz : (faultF U).2 = 0 := by
    rw [fU]
    exact fault_cat (by decide) (fault_cat f2 (fault_cat hg.fault (fault_cat f5 (fault_cat hg.fault (fault_cat (by decide) (fault_cat hg.fault (fault_cat (by decide) (fault_cat f8 (fault_cat (by decide) (fault_cat hg.fault (by decide)))))))))))
  unfold allF
  rw [if_neg (by omega), hUe, if_neg (by rw [fUz]; simp), toks_just hUz hlone]
  congr 2
  obtain ⟨y0, y1⟩ := y
  simp only at gx t3
  have p5' : val = _ := p5
  rw [gx, t3, p5']
  rfl
end Go.Proofs.YteipiaefamfleaaGreatDoor
namespace Go.Proofs.YteipiaefamfleaaGreatDoor
open Go.RowKit

def escA (c : Int) : ByteArray := if c == 38 then ⟨#[38, 35, 48, 51, 56, 59]⟩ else if c == 60 then ⟨#[38, 35, 48, 54, 48, 59]⟩ else if c == 39 then ⟨#[38, 35, 48, 51, 57, 59]⟩ else if c == 9 then ⟨#[38, 35, 48, 48, 57, 59]⟩ else if c == 10 then ⟨#[38, 35, 48, 49, 48, 59]⟩ else if c == 13 then ⟨#[38, 35, 48, 49, 51, 59]⟩ else ⟨#[]⟩
theorem escA_size (c : Int) : (escA c).size ≤ 6 := by
  unfold escA
  repeat' split
  all_goals decide
theorem escA_ok : EscOk escA where
  high c h := by
    unfold escA
    rw [if_neg (by simp; omega), if_neg (by simp; omega), if_neg (by simp; omega), if_neg (by simp; omega), if_neg (by simp; omega), if_neg (by simp; omega)]
  amp c h := by
    revert h
    unfold escA
    repeat' split
    all_goals first | (intro _; exact ⟨_, rfl⟩) | (intro h; exact absurd rfl h)
theorem escA_iff (c : Int) : escA c = ⟨#[]⟩ ↔ (c ≠ 38 ∧ c ≠ 60 ∧ c ≠ 39 ∧ c ≠ 9 ∧ c ≠ 10 ∧ c ≠ 13) := by
  unfold escA
  constructor
  · intro h
    refine ⟨?_, ?_, ?_, ?_, ?_, ?_⟩ <;> rintro rfl <;> revert h <;> decide
  · rintro ⟨h1, h2, h3, h4, h5, h6⟩
    rw [if_neg (by simpa using h1), if_neg (by simpa using h2), if_neg (by simpa using h3), if_neg (by simpa using h4), if_neg (by simpa using h5), if_neg (by simpa using h6)]
theorem exp_three {t : ByteArray} {pos : Nat} {a b c : UInt8} {r : List UInt8} (u v k : Nat) (h : t.data.toList.drop pos = 38 :: 35 :: a :: b :: c :: 59 :: r) (ha : a.toNat = 48 + u) (hu : u ≤ 9) (hb : b.toNat = 48 + v) (hv : v ≤ 9) (hc3 : c.toNat = 48 + k) (hk : k ≤ 9) (hc : charB ((100 * u + 10 * v + k : Nat) : Int) = true) : expF t pos = (((100 * u + 10 * v + k : Nat) : Int), (pos : Int) + 6, 0) := by
  obtain ⟨l0, b0, h1⟩ := by_list h
  obtain ⟨l1, b1, h2⟩ := by_list h1
  obtain ⟨l2, b2, h3⟩ := by_list h2
  obtain ⟨l3, b3, h4⟩ := by_list h3
  obtain ⟨l4, b4, h5⟩ := by_list h4
  obtain ⟨l5, b5, _⟩ := by_list h5
  rw [show ((35 : UInt8).toNat : Int) = 35 from rfl] at b1
  rw [show ((59 : UInt8).toNat : Int) = 59 from rfl] at b5
  simp only [Nat.add_assoc, Nat.reduceAdd] at b2 b3 b4 b5 l2 l3 l4 l5
  have d2 : digZ (by_ t (pos + 2)) = u := by rw [b2, ha]; unfold digZ; rw [if_pos (by omega)]; omega
  have d3 : digZ (by_ t (pos + 3)) = v := by rw [b3, hb]; unfold digZ; rw [if_pos (by omega)]; omega
  have d4 : digZ (by_ t (pos + 4)) = k := by rw [b4, hc3]; unfold digZ; rw [if_pos (by omega)]; omega
  have d5 : ¬ (pos + 5 < t.size ∧ digZ (by_ t (pos + 5)) < ((10 : Nat) : Int)) := by
    rintro ⟨_, e⟩
    rw [b5] at e
    revert e
    decide
  obtain ⟨m, hm⟩ : ∃ m, t.size = m + 3 := ⟨t.size - 3, by omega⟩
  unfold expF
  rw [if_pos ⟨l1, b1⟩]
  unfold numF
  rw [if_neg (by rintro ⟨_, e⟩; rw [b2] at e; omega)]
  have e1 : numGo t 10 t.size (pos + 2) 0 = (100 * u + 10 * v + k, pos + 5) := by
    have : numGo t 10 (m + 1 + 1 + 1) (pos + 2) 0 = (100 * u + 10 * v + k, pos + 5) := by
      rw [numGo_step t 10 (m + 1 + 1) (pos + 2) 0 l2 (by rw [d2]; omega), d2, numGo_step t 10 (m + 1) (pos + 2 + 1) _ l3 (by rw [show pos + 2 + 1 = pos + 3 from rfl, d3]; omega), show pos + 2 + 1 = pos + 3 from rfl, d3, numGo_step t 10 m (pos + 3 + 1) _ l4 (by rw [show pos + 3 + 1 = pos + 4 from rfl, d4]; omega), show pos + 3 + 1 = pos + 4 from rfl, d4, numGo_end _ _ _ _ _ d5]
      simp
      omega
    rw [hm]
    exact this
  rw [e1]
  unfold numOut
  simp only
  rw [if_neg (by rw [b5]; simp; omega), if_pos hc]
  simp only [Prod.mk.injEq, and_true, true_and]
  omega
theorem expA_ref (t : ByteArray) (pos : Nat) (x : UInt8) (r : List UInt8) (h : t.data.toList.drop pos = (escA x.toNat).data.toList ++ r) (hx : escA x.toNat ≠ ⟨#[]⟩) : expF t pos = ((x.toNat : Int), (pos : Int) + ((escA x.toNat).size : Int), 0) := by
  have hc := fun e => hx ((escA_iff (x.toNat : Int)).2 e)
  by_cases h0 : x.toNat = 38
  · obtain rfl : x = 38 := u8_of x 38 h0
    exact exp_three (a := 48) (b := 51) (c := 56) (r := r) 0 3 8 h rfl (by decide) rfl (by decide) rfl (by decide) (by decide)
  by_cases h1 : x.toNat = 60
  · obtain rfl : x = 60 := u8_of x 60 h1
    exact exp_three (a := 48) (b := 54) (c := 48) (r := r) 0 6 0 h rfl (by decide) rfl (by decide) rfl (by decide) (by decide)
  by_cases h2 : x.toNat = 39
  · obtain rfl : x = 39 := u8_of x 39 h2
    exact exp_three (a := 48) (b := 51) (c := 57) (r := r) 0 3 9 h rfl (by decide) rfl (by decide) rfl (by decide) (by decide)
  by_cases h4 : x.toNat = 9
  · obtain rfl : x = 9 := u8_of x 9 h4
    exact exp_three (a := 48) (b := 48) (c := 57) (r := r) 0 0 9 h rfl (by decide) rfl (by decide) rfl (by decide) (by decide)
  by_cases h5 : x.toNat = 10
  · obtain rfl : x = 10 := u8_of x 10 h5
    exact exp_three (a := 48) (b := 49) (c := 48) (r := r) 0 1 0 h rfl (by decide) rfl (by decide) rfl (by decide) (by decide)
  by_cases h3 : x.toNat = 13
  · obtain rfl : x = 13 := u8_of x 13 h3
    exact exp_three (a := 48) (b := 49) (c := 51) (r := r) 0 1 3 h rfl (by decide) rfl (by decide) rfl (by decide) (by decide)
  · exact absurd (by omega) hc
theorem backA : BackOk escA stepV where
  plain t pos x l h hx := by
    obtain ⟨hp, hb, _⟩ := by_list h
    have hn := (escA_iff _).1 hx
    exact (steps_next t pos (by omega) (by omega)).2 (by omega) (by omega) (by omega)
  ref t pos x r h hx := by
    obtain ⟨hp, hb⟩ := esc_amp escA_ok h hx
    rw [(step_amp t pos hp hb).2]
    exact expA_ref t pos x r h hx
  low x hx := by
    have hc := mt (escA_iff (x.toNat : Int)).2 hx
    have : x.toNat = 38 ∨ x.toNat = 60 ∨ x.toNat = 39 ∨ x.toNat = 9 ∨ x.toNat = 10 ∨ x.toNat = 13 := by omega
    rcases this with h | h | h | h | h | h <;> rw [h] <;> decide
/-- A value without faults, written for single quotes, is read as it. -/
theorem apart_back (s : ByteArray) (h : (faultF s).2 = 0) : (readF (stepV (writtenB escA s)) (writtenB escA s).size).1 = s.data.toList ∧ (readF (stepV (writtenB escA s)) (writtenB escA s).size).2.2 = 0 := by
  have := (back_all escA_ok backA s).1 h
  simpa using this
theorem quote_back (s : ByteArray) (h : (faultF s).2 = 0) : (readF (stepV (writtenB escV s)) (writtenB escV s).size).1 = s.data.toList ∧ (readF (stepV (writtenB escV s)) (writtenB escV s).size).2.2 = 0 := by
  have := (back_all escV_ok backV s).1 h
  simpa using this
theorem text_back (s : ByteArray) (h : (faultF s).2 = 0) : (readF (stepT (writtenB escT s)) (writtenB escT s).size).1 = s.data.toList ∧ (readF (stepT (writtenB escT s)) (writtenB escT s).size).2.2 = 0 := by
  have := (back_all escT_ok backT s).1 h
  simpa using this
def oddA (y : UInt8) : Bool := y == 60 || y == 39 || y == 9 || y == 10 || y == 13
theorem oddA_self (x : UInt8) (h : escA x.toNat = ⟨#[]⟩) : oddA x = false := by
  have hn := (escA_iff (x.toNat : Int)).1 h
  unfold oddA
  rw [show (60 : UInt8) = UInt8.ofNat 60 from rfl, show (39 : UInt8) = UInt8.ofNat 39 from rfl, show (9 : UInt8) = UInt8.ofNat 9 from rfl, show (10 : UInt8) = UInt8.ofNat 10 from rfl, show (13 : UInt8) = UInt8.ofNat 13 from rfl, beq_u8 x 60 (by decide), beq_u8 x 39 (by decide), beq_u8 x 9 (by decide), beq_u8 x 10 (by decide), beq_u8 x 13 (by decide)]
  simp [hn]
theorem oddA_esc (c : Int) : ∀ y ∈ (escA c).data.toList, oddA y = false := by
  unfold escA
  repeat' split
  all_goals decide
theorem writtenA_none (l : List UInt8) : ∀ y ∈ writtenL escA l, oddA y = false := written_none oddA oddA_self oddA_esc l
end Go.Proofs.YteipiaefamfleaaGreatDoor
namespace Go.Proofs.YteipiaefamfleaaGreatDoor
open Go.RowKit

/-- The character that Go lays for a number. -/
def encC (r : Int) : Nat := if Utf8.valid r then r.toNat else 65533
theorem encC_bd (r : Int) : encC r ≤ 1114111 ∧ ¬ (55296 ≤ encC r ∧ encC r ≤ 57343) := by
  unfold encC
  split
  · rename_i h
    simp [Utf8.valid] at h
    omega
  · omega
theorem encode_eq (r : Int) : Utf8.encode r = (if encC r < 128 then ⟨#[UInt8.ofNat (encC r)]⟩ else if encC r < 2048 then ⟨#[UInt8.ofNat (192 + encC r / 64), UInt8.ofNat (128 + encC r % 64)]⟩
    else if encC r < 65536 then ⟨#[UInt8.ofNat (224 + encC r / 4096), UInt8.ofNat (128 + encC r / 64 % 64), UInt8.ofNat (128 + encC r % 64)]⟩
    else ⟨#[UInt8.ofNat (240 + encC r / 262144), UInt8.ofNat (128 + encC r / 4096 % 64), UInt8.ofNat (128 + encC r / 64 % 64), UInt8.ofNat (128 + encC r % 64)]⟩) := rfl
theorem ofNat_byte {n : Nat} (h : n < 256) : (UInt8.ofNat n).toNat = n := by
  rw [UInt8.toNat_ofNat']; omega

theorem rd_encode (r : Int) : rd (Utf8.encode r) 0 = (encC r, (Utf8.encode r).size) := by
  obtain ⟨h1, h2⟩ := encC_bd r
  rw [encode_eq]
  generalize encC r = c at *
  unfold rd
  by_cases a : c < 128
  · rw [if_pos a]
    have g0 : (ByteArray.mk #[UInt8.ofNat c]).get! 0 = UInt8.ofNat c := rfl
    rw [g0, rd_ascii (by rw [ofNat_byte (by omega)]; omega), ofNat_byte (by omega)]
    rfl
  rw [if_neg a]
  by_cases a2 : c < 2048
  · rw [if_pos a2]
    have g0 : (ByteArray.mk #[UInt8.ofNat (192 + c / 64), UInt8.ofNat (128 + c % 64)]).get! 0 = UInt8.ofNat (192 + c / 64) := rfl
    have g1 : (ByteArray.mk #[UInt8.ofNat (192 + c / 64), UInt8.ofNat (128 + c % 64)]).get! (0 + 1) = UInt8.ofNat (128 + c % 64) := rfl
    have gz : (ByteArray.mk #[UInt8.ofNat (192 + c / 64), UInt8.ofNat (128 + c % 64)]).size = 2 := rfl
    rw [g0, g1, gz, ofNat_byte (by omega), ofNat_byte (by omega), rd2_yes (by omega) (by omega) (by omega) (by omega) (by omega)]
    exact Prod.ext (by simp only; omega) rfl
  rw [if_neg a2]
  by_cases a3 : c < 65536
  · rw [if_pos a3]
    have g0 : (ByteArray.mk #[UInt8.ofNat (224 + c / 4096), UInt8.ofNat (128 + c / 64 % 64), UInt8.ofNat (128 + c % 64)]).get! 0 = UInt8.ofNat (224 + c / 4096) := rfl
    have g1 : (ByteArray.mk #[UInt8.ofNat (224 + c / 4096), UInt8.ofNat (128 + c / 64 % 64), UInt8.ofNat (128 + c % 64)]).get! (0 + 1) = UInt8.ofNat (128 + c / 64 % 64) := rfl
    have g2 : (ByteArray.mk #[UInt8.ofNat (224 + c / 4096), UInt8.ofNat (128 + c / 64 % 64), UInt8.ofNat (128 + c % 64)]).get! (0 + 2) = UInt8.ofNat (128 + c % 64) := rfl
    have gz : (ByteArray.mk #[UInt8.ofNat (224 + c / 4096), UInt8.ofNat (128 + c / 64 % 64), UInt8.ofNat (128 + c % 64)]).size = 3 := rfl
    have hv : v3 (224 + c / 4096) (128 + c / 64 % 64) (128 + c % 64) = c := by unfold v3; omega
    rw [g0, g1, g2, gz, ofNat_byte (by omega), ofNat_byte (by omega), ofNat_byte (by omega), rd3_yes (by omega) (by omega) (by omega) (by omega) (by omega) (by omega) (by omega) (by omega), hv]
  rw [if_neg a3]
  have g0 : (ByteArray.mk #[UInt8.ofNat (240 + c / 262144), UInt8.ofNat (128 + c / 4096 % 64), UInt8.ofNat (128 + c / 64 % 64), UInt8.ofNat (128 + c % 64)]).get! 0 = UInt8.ofNat (240 + c / 262144) := rfl
  have g1 : (ByteArray.mk #[UInt8.ofNat (240 + c / 262144), UInt8.ofNat (128 + c / 4096 % 64), UInt8.ofNat (128 + c / 64 % 64), UInt8.ofNat (128 + c % 64)]).get! (0 + 1) = UInt8.ofNat (128 + c / 4096 % 64) := rfl
  have g2 : (ByteArray.mk #[UInt8.ofNat (240 + c / 262144), UInt8.ofNat (128 + c / 4096 % 64), UInt8.ofNat (128 + c / 64 % 64), UInt8.ofNat (128 + c % 64)]).get! (0 + 2) = UInt8.ofNat (128 + c / 64 % 64) := rfl
  have g3 : (ByteArray.mk #[UInt8.ofNat (240 + c / 262144), UInt8.ofNat (128 + c / 4096 % 64), UInt8.ofNat (128 + c / 64 % 64), UInt8.ofNat (128 + c % 64)]).get! (0 + 3) = UInt8.ofNat (128 + c % 64) := rfl
  have gz : (ByteArray.mk #[UInt8.ofNat (240 + c / 262144), UInt8.ofNat (128 + c / 4096 % 64), UInt8.ofNat (128 + c / 64 % 64), UInt8.ofNat (128 + c % 64)]).size = 4 := rfl
  have hv : v4 (240 + c / 262144) (128 + c / 4096 % 64) (128 + c / 64 % 64) (128 + c % 64) = c := by unfold v4; omega
  rw [g0, g1, g2, g3, gz, ofNat_byte (by omega), ofNat_byte (by omega), ofNat_byte (by omega), ofNat_byte (by omega), rd4_yes (by omega) (by omega) (by omega) (by omega) (by omega) (by omega) (by omega) (by omega) (by omega) (by omega), hv]

theorem encode_size (r : Int) : 1 ≤ (Utf8.encode r).size ∧ (Utf8.encode r).size ≤ 4 := by
  rw [encode_eq]
  split
  · exact ⟨Nat.le_refl 1, by show 1 ≤ 4; omega⟩
  split
  · exact ⟨by show 1 ≤ 2; omega, by show 2 ≤ 4; omega⟩
  split
  · exact ⟨by show 1 ≤ 3; omega, by show 3 ≤ 4; omega⟩
  · exact ⟨by show 1 ≤ 4; omega, by show 4 ≤ 4; omega⟩

theorem rd_amid (a t : ByteArray) (r : Int) : rd (a ++ Utf8.encode r ++ t) a.size = (encC r, (Utf8.encode r).size) := by
  have hz := encode_size r
  have e0 : rd (a ++ Utf8.encode r) a.size = (encC r, (Utf8.encode r).size) := by
    have := rd_right a (Utf8.encode r) 0
    rw [Nat.add_zero] at this
    rw [this, rd_encode]
  rw [rd_left (a ++ Utf8.encode r) t a.size (by simp; omega) (by rw [e0]; simp only; omega), e0]

theorem char_valid {r : Int} (h : charB r = true) : encC r = r.toNat ∧ 0 ≤ r := by
  unfold charB at h
  rw [decide_eq_true_iff] at h
  have hv : Utf8.valid r = true := by simp [Utf8.valid]; omega
  unfold encC
  rw [if_pos hv]
  exact ⟨rfl, by omega⟩
theorem part_valid {r : Int} (h : partB r = true) : encC r = r.toNat ∧ 0 ≤ r := by
  unfold partB startB at h
  simp only [Bool.or_eq_true, decide_eq_true_eq] at h
  have hv : Utf8.valid r = true := by simp [Utf8.valid]; omega
  unfold encC
  rw [if_pos hv]
  exact ⟨rfl, by omega⟩

theorem nameGo_fuel (s : ByteArray) : ∀ (f g pos : Nat), s.size ≤ pos + f → s.size ≤ pos + g → nameGo s f pos = nameGo s g pos
  | 0, g, pos, hf, _ => by rw [nameGo_end s g pos (by omega)]; rfl
  | f + 1, 0, pos, _, hg => by rw [nameGo_end s (f + 1) pos (by omega)]; rfl
  | f + 1, g + 1, pos, hf, hg => by
    by_cases h : pos < s.size
    · by_cases h0 : (rd s pos).2 = 0 ∨ partB (rd s pos).1 = false ∨ (pos = 0 ∧ startB (rd s pos).1 = false)
      · rw [nameGo_bad s f pos h h0, nameGo_bad s g pos h h0]
      · have h1 : (rd s pos).2 ≠ 0 := fun e => h0 (.inl e)
        have h2 : partB (rd s pos).1 = true := by
          cases e : partB (rd s pos).1
          · exact absurd (.inr (.inl e)) h0
          · rfl
        have h3 : pos = 0 → startB (rd s pos).1 = true := fun e => by
          cases e' : startB (rd s pos).1
          · exact absurd (.inr (.inr ⟨e, e'⟩)) h0
          · rfl
        rw [nameGo_step s f pos h h1 h2 h3, nameGo_step s g pos h h1 h2 h3]
        exact nameGo_fuel s f g _ (by omega) (by omega)
    · rw [nameGo_end s _ pos h, nameGo_end s _ pos h]

/-- A name's characters are read behind more bytes as they were. -/
theorem name_left (p e : ByteArray) : ∀ (f pos m : Nat), p.size ≤ pos + f → pos ≤ p.size → nameGo p f pos = true → (p ++ e).size ≤ pos + m → nameGo (p ++ e) m pos = nameGo (p ++ e) (p ++ e).size p.size
  | 0, pos, m, hf, hp, _, hm => by
    obtain rfl : pos = p.size := by omega
    exact nameGo_fuel (p ++ e) m _ _ hm (by omega)
  | f + 1, pos, m, hf, hp, h, hm => by
    by_cases hlt : pos < p.size
    · by_cases h0 : (rd p pos).2 = 0 ∨ partB (rd p pos).1 = false ∨ (pos = 0 ∧ startB (rd p pos).1 = false)
      · rw [nameGo_bad p f pos hlt h0] at h; cases h
      · have h1 : (rd p pos).2 ≠ 0 := fun e => h0 (.inl e)
        have h2 : partB (rd p pos).1 = true := by
          cases e : partB (rd p pos).1
          · exact absurd (.inr (.inl e)) h0
          · rfl
        have h3 : pos = 0 → startB (rd p pos).1 = true := fun e => by
          cases e' : startB (rd p pos).1
          · exact absurd (.inr (.inr ⟨e, e'⟩)) h0
          · rfl
        rw [nameGo_step p f pos hlt h1 h2 h3] at h
        have er := rd_left p e pos hlt h1
        have hlt' : pos < (p ++ e).size := by simp; omega
        obtain ⟨m', rfl⟩ : ∃ m', m = m' + 1 := ⟨m - 1, by omega⟩
        rw [nameGo_step (p ++ e) m' pos hlt' (by rw [er]; exact h1) (by rw [er]; exact h2) (by rw [er]; exact h3), er]
        exact name_left p e f _ m' (by omega) (rd_le p pos hlt) h (by omega)
    · obtain rfl : pos = p.size := by omega
      exact nameGo_fuel (p ++ e) m _ _ hm (by omega)

theorem name_pos {p : ByteArray} (h : nameB p = true) : 0 < p.size ∧ p.size ≤ 100 ∧ nameGo p p.size 0 = true := by
  unfold nameB at h
  split at h
  · cases h
  · rename_i g
    exact ⟨by omega, by omega, h⟩

/-- A NAME WITH A PART BEHIND IT IS ONE AS LONG AS IT IS SHORT ENOUGH. -/
theorem name_snoc (p : ByteArray) (r : Int) (h : nameB p = true) (hr : partB r = true) : nameB (p ++ Utf8.encode r) = decide (p.size + (Utf8.encode r).size ≤ 100) := by
  obtain ⟨h0, h1, h2⟩ := name_pos h
  obtain ⟨e1, e2⟩ := part_valid hr
  have hz := encode_size r
  have hs : (p ++ Utf8.encode r).size = p.size + (Utf8.encode r).size := by simp
  unfold nameB
  by_cases g : p.size + (Utf8.encode r).size ≤ 100
  · rw [if_neg (by omega), decide_eq_true g, name_left p (Utf8.encode r) p.size 0 _ (by omega) (Nat.zero_le _) h2 (by omega)]
    have e0 : rd (p ++ Utf8.encode r) p.size = (encC r, (Utf8.encode r).size) := by
      have := rd_right p (Utf8.encode r) 0
      rw [Nat.add_zero] at this
      rw [this, rd_encode]
    have ec : ((encC r : Nat) : Int) = r := by rw [e1]; omega
    obtain ⟨m, hm⟩ : ∃ m, (p ++ Utf8.encode r).size = m + 1 := ⟨(p ++ Utf8.encode r).size - 1, by omega⟩
    rw [hm, nameGo_step (p ++ Utf8.encode r) m p.size (by omega) (by rw [e0]; simp only; omega) (by rw [e0]; show partB ((encC r : Nat) : Int) = true; rw [ec]; exact hr) (fun e => by omega), e0]
    exact nameGo_end _ _ _ (by simp only; omega)
  · rw [if_pos (by omega), decide_eq_false g]
end Go.Proofs.YteipiaefamfleaaGreatDoor
