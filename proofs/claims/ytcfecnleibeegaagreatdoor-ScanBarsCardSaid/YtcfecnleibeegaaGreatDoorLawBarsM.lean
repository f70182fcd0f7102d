/- Proved here: 'append' of a text's bytes to a row of bytes that the call itself made. | Proved here: what scan.All answers of any bytes, in one form; of too many bytes, too. | Proved here: plain facts: a definition of a type, and other signs that begin nothing, bar a text in which they stand behind tokens; what is no char bars all; no walk. | Proved here: the statement ScanBars, walked: it answers true of every two slices of bytes and every number, in every world that holds what the scanner leans on. -/
import Derived.Test.YtcfecnleibeegaaGreatDoorOwns2
import Derived.Lib.AppendStr
import Derived.Test.YtcfecnleibeegaaGreatDoorAwake3
import Derived.Test.YtcfecnleibeegaaGreatDoorStandsKit
import Derived.Test.YtcfecnleibeegaaGreatDoorJoinScan
import Derived.Test.YtcfecnleibeegaaGreatDoorM1
import Derived.Test.YtcfecnleibeegaaGreatDoorPlain
import Derived.Test.YtcfecnleibeegaaGreatDoorRefText
import Derived.Test.YtcfecnleibeegaaGreatDoorRefFault
import Derived.BigGuardPart
namespace Go.Proofs.YtcfecnleibeegaaGreatDoor
open Go.RowKit

theorem append_str {w0 w : World} {g cap : Nat} {s t : ByteArray} (h : Owns w w0.heap.size g cap s) (hb : Below w0.heap.size w0 w) (hsz : s.size + t.size ≤ 140737488355328) :
    ∃ g' cap' w', (∀ ty, (Builtin.append_ #[22, 9] ty #[.slice (some ⟨g, 0, none⟩) s.size cap, .string t]).run Tryz.prog w = .ok (.slice (some ⟨g', 0, none⟩) (s.size + t.size) cap') w') ∧
      Owns w' w0.heap.size g' cap' (s ++ t) ∧ Below w0.heap.size w0 w' := by
  obtain ⟨i0, hi, hz0, hz1, hz2⟩ := info_parts infoByte
  have hst : (s ++ t).size = s.size + t.size := by simp
  obtain ⟨v', w', hrun, hown, hgrow, hne⟩ := Lib.run_append_own_string (P := Tryz.prog) (w := w) w0.heap.size 22 9 22 5 i0 Tryz.underlying22 Tryz.underlying9 hi hz0 hz1 hz2 _ s.size (bytesV s) h.1 t (by unfold maxLen; omega) hsz hb.size
  have hv : v' ≠ .slice none 0 0 := fun e => by
    have := hne.1 e
    cases this.1
  have e2 : bytesV s ++ Lib.strCells t = bytesV (s ++ t) := by
    rw [bytesV_append]
    rfl
  rw [e2, ← hst] at hown
  obtain ⟨g', cap', rfl, ho⟩ := Owns.of_row hown hv
  rw [hst] at hrun
  exact ⟨g', cap', w', fun ty => by rw [← hrun]; rfl, ho, hb.grown hgrow hb.size (fun k e => by
    have e2 : g = k := by simpa [Value.ownBlock] using e
    have := h.2.1
    omega)⟩
theorem wpList_append_eq2 {P : Program} {w : World} {ops : Array Oper} {rest : List Oper} {o : Oper} {a : Act} {Q : Exit → Act → World → Prop} (hgd : o.guard = none) (s x : Operand) (t u' : TypeId)
    (ho : o.op = .call { callee := .builtin .append, args := #[s, x], argTypes := #[t, u'] }) (v u v' : Value) (w' : World) (hs : a.eval s = v) (hx : a.eval x = u)
    (hrun : ∀ ty, (Builtin.append_ #[t, u'] ty #[v, u]).run P w = .ok v' w')
    (h : wpList P ops Q rest (a.put o.dst v') w') : wpList P ops Q (o :: rest) a w := by
  refine wpList_plain hgd fun K hK => ?_
  have hr := hrun o.type
  unfold Oper.wp
  simp [execOp, ho, resolve, invoke, builtin, hs, hx, hr, Result.andThen]
  exact hK _ _ h
end Go.Proofs.YtcfecnleibeegaaGreatDoor
namespace Go.Proofs.YtcfecnleibeegaaGreatDoor
open Go.RowKit

theorem bcell {W w1 : World} (hb : Below W.heap.size W w1) : (∀ b o, b < W.heap.size → w1.cell? ⟨b, o, none⟩ = W.cell? ⟨b, o, none⟩) ∧ (∀ b o, b < W.heap.size → w1.frozen? ⟨b, o, none⟩ = W.frozen? ⟨b, o, none⟩) :=
  ⟨fun b o h => hb.cell (p := ⟨b, o, none⟩) h, fun b o h => hb.frozen (p := ⟨b, o, none⟩) h⟩
set_option maxHeartbeats 1000000 in
/-- Of more bytes than may be the scanner tells that. -/
theorem all_long (p : Option Addr) (s : ByteArray) (c : Nat) (w : World) (hs : 65536 < s.size) (hz : s.size ≤ 1000000000000000) :
    Calls Tryz.prog 10 #[.slice p s.size c] w fun e w' => e = .returned (.tuple #[.slice none 0 0, .int .i64 0, .int .i64 6]) ∧ w = w' := by
  have g : (65536 : Int) < (s.size : Int) := by omega
  go_enter Tryz.func10, Tryz.ntmps10
  go_wp2_with (fail)
  go_ret3
  exact ⟨rfl, rfl⟩
/-- What All answers of any bytes, in one form: what stands in the slice, and how it ends. -/
def AllIs (w : World) (s : ByteArray) (q : Option Addr) (n c : Nat) (_k e0 : Int) (w' : World) : Prop := (∃ l, allF s = .ok l ∧ e0 = 0 ∧ n = l.length ∧ TokL w' w.heap.size (.slice q n c) l) ∨ (e0 ≠ 0 ∧ ∃ k' e', allF s = .error (k', e'))
theorem all_is (p : Option Addr) (s : ByteArray) (c : Nat) (w : World) (hs : s.size ≤ 1000000000000000) (hc : s.size ≤ c) (hp : HoldsB w p s) (hL : Leans w) :
    Calls Tryz.prog 10 #[.slice p s.size c] w fun e w' => ∃ q n c k e0, e = .returned (.tuple #[.slice q n c, .int .i64 k, .int .i64 e0]) ∧ AllIs w s q n c k e0 w' ∧ Below w.heap.size w w' := by
  by_cases hb : s.size ≤ 140737488355328
  · refine (all_any p s c w hb hc hp hL.tabs hL.named hL.max hL.fold).mono ?_
    rintro e w' ⟨h, hbe⟩
    cases hr : allF s with
    | error ke =>
      obtain ⟨k, e0⟩ := ke
      rw [hr] at h
      have := (all_err hr).1
      exact ⟨none, 0, 0, k, e0, h, .inr ⟨by omega, k, e0, hr⟩, hbe⟩
    | ok l =>
      rw [hr] at h
      obtain ⟨v, h1, h2⟩ := h
      obtain ⟨q, c2, hv⟩ := h2.form2
      subst hv
      exact ⟨q, _, c2, 0, 0, h1, .inl ⟨l, hr, rfl, rfl, h2⟩, hbe⟩
  · refine (all_long p s c w (by omega) hs).mono ?_
    rintro e w' ⟨h, hw⟩
    subst hw
    exact ⟨none, 0, 0, 0, 6, h, .inr ⟨by omega, 0, 6, by unfold allF; rw [if_pos (by omega)]⟩, Below.refl _ _⟩
end Go.Proofs.YtcfecnleibeegaaGreatDoor
namespace Go.Proofs.YtcfecnleibeegaaGreatDoor
open Go.RowKit

theorem rdN_exact (n x0 x1 x2 x3 y1 y2 y3 : Nat) (h0 : x0 < 256) (h : (rdN n x0 x1 x2 x3).2 ≠ 0)
    (e1 : 2 ≤ (rdN n x0 x1 x2 x3).2 → y1 = x1) (e2 : 3 ≤ (rdN n x0 x1 x2 x3).2 → y2 = x2) (e3 : 4 ≤ (rdN n x0 x1 x2 x3).2 → y3 = x3) : rdN (rdN n x0 x1 x2 x3).2 x0 y1 y2 y3 = rdN n x0 x1 x2 x3 := by
  by_cases a : x0 < 128
  · rw [rd_ascii a, rd_ascii a]
  by_cases a2 : x0 < 192 ∨ 248 ≤ x0
  · exact absurd (by rw [rd_none (by omega) h0]) h
  by_cases a3 : x0 < 224
  · by_cases g : n < 2 ∨ x1 < 128 ∨ 191 < x1 ∨ 64 * (x0 - 192) + (x1 - 128) < 128
    · exact absurd (by rw [rd2_no (by omega) g]) h
    · have e := rd2_yes (n := n) (x0 := x0) (x1 := x1) (x2 := x2) (x3 := x3) (by omega) (by omega) (by omega) (by omega) (by omega)
      rw [e] at e1 ⊢
      obtain rfl := e1 (by simp)
      show rdN 2 _ _ _ _ = _
      rw [rd2_yes (by omega) (by omega) (by omega) (by omega) (by omega)]
  by_cases a4 : x0 < 240
  · by_cases g : n < 3 ∨ x1 < 128 ∨ 191 < x1 ∨ x2 < 128 ∨ 191 < x2 ∨ v3 x0 x1 x2 < 2048 ∨ (55296 ≤ v3 x0 x1 x2 ∧ v3 x0 x1 x2 ≤ 57343)
    · exact absurd (by rw [rd3_no (by omega) g]) h
    · have e := rd3_yes (n := n) (x0 := x0) (x1 := x1) (x2 := x2) (x3 := x3) (by omega) (by omega) (by omega) (by omega) (by omega) (by omega) (by omega) (by omega)
      rw [e] at e1 e2 ⊢
      obtain rfl := e1 (by simp)
      obtain rfl := e2 (by simp)
      show rdN 3 _ _ _ _ = _
      rw [rd3_yes (by omega) (by omega) (by omega) (by omega) (by omega) (by omega) (by omega) (by omega)]
  · by_cases g : n < 4 ∨ x1 < 128 ∨ 191 < x1 ∨ x2 < 128 ∨ 191 < x2 ∨ x3 < 128 ∨ 191 < x3 ∨ v4 x0 x1 x2 x3 < 65536 ∨ 1114111 < v4 x0 x1 x2 x3
    · exact absurd (by rw [rd4_no (by omega) g]) h
    · have e := rd4_yes (n := n) (x0 := x0) (x1 := x1) (x2 := x2) (x3 := x3) (by omega) (by omega) (by omega) (by omega) (by omega) (by omega) (by omega) (by omega) (by omega) (by omega)
      rw [e] at e1 e2 e3 ⊢
      obtain rfl := e1 (by simp)
      obtain rfl := e2 (by simp)
      obtain rfl := e3 (by simp)
      show rdN 4 _ _ _ _ = _
      rw [rd4_yes (by omega) (by omega) (by omega) (by omega) (by omega) (by omega) (by omega) (by omega) (by omega) (by omega)]
theorem cut_cat (s : ByteArray) (w : Nat) (_h : w ≤ s.size) : s = s.extract 0 w ++ s.extract w s.size := by
  apply eq_of_list
  have hl : s.data.toList.length = s.size := by simp
  simp only [ByteArray.data_extract, ByteArray.data_append, Array.toList_extract, Array.toList_append, List.extract_eq_take_drop, List.drop_zero, Nat.sub_zero]
  rw [List.take_of_length_le (l := List.drop w s.data.toList) (by simp), List.take_append_drop]
theorem rd_first {a b : ByteArray} (h0 : 0 < a.size) (h : (rd (a ++ b) 0).2 = a.size) : rd a 0 = rd (a ++ b) 0 := by
  unfold rd at h ⊢
  rw [Nat.sub_zero] at h ⊢
  rw [get!_left a b 0 h0] at h ⊢
  have := rdN_exact ((a ++ b).size) (a.get! 0).toNat ((a ++ b).get! (0 + 1)).toNat ((a ++ b).get! (0 + 2)).toNat ((a ++ b).get! (0 + 3)).toNat (a.get! (0 + 1)).toNat (a.get! (0 + 2)).toNat (a.get! (0 + 3)).toNat (a.get! 0).toNat_lt (by omega)
    (fun q => by rw [get!_left a b (0 + 1) (by omega)]) (fun q => by rw [get!_left a b (0 + 2) (by omega)]) (fun q => by rw [get!_left a b (0 + 3) (by omega)])
  rw [h] at this
  rw [Nat.sub_zero]
  exact this
theorem high_of {a b : ByteArray} (h : (rd (a ++ b) 0).2 = a.size) (hx : 128 ≤ (a.get! 0).toNat) (h0 : 0 < a.size) : ∀ y ∈ a.data.toList, 128 ≤ y.toNat := by
  have e : (a ++ b).data.toList = a.data.toList ++ b.data.toList := by simp
  have hd : a.data.toList = a.get! 0 :: a.data.toList.drop 1 := by
    have := drop_at a 0 h0
    rwa [List.drop_zero] at this
  rw [rd_list, List.drop_zero, e, hd, List.cons_append] at h
  have g := rdL_take_high (a.get! 0) (a.data.toList.drop 1 ++ b.data.toList) hx (by omega)
  rw [h, ← List.cons_append, ← hd, List.take_append_of_le_length (by simp), List.take_of_length_le (by simp)] at g
  exact g
theorem fault_none {s : ByteArray} (h : s.size = 0) : faultF s = (0, 0) := faultGo_end s _ 0 (by omega)
theorem fault_cat {a b : ByteArray} (ha : (faultF a).2 = 0) (hb : (faultF b).2 = 0) : (faultF (a ++ b)).2 = 0 := by
  rcases fault_join a b with ⟨h, _⟩ | ⟨h, _⟩ | ⟨_, h, _⟩ | ⟨_, _, h⟩
  · rw [ha] at h; cases h
  · rw [ha] at h; cases h
  · exact absurd hb h
  · rw [h]
theorem fault_tail {a b : ByteArray} (ha : (faultF a).2 = 0) (h : (faultF (a ++ b)).2 = 0) : (faultF b).2 = 0 := by
  rcases fault_join a b with ⟨g, _⟩ | ⟨g, _⟩ | ⟨_, g, e⟩ | ⟨_, e, _⟩
  · rw [ha] at g; cases g
  · rw [ha] at g; cases g
  · rw [e] at h
    exact absurd h g
  · exact e
/-- WHERE LINE ENDS ARE MADE ONE, NO FAULT COMES. -/
theorem lines_fault : ∀ (n : Nat) (s : ByteArray), s.size ≤ n → (faultF s).2 = 0 → (faultF (linesB s)).2 = 0
  | n, s, hn, h => by
    by_cases hz : s.size = 0
    · have := linesB_size s
      rw [fault_none (by omega)]
    cases n with
    | zero => omega
    | succ n =>
    have h0 : 0 < s.size := by omega
    have hf : faultF s = faultAt s 0 := rfl
    have hr : (rd s 0).2 ≠ 0 := by
      intro e
      rw [hf, faultAt_bad s 0 h0 e] at h
      cases h
    have hc : charB (rd s 0).1 = true := by
      cases hc : charB (rd s 0).1
      · rw [hf, faultAt_no s 0 h0 hr hc] at h
        cases h
      · rfl
    obtain ⟨a, b, hab, hsz⟩ : ∃ a b : ByteArray, s = a ++ b ∧ (rd s 0).2 = a.size := by
      have hle := rd_le s 0 h0
      refine ⟨s.extract 0 (rd s 0).2, s.extract (rd s 0).2 s.size, cut_cat s _ (by omega), ?_⟩
      simp
      omega
    subst hab
    have ha0 : 0 < a.size := by omega
    have hra := rd_first ha0 hsz
    have hs := size_cat a b
    have hfa : (faultF a).2 = 0 := by
      show (faultAt a 0).2 = 0
      rw [faultAt_step a 0 ha0 (by rw [hra]; exact hr) (by rw [hra]; exact hc), faultAt_end a _ (by rw [hra]; omega)]
    have hfb := fault_tail hfa h
    have ih := lines_fault n b (by omega) hfb
    have hga : (a ++ b).get! 0 = a.get! 0 := get!_left a b 0 ha0
    by_cases h13 : a.get! 0 = 13
    · have hw : a.size = 1 := by
        rw [← hsz]
        unfold rd
        rw [hga, h13, rd_ascii (by decide)]
      have hl : a.data.toList = [13] := by
        have := drop_at a 0 ha0
        rw [List.drop_zero, h13, List.drop_eq_nil_of_le (by simp; omega)] at this
        exact this
      have hcat : (a ++ b).data.toList = 13 :: b.data.toList := by
        rw [ByteArray.data_append, Array.toList_append, hl]
        rfl
      by_cases h10 : b.data.toList.head? = some 10
      · have : linesB (a ++ b) = linesB b := by
          apply eq_of_list
          rw [linesB_list, linesB_list, hcat, linesL, if_neg (by simp), if_pos h10]
        rw [this]
        exact ih
      · have : linesB (a ++ b) = ⟨#[10]⟩ ++ linesB b := by
          apply eq_of_list
          rw [linesB_list, hcat, linesL, if_neg (by simp), if_neg h10, ByteArray.data_append, Array.toList_append, linesB_list]
          rfl
        rw [this]
        exact fault_cat (by decide) ih
    · have hno : (13 : UInt8) ∉ a.data.toList := by
        intro hm
        by_cases hx : 128 ≤ (a.get! 0).toNat
        · have := high_of hsz hx ha0 13 hm
          revert this
          decide
        · have hw : a.size = 1 := by
            rw [← hsz]
            unfold rd
            rw [hga, rd_ascii (by omega)]
          have := drop_at a 0 ha0
          rw [List.drop_zero, List.drop_eq_nil_of_le (by simp; omega)] at this
          rw [this] at hm
          exact h13 (List.mem_singleton.1 hm).symm
      have hla : linesB a = a := by
        apply eq_of_list
        rw [linesB_list, lines_id _ hno]
      have hlast : a.get! (a.size - 1) ≠ 13 := by
        intro e
        have := get!_of a (a.size - 1) (by omega)
        rw [e] at this
        exact hno (List.mem_of_getElem? this)
      rw [linesB_append a b (fun q => hlast q.2.2.1), hla]
      exact fault_cat hfa ih
theorem bare_cat {b x : ByteArray} {c : UInt8} {l : List UInt8} (hx : x.data.toList = c :: l) (hc : c ∉ ([239, 187, 191] : List UInt8)) : bareB (b ++ x) = bareB b ++ x := by
  have e : (b ++ x).data.toList = b.data.toList ++ c :: l := by rw [ByteArray.data_append, Array.toList_append, hx]
  have hp : Lib.hasPrefix (b ++ x).data.toList [239, 187, 191] = Lib.hasPrefix b.data.toList [239, 187, 191] := by
    unfold Lib.hasPrefix
    rw [e, pfx_join c _ _ l hc]
  unfold bareB
  rw [hp]
  cases h : Lib.hasPrefix b.data.toList [239, 187, 191]
  · rfl
  · rw [if_pos rfl, if_pos rfl]
    have h3 : 3 ≤ b.data.toList.length := (List.isPrefixOf_iff_prefix.1 h).length_le
    have hs := size_cat b x
    apply eq_of_list
    simp only [ByteArray.data_extract, ByteArray.data_append, Array.toList_extract, Array.toList_append, List.extract_eq_take_drop]
    have e1 : b.data.size = b.size := rfl
    have e2 : x.data.size = x.size := rfl
    rw [Array.length_toList] at h3
    rw [List.drop_append_of_le_length (by rw [Array.length_toList]; exact h3), List.take_of_length_le (by rw [List.length_append, List.length_drop, Array.length_toList, Array.length_toList]; omega), List.take_of_length_le (by rw [List.length_drop, Array.length_toList]; omega)]
theorem get_first {x : ByteArray} {c : UInt8} {l : List UInt8} (hx : x.data.toList = c :: l) : x.get! 0 = c := by
  have hz : 0 < x.size := by
    have := congrArg List.length hx
    rw [Array.length_toList, List.length_cons] at this
    show 0 < x.data.size
    omega
  have h1 := get!_of x 0 hz
  rw [hx] at h1
  exact (Option.some.inj h1).symm
theorem text_cat {b x : ByteArray} {c : UInt8} {l : List UInt8} (hx : x.data.toList = c :: l) (hc : c ∉ ([239, 187, 191, 10] : List UInt8)) : textF (b ++ x) = textF b ++ linesB x := by
  rw [text_bare, text_bare, bare_cat hx (fun h => hc (List.mem_append_left [10] h)), linesB_append]
  rintro ⟨_, _, _, g⟩
  rw [get_first hx] at g
  subst g
  exact hc (by simp)
/-- Signs that begin nothing. -/
structure Odd (o : ByteArray) : Prop where
  lt : Lt o
  no13 : (13 : UInt8) ∉ o.data.toList
  fault : (faultF o).2 = 0
theorem bars_text {b o rest : ByteArray} (ho : Odd o) : textF (b ++ (o ++ rest)) = textF b ++ (o ++ linesB rest) := by
  obtain ⟨l, hl⟩ := ho.lt
  have e : (o ++ rest).data.toList = 60 :: (l ++ rest.data.toList) := by rw [ByteArray.data_append, Array.toList_append, hl]; rfl
  rw [text_cat e (by decide), linesB_append o rest, show linesB o = o from eq_of_list (by rw [linesB_list, lines_id _ ho.no13])]
  rintro ⟨_, _, g, _⟩
  have hz := ho.lt.size
  have := get!_of o (o.size - 1) (by omega)
  rw [g] at this
  exact ho.no13 (List.mem_of_getElem? this)
theorem all_ok2 {s : ByteArray} {l : List (Nat × Tok)} (h : allF s = .ok l) : s.size ≤ 65536 ∧ (faultF (textF s)).2 = 0 ∧ toksF (textF s) = .ok l := by
  unfold allF at h
  split at h
  · cases h
  · split at h
    · cases h
    · rename_i h1 h2
      exact ⟨by omega, by omega, h⟩
/-- SIGNS THAT BEGIN NOTHING BAR A TEXT IN WHICH THEY STAND BEHIND TOKENS. -/
theorem bars_all {b o rest : ByteArray} {l : List (Nat × Tok)} {want : Nat} (hb : allF b = .ok l) (ho : Odd o) (hr : (faultF rest).2 = 0) (hz : (b ++ (o ++ rest)).size ≤ 65536)
    (hw : tokF (textF b ++ (o ++ linesB rest)) (textF b).size = .error want) : allF (b ++ (o ++ rest)) = .error ((textF b).size, want) := by
  obtain ⟨h1, h2, h3⟩ := all_ok2 hb
  have hlt : Lt (o ++ linesB rest) := by
    obtain ⟨q, hq⟩ := ho.lt
    exact ⟨q ++ (linesB rest).data.toList, by rw [ByteArray.data_append, Array.toList_append, hq]; rfl⟩
  have hs := size_cat (textF b) (o ++ linesB rest)
  have hz2 := hlt.size
  unfold allF
  rw [if_neg (by omega), bars_text ho, if_neg (by rw [fault_cat h2 (fault_cat ho.fault (lines_fault _ _ (Nat.le_refl _) hr))]; simp), toksF_join hlt h3]
  obtain ⟨f, hf⟩ : ∃ f, (textF b ++ (o ++ linesB rest)).size = f + 1 := ⟨(textF b ++ (o ++ linesB rest)).size - 1, by omega⟩
  rw [hf, toksGo, if_pos (by omega), hw]
theorem sees_at (t r : ByteArray) (s : List UInt8) : seesB (t ++ r) t.size s = s.isPrefixOf r.data.toList := by
  unfold seesB Lib.hasPrefix
  have := drop_right t r 0
  rw [Nat.add_zero, List.drop_zero] at this
  rw [this]
theorem opens_at (t r : ByteArray) (h : ([60, 63, 120, 109, 108] : List UInt8).isPrefixOf r.data.toList = false) : opensB (t ++ r) t.size = false := by
  unfold opensB
  by_cases hz : t.size = 0
  · have e := sees_at t r [60, 63, 120, 109, 108]
    rw [hz, h] at e
    rw [e]
    simp
  · rw [decide_eq_false hz]
    rfl
def oddB (w : Nat) : ByteArray := match w % 4 with
  | 0 => ⟨#[60, 33, 68, 79, 67, 84, 89, 80, 69]⟩
  | 1 => ⟨#[60, 33, 69, 76, 69, 77, 69, 78, 84]⟩
  | 2 => ⟨#[60, 33, 91, 73, 78, 67, 76, 85, 68, 69, 91]⟩
  | _ => ⟨#[60, 32]⟩
def wantB (w : Nat) : Nat := if w % 4 = 0 then 25 else 23
theorem odd_all : ∀ w, w < 4 → Odd (oddB w)
  | 0, _ => ⟨⟨_, rfl⟩, by decide, by decide⟩
  | 1, _ => ⟨⟨_, rfl⟩, by decide, by decide⟩
  | 2, _ => ⟨⟨_, rfl⟩, by decide, by decide⟩
  | 3, _ => ⟨⟨_, rfl⟩, by decide, by decide⟩
  | n + 4, h => absurd h (by omega)
theorem odd_list (w : Nat) (R : ByteArray) : (oddB w ++ R).data.toList = (oddB w).data.toList ++ R.data.toList := by rw [ByteArray.data_append, Array.toList_append]
theorem odd_tok (t R : ByteArray) : ∀ w, w < 4 → tokF (t ++ (oddB w ++ R)) t.size = .error (wantB w)
  | 0, _ => by
    have hl : (oddB 0 ++ R).data.toList = [60, 33, 68, 79, 67, 84, 89, 80, 69] ++ R.data.toList := odd_list 0 R
    unfold tokF
    rw [opens_at _ _ (by rw [hl]; rfl)]
    simp only [sees_at, hl]
    rfl
  | 1, _ => by
    have hl : (oddB 1 ++ R).data.toList = [60, 33, 69, 76, 69, 77, 69, 78, 84] ++ R.data.toList := odd_list 1 R
    unfold tokF
    rw [opens_at _ _ (by rw [hl]; rfl)]
    simp only [sees_at, hl]
    rfl
  | 2, _ => by
    have hl : (oddB 2 ++ R).data.toList = [60, 33, 91, 73, 78, 67, 76, 85, 68, 69, 91] ++ R.data.toList := odd_list 2 R
    unfold tokF
    rw [opens_at _ _ (by rw [hl]; rfl)]
    simp only [sees_at, hl]
    rfl
  | 3, _ => by
    have hl : (oddB 3 ++ R).data.toList = [60, 32] ++ R.data.toList := odd_list 3 R
    have hz : 2 ≤ (oddB 3 ++ R).size := by
      rw [size_cat]
      show 2 ≤ 2 + R.size
      omega
    have hs := size_cat t (oddB 3 ++ R)
    have h1 : (t ++ (oddB 3 ++ R)).get! (t.size + 1) = 32 := by
      rw [get!_right]
      have := get!_of (oddB 3 ++ R) 1 (by omega)
      rw [hl] at this
      exact (Option.some.inj this).symm
    have hn : (nextF (t ++ (oddB 3 ++ R)) (t.size + 1)).1 = 32 := by
      unfold nextF rd
      rw [h1, rd_ascii (by decide)]
      rfl
    have hq : qualF (t ++ (oddB 3 ++ R)) (t.size + 1) = .error 23 := by
      unfold qualF nameF
      rw [hn, if_neg]
      rintro ⟨_, _, g⟩
      rcases g with g | g
      · cases g
      · revert g
        decide
    unfold tokF
    rw [opens_at _ _ (by rw [hl]; rfl)]
    simp only [sees_at, hl]
    unfold tagF
    rw [hq]
    rfl
  | n + 4, h => absurd h (by omega)
/-- What is no char bars all. -/
theorem nul_all {b : ByteArray} {l : List (Nat × Tok)} (hb : allF b = .ok l) (hz : b.size < 65536) : ∃ k, allF (b ++ ⟨#[0]⟩) = .error (k, 21) := by
  obtain ⟨h1, h2, h3⟩ := all_ok2 hb
  have ht : textF (b ++ ⟨#[0]⟩) = textF b ++ ⟨#[0]⟩ := text_cat (x := ⟨#[0]⟩) (c := 0) (l := []) rfl (by decide)
  have hs := size_cat b ⟨#[0]⟩
  have h1 : (⟨#[0]⟩ : ByteArray).size = 1 := rfl
  have hf : (faultF (textF b ++ ⟨#[0]⟩)).2 = 21 := by
    rcases fault_join (textF b) ⟨#[0]⟩ with ⟨g, _⟩ | ⟨g, _⟩ | ⟨_, g, e⟩ | ⟨_, e, _⟩
    · rw [h2] at g; cases g
    · rw [h2] at g; cases g
    · rw [e]
      show (faultF ⟨#[0]⟩).2 = 21
      decide
    · exact absurd e (by decide)
  refine ⟨(faultF (textF b ++ ⟨#[0]⟩)).1, ?_⟩
  unfold allF
  rw [if_neg (by omega), ht, if_pos (by rw [hf]; decide), ← hf]
end Go.Proofs.YtcfecnleibeegaaGreatDoor
namespace Go.Proofs.YtcfecnleibeegaaGreatDoor
open Go.RowKit

theorem odd_index0 (W : World) : (Instr.index 50 (.agg #[.string ⟨#[60, 33, 68, 79, 67, 84, 89, 80, 69]⟩, .string ⟨#[60, 33, 69, 76, 69, 77, 69, 78, 84]⟩, .string ⟨#[60, 33, 91, 73, 78, 67, 76, 85, 68, 69, 91]⟩, .string ⟨#[60, 32]⟩]) (.int .u8 0)).run Tryz.prog W = .ok (.string ⟨#[60, 33, 68, 79, 67, 84, 89, 80, 69]⟩) W := by kernel_rfl
theorem odd_index1 (W : World) : (Instr.index 50 (.agg #[.string ⟨#[60, 33, 68, 79, 67, 84, 89, 80, 69]⟩, .string ⟨#[60, 33, 69, 76, 69, 77, 69, 78, 84]⟩, .string ⟨#[60, 33, 91, 73, 78, 67, 76, 85, 68, 69, 91]⟩, .string ⟨#[60, 32]⟩]) (.int .u8 1)).run Tryz.prog W = .ok (.string ⟨#[60, 33, 69, 76, 69, 77, 69, 78, 84]⟩) W := by kernel_rfl
theorem odd_index2 (W : World) : (Instr.index 50 (.agg #[.string ⟨#[60, 33, 68, 79, 67, 84, 89, 80, 69]⟩, .string ⟨#[60, 33, 69, 76, 69, 77, 69, 78, 84]⟩, .string ⟨#[60, 33, 91, 73, 78, 67, 76, 85, 68, 69, 91]⟩, .string ⟨#[60, 32]⟩]) (.int .u8 2)).run Tryz.prog W = .ok (.string ⟨#[60, 33, 91, 73, 78, 67, 76, 85, 68, 69, 91]⟩) W := by kernel_rfl
theorem odd_index3 (W : World) : (Instr.index 50 (.agg #[.string ⟨#[60, 33, 68, 79, 67, 84, 89, 80, 69]⟩, .string ⟨#[60, 33, 69, 76, 69, 77, 69, 78, 84]⟩, .string ⟨#[60, 33, 91, 73, 78, 67, 76, 85, 68, 69, 91]⟩, .string ⟨#[60, 32]⟩]) (.int .u8 3)).run Tryz.prog W = .ok (.string ⟨#[60, 32]⟩) W := by kernel_rfl
theorem odd_index (x : Nat) (W : World) : (Instr.index 50 (.agg #[.string ⟨#[60, 33, 68, 79, 67, 84, 89, 80, 69]⟩, .string ⟨#[60, 33, 69, 76, 69, 77, 69, 78, 84]⟩, .string ⟨#[60, 33, 91, 73, 78, 67, 76, 85, 68, 69, 91]⟩, .string ⟨#[60, 32]⟩]) (.int .u8 ((x : Int) % 4))).run Tryz.prog W = .ok (.string (oddB x)) W := by
  have h : x % 4 = 0 ∨ x % 4 = 1 ∨ x % 4 = 2 ∨ x % 4 = 3 := by omega
  unfold oddB
  rcases h with h | h | h | h
  · rw [show (x : Int) % 4 = 0 by omega, h]; exact odd_index0 W
  · rw [show (x : Int) % 4 = 1 by omega, h]; exact odd_index1 W
  · rw [show (x : Int) % 4 = 2 by omega, h]; exact odd_index2 W
  · rw [show (x : Int) % 4 = 3 by omega, h]; exact odd_index3 W
theorem odd_mod (x : Nat) : oddB x = oddB (x % 4) ∧ wantB x = wantB (x % 4) := by
  unfold oddB wantB
  rw [Nat.mod_mod]
  exact ⟨rfl, rfl⟩
theorem odd_size (x : Nat) : (oddB x).size ≤ 11 := by
  have h : x % 4 = 0 ∨ x % 4 = 1 ∨ x % 4 = 2 ∨ x % 4 = 3 := by omega
  unfold oddB
  rcases h with h | h | h | h <;> rw [h] <;> decide
/-- What the scanner says of the two texts that the statement makes. -/
theorem bars_two {b r : ByteArray} {l : List (Nat × Tok)} (x : Nat) (hb : allF b = .ok l) (hr : (faultF r).2 = 0) (hz : b.size + r.size + 20 ≤ 65536) : allF (b ++ oddB x ++ r) = .error ((textF b).size, wantB x) ∧ ∃ k, allF (b ++ ⟨#[0]⟩) = .error (k, 21) := by
  have hm := odd_mod x
  have ho := odd_size x
  refine ⟨?_, nul_all hb (by omega)⟩
  rw [ByteArray.append_assoc]
  refine bars_all hb ?_ hr ?_ ?_
  · rw [hm.1]
    exact odd_all _ (Nat.mod_lt _ (by decide))
  · rw [size_cat, size_cat]
    omega
  · rw [hm.1, hm.2]
    exact odd_tok _ _ _ (Nat.mod_lt _ (by decide))
set_option maxHeartbeats 16000000 in
set_option maxRecDepth 100000 in
theorem bars_walk (p q : Option Addr) (b r : ByteArray) (c d x : Nat) (w : World) (hbs : b.size ≤ 140737488355328) (hrs : r.size ≤ 140737488355328) (hc : b.size ≤ c) (_hd : r.size ≤ d) (hp : HoldsB w p b) (hq : HoldsB w q r) (hnp : p = none → c = 0) (hnq : q = none → d = 0) (hL : Leans w) :
    Calls Tryz.prog 6 #[.slice p b.size c, .slice q r.size d, .int .u8 (x : Int)] w fun e w' => e = .returned (.bool true) ∧ Below w.heap.size w w' := by
  have AW := Lib.hid (awake3_any w hL)
  have A1 := Lib.hid (fun W (y : Below w.heap.size w W) => all_is p b c W (by omega) hc (hp.below y) (hL.below y))
  have RF := Lib.hid (fun W (y : Below w.heap.size w W) => refFault_any q r d W hrs (hq.below y))
  have RT := Lib.hid (fun W (y : Below w.heap.size w W) (z : b.size ≤ 4194304) => refText_any p b c W z hc (hp.below y))
  have AA := Lib.hid (fun W (y : Below w.heap.size w W) g cap (s : ByteArray) (z : s.size ≤ 140737488355328) (h : s.size ≤ cap) (ho : HoldsB W (some ⟨g, 0, none⟩) s) => all_any (some ⟨g, 0, none⟩) s cap W z h ho (hL.below y).tabs (hL.below y).named (hL.below y).max (hL.below y).fold)
  have IDX := odd_index x
  have HP := Lib.hid (And.intro hp (And.intro hq (And.intro hnp hnq)))
  clear hp hq hnp hnq hL hc
  go_enter Tryz.func6, Tryz.ntmps6
  go_wp2_with (fail)
  refine AW.out.mono ?_
  rintro e w1 ⟨rfl, hb1⟩
  go_wp2_with (fail)
  refine (A1.out w1 hb1).mono ?_
  rintro e w2 ⟨q1, n1, d1, k1, e1, rfl, is1, hb2⟩
  have HB2 := Lib.hid (below_cat hb1 hb2)
  have IS1 := Lib.hid is1
  clear is1 hb2 hb1 A1 AW
  rcases IS1.out with ⟨l, hl, he, hn, tl⟩ | ⟨he, _⟩
  rotate_left
  · have g1 : (e1 == 0) = false := by rw [beq_eq_false_iff_ne]; exact he
    have g2 : (e1 != 0) = true := by rw [bne_iff_ne]; exact he
    clear IDX hbs hrs
    go_wp2_with (fail)
    go_ret
    exact ⟨rfl, HB2.out⟩
  subst he hn
  have HAL := Lib.hid hl
  clear tl hl IS1
  by_cases hbig : b.size + r.size + 20 ≤ 65536
  rotate_left
  · have g1 : (65536 : Int) < (b.size : Int) + (r.size : Int) + 20 := by omega
    clear IDX hbig
    go_wp2_with (fail)
    go_ret
    exact ⟨rfl, HB2.out⟩
  have hbz : decide ((65536 : Int) < (b.size : Int) + (r.size : Int) + 20) = false := decide_eq_false (by omega)
  have HBIG := Lib.hid hbig
  clear hbig
  go_wp2_with (fail)
  refine (RF.out w2 HB2.out).mono ?_
  rintro e w3 ⟨rfl, rfl⟩
  obtain ⟨f1, hf1⟩ : ∃ z : Nat, (faultF r).1 = z := ⟨_, rfl⟩
  obtain ⟨f2, hf2⟩ : ∃ z : Nat, (faultF r).2 = z := ⟨_, rfl⟩
  rw [hf1, hf2]
  by_cases hf0 : f2 = 0
  rotate_left
  · have g1 : ¬ (f2 : Int) = 0 := by omega
    have g2 : ((f2 : Int) == 0) = false := by rw [beq_eq_false_iff_ne]; exact g1
    have g3 : ((f2 : Int) != 0) = true := by rw [bne_iff_ne]; exact g1
    clear IDX hf1 hf2 hf0
    go_wp2_with (fail)
    go_ret
    exact ⟨rfl, HB2.out⟩
  subst hf0
  have HF := Lib.hid hf2
  clear hf1 hf2
  go_upto_region 10 with fail
  have hodz := odd_size x
  obtain ⟨od, hod⟩ : ∃ od, oddB x = od := ⟨_, rfl⟩
  have TWO := Lib.hid (bars_two x HAL.out HF.out HBIG.out)
  rw [hod] at hodz TWO ⊢
  clear hod IDX hbz
  obtain ⟨lb, hlb⟩ : ∃ lb : Bool, decide (0 < b.size ∧ b.get! (b.size - 1) = 13) = lb := ⟨_, rfl⟩
  have HLB := Lib.hid hlb
  clear hlb
  go_cut [62] (fun v62 wx => v62 = .bool lb ∧ wx = w2)
  case first =>
    by_cases hb0 : 0 < b.size
    · obtain ⟨blk, off, hpe, hcell⟩ := HP.out.1 hb0
      subst hpe
      have ka := hb_cell HB2.out (hcell (b.size - 1) (by omega))
      have hk0 : (0 : Int) < (b.size : Int) := by omega
      have hk5 : decide ((0 : Int) < (b.size : Int)) = true := decide_eq_true hk0
      have hk6 : decide (0 < b.size) = true := decide_eq_true hb0
      have hk1 : ((b.size - 1 : Nat) : Int) = (b.size : Int) - 1 := by omega
      have hk2 : (0 : Int) ≤ (b.size : Int) - 1 := by omega
      have hk3 : (b.size : Int) - 1 < (b.size : Int) := by omega
      have hk4 : ((b.size : Int) - 1).toNat = b.size - 1 := by omega
      by_cases h13 : b.get! (b.size - 1) = 13
      · have HL2 : Hid (lb = true) := Lib.hid (by rw [← HLB.out]; exact decide_eq_true ⟨hb0, h13⟩)
        rw [h13, show (((13 : UInt8).toNat : Nat) : Int) = 13 from rfl] at ka
        clear h13 hcell hb0 hodz
        go_wp2_with (fail)
        all_goals first
          | (go_meet; exact ⟨by rw [HL2.out], rfl⟩)
          | (exfalso; omega)
      · have HL2 : Hid (lb = false) := Lib.hid (by rw [← HLB.out]; exact decide_eq_false (fun q => h13 q.2))
        have n13 : ¬ (((b.get! (b.size - 1)).toNat : Nat) : Int) = 13 := by
          intro e
          apply h13
          have e2 : (b.get! (b.size - 1)).toNat = 13 := by omega
          have e3 : UInt8.ofNat (b.get! (b.size - 1)).toNat = UInt8.ofNat 13 := by rw [e2]
          simpa using e3
        have m13 : ((((b.get! (b.size - 1)).toNat : Nat) : Int) == 13) = false := by rw [beq_eq_false_iff_ne]; exact n13
        obtain ⟨z, hz⟩ : ∃ z : Int, (((b.get! (b.size - 1)).toNat : Nat) : Int) = z := ⟨_, rfl⟩
        rw [hz] at ka n13 m13
        clear hz h13 hcell hb0 hodz
        go_wp2_with (fail)
        all_goals first
          | (go_meet; exact ⟨by rw [HL2.out], rfl⟩)
          | (exfalso; omega)
    · have HL2 : Hid (lb = false) := Lib.hid (by rw [← HLB.out]; exact decide_eq_false (fun q => hb0 q.1))
      have hk0 : ¬ (0 : Int) < (b.size : Int) := by omega
      have hk5 : decide ((0 : Int) < (b.size : Int)) = false := decide_eq_false hk0
      have hk6 : decide (0 < b.size) = false := decide_eq_false hb0
      clear hodz
      go_wp2_with (fail)
      go_meet
      exact ⟨by rw [HL2.out], rfl⟩
  case rest =>
    obtain ⟨rfl, hwc⟩ := hcut
    subst hwc
    clear HLB
    cases lb
    · have hz1 : (b ++ od).size = b.size + od.size := size_cat _ _
      have hz2 : (b ++ od ++ r).size = b.size + od.size + r.size := by rw [size_cat, hz1]
      obtain ⟨g1, c1, w4, hr1, ho1, hb4, _⟩ := append_first (HP.out.1.below HB2.out) HP.out.2.2.1 (by omega)
      obtain ⟨g2, c2, w5, hr2, ho2, hb5⟩ := append_str (t := od) ho1 hb4 (by have := HBIG.out; omega)
      obtain ⟨g3, c3, w6, hr3, ho3, hb6⟩ := append_next ho2 hb5 (HP.out.2.1.below (below_cat HB2.out hb5)) HP.out.2.2.2 (by rw [hz1]; have := HBIG.out; omega)
      have HB6 := Lib.hid (below_cat HB2.out hb6)
      have AL2 := AA.out w6 HB6.out g3 c3 (b ++ od ++ r) (by rw [hz2]; have := HBIG.out; omega) ho3.2.2.2 ho3.holds
      rw [hz2, TWO.out.1] at AL2
      rw [hz1] at hr3
      have AH2 := Lib.hid AL2
      have R1 := Lib.hid hr1
      have R2 := Lib.hid hr2
      have R3 := Lib.hid hr3
      clear hz1 hz2 hr1 ho1 hb4 hr2 ho2 hb5 hr3 ho3 hb6 AL2 hodz
      go_wp2_with (first | (at_builtin; refine wpList_append_eq rfl (.tmp 63) (.tmp 64) 22 rfl _ _ _ _ rfl rfl R1.out ?_) | (at_builtin; refine wpList_append_eq2 rfl (.tmp 65) (.tmp 66) 22 9 rfl _ _ _ _ rfl rfl R2.out ?_) | (at_builtin; refine wpList_append_eq rfl (.tmp 67) (.tmp 68) 22 rfl _ _ _ _ rfl rfl R3.out ?_))
      refine AH2.out.mono ?_
      rintro e w7 ⟨hpost, hb7⟩
      have he : e = .returned (.tuple #[.slice none 0 0, .int .i64 ((textF b).size : Int), .int .i64 (wantB x : Int)]) := hpost
      subst he
      have HB7 := Lib.hid (below_cat HB6.out hb7)
      obtain ⟨g4, c4, w8, hr4, ho4, hb8, _⟩ := append_first (HP.out.1.below HB7.out) HP.out.2.2.1 (by omega)
      obtain ⟨g5, c5, w9, hr5, ho5, hb9⟩ := append_one 0 ho4 hb8 (by have := HBIG.out; omega)
      rw [show (((0 : UInt8).toNat : Nat) : Int) = 0 from rfl] at hr5
      obtain ⟨k9, hk9⟩ := TWO.out.2
      have HB9 := Lib.hid (below_cat HB7.out hb9)
      have AL3 := AA.out w9 HB9.out g5 c5 (b ++ ⟨#[0]⟩) (by rw [size_push]; have := HBIG.out; omega) ho5.2.2.2 ho5.holds
      rw [size_push, hk9] at AL3
      have AH3 := Lib.hid AL3
      have R4 := Lib.hid hr4
      have R5 := Lib.hid hr5
      have hll : (0 : Int) ≤ (l.length : Int) := by omega
      clear hpost hb7 R1 R2 R3 AH2 hr4 ho4 hb8 hr5 ho5 hb9 AL3 hk9 TWO
      obtain ⟨tz, htz⟩ : ∃ tz : Nat, (textF b).size = tz := ⟨_, rfl⟩
      have HTZ := Lib.hid htz
      rw [htz]
      clear htz
      by_cases h4 : x % 4 = 0
      · have hw : ((wantB x : Nat) : Int) = 25 := by unfold wantB; rw [if_pos h4]; rfl
        rw [hw]
        have e4 : ((x : Int) % 4 == 0) = true := by rw [beq_iff_eq]; omega
        clear hw h4
        go_wp2_with (first | (at_builtin; refine wpList_append_eq rfl (.tmp 79) (.tmp 80) 22 rfl _ _ _ _ rfl rfl R4.out ?_) | (at_builtin; refine wpList_append_eq rfl (.tmp 81) (.tmp 82) 22 rfl _ _ _ _ rfl rfl R5.out ?_))
        refine AH3.out.mono ?_
        rintro e w10 ⟨hpost, hb10⟩
        have he : e = .returned (.tuple #[.slice none 0 0, .int .i64 (k9 : Int), .int .i64 ((21 : Nat) : Int)]) := hpost
        subst he
        have RH := Lib.hid (RT.out w10 (below_cat HB9.out hb10) (by have := HBIG.out; omega))
        have HB10 := Lib.hid (below_cat HB9.out hb10)
        clear hpost hb10 R4 R5 AH3
        go_wp2_with (fail)
        refine RH.out.mono ?_
        rintro e w11 ⟨rfl, hb11⟩
        have HB11 := Lib.hid (below_cat HB10.out hb11)
        obtain ⟨tb, htb⟩ : ∃ tb, textF b = tb := ⟨_, rfl⟩
        have hz : tb.size = tz := by rw [← htb]; exact HTZ.out
        rw [htb]
        clear hb11 htb HTZ RT RH
        subst hz
        go_wp2_with (fail)
        go_ret
        exact ⟨rfl, HB11.out⟩
      · have hw : ((wantB x : Nat) : Int) = 23 := by unfold wantB; rw [if_neg h4]; rfl
        rw [hw]
        have e4 : ((x : Int) % 4 == 0) = false := by rw [beq_eq_false_iff_ne]; omega
        have n4 : ¬ (x : Int) % 4 = 0 := by omega
        clear hw h4
        go_wp2_with (first | (at_builtin; refine wpList_append_eq rfl (.tmp 79) (.tmp 80) 22 rfl _ _ _ _ rfl rfl R4.out ?_) | (at_builtin; refine wpList_append_eq rfl (.tmp 81) (.tmp 82) 22 rfl _ _ _ _ rfl rfl R5.out ?_))
        refine AH3.out.mono ?_
        rintro e w10 ⟨hpost, hb10⟩
        have he : e = .returned (.tuple #[.slice none 0 0, .int .i64 (k9 : Int), .int .i64 ((21 : Nat) : Int)]) := hpost
        subst he
        have RH := Lib.hid (RT.out w10 (below_cat HB9.out hb10) (by have := HBIG.out; omega))
        have HB10 := Lib.hid (below_cat HB9.out hb10)
        clear hpost hb10 R4 R5 AH3
        go_wp2_with (fail)
        refine RH.out.mono ?_
        rintro e w11 ⟨rfl, hb11⟩
        have HB11 := Lib.hid (below_cat HB10.out hb11)
        obtain ⟨tb, htb⟩ : ∃ tb, textF b = tb := ⟨_, rfl⟩
        have hz : tb.size = tz := by rw [← htb]; exact HTZ.out
        rw [htb]
        clear hb11 htb HTZ RT RH
        subst hz
        go_wp2_with (fail)
        go_ret
        exact ⟨rfl, HB11.out⟩
    · clear hodz
      go_wp2_with (fail)
      go_ret
      exact ⟨rfl, HB2.out⟩
end Go.Proofs.YtcfecnleibeegaaGreatDoor
