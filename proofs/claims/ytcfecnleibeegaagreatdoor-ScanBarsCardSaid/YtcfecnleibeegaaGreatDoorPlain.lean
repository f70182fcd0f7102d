/- Proved here: what Plain and All answer of every slice of bytes. -/
import Derived.Test.YtcfecnleibeegaaGreatDoorTokens
import Derived.Test.YtcfecnleibeegaaGreatDoorRefLines
import Derived.Test.YtcfecnleibeegaaGreatDoorFault
import Derived.Lib.SlBytesConst
namespace Go.Proofs.YtcfecnleibeegaaGreatDoor
open Go.RowKit

abbrev MARK : Obj := .cells #[.int .u8 239, .int .u8 187, .int .u8 191] 5 (3, 4)
theorem holds_in {w : World} {p : Option Addr} {s : ByteArray} (h : HoldsB w p s) : Lib.BytesIn w p s.size (s.data.toList.map fun b => ((b.toNat : Nat) : Int)) := by
  intro h0
  obtain ⟨b, o, e, hc⟩ := h h0
  refine ⟨b, o, e, fun i hi => ?_⟩
  rw [hc i hi]
  have h1 := get!_of s i hi
  simp [List.getD, h1]
def bareB (b : ByteArray) : ByteArray := if Lib.hasPrefix b.data.toList [239, 187, 191] then b.extract 3 b.size else b
theorem text_bare (b : ByteArray) : textF b = linesB (bareB b) := rfl
theorem bare_size (b : ByteArray) : (bareB b).size ≤ b.size := by
  unfold bareB
  split
  · simp
  · exact Nat.le_refl _
theorem text_size (b : ByteArray) : (textF b).size ≤ b.size := Nat.le_trans (linesB_size _) (bare_size b)
theorem trim_mark (p : Option Addr) (s : ByteArray) (c : Nat) (W : World) (hc : s.size ≤ c) (hp : HoldsB W p s) : ∃ p' c', Lib.trimPrefixV p s.size c (s.data.toList.map fun b => ((b.toNat : Nat) : Int)) [239, 187, 191] = .slice p' (bareB s).size c' ∧ HoldsB W p' (bareB s) := by
  have hx : Lib.bytesOf (s.data.toList.map fun b => ((b.toNat : Nat) : Int)) = s.data.toList := strZ_bytes s
  unfold bareB
  cases hpre : Lib.hasPrefix s.data.toList [239, 187, 191]
  · refine ⟨p, c, ?_, by simpa using hp⟩
    unfold Lib.trimPrefixV
    split
    · unfold Lib.bytesTrimPrefix
      rename_i heq
      injection heq with h1 h2
      subst h1 h2
      rw [hx, show Lib.bytesOf [239, 187, 191] = [239, 187, 191] from rfl, hpre]
      simp
    · simp
  · have hl := (List.isPrefixOf_iff_prefix.1 hpre).length_le
    simp only [List.length_cons, List.length_nil, Array.length_toList] at hl
    have h0 : 0 < s.size := by show 0 < s.data.size; omega
    obtain ⟨b, o, rfl, hcell⟩ := hp h0
    have hsz : (s.extract 3 s.size).size = s.size - 3 := by simp
    refine ⟨if c = 3 then some ⟨b, o, none⟩ else some ⟨b, o + 3, none⟩, c - 3, ?_, ?_⟩
    · show Lib.bytesTrimPrefix b o s.size c _ _ = _
      unfold Lib.bytesTrimPrefix
      rw [hx, show Lib.bytesOf [239, 187, 191] = [239, 187, 191] from rfl, hpre, if_pos rfl, if_pos rfl, hsz]
      unfold Lib.sliceFrom
      rfl
    · rw [if_pos rfl]
      intro h1
      rw [hsz] at h1
      have hss : s.size = s.data.size := rfl
      rw [if_neg (by omega)]
      exact (holds_part (p := some ⟨b, o + 3, none⟩) hcell (Nat.le_refl _) (by omega) (fun _ => rfl)) (by rw [hsz]; omega)
theorem Owns.less {w : World} {B B' g cap : Nat} {s : ByteArray} (h : Owns w B g cap s) (hB : B' ≤ B) : Owns w B' g cap s := by
  obtain ⟨h1, h2, h3, h4⟩ := h
  refine ⟨⟨h1.1, ?_⟩, Nat.le_trans hB h2, h3, h4⟩
  rcases h1.2 with g | ⟨g, c, cur, e, h5, r⟩
  · exact .inl g
  · exact .inr ⟨g, c, cur, e, Nat.le_trans hB h5, r⟩
set_option maxHeartbeats 1000000 in
theorem plain_any (p : Option Addr) (s : ByteArray) (c : Nat) (w : World) (hs : s.size ≤ 4194304) (hc : s.size ≤ c) (hp : HoldsB w p s) :
    Calls Tryz.prog 12 #[.slice p s.size c] w (MadeB (textF s) w) := by
  have kc : (convert 22 22 (.slice (some ⟨w.heap.size, 0, none⟩) 3 3)).run Tryz.prog (w.alloc (.cells #[.int .u8 239, .int .u8 187, .int .u8 191] 5)) = .ok (.slice (some ⟨w.heap.size, 0, none⟩) 3 3) (w.alloc MARK) := Lib.run_convert_bytes_const w 22 5 #[.int .u8 239, .int .u8 187, .int .u8 191] 3 3 Tryz.underlying22 Tryz.underlying5
  have hb : Below w.heap.size w (w.alloc MARK) := (Below.refl _ _).alloc (Nat.le_refl _) _
  have TP := Tryz.bytes_TrimPrefix p (some ⟨w.heap.size, 0, none⟩) s.size c 3 3 (s.data.toList.map fun b => ((b.toNat : Nat) : Int)) [239, 187, 191] (w.alloc MARK) (by simp) rfl hc (holds_in (hp.below hb)) (fun _ => ⟨w.heap.size, 0, rfl, fun i hi => by
    rw [Nat.zero_add, cell_of_row _ _ _ _ _ _ (heap_alloc_new w MARK)]
    match i, hi with
    | 0, _ => rfl
    | 1, _ => rfl
    | 2, _ => rfl⟩)
  obtain ⟨p', c', he, hp'⟩ := trim_mark p s c (w.alloc MARK) hc (hp.below hb)
  rw [he] at TP
  have L := lines_any p' (bareB s) c' (w.alloc MARK) (by have := bare_size s; omega) hp'
  rw [← text_bare] at L
  have TH := Lib.hid TP
  have LH := Lib.hid L
  have HB := Lib.hid hb
  clear TP L hb he hp hp' hs hc
  go_enter Tryz.func12, Tryz.ntmps12
  go_wp2_with (fail)
  refine TH.out.mono ?_
  rintro e w2 ⟨rfl, rfl⟩
  go_wp2_with (fail)
  refine LH.out.mono ?_
  rintro e w3 ⟨g, cap, rfl, ho, hb3⟩
  go_wp2_with (fail)
  go_ret
  exact ⟨g, cap, rfl, ho.less (by simp), below_cat HB.out hb3⟩
/-- What All answers, as it lies in memory. -/
def AllPost (w : World) (r : Except (Nat × Nat) (List (Nat × Tok))) (e : Ending) (w' : World) : Prop := match r with
  | .ok l => ∃ v, e = .returned (.tuple #[v, .int .i64 0, .int .i64 0]) ∧ TokL w' w.heap.size v l
  | .error (k, e0) => e = .returned (.tuple #[.slice none 0 0, .int .i64 (k : Int), .int .i64 (e0 : Int)])
set_option maxHeartbeats 1000000 in
theorem all_any (p : Option Addr) (s : ByteArray) (c : Nat) (w : World) (hs : s.size ≤ 140737488355328) (hc : s.size ≤ c) (hp : HoldsB w p s) (hT : Tabs w) (hN : NamedAt w) (hM : MaxAt w) (hA : FoldAt w) :
    Calls Tryz.prog 10 #[.slice p s.size c] w fun e w' => AllPost w (allF s) e w' ∧ Below w.heap.size w w' := by
  obtain ⟨res, hres⟩ : ∃ r, allF s = r := ⟨_, rfl⟩
  rw [hres]
  unfold allF at hres
  by_cases hbig : 65536 < s.size
  · rw [if_pos hbig] at hres
    have HRES := Lib.hid hres
    have hbz : ((s.size : Int) > 65536) := by omega
    have hbd : decide ((65536 : Int) < (s.size : Int)) = true := decide_eq_true (by omega)
    clear hp hT hN hM hA hres hs hc
    go_enter Tryz.func10, Tryz.ntmps10
    go_wp2_with (fail)
    go_ret3
    rw [← HRES.out]
    exact ⟨rfl, Below.refl _ _⟩
  · rw [if_neg hbig] at hres
    have hbz : ¬ (65536 : Int) < (s.size : Int) := by omega
    have hbd : decide ((65536 : Int) < (s.size : Int)) = false := decide_eq_false (by omega)
    have PL := Lib.hid (plain_any p s c w (by omega) hc hp)
    have hts := text_size s
    have HS := Lib.hid (And.intro hts hbig)
    have HW := Lib.hid (And.intro hT (And.intro hN (And.intro hM hA)))
    clear hp hT hN hM hA hs hc hts
    generalize textF s = t at *
    by_cases hf : (faultF t).2 = 0
    · rw [if_neg (by simpa using hf)] at hres
      have FL := Lib.hid (fun q k W hW hk hh => fault_any q t k W hW (by have := HS.out; omega) hk hh)
      have HRES := Lib.hid hres
      generalize faultF t = ft at *
      obtain ⟨fk, fe⟩ := ft
      simp only at hf FL
      subst hf
      clear hres hbig
      go_enter Tryz.func10, Tryz.ntmps10
      go_wp2_with (fail)
      refine PL.out.mono ?_
      rintro e w2 ⟨g, cap, rfl, ho, hb⟩
      have HO := Lib.hid (And.intro ho hb)
      clear ho hb
      go_wp2_with (fail)
      refine (FL.out _ _ w2 (HW.out.1.below HO.out.2) HO.out.1.2.2.2 HO.out.1.holds).mono ?_
      rintro e w3 ⟨rfl, hb3⟩
      have hB3 := below_cat HO.out.2 hb3
      have ho3 := HO.out.1.far hb3
      have TX : Txt w3 g 0 cap t := ⟨ho3.2.2.2, by have := HS.out; omega, fun j hj => by
        obtain ⟨b', o', e, hcc⟩ := ho3.holds (by omega)
        injection e with e
        injection e with e1 e2 _
        subst e1 e2
        exact hcc j hj⟩
      have EE : Env w3 w3.heap.size g 0 cap t := ⟨TX, Nat.le_refl _, ho3.2.2.1, HW.out.1.below hB3, HW.out.2.1.below hB3, by
        obtain ⟨m, hm⟩ := HW.out.2.2.1
        exact ⟨m, hb_cell hB3 hm⟩, HW.out.2.2.2.below hB3⟩
      have TK := Lib.hid (tokens_any t g 0 cap w3 EE res HRES.out)
      have HB3 := Lib.hid hB3
      clear hb3 hB3 ho3 TX EE
      go_wp2_with (fail)
      refine TK.out.mono ?_
      rintro e w4 ⟨hpost, hb4⟩
      have HB4 := Lib.hid (below_cat HB3.out hb4)
      clear TK hb4
      cases res with
      | error ke =>
        obtain ⟨k, e0⟩ := ke
        have he : e = .returned (.tuple #[.slice none 0 0, .int .i64 (k : Int), .int .i64 (e0 : Int)]) := hpost
        subst he
        clear hpost
        go_wp2_with (fail)
        go_ret3
        exact ⟨rfl, HB4.out⟩
      | ok l =>
        obtain ⟨v, he, hl⟩ := hpost
        subst he
        have HL := Lib.hid hl
        clear hl
        go_wp2_with (fail)
        go_ret3
        exact ⟨⟨v, rfl, HL.out.less HB3.out.size⟩, HB4.out⟩
    · rw [if_pos hf] at hres
      have FL := Lib.hid (fun q k W hW hk hh => fault_any q t k W hW (by have := HS.out; omega) hk hh)
      generalize faultF t = ft at *
      obtain ⟨fk, fe⟩ := ft
      simp only at hf hres FL
      have hnb : ((fe : Int) == 0) = false := by rw [beq_eq_false_iff_ne]; omega
      have hnz : ¬ (fe : Int) = 0 := by omega
      have HRES := Lib.hid hres
      clear hf hres hbig
      go_enter Tryz.func10, Tryz.ntmps10
      go_wp2_with (fail)
      refine PL.out.mono ?_
      rintro e w2 ⟨g, cap, rfl, ho, hb⟩
      have HO := Lib.hid (And.intro ho hb)
      clear ho hb
      go_wp2_with (fail)
      refine (FL.out _ _ w2 (HW.out.1.below HO.out.2) HO.out.1.2.2.2 HO.out.1.holds).mono ?_
      rintro e w3 ⟨rfl, hb3⟩
      have HB3 := Lib.hid (below_cat HO.out.2 hb3)
      clear hb3
      go_wp2_with (fail)
      go_ret3
      rw [← HRES.out]
      exact ⟨rfl, HB3.out⟩
end Go.Proofs.YtcfecnleibeegaaGreatDoor
