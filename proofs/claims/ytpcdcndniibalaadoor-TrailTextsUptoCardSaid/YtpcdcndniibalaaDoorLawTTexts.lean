/- Proved here: the statement TrailTexts, walked: it answers true of every trail and every text (of at most 4194304 bytes), in every world that holds what trail leans on. -/
import Derived.Test.YtpcdcndniibalaaDoorTrailRRead
import Derived.Test.YtpcdcndniibalaaDoorTrailRShow
import Derived.Deep.RegionHeld3
import Derived.BigGuardPart
namespace Go.Proofs.YtpcdcndniibalaaDoor
open Go.RowKit

theorem rread_any (s : ByteArray) (w : World) (hT : Tabs w) (hs : s.size ≤ 4194304) :
    Calls Tryd.prog 13 #[.string s] w (RReadPost w s.data.toList) := by
  by_cases h : s.data.toList = [47]
  · have e : s = ⟨#[47]⟩ := ba_ext h
    subst e
    exact rread_top w
  · exact rread_main s w hT hs h
theorem rread_no (s : ByteArray) (w : World) (hT : Tabs w) (hs : s.size ≤ 4194304) (hr : readT s.data.toList = none) :
    Calls Tryd.prog 13 #[.string s] w fun e w' => ∃ q d t, e = .returned (.tuple #[TrV q d t, .bool false]) ∧ Below w.heap.size w w' := by
  refine (rread_any s w hT hs).mono ?_
  rintro e w' ⟨q, d, t, ok, rfl, _, hb, h⟩
  rw [readR_is, hr] at h
  cases ok
  · exact ⟨q, d, t, rfl, hb⟩
  · cases h
theorem rread_yes (s : ByteArray) (w : World) (hT : Tabs w) (hs : s.size ≤ 4194304) (t2 : Tr) (hr : readT s.data.toList = some t2) :
    Calls Tryd.prog 13 #[.string s] w fun e w' => ∃ q d, e = .returned (.tuple #[TrV q d t2, .bool true]) ∧ TrAt w' q d t2 ∧ Below w.heap.size w w' := by
  refine (rread_any s w hT hs).mono ?_
  rintro e w' ⟨q, d, t, ok, rfl, hat, hb, h⟩
  rw [readR_is, hr] at h
  cases ok
  · cases h
  · obtain rfl := Option.some.inj h
    exact ⟨q, d, rfl, hat, hb⟩
set_option maxRecDepth 100000 in
set_option maxHeartbeats 16000000 in
theorem texts_nn (p : Option Addr) (c : Nat) (t : Tr) (s : ByteArray) (w : World) (hL : TLeans w) (h1 : TrAt w p c t) (hu : t.uri.size ≤ 140737488351232) (hn : t.loc.size ≤ 140737488351232) (hs : s.size ≤ 4194304) (hr : rightT t = false) (hr2 : readT s.data.toList = none) :
    Calls Tryd.prog 3 #[TrV p c t, .string s] w fun e w' => e = .returned (.bool true) ∧ Below w.heap.size w w' := by
  have AW := Lib.hid (fun W (y : Below w.heap.size w W) => awake8_any W (hL.below y))
  have HT := Lib.hid (fun W (y : Below w.heap.size w W) => h1.below y)
  have SHT := Lib.hid (fun W (y : Below w.heap.size w W) => show_any p c t W (h1.below y) (hL.below y) (by omega) (by omega))
  have RDS := Lib.hid (fun W (y : Below w.heap.size w W) => read_any s W (hL.below y) hs)
  have DOC := Lib.hid (fun W => docT_any p c t W)
  have RGT := Lib.hid (fun W (y : Below w.heap.size w W) => rright_any p c t W (h1.below y) (hL.below y).tabs (by omega) (by omega))
  have RRD := Lib.hid (fun W (y : Below w.heap.size w W) => rread_no s W (hL.below y).tabs hs hr2)
  rw [hr] at SHT RGT
  rw [hr2] at RDS
  simp only [Bool.false_eq_true, if_false] at SHT
  have SAM := Lib.hid (fun W q d (x : TrAt W q d trZ) => sameT_yes q none d 0 trZ W x ⟨fun h => absurd h (Nat.lt_irrefl 0), Nat.le_refl _, Nat.zero_le _⟩)
  have DO2 := Lib.hid (fun W q d => docT_any q d trZ W)
  unfold trZ at SAM DO2
  have BX := Lib.hid (And.intro ((Below.refl w.heap.size w).alloc (Nat.le_refl _) (.cells #[.slice p t.steps.length c, .bool t.attr, .string t.uri, .string t.loc] 26)) (t_one w (.cells #[.slice p t.steps.length c, .bool t.attr, .string t.uri, .string t.loc] 26)))
  clear hL h1 hu hn hr hr2
  unfold TrV at *
  simp only [List.length_nil] at DO2 SAM
  go_enter Tryd.func3, Tryd.ntmps3
  go_wp2_with (fail)
  refine (AW.out _ BX.out.1).mono ?_
  rintro e1 w1 ⟨rfl, hb1⟩
  have HB := Lib.hid (t_cat BX.out.1 hb1)
  have BT := Lib.hid (BoxT.below (t := t) (BoxT.of BX.out.2) hb1)
  clear hb1 BX
  obtain ⟨t0, t1, t2_, t3⟩ := BT.out
  go_wp2_with (fail)
  with_reducible (refine (SHT.out _ HB.out).mono ?_)
  rintro e2 w2 ⟨rfl, hb2⟩
  have HC := Lib.hid (t_cat HB.out hb2)
  have BU := Lib.hid (BT.out.below hb2)
  clear hb2 t0 t1 t2_ t3 BT HB
  obtain ⟨t0, t1, t2_, t3⟩ := BU.out
  go_wp2_with (fail)
  refine (RDS.out _ HC.out).mono ?_
  intro e3 w3 hpost
  obtain ⟨q3, d3, rfl, hat3, -, hb3⟩ : ∃ q3 d3, e3 = .returned (.tuple #[.agg #[.slice q3 0 d3, .bool false, .string ⟨#[]⟩, .string ⟨#[]⟩], .int .i64 35]) ∧ TrAt w3 q3 d3 ⟨[], false, ⟨#[]⟩, ⟨#[]⟩⟩ ∧ (q3 = none → d3 = 0) ∧ Below w2.heap.size w2 w3 := hpost
  have hal := (Below.refl w3.heap.size w3).alloc (Nat.le_refl _) (.cells #[.slice q3 0 d3, .bool false, .string ⟨#[]⟩, .string ⟨#[]⟩] 26)
  have HD := Lib.hid (And.intro (t_cat (t_cat HC.out hb3) hal) (And.intro ((BU.out.below hb3).below hal) (And.intro (hat3.below hal) (BoxT.of (t := ⟨[], false, ⟨#[]⟩, ⟨#[]⟩⟩) (n := 0) (t_one w3 (.cells #[.slice q3 0 d3, .bool false, .string ⟨#[]⟩, .string ⟨#[]⟩] 26))))))
  clear hat3 hb3 hal t0 t1 t2_ t3 BU HC
  go_upto_region 5 with fail
  generalize w3.heap.size = G at *
  generalize w3.alloc (.cells #[.slice q3 0 d3, .bool false, .string ⟨#[]⟩, .string ⟨#[]⟩] 26) = w4 at *
  obtain ⟨t0, t1, t2_, t3⟩ := HD.out.2.1
  go_wp2_with (fail)
  with_reducible (refine (DOC.out _).mono ?_)
  rintro e4 w5 ⟨rfl, hb4⟩
  have HE := Lib.hid (And.intro (t_cat HD.out.1 hb4) (And.intro (HD.out.2.1.below hb4) (And.intro (HD.out.2.2.1.below hb4) (HD.out.2.2.2.below hb4))))
  clear hb4 t0 t1 t2_ t3 HD
  have HD := HE
  clear HE
  obtain ⟨t0, t1, t2_, t3⟩ := HD.out.2.1
  go_wp2_with (fail)
  with_reducible (refine (RGT.out _ HD.out.1).mono ?_)
  rintro e4 w6 ⟨rfl, hb4⟩
  have HE := Lib.hid (And.intro (t_cat HD.out.1 hb4) (And.intro (HD.out.2.1.below hb4) (And.intro (HD.out.2.2.1.below hb4) (HD.out.2.2.2.below hb4))))
  clear hb4 t0 t1 t2_ t3 HD
  have HD := HE
  clear HE
  go_wp2_with (fail)
  refine (RRD.out _ HD.out.1).mono ?_
  rintro e9 w9 ⟨q9, d9, t9, rfl, hb9⟩
  have hal := (Below.refl w9.heap.size w9).alloc (Nat.le_refl _) (.cells #[.slice q9 t9.steps.length d9, .bool t9.attr, .string t9.uri, .string t9.loc] 34)
  have HF := Lib.hid (And.intro (t_cat (t_cat HD.out.1 hb9) hal) (And.intro ((HD.out.2.2.1.below hb9).below hal) ((HD.out.2.2.2.below hb9).below hal)))
  clear hb9 hal HD
  go_upto_region 8 with fail
  generalize w9.alloc (.cells #[.slice q9 t9.steps.length d9, .bool t9.attr, .string t9.uri, .string t9.loc] 34) = wa at *
  obtain ⟨t0, t1, t2_, t3⟩ := HF.out.2.2
  go_wp2_with (fail)
  with_reducible (refine (DO2.out _ _ _).mono ?_)
  rintro e5 wb ⟨rfl, hb5⟩
  have HZ := Lib.hid (And.intro (t_cat HF.out.1 hb5) (HF.out.2.1.below hb5))
  clear hb5 t0 t1 t2_ t3
  go_wp2_with (fail)
  with_reducible (refine (SAM.out _ _ _ HZ.out.2).mono ?_)
  rintro e6 wc ⟨rfl, hb6⟩
  have HY := Lib.hid (t_cat HZ.out.1 hb6)
  clear hb6
  go_wp2_with (fail)
  go_ret
  exact ⟨rfl, HY.out⟩
set_option maxRecDepth 100000 in
set_option maxHeartbeats 16000000 in
theorem texts_ny (p : Option Addr) (c : Nat) (t : Tr) (s : ByteArray) (w : World) (hL : TLeans w) (h1 : TrAt w p c t) (hu : t.uri.size ≤ 140737488351232) (hn : t.loc.size ≤ 140737488351232) (hs : s.size ≤ 4194304) (hr : rightT t = false) (t2 : Tr) (hr2 : readT s.data.toList = some t2) :
    Calls Tryd.prog 3 #[TrV p c t, .string s] w fun e w' => e = .returned (.bool true) ∧ Below w.heap.size w w' := by
  have AW := Lib.hid (fun W (y : Below w.heap.size w W) => awake8_any W (hL.below y))
  have HT := Lib.hid (fun W (y : Below w.heap.size w W) => h1.below y)
  have SHT := Lib.hid (fun W (y : Below w.heap.size w W) => show_any p c t W (h1.below y) (hL.below y) (by omega) (by omega))
  have RDS := Lib.hid (fun W (y : Below w.heap.size w W) => read_any s W (hL.below y) hs)
  have DOC := Lib.hid (fun W => docT_any p c t W)
  have RGT := Lib.hid (fun W (y : Below w.heap.size w W) => rright_any p c t W (h1.below y) (hL.below y).tabs (by omega) (by omega))
  have RRD := Lib.hid (fun W (y : Below w.heap.size w W) => rread_yes s W (hL.below y).tabs hs t2 hr2)
  rw [hr] at SHT RGT
  rw [hr2] at RDS
  simp only [Bool.false_eq_true, if_false] at SHT
  have SAM := Lib.hid (fun W q d q2 d2 (x : TrAt W q d t2) (y : TrAt W q2 d2 t2) => sameT_yes q q2 d d2 t2 W x y)
  have DO2 := Lib.hid (fun W q d => docT_any q d t2 W)
  have BX := Lib.hid (And.intro ((Below.refl w.heap.size w).alloc (Nat.le_refl _) (.cells #[.slice p t.steps.length c, .bool t.attr, .string t.uri, .string t.loc] 26)) (t_one w (.cells #[.slice p t.steps.length c, .bool t.attr, .string t.uri, .string t.loc] 26)))
  clear hL h1 hu hn hr hr2
  unfold TrV at *
  go_enter Tryd.func3, Tryd.ntmps3
  go_wp2_with (fail)
  refine (AW.out _ BX.out.1).mono ?_
  rintro e1 w1 ⟨rfl, hb1⟩
  have HB := Lib.hid (t_cat BX.out.1 hb1)
  have BT := Lib.hid (BoxT.below (t := t) (BoxT.of BX.out.2) hb1)
  clear hb1 BX
  obtain ⟨t0, t1, t2_, t3⟩ := BT.out
  go_wp2_with (fail)
  with_reducible (refine (SHT.out _ HB.out).mono ?_)
  rintro e2 w2 ⟨rfl, hb2⟩
  have HC := Lib.hid (t_cat HB.out hb2)
  have BU := Lib.hid (BT.out.below hb2)
  clear hb2 t0 t1 t2_ t3 BT HB
  obtain ⟨t0, t1, t2_, t3⟩ := BU.out
  go_wp2_with (fail)
  refine (RDS.out _ HC.out).mono ?_
  intro e3 w3 hpost
  obtain ⟨q3, d3, rfl, hat3, -, hb3⟩ : ∃ q3 d3, e3 = .returned (.tuple #[.agg #[.slice q3 t2.steps.length d3, .bool t2.attr, .string t2.uri, .string t2.loc], .int .i64 0]) ∧ TrAt w3 q3 d3 t2 ∧ (q3 = none → d3 = 0) ∧ Below w2.heap.size w2 w3 := hpost
  have hal := (Below.refl w3.heap.size w3).alloc (Nat.le_refl _) (.cells #[.slice q3 t2.steps.length d3, .bool t2.attr, .string t2.uri, .string t2.loc] 26)
  have HD := Lib.hid (And.intro (t_cat (t_cat HC.out hb3) hal) (And.intro ((BU.out.below hb3).below hal) (And.intro (hat3.below hal) (BoxT.of (t := t2) (n := t2.steps.length) (t_one w3 (.cells #[.slice q3 t2.steps.length d3, .bool t2.attr, .string t2.uri, .string t2.loc] 26))))))
  clear hat3 hb3 hal t0 t1 t2_ t3 BU HC
  go_upto_region 5 with fail
  generalize w3.heap.size = G at *
  generalize w3.alloc (.cells #[.slice q3 t2.steps.length d3, .bool t2.attr, .string t2.uri, .string t2.loc] 26) = w4 at *
  obtain ⟨t0, t1, t2_, t3⟩ := HD.out.2.1
  go_wp2_with (fail)
  with_reducible (refine (DOC.out _).mono ?_)
  rintro e4 w5 ⟨rfl, hb4⟩
  have HE := Lib.hid (And.intro (t_cat HD.out.1 hb4) (And.intro (HD.out.2.1.below hb4) (And.intro (HD.out.2.2.1.below hb4) (HD.out.2.2.2.below hb4))))
  clear hb4 t0 t1 t2_ t3 HD
  have HD := HE
  clear HE
  obtain ⟨t0, t1, t2_, t3⟩ := HD.out.2.1
  go_wp2_with (fail)
  with_reducible (refine (RGT.out _ HD.out.1).mono ?_)
  rintro e4 w6 ⟨rfl, hb4⟩
  have HE := Lib.hid (And.intro (t_cat HD.out.1 hb4) (And.intro (HD.out.2.1.below hb4) (And.intro (HD.out.2.2.1.below hb4) (HD.out.2.2.2.below hb4))))
  clear hb4 t0 t1 t2_ t3 HD
  have HD := HE
  clear HE
  go_wp2_with (fail)
  refine (RRD.out _ HD.out.1).mono ?_
  rintro e9 w9 ⟨q9, d9, rfl, hat9, hb9⟩
  have hal := (Below.refl w9.heap.size w9).alloc (Nat.le_refl _) (.cells #[.slice q9 t2.steps.length d9, .bool t2.attr, .string t2.uri, .string t2.loc] 34)
  have HF := Lib.hid (And.intro (t_cat (t_cat HD.out.1 hb9) hal) (And.intro ((HD.out.2.2.1.below hb9).below hal) (And.intro ((HD.out.2.2.2.below hb9).below hal) (And.intro (hat9.below hal) (BoxT.of (t := t2) (n := t2.steps.length) (t_one w9 (.cells #[.slice q9 t2.steps.length d9, .bool t2.attr, .string t2.uri, .string t2.loc] 34)))))))
  clear hat9 hb9 hal HD
  go_upto_region 10 with fail
  generalize w9.heap.size = G9 at *
  generalize w9.alloc (.cells #[.slice q9 t2.steps.length d9, .bool t2.attr, .string t2.uri, .string t2.loc] 34) = wa at *
  obtain ⟨t0, t1, t2_, t3⟩ := HF.out.2.2.1
  obtain ⟨u0, u1, u2, u3⟩ := HF.out.2.2.2.2
  go_region_held3 (fun W => W.cell? ⟨G, 0, none⟩ = some (.slice q3 t2.steps.length d3) ∧ W.cell? ⟨G, 1, none⟩ = some (.bool t2.attr) ∧ W.cell? ⟨G, 2, none⟩ = some (.string t2.uri) ∧ W.cell? ⟨G, 3, none⟩ = some (.string t2.loc) ∧
      W.cell? ⟨G9, 0, none⟩ = some (.slice q9 t2.steps.length d9) ∧ W.cell? ⟨G9, 1, none⟩ = some (.bool t2.attr) ∧ W.cell? ⟨G9, 2, none⟩ = some (.string t2.uri) ∧ W.cell? ⟨G9, 3, none⟩ = some (.string t2.loc) ∧ Below wa.heap.size wa W)
    (first
      | exact ⟨t0, t1, t2_, t3, u0, u1, u2, u3, (Below.refl _ _).drew⟩
      | (go_split_ands
         exact ⟨t_cell hbe (by assumption), t_cell hbe (by assumption), t_cell hbe (by assumption), t_cell hbe (by assumption), t_cell hbe (by assumption), t_cell hbe (by assumption), t_cell hbe (by assumption), t_cell hbe (by assumption), t_cat (by assumption) hbe⟩))
    (first
      | (go_at_call 11
         go_split_ands
         with_reducible (refine (DO2.out _ _ _).mono ?_)
         rintro e w' ⟨rfl, hbe⟩)
      | (go_at_call 14
         go_split_ands
         with_reducible (refine (SAM.out _ _ _ _ _ (HF.out.2.1.below (by assumption)) (HF.out.2.2.2.1.below (by assumption))).mono ?_)
         rintro e w' ⟨rfl, hbe⟩))
  all_goals
    go_split_ands
    clear t0 t1 t2_ t3 u0 u1 u2 u3
    rename_i hbw
    have HZ := Lib.hid (t_cat HF.out.1 hbw)
    go_wp2_with (fail)
    go_ret
    exact ⟨rfl, HZ.out⟩
set_option maxRecDepth 100000 in
set_option maxHeartbeats 16000000 in
theorem texts_yn (p : Option Addr) (c : Nat) (t : Tr) (s : ByteArray) (w : World) (hL : TLeans w) (h1 : TrAt w p c t) (hu : t.uri.size ≤ 140737488351232) (hn : t.loc.size ≤ 140737488351232) (hs : s.size ≤ 4194304) (hr : rightT t = true) (z : ByteArray) (hz : (⟨(showL t).toArray⟩ : ByteArray) = z) (hr2 : readT s.data.toList = none) :
    Calls Tryd.prog 3 #[TrV p c t, .string s] w fun e w' => e = .returned (.bool true) ∧ Below w.heap.size w w' := by
  have AW := Lib.hid (fun W (y : Below w.heap.size w W) => awake8_any W (hL.below y))
  have HT := Lib.hid (fun W (y : Below w.heap.size w W) => h1.below y)
  have SHT := Lib.hid (fun W (y : Below w.heap.size w W) => show_any p c t W (h1.below y) (hL.below y) (by omega) (by omega))
  have RDS := Lib.hid (fun W (y : Below w.heap.size w W) => read_any s W (hL.below y) hs)
  have DOC := Lib.hid (fun W => docT_any p c t W)
  have RGT := Lib.hid (fun W (y : Below w.heap.size w W) => rright_any p c t W (h1.below y) (hL.below y).tabs (by omega) (by omega))
  have RRD := Lib.hid (fun W (y : Below w.heap.size w W) => rread_no s W (hL.below y).tabs hs hr2)
  rw [hr] at SHT RGT
  rw [hr2] at RDS
  simp only [if_true] at SHT
  have RSH := Lib.hid (fun W (y : Below w.heap.size w W) => rshow_any p c t W (h1.below y) hr)
  rw [hz] at SHT RSH
  have zz : (z.toList == z.toList) = true := by simp
  have SAM := Lib.hid (fun W q d (x : TrAt W q d trZ) => sameT_yes q none d 0 trZ W x ⟨fun h => absurd h (Nat.lt_irrefl 0), Nat.le_refl _, Nat.zero_le _⟩)
  have DO2 := Lib.hid (fun W q d => docT_any q d trZ W)
  unfold trZ at SAM DO2
  have BX := Lib.hid (And.intro ((Below.refl w.heap.size w).alloc (Nat.le_refl _) (.cells #[.slice p t.steps.length c, .bool t.attr, .string t.uri, .string t.loc] 26)) (t_one w (.cells #[.slice p t.steps.length c, .bool t.attr, .string t.uri, .string t.loc] 26)))
  clear hL h1 hu hn hr hr2 hz
  unfold TrV at *
  simp only [List.length_nil] at DO2 SAM
  go_enter Tryd.func3, Tryd.ntmps3
  go_wp2_with (fail)
  refine (AW.out _ BX.out.1).mono ?_
  rintro e1 w1 ⟨rfl, hb1⟩
  have HB := Lib.hid (t_cat BX.out.1 hb1)
  have BT := Lib.hid (BoxT.below (t := t) (BoxT.of BX.out.2) hb1)
  clear hb1 BX
  obtain ⟨t0, t1, t2_, t3⟩ := BT.out
  go_wp2_with (fail)
  with_reducible (refine (SHT.out _ HB.out).mono ?_)
  rintro e2 w2 ⟨rfl, hb2⟩
  have HC := Lib.hid (t_cat HB.out hb2)
  have BU := Lib.hid (BT.out.below hb2)
  clear hb2 t0 t1 t2_ t3 BT HB
  obtain ⟨t0, t1, t2_, t3⟩ := BU.out
  go_wp2_with (fail)
  refine (RDS.out _ HC.out).mono ?_
  intro e3 w3 hpost
  obtain ⟨q3, d3, rfl, hat3, -, hb3⟩ : ∃ q3 d3, e3 = .returned (.tuple #[.agg #[.slice q3 0 d3, .bool false, .string ⟨#[]⟩, .string ⟨#[]⟩], .int .i64 35]) ∧ TrAt w3 q3 d3 ⟨[], false, ⟨#[]⟩, ⟨#[]⟩⟩ ∧ (q3 = none → d3 = 0) ∧ Below w2.heap.size w2 w3 := hpost
  have hal := (Below.refl w3.heap.size w3).alloc (Nat.le_refl _) (.cells #[.slice q3 0 d3, .bool false, .string ⟨#[]⟩, .string ⟨#[]⟩] 26)
  have HD := Lib.hid (And.intro (t_cat (t_cat HC.out hb3) hal) (And.intro ((BU.out.below hb3).below hal) (And.intro (hat3.below hal) (BoxT.of (t := ⟨[], false, ⟨#[]⟩, ⟨#[]⟩⟩) (n := 0) (t_one w3 (.cells #[.slice q3 0 d3, .bool false, .string ⟨#[]⟩, .string ⟨#[]⟩] 26))))))
  clear hat3 hb3 hal t0 t1 t2_ t3 BU HC
  go_upto_region 5 with fail
  generalize w3.heap.size = G at *
  generalize w3.alloc (.cells #[.slice q3 0 d3, .bool false, .string ⟨#[]⟩, .string ⟨#[]⟩] 26) = w4 at *
  obtain ⟨t0, t1, t2_, t3⟩ := HD.out.2.1
  go_wp2_with (fail)
  with_reducible (refine (DOC.out _).mono ?_)
  rintro e4 w5 ⟨rfl, hb4⟩
  have HE := Lib.hid (And.intro (t_cat HD.out.1 hb4) (And.intro (HD.out.2.1.below hb4) (And.intro (HD.out.2.2.1.below hb4) (HD.out.2.2.2.below hb4))))
  clear hb4 t0 t1 t2_ t3 HD
  have HD := HE
  clear HE
  obtain ⟨t0, t1, t2_, t3⟩ := HD.out.2.1
  go_wp2_with (fail)
  with_reducible (refine (RGT.out _ HD.out.1).mono ?_)
  rintro e4 w6 ⟨rfl, hb4⟩
  have HE := Lib.hid (And.intro (t_cat HD.out.1 hb4) (And.intro (HD.out.2.1.below hb4) (And.intro (HD.out.2.2.1.below hb4) (HD.out.2.2.2.below hb4))))
  clear hb4 t0 t1 t2_ t3 HD
  have HD := HE
  clear HE
  obtain ⟨t0, t1, t2_, t3⟩ := HD.out.2.1
  go_wp2_with (fail)
  with_reducible (refine (DOC.out _).mono ?_)
  rintro e4 w7 ⟨rfl, hb4⟩
  have HE := Lib.hid (And.intro (t_cat HD.out.1 hb4) (And.intro (HD.out.2.1.below hb4) (And.intro (HD.out.2.2.1.below hb4) (HD.out.2.2.2.below hb4))))
  clear hb4 t0 t1 t2_ t3 HD
  have HD := HE
  clear HE
  obtain ⟨t0, t1, t2_, t3⟩ := HD.out.2.1
  go_wp2_with (fail)
  with_reducible (refine (RSH.out _ HD.out.1).mono ?_)
  rintro e4 w8 ⟨rfl, hb4⟩
  have HE := Lib.hid (And.intro (t_cat HD.out.1 hb4) (And.intro (HD.out.2.1.below hb4) (And.intro (HD.out.2.2.1.below hb4) (HD.out.2.2.2.below hb4))))
  clear hb4 t0 t1 t2_ t3 HD
  have HD := HE
  clear HE
  go_wp2_with (fail)
  refine (RRD.out _ HD.out.1).mono ?_
  rintro e9 w9 ⟨q9, d9, t9, rfl, hb9⟩
  have hal := (Below.refl w9.heap.size w9).alloc (Nat.le_refl _) (.cells #[.slice q9 t9.steps.length d9, .bool t9.attr, .string t9.uri, .string t9.loc] 34)
  have HF := Lib.hid (And.intro (t_cat (t_cat HD.out.1 hb9) hal) (And.intro ((HD.out.2.2.1.below hb9).below hal) ((HD.out.2.2.2.below hb9).below hal)))
  clear hb9 hal HD
  go_upto_region 8 with fail
  generalize w9.alloc (.cells #[.slice q9 t9.steps.length d9, .bool t9.attr, .string t9.uri, .string t9.loc] 34) = wa at *
  obtain ⟨t0, t1, t2_, t3⟩ := HF.out.2.2
  go_wp2_with (fail)
  with_reducible (refine (DO2.out _ _ _).mono ?_)
  rintro e5 wb ⟨rfl, hb5⟩
  have HZ := Lib.hid (And.intro (t_cat HF.out.1 hb5) (HF.out.2.1.below hb5))
  clear hb5 t0 t1 t2_ t3
  go_wp2_with (fail)
  with_reducible (refine (SAM.out _ _ _ HZ.out.2).mono ?_)
  rintro e6 wc ⟨rfl, hb6⟩
  have HY := Lib.hid (t_cat HZ.out.1 hb6)
  clear hb6
  go_wp2_with (fail)
  go_ret
  exact ⟨rfl, HY.out⟩
set_option maxRecDepth 100000 in
set_option maxHeartbeats 16000000 in
theorem texts_yy (p : Option Addr) (c : Nat) (t : Tr) (s : ByteArray) (w : World) (hL : TLeans w) (h1 : TrAt w p c t) (hu : t.uri.size ≤ 140737488351232) (hn : t.loc.size ≤ 140737488351232) (hs : s.size ≤ 4194304) (hr : rightT t = true) (z : ByteArray) (hz : (⟨(showL t).toArray⟩ : ByteArray) = z) (t2 : Tr) (hr2 : readT s.data.toList = some t2) :
    Calls Tryd.prog 3 #[TrV p c t, .string s] w fun e w' => e = .returned (.bool true) ∧ Below w.heap.size w w' := by
  have AW := Lib.hid (fun W (y : Below w.heap.size w W) => awake8_any W (hL.below y))
  have HT := Lib.hid (fun W (y : Below w.heap.size w W) => h1.below y)
  have SHT := Lib.hid (fun W (y : Below w.heap.size w W) => show_any p c t W (h1.below y) (hL.below y) (by omega) (by omega))
  have RDS := Lib.hid (fun W (y : Below w.heap.size w W) => read_any s W (hL.below y) hs)
  have DOC := Lib.hid (fun W => docT_any p c t W)
  have RGT := Lib.hid (fun W (y : Below w.heap.size w W) => rright_any p c t W (h1.below y) (hL.below y).tabs (by omega) (by omega))
  have RRD := Lib.hid (fun W (y : Below w.heap.size w W) => rread_yes s W (hL.below y).tabs hs t2 hr2)
  rw [hr] at SHT RGT
  rw [hr2] at RDS
  simp only [if_true] at SHT
  have RSH := Lib.hid (fun W (y : Below w.heap.size w W) => rshow_any p c t W (h1.below y) hr)
  rw [hz] at SHT RSH
  have zz : (z.toList == z.toList) = true := by simp
  have SAM := Lib.hid (fun W q d q2 d2 (x : TrAt W q d t2) (y : TrAt W q2 d2 t2) => sameT_yes q q2 d d2 t2 W x y)
  have DO2 := Lib.hid (fun W q d => docT_any q d t2 W)
  have BX := Lib.hid (And.intro ((Below.refl w.heap.size w).alloc (Nat.le_refl _) (.cells #[.slice p t.steps.length c, .bool t.attr, .string t.uri, .string t.loc] 26)) (t_one w (.cells #[.slice p t.steps.length c, .bool t.attr, .string t.uri, .string t.loc] 26)))
  clear hL h1 hu hn hr hr2 hz
  unfold TrV at *
  go_enter Tryd.func3, Tryd.ntmps3
  go_wp2_with (fail)
  refine (AW.out _ BX.out.1).mono ?_
  rintro e1 w1 ⟨rfl, hb1⟩
  have HB := Lib.hid (t_cat BX.out.1 hb1)
  have BT := Lib.hid (BoxT.below (t := t) (BoxT.of BX.out.2) hb1)
  clear hb1 BX
  obtain ⟨t0, t1, t2_, t3⟩ := BT.out
  go_wp2_with (fail)
  with_reducible (refine (SHT.out _ HB.out).mono ?_)
  rintro e2 w2 ⟨rfl, hb2⟩
  have HC := Lib.hid (t_cat HB.out hb2)
  have BU := Lib.hid (BT.out.below hb2)
  clear hb2 t0 t1 t2_ t3 BT HB
  obtain ⟨t0, t1, t2_, t3⟩ := BU.out
  go_wp2_with (fail)
  refine (RDS.out _ HC.out).mono ?_
  intro e3 w3 hpost
  obtain ⟨q3, d3, rfl, hat3, -, hb3⟩ : ∃ q3 d3, e3 = .returned (.tuple #[.agg #[.slice q3 t2.steps.length d3, .bool t2.attr, .string t2.uri, .string t2.loc], .int .i64 0]) ∧ TrAt w3 q3 d3 t2 ∧ (q3 = none → d3 = 0) ∧ Below w2.heap.size w2 w3 := hpost
  have hal := (Below.refl w3.heap.size w3).alloc (Nat.le_refl _) (.cells #[.slice q3 t2.steps.length d3, .bool t2.attr, .string t2.uri, .string t2.loc] 26)
  have HD := Lib.hid (And.intro (t_cat (t_cat HC.out hb3) hal) (And.intro ((BU.out.below hb3).below hal) (And.intro (hat3.below hal) (BoxT.of (t := t2) (n := t2.steps.length) (t_one w3 (.cells #[.slice q3 t2.steps.length d3, .bool t2.attr, .string t2.uri, .string t2.loc] 26))))))
  clear hat3 hb3 hal t0 t1 t2_ t3 BU HC
  go_upto_region 5 with fail
  generalize w3.heap.size = G at *
  generalize w3.alloc (.cells #[.slice q3 t2.steps.length d3, .bool t2.attr, .string t2.uri, .string t2.loc] 26) = w4 at *
  obtain ⟨t0, t1, t2_, t3⟩ := HD.out.2.1
  go_wp2_with (fail)
  with_reducible (refine (DOC.out _).mono ?_)
  rintro e4 w5 ⟨rfl, hb4⟩
  have HE := Lib.hid (And.intro (t_cat HD.out.1 hb4) (And.intro (HD.out.2.1.below hb4) (And.intro (HD.out.2.2.1.below hb4) (HD.out.2.2.2.below hb4))))
  clear hb4 t0 t1 t2_ t3 HD
  have HD := HE
  clear HE
  obtain ⟨t0, t1, t2_, t3⟩ := HD.out.2.1
  go_wp2_with (fail)
  with_reducible (refine (RGT.out _ HD.out.1).mono ?_)
  rintro e4 w6 ⟨rfl, hb4⟩
  have HE := Lib.hid (And.intro (t_cat HD.out.1 hb4) (And.intro (HD.out.2.1.below hb4) (And.intro (HD.out.2.2.1.below hb4) (HD.out.2.2.2.below hb4))))
  clear hb4 t0 t1 t2_ t3 HD
  have HD := HE
  clear HE
  obtain ⟨t0, t1, t2_, t3⟩ := HD.out.2.1
  go_wp2_with (fail)
  with_reducible (refine (DOC.out _).mono ?_)
  rintro e4 w7 ⟨rfl, hb4⟩
  have HE := Lib.hid (And.intro (t_cat HD.out.1 hb4) (And.intro (HD.out.2.1.below hb4) (And.intro (HD.out.2.2.1.below hb4) (HD.out.2.2.2.below hb4))))
  clear hb4 t0 t1 t2_ t3 HD
  have HD := HE
  clear HE
  obtain ⟨t0, t1, t2_, t3⟩ := HD.out.2.1
  go_wp2_with (fail)
  with_reducible (refine (RSH.out _ HD.out.1).mono ?_)
  rintro e4 w8 ⟨rfl, hb4⟩
  have HE := Lib.hid (And.intro (t_cat HD.out.1 hb4) (And.intro (HD.out.2.1.below hb4) (And.intro (HD.out.2.2.1.below hb4) (HD.out.2.2.2.below hb4))))
  clear hb4 t0 t1 t2_ t3 HD
  have HD := HE
  clear HE
  go_wp2_with (fail)
  refine (RRD.out _ HD.out.1).mono ?_
  rintro e9 w9 ⟨q9, d9, rfl, hat9, hb9⟩
  have hal := (Below.refl w9.heap.size w9).alloc (Nat.le_refl _) (.cells #[.slice q9 t2.steps.length d9, .bool t2.attr, .string t2.uri, .string t2.loc] 34)
  have HF := Lib.hid (And.intro (t_cat (t_cat HD.out.1 hb9) hal) (And.intro ((HD.out.2.2.1.below hb9).below hal) (And.intro ((HD.out.2.2.2.below hb9).below hal) (And.intro (hat9.below hal) (BoxT.of (t := t2) (n := t2.steps.length) (t_one w9 (.cells #[.slice q9 t2.steps.length d9, .bool t2.attr, .string t2.uri, .string t2.loc] 34)))))))
  clear hat9 hb9 hal HD
  go_upto_region 10 with fail
  generalize w9.heap.size = G9 at *
  generalize w9.alloc (.cells #[.slice q9 t2.steps.length d9, .bool t2.attr, .string t2.uri, .string t2.loc] 34) = wa at *
  obtain ⟨t0, t1, t2_, t3⟩ := HF.out.2.2.1
  obtain ⟨u0, u1, u2, u3⟩ := HF.out.2.2.2.2
  go_region_held3 (fun W => W.cell? ⟨G, 0, none⟩ = some (.slice q3 t2.steps.length d3) ∧ W.cell? ⟨G, 1, none⟩ = some (.bool t2.attr) ∧ W.cell? ⟨G, 2, none⟩ = some (.string t2.uri) ∧ W.cell? ⟨G, 3, none⟩ = some (.string t2.loc) ∧
      W.cell? ⟨G9, 0, none⟩ = some (.slice q9 t2.steps.length d9) ∧ W.cell? ⟨G9, 1, none⟩ = some (.bool t2.attr) ∧ W.cell? ⟨G9, 2, none⟩ = some (.string t2.uri) ∧ W.cell? ⟨G9, 3, none⟩ = some (.string t2.loc) ∧ Below wa.heap.size wa W)
    (first
      | exact ⟨t0, t1, t2_, t3, u0, u1, u2, u3, (Below.refl _ _).drew⟩
      | (go_split_ands
         exact ⟨t_cell hbe (by assumption), t_cell hbe (by assumption), t_cell hbe (by assumption), t_cell hbe (by assumption), t_cell hbe (by assumption), t_cell hbe (by assumption), t_cell hbe (by assumption), t_cell hbe (by assumption), t_cat (by assumption) hbe⟩))
    (first
      | (go_at_call 11
         go_split_ands
         with_reducible (refine (DO2.out _ _ _).mono ?_)
         rintro e w' ⟨rfl, hbe⟩)
      | (go_at_call 14
         go_split_ands
         with_reducible (refine (SAM.out _ _ _ _ _ (HF.out.2.1.below (by assumption)) (HF.out.2.2.2.1.below (by assumption))).mono ?_)
         rintro e w' ⟨rfl, hbe⟩))
  all_goals
    go_split_ands
    clear t0 t1 t2_ t3 u0 u1 u2 u3
    rename_i hbw
    have HZ := Lib.hid (t_cat HF.out.1 hbw)
    go_wp2_with (fail)
    go_ret
    exact ⟨rfl, HZ.out⟩
theorem texts_walk (p : Option Addr) (c : Nat) (t : Tr) (s : ByteArray) (w : World) (hL : TLeans w) (h1 : TrAt w p c t) (hu : t.uri.size ≤ 140737488351232) (hn : t.loc.size ≤ 140737488351232) (hs : s.size ≤ 4194304) :
    Calls Tryd.prog 3 #[TrV p c t, .string s] w fun e w' => e = .returned (.bool true) ∧ Below w.heap.size w w' := by
  cases hr : rightT t
  · cases hr2 : readT s.data.toList with
    | none => exact texts_nn p c t s w hL h1 hu hn hs hr hr2
    | some t2 => exact texts_ny p c t s w hL h1 hu hn hs hr t2 hr2
  · cases hr2 : readT s.data.toList with
    | none => exact texts_yn p c t s w hL h1 hu hn hs hr _ rfl hr2
    | some t2 => exact texts_yy p c t s w hL h1 hu hn hs hr _ rfl t2 hr2
end Go.Proofs.YtpcdcndniibalaaDoor
