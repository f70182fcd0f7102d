/- Proved here: the statement TrailBack, walked: it answers true of every trail and every text (of at most 4194304 bytes), in every world that holds what trail leans on. -/
import Derived.Test.YtpcdcndniibalaaDoorTrailDoc
import Derived.Deep.RegionHeld3
import Derived.BigGuardPart
namespace Go.Proofs.YtpcdcndniibalaaDoor
open Go.RowKit

set_option maxRecDepth 100000 in
set_option maxHeartbeats 8000000 in
theorem back_nn (p : Option Addr) (c : Nat) (t : Tr) (s : ByteArray) (w : World) (hL : TLeans w) (h1 : TrAt w p c t) (hu : t.uri.size ≤ 140737488351232) (hn : t.loc.size ≤ 140737488351232) (hs : s.size ≤ 4194304) (hr : rightT t = false) (hr2 : readT s.data.toList = none) :
    Calls Tryd.prog 4 #[TrV p c t, .string s] w fun e w' => e = .returned (.bool true) ∧ Below w.heap.size w w' := by
  have AW := Lib.hid (fun W (y : Below w.heap.size w W) => awake8_any W (hL.below y))
  have HT := Lib.hid (fun W (y : Below w.heap.size w W) => h1.below y)
  have SHT := Lib.hid (fun W (y : Below w.heap.size w W) => show_any p c t W (h1.below y) (hL.below y) (by omega) (by omega))
  have RDS := Lib.hid (fun W (y : Below w.heap.size w W) => read_any s W (hL.below y) hs)
  rw [hr] at SHT
  rw [hr2] at RDS
  simp only [Bool.false_eq_true, if_false] at SHT
  have BX := Lib.hid (And.intro ((Below.refl w.heap.size w).alloc (Nat.le_refl _) (.cells #[.slice p t.steps.length c, .bool t.attr, .string t.uri, .string t.loc] 26)) (t_one w (.cells #[.slice p t.steps.length c, .bool t.attr, .string t.uri, .string t.loc] 26)))
  clear hL h1 hu hn hr hr2
  unfold TrV at *
  go_enter Tryd.func4, Tryd.ntmps4
  go_wp2_with (fail)
  refine (AW.out _ BX.out.1).mono ?_
  rintro e1 w1 ⟨rfl, hb1⟩
  have HB := Lib.hid (t_cat BX.out.1 hb1)
  have BT := Lib.hid (BoxT.below (t := t) (BoxT.of BX.out.2) hb1)
  clear hb1 BX
  obtain ⟨t0, t1, t2_, t3⟩ := BT.out
  go_wp2_with (fail)
  with_reducible (refine (SHT.out _ HB.out).mono ?_)
  rintro e2 w2 ⟨rfl, hb2⟩
  have HC := Lib.hid (t_cat HB.out hb2)
  have BU := Lib.hid (BT.out.below hb2)
  clear hb2 t0 t1 t2_ t3 BT HB
  obtain ⟨t0, t1, t2_, t3⟩ := BU.out
  go_wp2_with (fail)
  refine (RDS.out _ HC.out).mono ?_
  intro e7 w7 hpost
  obtain ⟨q7, d7, rfl, -, -, hb7⟩ : ∃ q d, e7 = .returned (.tuple #[.agg #[.slice q 0 d, .bool false, .string ⟨#[]⟩, .string ⟨#[]⟩], .int .i64 35]) ∧ TrAt w7 q d trZ ∧ (q = none → d = 0) ∧ Below _ _ w7 := hpost
  have HG := Lib.hid ((t_cat HC.out hb7).alloc (t_cat HC.out hb7).size (.cells #[.slice q7 0 d7, .bool false, .string ⟨#[]⟩, .string ⟨#[]⟩] 26))
  clear hb7
  go_wp2_with (fail)
  go_ret
  exact ⟨rfl, HG.out⟩
set_option maxRecDepth 100000 in
set_option maxHeartbeats 8000000 in
theorem back_ny (p : Option Addr) (c : Nat) (t : Tr) (s : ByteArray) (w : World) (hL : TLeans w) (h1 : TrAt w p c t) (hu : t.uri.size ≤ 140737488351232) (hn : t.loc.size ≤ 140737488351232) (hs : s.size ≤ 4194304) (hr : rightT t = false) (t2 : Tr) (hr2 : readT s.data.toList = some t2) :
    Calls Tryd.prog 4 #[TrV p c t, .string s] w fun e w' => e = .returned (.bool true) ∧ Below w.heap.size w w' := by
  have AW := Lib.hid (fun W (y : Below w.heap.size w W) => awake8_any W (hL.below y))
  have HT := Lib.hid (fun W (y : Below w.heap.size w W) => h1.below y)
  have SHT := Lib.hid (fun W (y : Below w.heap.size w W) => show_any p c t W (h1.below y) (hL.below y) (by omega) (by omega))
  have RDS := Lib.hid (fun W (y : Below w.heap.size w W) => read_any s W (hL.below y) hs)
  rw [hr] at SHT
  rw [hr2] at RDS
  simp only [Bool.false_eq_true, if_false] at SHT
  have hrb := read_back hr2
  have hsm : t2.uri.size ≤ 4194304 ∧ t2.loc.size ≤ 4194304 := by
    have h2 := hrb.1
    unfold readT at hr2
    split at hr2
    · have := guess_small (Option.some.inj hr2)
      rw [ba_size] at this
      omega
    · cases hr2
  have SH2 := Lib.hid (fun W (y : Below w.heap.size w W) q d (h : TrAt W q d t2) => show_any q d t2 W h (hL.below y) (by omega) (by omega))
  rw [hrb.1, hrb.2] at SH2
  simp only [if_true] at SH2
  have hsb : (⟨s.data.toList.toArray⟩ : ByteArray) = s := rfl
  rw [hsb] at SH2
  have hss : (s.toList == s.toList) = true := by simp
  clear hrb hsm hsb
  have BX := Lib.hid (And.intro ((Below.refl w.heap.size w).alloc (Nat.le_refl _) (.cells #[.slice p t.steps.length c, .bool t.attr, .string t.uri, .string t.loc] 26)) (t_one w (.cells #[.slice p t.steps.length c, .bool t.attr, .string t.uri, .string t.loc] 26)))
  clear hL h1 hu hn hr hr2
  unfold TrV at *
  go_enter Tryd.func4, Tryd.ntmps4
  go_wp2_with (fail)
  refine (AW.out _ BX.out.1).mono ?_
  rintro e1 w1 ⟨rfl, hb1⟩
  have HB := Lib.hid (t_cat BX.out.1 hb1)
  have BT := Lib.hid (BoxT.below (t := t) (BoxT.of BX.out.2) hb1)
  clear hb1 BX
  obtain ⟨t0, t1, t2_, t3⟩ := BT.out
  go_wp2_with (fail)
  with_reducible (refine (SHT.out _ HB.out).mono ?_)
  rintro e2 w2 ⟨rfl, hb2⟩
  have HC := Lib.hid (t_cat HB.out hb2)
  have BU := Lib.hid (BT.out.below hb2)
  clear hb2 t0 t1 t2_ t3 BT HB
  obtain ⟨t0, t1, t2_, t3⟩ := BU.out
  go_wp2_with (fail)
  refine (RDS.out _ HC.out).mono ?_
  intro e7 w7 hpost
  obtain ⟨q7, d7, rfl, hat7, -, hb7⟩ : ∃ q d, e7 = .returned (.tuple #[.agg #[.slice q t2.steps.length d, .bool t2.attr, .string t2.uri, .string t2.loc], .int .i64 0]) ∧ TrAt w7 q d t2 ∧ (q = none → d = 0) ∧ Below _ _ w7 := hpost
  have hal7 := (Below.refl w7.heap.size w7).alloc (Nat.le_refl _) (.cells #[.slice q7 t2.steps.length d7, .bool t2.attr, .string t2.uri, .string t2.loc] 26)
  have HF := Lib.hid (And.intro (t_cat (t_cat HC.out hb7) hal7) (hat7.below hal7))
  clear hb7 hat7 hal7
  go_wp2_with (fail)
  with_reducible (refine (SH2.out _ HF.out.1 _ _ HF.out.2).mono ?_)
  rintro e8 w8 ⟨rfl, hb8⟩
  have HG := Lib.hid (t_cat HF.out.1 hb8)
  clear hb8
  go_wp2_with (fail)
  go_ret
  exact ⟨rfl, HG.out⟩
set_option maxRecDepth 100000 in
set_option maxHeartbeats 8000000 in
theorem back_yn (p : Option Addr) (c : Nat) (t : Tr) (s : ByteArray) (w : World) (hL : TLeans w) (h1 : TrAt w p c t) (hu : t.uri.size ≤ 140737488351232) (hn : t.loc.size ≤ 140737488351232) (hs : s.size ≤ 4194304) (hr : rightT t = true) (z : ByteArray) (hz : (⟨(showL t).toArray⟩ : ByteArray) = z) (hr2 : readT s.data.toList = none) :
    Calls Tryd.prog 4 #[TrV p c t, .string s] w fun e w' => e = .returned (.bool true) ∧ Below w.heap.size w w' := by
  have AW := Lib.hid (fun W (y : Below w.heap.size w W) => awake8_any W (hL.below y))
  have HT := Lib.hid (fun W (y : Below w.heap.size w W) => h1.below y)
  have SHT := Lib.hid (fun W (y : Below w.heap.size w W) => show_any p c t W (h1.below y) (hL.below y) (by omega) (by omega))
  have RDS := Lib.hid (fun W (y : Below w.heap.size w W) => read_any s W (hL.below y) hs)
  rw [hr] at SHT
  rw [hr2] at RDS
  simp only [if_true] at SHT
  have RDA := Lib.hid (fun W (y : Below w.heap.size w W) => read_any ⟨(showL t).toArray⟩ W (hL.below y) (by rw [ba_len]; have := showL_size hr; omega))
  rw [ba_list, read_show hr] at RDA
  rw [hz] at SHT RDA
  have CMP := Lib.hid (fun W q d (x : TrAt W q d t) (y : TrAt W p c t) => cmpT_any q p d c t t W x y)
  rw [cmpT_self] at CMP
  have DOC := Lib.hid (fun W q d => docT_any q d t W)
  have SAM := Lib.hid (fun W q d (x : TrAt W q d t) (y : TrAt W p c t) => sameT_yes q p d c t W x y)
  have BX := Lib.hid (And.intro ((Below.refl w.heap.size w).alloc (Nat.le_refl _) (.cells #[.slice p t.steps.length c, .bool t.attr, .string t.uri, .string t.loc] 26)) (t_one w (.cells #[.slice p t.steps.length c, .bool t.attr, .string t.uri, .string t.loc] 26)))
  clear hL h1 hu hn hr hr2 hz
  unfold TrV at *
  go_enter Tryd.func4, Tryd.ntmps4
  go_wp2_with (fail)
  refine (AW.out _ BX.out.1).mono ?_
  rintro e1 w1 ⟨rfl, hb1⟩
  have HB := Lib.hid (t_cat BX.out.1 hb1)
  have BT := Lib.hid (BoxT.below (t := t) (BoxT.of BX.out.2) hb1)
  clear hb1 BX
  obtain ⟨t0, t1, t2_, t3⟩ := BT.out
  go_wp2_with (fail)
  with_reducible (refine (SHT.out _ HB.out).mono ?_)
  rintro e2 w2 ⟨rfl, hb2⟩
  have HC := Lib.hid (t_cat HB.out hb2)
  have BU := Lib.hid (BT.out.below hb2)
  clear hb2 t0 t1 t2_ t3 BT HB
  obtain ⟨t0, t1, t2_, t3⟩ := BU.out
  go_wp2_with (fail)
  with_reducible (refine (RDA.out _ HC.out).mono ?_)
  intro e3 w3 hpost
  obtain ⟨q3, d3, rfl, hat3, -, hb3⟩ : ∃ q d, e3 = .returned (.tuple #[.agg #[.slice q t.steps.length d, .bool t.attr, .string t.uri, .string t.loc], .int .i64 0]) ∧ TrAt w3 q d t ∧ (q = none → d = 0) ∧ Below w2.heap.size w2 w3 := hpost
  have hal := (Below.refl w3.heap.size w3).alloc (Nat.le_refl _) (.cells #[.slice q3 t.steps.length d3, .bool t.attr, .string t.uri, .string t.loc] 26)
  have HD := Lib.hid (And.intro (t_cat (t_cat HC.out hb3) hal) (And.intro ((BU.out.below hb3).below hal) (And.intro (hat3.below hal) (BoxT.of (t := t) (t_one w3 (.cells #[.slice q3 t.steps.length d3, .bool t.attr, .string t.uri, .string t.loc] 26))))))
  clear hat3 hb3 hal t0 t1 t2_ t3 BU HC
  go_upto_region 6 with fail
  generalize w3.heap.size = G at *
  generalize w3.alloc (.cells #[.slice q3 t.steps.length d3, .bool t.attr, .string t.uri, .string t.loc] 26) = w4 at *
  obtain ⟨t0, t1, t2_, t3⟩ := HD.out.2.1
  obtain ⟨u0, u1, u2, u3⟩ := HD.out.2.2.2
  go_region_held3 (fun W => W.cell? ⟨w.heap.size, 0, none⟩ = some (.slice p t.steps.length c) ∧ W.cell? ⟨w.heap.size, 1, none⟩ = some (.bool t.attr) ∧ W.cell? ⟨w.heap.size, 2, none⟩ = some (.string t.uri) ∧ W.cell? ⟨w.heap.size, 3, none⟩ = some (.string t.loc) ∧
      W.cell? ⟨G, 0, none⟩ = some (.slice q3 t.steps.length d3) ∧ W.cell? ⟨G, 1, none⟩ = some (.bool t.attr) ∧ W.cell? ⟨G, 2, none⟩ = some (.string t.uri) ∧ W.cell? ⟨G, 3, none⟩ = some (.string t.loc) ∧ Below w4.heap.size w4 W)
    (first
      | exact ⟨t0, t1, t2_, t3, u0, u1, u2, u3, (Below.refl _ _).drew⟩
      | (go_split_ands
         exact ⟨t_cell hbe (by assumption), t_cell hbe (by assumption), t_cell hbe (by assumption), t_cell hbe (by assumption), t_cell hbe (by assumption), t_cell hbe (by assumption), t_cell hbe (by assumption), t_cell hbe (by assumption), t_cat (by assumption) hbe⟩))
    (first
      | (go_at_call 15
         go_split_ands
         with_reducible (refine (CMP.out _ _ _ (HD.out.2.2.1.below (by assumption)) (HT.out _ (t_cat HD.out.1 (by assumption)))).mono ?_)
         rintro e w' ⟨rfl, hbe⟩)
      | (go_at_call 11
         go_split_ands
         refine (DOC.out _ _ _).mono ?_
         rintro e w' ⟨rfl, hbe⟩)
      | (go_at_call 14
         go_split_ands
         with_reducible (refine (SAM.out _ _ _ (HD.out.2.2.1.below (by assumption)) (HT.out _ (t_cat HD.out.1 (by assumption)))).mono ?_)
         rintro e w' ⟨rfl, hbe⟩))
  all_goals
    go_split_ands
    clear t0 t1 t2_ t3 u0 u1 u2 u3
    rename_i hbw
    have HE := Lib.hid (t_cat HD.out.1 hbw)
    go_wp2_with (fail)
    refine (RDS.out _ HE.out).mono ?_
    intro e7 w7 hpost
    obtain ⟨q7, d7, rfl, -, -, hb7⟩ : ∃ q d, e7 = .returned (.tuple #[.agg #[.slice q 0 d, .bool false, .string ⟨#[]⟩, .string ⟨#[]⟩], .int .i64 35]) ∧ TrAt w7 q d trZ ∧ (q = none → d = 0) ∧ Below _ _ w7 := hpost
    have HG := Lib.hid ((t_cat HE.out hb7).alloc (t_cat HE.out hb7).size (.cells #[.slice q7 0 d7, .bool false, .string ⟨#[]⟩, .string ⟨#[]⟩] 26))
    clear hb7
    go_wp2_with (fail)
    go_ret
    exact ⟨rfl, HG.out⟩
set_option maxRecDepth 100000 in
set_option maxHeartbeats 8000000 in
theorem back_yy (p : Option Addr) (c : Nat) (t : Tr) (s : ByteArray) (w : World) (hL : TLeans w) (h1 : TrAt w p c t) (hu : t.uri.size ≤ 140737488351232) (hn : t.loc.size ≤ 140737488351232) (hs : s.size ≤ 4194304) (hr : rightT t = true) (z : ByteArray) (hz : (⟨(showL t).toArray⟩ : ByteArray) = z) (t2 : Tr) (hr2 : readT s.data.toList = some t2) :
    Calls Tryd.prog 4 #[TrV p c t, .string s] w fun e w' => e = .returned (.bool true) ∧ Below w.heap.size w w' := by
  have AW := Lib.hid (fun W (y : Below w.heap.size w W) => awake8_any W (hL.below y))
  have HT := Lib.hid (fun W (y : Below w.heap.size w W) => h1.below y)
  have SHT := Lib.hid (fun W (y : Below w.heap.size w W) => show_any p c t W (h1.below y) (hL.below y) (by omega) (by omega))
  have RDS := Lib.hid (fun W (y : Below w.heap.size w W) => read_any s W (hL.below y) hs)
  rw [hr] at SHT
  rw [hr2] at RDS
  simp only [if_true] at SHT
  have RDA := Lib.hid (fun W (y : Below w.heap.size w W) => read_any ⟨(showL t).toArray⟩ W (hL.below y) (by rw [ba_len]; have := showL_size hr; omega))
  rw [ba_list, read_show hr] at RDA
  rw [hz] at SHT RDA
  have CMP := Lib.hid (fun W q d (x : TrAt W q d t) (y : TrAt W p c t) => cmpT_any q p d c t t W x y)
  rw [cmpT_self] at CMP
  have DOC := Lib.hid (fun W q d => docT_any q d t W)
  have SAM := Lib.hid (fun W q d (x : TrAt W q d t) (y : TrAt W p c t) => sameT_yes q p d c t W x y)
  have hrb := read_back hr2
  have hsm : t2.uri.size ≤ 4194304 ∧ t2.loc.size ≤ 4194304 := by
    have h2 := hrb.1
    unfold readT at hr2
    split at hr2
    · have := guess_small (Option.some.inj hr2)
      rw [ba_size] at this
      omega
    · cases hr2
  have SH2 := Lib.hid (fun W (y : Below w.heap.size w W) q d (h : TrAt W q d t2) => show_any q d t2 W h (hL.below y) (by omega) (by omega))
  rw [hrb.1, hrb.2] at SH2
  simp only [if_true] at SH2
  have hsb : (⟨s.data.toList.toArray⟩ : ByteArray) = s := rfl
  rw [hsb] at SH2
  have hss : (s.toList == s.toList) = true := by simp
  clear hrb hsm hsb
  have BX := Lib.hid (And.intro ((Below.refl w.heap.size w).alloc (Nat.le_refl _) (.cells #[.slice p t.steps.length c, .bool t.attr, .string t.uri, .string t.loc] 26)) (t_one w (.cells #[.slice p t.steps.length c, .bool t.attr, .string t.uri, .string t.loc] 26)))
  clear hL h1 hu hn hr hr2 hz
  unfold TrV at *
  go_enter Tryd.func4, Tryd.ntmps4
  go_wp2_with (fail)
  refine (AW.out _ BX.out.1).mono ?_
  rintro e1 w1 ⟨rfl, hb1⟩
  have HB := Lib.hid (t_cat BX.out.1 hb1)
  have BT := Lib.hid (BoxT.below (t := t) (BoxT.of BX.out.2) hb1)
  clear hb1 BX
  obtain ⟨t0, t1, t2_, t3⟩ := BT.out
  go_wp2_with (fail)
  with_reducible (refine (SHT.out _ HB.out).mono ?_)
  rintro e2 w2 ⟨rfl, hb2⟩
  have HC := Lib.hid (t_cat HB.out hb2)
  have BU := Lib.hid (BT.out.below hb2)
  clear hb2 t0 t1 t2_ t3 BT HB
  obtain ⟨t0, t1, t2_, t3⟩ := BU.out
  go_wp2_with (fail)
  with_reducible (refine (RDA.out _ HC.out).mono ?_)
  intro e3 w3 hpost
  obtain ⟨q3, d3, rfl, hat3, -, hb3⟩ : ∃ q d, e3 = .returned (.tuple #[.agg #[.slice q t.steps.length d, .bool t.attr, .string t.uri, .string t.loc], .int .i64 0]) ∧ TrAt w3 q d t ∧ (q = none → d = 0) ∧ Below w2.heap.size w2 w3 := hpost
  have hal := (Below.refl w3.heap.size w3).alloc (Nat.le_refl _) (.cells #[.slice q3 t.steps.length d3, .bool t.attr, .string t.uri, .string t.loc] 26)
  have HD := Lib.hid (And.intro (t_cat (t_cat HC.out hb3) hal) (And.intro ((BU.out.below hb3).below hal) (And.intro (hat3.below hal) (BoxT.of (t := t) (t_one w3 (.cells #[.slice q3 t.steps.length d3, .bool t.attr, .string t.uri, .string t.loc] 26))))))
  clear hat3 hb3 hal t0 t1 t2_ t3 BU HC
  go_upto_region 6 with fail
  generalize w3.heap.size = G at *
  generalize w3.alloc (.cells #[.slice q3 t.steps.length d3, .bool t.attr, .string t.uri, .string t.loc] 26) = w4 at *
  obtain ⟨t0, t1, t2_, t3⟩ := HD.out.2.1
  obtain ⟨u0, u1, u2, u3⟩ := HD.out.2.2.2
  go_region_held3 (fun W => W.cell? ⟨w.heap.size, 0, none⟩ = some (.slice p t.steps.length c) ∧ W.cell? ⟨w.heap.size, 1, none⟩ = some (.bool t.attr) ∧ W.cell? ⟨w.heap.size, 2, none⟩ = some (.string t.uri) ∧ W.cell? ⟨w.heap.size, 3, none⟩ = some (.string t.loc) ∧
      W.cell? ⟨G, 0, none⟩ = some (.slice q3 t.steps.length d3) ∧ W.cell? ⟨G, 1, none⟩ = some (.bool t.attr) ∧ W.cell? ⟨G, 2, none⟩ = some (.string t.uri) ∧ W.cell? ⟨G, 3, none⟩ = some (.string t.loc) ∧ Below w4.heap.size w4 W)
    (first
      | exact ⟨t0, t1, t2_, t3, u0, u1, u2, u3, (Below.refl _ _).drew⟩
      | (go_split_ands
         exact ⟨t_cell hbe (by assumption), t_cell hbe (by assumption), t_cell hbe (by assumption), t_cell hbe (by assumption), t_cell hbe (by assumption), t_cell hbe (by assumption), t_cell hbe (by assumption), t_cell hbe (by assumption), t_cat (by assumption) hbe⟩))
    (first
      | (go_at_call 15
         go_split_ands
         with_reducible (refine (CMP.out _ _ _ (HD.out.2.2.1.below (by assumption)) (HT.out _ (t_cat HD.out.1 (by assumption)))).mono ?_)
         rintro e w' ⟨rfl, hbe⟩)
      | (go_at_call 11
         go_split_ands
         refine (DOC.out _ _ _).mono ?_
         rintro e w' ⟨rfl, hbe⟩)
      | (go_at_call 14
         go_split_ands
         with_reducible (refine (SAM.out _ _ _ (HD.out.2.2.1.below (by assumption)) (HT.out _ (t_cat HD.out.1 (by assumption)))).mono ?_)
         rintro e w' ⟨rfl, hbe⟩))
  all_goals
    go_split_ands
    clear t0 t1 t2_ t3 u0 u1 u2 u3
    rename_i hbw
    have HE := Lib.hid (t_cat HD.out.1 hbw)
    go_wp2_with (fail)
    refine (RDS.out _ HE.out).mono ?_
    intro e7 w7 hpost
    obtain ⟨q7, d7, rfl, hat7, -, hb7⟩ : ∃ q d, e7 = .returned (.tuple #[.agg #[.slice q t2.steps.length d, .bool t2.attr, .string t2.uri, .string t2.loc], .int .i64 0]) ∧ TrAt w7 q d t2 ∧ (q = none → d = 0) ∧ Below _ _ w7 := hpost
    have hal7 := (Below.refl w7.heap.size w7).alloc (Nat.le_refl _) (.cells #[.slice q7 t2.steps.length d7, .bool t2.attr, .string t2.uri, .string t2.loc] 26)
    have HF := Lib.hid (And.intro (t_cat (t_cat HE.out hb7) hal7) (hat7.below hal7))
    clear hb7 hat7 hal7
    go_wp2_with (fail)
    with_reducible (refine (SH2.out _ HF.out.1 _ _ HF.out.2).mono ?_)
    rintro e8 w8 ⟨rfl, hb8⟩
    have HG := Lib.hid (t_cat HF.out.1 hb8)
    clear hb8
    go_wp2_with (fail)
    go_ret
    exact ⟨rfl, HG.out⟩
theorem back_walk (p : Option Addr) (c : Nat) (t : Tr) (s : ByteArray) (w : World) (hL : TLeans w) (h1 : TrAt w p c t) (hu : t.uri.size ≤ 140737488351232) (hn : t.loc.size ≤ 140737488351232) (hs : s.size ≤ 4194304) :
    Calls Tryd.prog 4 #[TrV p c t, .string s] w fun e w' => e = .returned (.bool true) ∧ Below w.heap.size w w' := by
  cases hr : rightT t
  · cases hr2 : readT s.data.toList with
    | none => exact back_nn p c t s w hL h1 hu hn hs hr hr2
    | some t2 => exact back_ny p c t s w hL h1 hu hn hs hr t2 hr2
  · cases hr2 : readT s.data.toList with
    | none => exact back_yn p c t s w hL h1 hu hn hs hr _ rfl hr2
    | some t2 => exact back_yy p c t s w hL h1 hu hn hs hr _ rfl t2 hr2
end Go.Proofs.YtpcdcndniibalaaDoor
