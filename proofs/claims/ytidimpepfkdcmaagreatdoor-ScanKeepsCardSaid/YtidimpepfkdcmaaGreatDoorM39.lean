/- Proved here: the statement ScanKeeps, walked: it answers true of every slice of bytes, in every world that holds what the scanner leans on. -/
import Derived.Test.YtidimpepfkdcmaaGreatDoorM38
import Derived.BigGuardPart
import Derived.Deep.RegionWith
import Derived.Deep.RegionHeld3
namespace Go.Proofs.YtidimpepfkdcmaaGreatDoor
open Go.RowKit

def blkOf : Option Addr → Nat
  | some a => a.block
  | none => 0
set_option maxHeartbeats 16000000 in
set_option maxRecDepth 100000 in
theorem keeps_walk (p : Option Addr) (s : ByteArray) (c : Nat) (w : World) (hs : s.size ≤ 140737488355000) (hc : s.size ≤ c) (hp : HoldsB w p s) (hnil : p = none → c = 0) (hL : Leans w) :
    Calls Tryz.prog 4 #[.slice p s.size c] w fun e w' => e = .returned (.bool true) ∧ Below w.heap.size w w' := by
  have AW := Lib.hid (awake3_any w hL)
  have SP := Lib.hid (fun W (y : Below w.heap.size w W) => spare_any p s c W hs (hp.below y) hnil)
  have A1 := Lib.hid (fun W (y : Below w.heap.size w W) (q : Option Addr) (k : Nat) (hk : s.size ≤ k) (h : HoldsB W q s) => (all_any q s k W (by omega) hk h (hL.below y).tabs (hL.below y).named (hL.below y).max (hL.below y).fold).mono (fun e w' z => And.intro (all_form z.1) z.2))
  have R1 := Lib.hid (fun W (y : Below w.heap.size w W) => (refAll_any p s c W hc (hp.below y)).mono (fun e w' z => And.intro (rall_form z.1) z.2))
  have HP := Lib.hid hp
  obtain ⟨hl1, hl2⟩ := lof_len s
  obtain ⟨r, hr⟩ : ∃ r, allF s = r := ⟨_, rfl⟩
  rw [hr] at A1 R1 hl1 hl2
  have HS := Lib.hid hs
  have HL2 := Lib.hid hl2
  clear hp hnil hL hc hs hr hl2
  obtain ⟨l, hl⟩ : ∃ l, lOf r = l := ⟨_, rfl⟩
  obtain ⟨k0, hk0⟩ : ∃ k, kOf r = k := ⟨_, rfl⟩
  obtain ⟨e0, he0⟩ : ∃ k, eOf r = k := ⟨_, rfl⟩
  rw [hl, hk0, he0] at A1 R1
  rw [hl] at hl1 HL2
  clear hl hk0 he0
  go_enter Tryz.func4, Tryz.ntmps4
  go_wp2_with (fail)
  refine AW.out.mono ?_
  rintro e w0 ⟨rfl, hB0⟩
  go_wp2_with (fail)
  refine (SP.out w0 hB0).mono ?_
  rintro e w1 ⟨gi, ci, rfl, hoi, hb1⟩
  have hB1 := below_cat hB0 hb1
  have hci : s.size ≤ ci := by have := hoi.2.2.2; rw [size_push] at this; omega
  have OI := Lib.hid hoi
  go_wp2_with (fail)
  refine (A1.out w1 hB1 (some ⟨gi, 0, none⟩) ci hci (owns_front hoi)).mono ?_
  rintro e w2 ⟨⟨q1, c1, rfl, tl1⟩, hb2⟩
  have hB2 := below_cat hB1 hb2
  go_wp2_with (fail)
  refine (A1.out w2 hB2 (some ⟨gi, 0, none⟩) ci hci (owns_front (hoi.far hb2))).mono ?_
  rintro e w3 ⟨⟨q2, c2, rfl, tl2⟩, hb3⟩
  have HB3 := Lib.hid (And.intro (below_cat hB2 hb3) (And.intro hb2 (And.intro hb3 hB1)))
  have OI3 := Lib.hid (And.intro ((hoi.far hb2).far hb3) hoi.2.2.1)
  have T1 := Lib.hid tl1
  have T2 := Lib.hid tl2
  clear hb1 hb2 hb3 hB0 hB1 hB2 tl1 tl2 hci hoi
  go_wp2_with (fail)
  go_loopw [44] (fun v wr => ∃ i : Nat, v = .int .i64 (i : Int) ∧ i ≤ l.length ∧ Hid (Wiped w1.heap.size w2.heap.size (blkOf q1) i w3 wr)) (fun v _ => l.length - (intOf v).toNat)
  case atStart => exact ⟨0, rfl, Nat.zero_le _, Lib.hid (Wiped.refl _ _ _ _ _)⟩
  case round =>
    obtain ⟨i, rfl, hi, HW⟩ := hrel
    by_cases hlt : i < l.length
    · have hlpos : 0 < l.length := by omega
      obtain ⟨x, hx⟩ : ∃ x, l[i]? = some x := ⟨_, List.getElem?_eq_getElem hlt⟩
      obtain ⟨g, cc, cs, hv, hBg, hgl, hlc, hcm, hrow, hcs⟩ := T1.out.rows hlpos
      obtain ⟨rfl, rfl⟩ : q1 = some ⟨g, 0, none⟩ ∧ c1 = cc := by
        injection hv with h1 _ h3
        exact ⟨h1, h3⟩
      have HROW := Lib.hid (And.intro hBg (And.intro hgl (And.intro hrow (And.intro hcs hlc))))
      have HW2 : Hid (Wiped w1.heap.size w2.heap.size g i w3 wr) := HW
      obtain ⟨g', cc', hv', _, _, _, _, pv, hcell⟩ := T1.out.cell hlpos
      obtain ⟨rfl, rfl⟩ : g = g' ∧ c1 = cc' := by
        injection hv' with h1 _ h3
        injection h1 with h1
        injection h1 with h1
        exact ⟨h1, h3⟩
      obtain ⟨hpa, k0, k1, k2, k3, k4, k5⟩ := hcell i x hx
      obtain ⟨q5, c5, hpv, hpc, hpm⟩ := hpa.form2
      rw [hpv] at hpa k3
      have m3 := hb_cell HB3.out.2.2.1 k3
      rw [Nat.mul_comm 6 i] at m3
      have HM3 := Lib.hid m3
      have d3 := (HW2.out.rest (i * 6 + 3) (by omega)).trans m3
      have HPA := Lib.hid (And.intro hpa (And.intro hpc hpm))
      obtain ⟨np, hnp⟩ : ∃ np, x.2.pairs.length = np := ⟨_, rfl⟩
      have HNP := Lib.hid hnp
      rw [hnp] at d3 HM3
      have hlt2 : (i : Int) < (l.length : Int) := by omega
      have hnpm : np ≤ 65539 := by rw [← hnp]; exact HL2.out i x hx
      clear hv hv' hcell hpa hpv k0 k1 k2 k3 k4 k5 m3 hx hrow hcs hBg hgl hpc hpm hnp
      go_wp2_with (fail)
      go_loopw [53] (fun v wr => ∃ k : Nat, v = .int .i64 (k : Int) ∧ k ≤ np ∧ Hid (Wiped w1.heap.size w2.heap.size g i w3 wr)) (fun v _ => np - (intOf v).toNat)
      case atStart => exact ⟨0, rfl, Nat.zero_le _, HW2⟩
      case round =>
        obtain ⟨k, rfl, hk, HX⟩ := hrel
        by_cases hkl : k < np
        · obtain ⟨g2, cc2, cs2, hv2, hB2, hg2, hlc2, hcm2, hrow2, hcs2⟩ := HPA.out.1.rows (by rw [HNP.out]; omega)
          obtain ⟨rfl, rfl⟩ : q5 = some ⟨g2, 0, none⟩ ∧ c5 = cc2 := by
            injection hv2 with h1 _ h3
            exact ⟨h1, h3⟩
          have hne : g2 ≠ g := by
            rintro rfl
            have e := hrow2.symm.trans HROW.out.2.2.1
            injection e with e
            injection e with _ e _
            cases e
          have hrow3 := (HB3.out.2.2.1.block g2 hg2).trans hrow2
          have hnl : np ≤ c5 := by rw [← HNP.out]; exact hlc2
          obtain ⟨⟨u0, y0⟩, f0⟩ := HX.out.there (n := k * 2) hrow3 (by omega)
          obtain ⟨⟨u1, y1⟩, f1⟩ := HX.out.there (n := k * 2 + 1) hrow3 (by omega)
          have d3 := (HX.out.rest (i * 6 + 3) (by omega)).trans HM3.out
          have HNX := Lib.hid ((HX.out.set (n := k * 2) (.string ⟨#[103, 111, 110, 101]⟩) hB2 hg2 (.inl hne)).set (n := k * 2 + 1) (.string ⟨#[]⟩) hB2 hg2 (.inl hne))
          have hkl2 : (k : Int) < (np : Int) := by omega
          clear hv2 hrow2 hrow3 hcs2 hcm2 hB2 hg2 hlc2 hne
          go_wp2_with (fail)
          go_roundw
          case rel => exact ⟨k + 1, by go_num, by omega, HNX⟩
          case measure => simp [intOf]; omega
        · have hrow3 := (HB3.out.2.2.1.block g HROW.out.2.1).trans HROW.out.2.2.1
          have hz := HROW.out.2.2.2.1
          have hzl := HROW.out.2.2.2.2
          obtain ⟨⟨u0, y0⟩, f0⟩ := HX.out.there (n := i * 6) hrow3 (by omega)
          obtain ⟨⟨u1, y1⟩, f1⟩ := HX.out.there (n := i * 6 + 1) hrow3 (by omega)
          obtain ⟨⟨u2, y2⟩, f2⟩ := HX.out.there (n := i * 6 + 2) hrow3 (by omega)
          obtain ⟨⟨u3, y3⟩, f3⟩ := HX.out.there (n := i * 6 + 3) hrow3 (by omega)
          obtain ⟨⟨u4, y4⟩, f4⟩ := HX.out.there (n := i * 6 + 4) hrow3 (by omega)
          obtain ⟨⟨u5, y5⟩, f5⟩ := HX.out.there (n := i * 6 + 5) hrow3 (by omega)
          have HNX := Lib.hid ((((((((HX.out.less (Nat.le_succ i)).set (k := g) (n := i * 6) (.int .i64 0) HROW.out.1 HROW.out.2.1 (.inr (by omega))).set (k := g) (n := i * 6 + 1) (.int .i64 0) HROW.out.1 HROW.out.2.1 (.inr (by omega))).set (k := g) (n := i * 6 + 2) (.string ⟨#[]⟩) HROW.out.1 HROW.out.2.1 (.inr (by omega))).set (k := g) (n := i * 6 + 3) (.slice none 0 0) HROW.out.1 HROW.out.2.1 (.inr (by omega))).set (k := g) (n := i * 6 + 4) (.string ⟨#[]⟩) HROW.out.1 HROW.out.2.1 (.inr (by omega))).set (k := g) (n := i * 6 + 5) (.int .i64 0) HROW.out.1 HROW.out.2.1 (.inr (by omega))))
          have hkn : ¬ (k : Int) < (np : Int) := by omega
          clear hrow3 hz
          go_wp2_with (fail)
          go_roundw
          case rel => exact ⟨i + 1, by go_num, by omega, HNX⟩
          case measure => simp [intOf]; omega
    · have hn : ¬ (i : Int) < (l.length : Int) := by omega
      have hbw := HW.out.below HB3.out.1 HB3.out.2.2.2.size
      have T2w := Lib.hid (T2.out.same (fun g hg => HW.out.same g (.inr hg)))
      have OIw := Lib.hid (OI3.out.1.same (HW.out.same gi (.inl OI3.out.2)) HW.out.size)
      have R2 := Lib.hid (R1.out wr hbw)
      have HBW := Lib.hid hbw
      clear hbw
      go_wp2_with (fail)
      refine R2.out.mono ?_
      rintro e w5 ⟨⟨q4, c4, rfl, tl4⟩, hb5⟩
      have TM := Lib.hid (T2w.out.below hb5)
      have TR := Lib.hid tl4
      have HB5 := Lib.hid (below_cat HBW.out hb5)
      have KP := Lib.hid (fun W (y : Below w5.heap.size w5 W) => kept_yes w0.heap.size gi ci p s c W HS.out ((OIw.out.far hb5).far y) (HP.out.below (below_cat HB5.out y)))
      clear tl4 hb5
      go_wp2_with (fail)
      go_loopw [83] (fun v wr => ∃ i : Nat, v = .int .i64 (i : Int) ∧ i ≤ l.length ∧ Hid (Below w5.heap.size w5 wr)) (fun v _ => l.length - (intOf v).toNat)
      case atStart => exact ⟨0, rfl, Nat.zero_le _, Lib.hid (Below.refl _ _)⟩
      case round =>
        clear hn hlt hi HW T2w OIw R2 HBW
        obtain ⟨i, rfl, hi, HBR⟩ := hrel
        by_cases hlt : i < l.length
        · have hlpos : 0 < l.length := by omega
          obtain ⟨x, hx⟩ : ∃ x, l[i]? = some x := ⟨_, List.getElem?_eq_getElem hlt⟩
          have hxl := HL2.out i x hx
          obtain ⟨g, cc, hv, hcc, hcm, hgl, _, pv, hcell⟩ := TM.out.cell hlpos
          obtain ⟨rfl, rfl⟩ : q2 = some ⟨g, 0, none⟩ ∧ c2 = cc := by
            injection hv with h1 _ h3
            exact ⟨h1, h3⟩
          obtain ⟨h, cd, hv2, hcd, hcm2, hhl, _, pv2, hcell2⟩ := TR.out.cell hlpos
          obtain ⟨rfl, rfl⟩ : q4 = some ⟨h, 0, none⟩ ∧ c4 = cd := by
            injection hv2 with h1 _ h3
            exact ⟨h1, h3⟩
          obtain ⟨hpa, k0, k1, k2, k3, k4, k5⟩ := hcell i x hx
          obtain ⟨hpb, m0, m1, m2, m3, m4, m5⟩ := hcell2 i x hx
          obtain ⟨q5, c5, hpv, _, _⟩ := hpa.form2
          rw [hpv] at hpa k3
          obtain ⟨q6, c6, hpv2⟩ := hpb.form
          rw [hpv2] at hpb m3
          have d0 := hb_cell HBR.out k0
          have d1 := hb_cell HBR.out k1
          have d2 := hb_cell HBR.out k2
          have d3 := hb_cell HBR.out k3
          have d4 := hb_cell HBR.out k4
          have d5 := hb_cell HBR.out k5
          have e0 := hb_cell HBR.out m0
          have e1 := hb_cell HBR.out m1
          have e2 := hb_cell HBR.out m2
          have e3 := hb_cell HBR.out m3
          have e4 := hb_cell HBR.out m4
          have e5 := hb_cell HBR.out m5
          rw [Nat.mul_comm 6 i] at d0 d1 d2 d3 d4 d5 e0 e1 e2 e3 e4 e5
          have PC1 := Lib.hid (fun W (y : Below wr.heap.size wr W) => (hpa.pcells.below HBR.out).below y)
          have PC2 := Lib.hid (fun W (y : Below wr.heap.size wr W) => (hpb.cells.below HBR.out).below y)
          have HXL := Lib.hid hxl
          have hlt2 : (i : Int) < (l.length : Int) := by omega
          obtain ⟨xa, xk⟩ := x
          obtain ⟨kd, nm, ps, tx, rf⟩ := xk
          simp only at d0 d1 d2 d3 d4 d5 e0 e1 e2 e3 e4 e5 PC1 PC2 HXL
          clear hv hcell hv2 hcell2 hpa hpb hpv hpv2 k0 k1 k2 k3 k4 k5 m0 m1 m2 m3 m4 m5 hx hgl hhl hxl hcc hcm hcd hcm2
          go_upto_region 24 with fail
          go_region_held3 (fun W => W.cell? ⟨g, i * 6, none⟩ = some (.int .i64 (kd : Int)) ∧ W.cell? ⟨g, i * 6 + 1, none⟩ = some (.int .i64 (xa : Int)) ∧ W.cell? ⟨g, i * 6 + 2, none⟩ = some (.string nm) ∧ W.cell? ⟨g, i * 6 + 3, none⟩ = some (.slice q5 ps.length c5) ∧ W.cell? ⟨g, i * 6 + 4, none⟩ = some (.string tx) ∧ W.cell? ⟨g, i * 6 + 5, none⟩ = some (.int .i64 (rf : Int)) ∧
              W.cell? ⟨h, i * 6, none⟩ = some (.int .i64 (kd : Int)) ∧ W.cell? ⟨h, i * 6 + 1, none⟩ = some (.int .i64 (xa : Int)) ∧ W.cell? ⟨h, i * 6 + 2, none⟩ = some (.string nm) ∧ W.cell? ⟨h, i * 6 + 3, none⟩ = some (.slice q6 ps.length c6) ∧ W.cell? ⟨h, i * 6 + 4, none⟩ = some (.string tx) ∧ W.cell? ⟨h, i * 6 + 5, none⟩ = some (.int .i64 (rf : Int)) ∧ Below wr.heap.size wr W)
            (first
              | exact ⟨d0, d1, d2, d3, d4, d5, e0, e1, e2, e3, e4, e5, (Below.refl _ _).drew⟩
              | (go_split_ands
                 exact ⟨hb_cell hbe (by assumption), hb_cell hbe (by assumption), hb_cell hbe (by assumption), hb_cell hbe (by assumption), hb_cell hbe (by assumption), hb_cell hbe (by assumption), hb_cell hbe (by assumption), hb_cell hbe (by assumption), hb_cell hbe (by assumption), hb_cell hbe (by assumption), hb_cell hbe (by assumption), hb_cell hbe (by assumption), below_cat (by assumption) hbe⟩))
            (first
              | (go_at_call 13
                 go_split_ands
                 refine (doc_any _ _ _ _ _ _ ps _ (PC1.out _ (by assumption)) (by have := HXL.out; omega)).mono ?_
                 rintro e w' ⟨pvr, rfl, hr, hbe⟩)
              | (go_at_call 12
                 go_split_ands
                 refine (refSame_yes _ _ _ _ _ _ _ _ ps _ (by first | exact hr.cells | exact PCells.below (RPairsAt.cells (by assumption)) hbe) (PC2.out _ (by assumption)) (by have := HXL.out; omega)).mono ?_
                 rintro e w' ⟨rfl, hbe⟩))
          all_goals
            go_split_ands
            have hbz := below_cat HBR.out (by assumption)
            have HBZ := Lib.hid hbz
            clear hbz
            go_wp2_with (fail)
            go_roundw
            case rel => exact ⟨i + 1, by go_num, by omega, Lib.hid HBZ.out⟩
            case measure => simp [intOf]; omega

        · obtain rfl : i = l.length := by omega
          have KP2 := Lib.hid (KP.out _ HBR.out)
          go_wp2_with (fail)
          refine KP2.out.mono ?_
          rintro e w' ⟨rfl, rfl⟩
          go_wp2_with (fail)
          go_ret
          exact ⟨rfl, below_cat HB5.out HBR.out⟩
end Go.Proofs.YtidimpepfkdcmaaGreatDoor
