/- Proved here: the statement ScanCuts, walked: of a place at which a token ends. -/
import Derived.Test.YtpcdcndniibalaaGreatDoorM27
import Derived.BigGuardPart
import Derived.Laws.DeepStrings4
import Derived.Deep.RegionWith
import Derived.Deep.RegionHeld3
namespace Go.Proofs.YtpcdcndniibalaaGreatDoor
open Go.RowKit

set_option maxRecDepth 100000 in
set_option maxHeartbeats 16000000 in
theorem cuts_E1 (p : Option Addr) (s : ByteArray) (c m : Nat) (w : World) (hs : s.size ≤ 140737488355000) (hc : s.size ≤ c) (hp : HoldsB w p s) (hL : Leans w)
    (l : List (Nat × Tok)) (hl : allF s = .ok l) (t : ByteArray) (htx : textF s = t) (hmt : m ≤ t.size) (i : Nat) (hi : i ≤ l.length) (h1 : ∀ j x, j < i → l[j]? = some x → x.1 < m) (hil : i = l.length) (hm : m = t.size) (h2 : allF (markedB (t.extract 0 m)) = .ok (l.take i)) :
    Calls Tryz.prog 3 #[.slice p s.size c, .int .i64 (m : Int)] w fun e w' => e = .returned (.bool true) ∧ Below w.heap.size w w' := by
  have hts : t.size ≤ 65536 := by have h3 := text_size s; have h4 := (all_ok hl).2; rw [htx] at h3; omega
  have hms : (markedB (t.extract 0 m)).size ≤ 65539 := by
    have hz : (t.extract 0 m).size ≤ 65536 := by simp; omega
    unfold markedB
    split
    · rw [size_cat]; show 3 + _ ≤ _; omega
    · omega
  have hll := (all_len hl).1
  have hpl := (all_len hl).2
  have AW := Lib.hid (awake3_any w hL)
  have A1 := Lib.hid (fun W (y : Below w.heap.size w W) (q : Option Addr) (k : Nat) (t : ByteArray) (ht : t.size ≤ 140737488355328) (hk : t.size ≤ k) (h : HoldsB W q t) => (all_any q t k W ht hk h (hL.below y).tabs (hL.below y).named (hL.below y).max (hL.below y).fold).mono (fun e w' z => And.intro z.1 z.2))
  have HP := Lib.hid (fun W (y : Below w.heap.size w W) => hp.below y)
  have TX := Lib.hid (fun W (y : Below w.heap.size w W) => refText_any p s c W hs hc (hp.below y))
  have HS := Lib.hid (And.intro hs hc)
  have AS := Lib.hid (fun W (y : Below w.heap.size w W) => (A1.out W y p c s (by omega) hc (hp.below y)).mono (fun e w' z => And.intro (all_okform z.1 hl rfl) z.2))
  have MK := Lib.hid (fun W => marked_any (t.extract 0 m) W (by simp; omega))
  have A2 := Lib.hid (fun W (y : Below w.heap.size w W) (q : Option Addr) (k : Nat) (hk : (markedB (t.extract 0 m)).size ≤ k) (h : HoldsB W q (markedB (t.extract 0 m))) => (A1.out W y q k _ (by omega) hk h).mono (fun e w' z => And.intro (all_okform z.1 h2 (show (l.take i).length = i from by rw [List.length_take]; omega)) z.2))
  rw [htx] at TX
  have HT := Lib.hid hts
  have n0 : ¬ (m : Int) < 0 := by omega
  have n1 : ¬ (t.size : Int) < (m : Int) := by omega
  have n2 : (m : Int) ≤ (t.size : Int) := by omega
  have n3 : (m : Int) ≤ 65536 := by omega
  have n4 : (i : Int) ≤ 65536 := by omega
  have x0 : ¬ (i : Int) < (l.length : Int) := by omega
  have tl : ((i : Int) == (l.length : Int)) = true := by simp; omega
  have tn : ((m : Int) == (t.size : Int)) = true := by simp; omega
  have HPL := Lib.hid hpl
  have HLT := Lib.hid (show ∀ k x, k < i → l[k]? = some x → (l.take i)[k]? = some x from fun k x hk hx => by rw [List.getElem?_take_of_lt hk]; exact hx)
  have HLL := Lib.hid (show (l.take i).length = i by rw [List.length_take]; omega)
  have HI := Lib.hid (And.intro hi hll)
  have H1 := Lib.hid h1
  clear hp hL hc hs hl htx hms hll hpl h1 hi hts hmt hil hm h2
  go_enter Tryz.func3, Tryz.ntmps3
  go_wp2_with (fail)
  refine AW.out.mono ?_
  rintro e w0 ⟨rfl, hB0⟩
  go_wp2_with (fail)
  refine (AS.out w0 hB0).mono ?_
  rintro e w1 ⟨⟨q1, c1, rfl, tl1⟩, hb1⟩
  have hB1 := below_cat hB0 hb1
  go_wp2_with (fail)
  refine (TX.out w1 hB1).mono ?_
  rintro e w2 ⟨rfl, hb2⟩
  have HB2 := Lib.hid (below_cat hB1 hb2)
  have T1 := Lib.hid (tl1.below hb2)
  clear hB0 hB1 hb1 hb2 tl1
  go_wp2_with (fail)
  go_loop [9] (fun v => ∃ j : Nat, v = .int .i64 (j : Int) ∧ j ≤ i) (fun v => i - (intOf v).toNat)
  case atStart => exact ⟨0, rfl, Nat.zero_le _⟩
  case round =>
    obtain ⟨j, rfl, hj⟩ := hrel
    by_cases hlt : j < i
    · have hjl : j < l.length := by have := HI.out; omega
      obtain ⟨x, hx⟩ : ∃ x, l[j]? = some x := ⟨_, List.getElem?_eq_getElem hjl⟩
      have hxm := H1.out j x hlt hx
      obtain ⟨g, cc, hv, hcc, hcm, hgl, _, pv, hcell⟩ := T1.out.cell (by omega)
      obtain ⟨rfl, rfl⟩ : q1 = some ⟨g, 0, none⟩ ∧ c1 = cc := by
        injection hv with h1 _ h3
        exact ⟨h1, h3⟩
      obtain ⟨_, _, d1, _, _, _, _⟩ := hcell j x hx
      rw [Nat.mul_comm 6 j] at d1
      obtain ⟨xa, xk⟩ := x
      simp only at d1 hxm
      have y0 : (j : Int) < (l.length : Int) := by omega
      have y1 : (xa : Int) < (m : Int) := by omega
      have y2 : (j : Int) ≤ 65536 := by omega
      clear hcell hv hcc hcm hgl hx
      go_wp2_with (fail)
      go_round
      case rel => exact ⟨j + 1, by go_num, by omega⟩
      case measure => simp [intOf]; omega
    · obtain rfl : j = i := by omega
      go_wp2_with (fail)
      refine (MK.out w2).mono ?_
      rintro e w4 ⟨c4, rfl, hc4, hh4, hb4⟩
      have HB4 := Lib.hid (below_cat HB2.out hb4)
      go_wp2_with (fail)
      refine (A2.out w4 HB4.out (some ⟨w2.heap.size, 0, none⟩) c4 hc4 hh4).mono ?_
      rintro e w5 ⟨⟨q2, c2, rfl, tl2⟩, hb5⟩
      have hb25 := below_cat hb4 hb5
      have HB5 := Lib.hid (below_cat HB4.out hb5)
      have T5 := Lib.hid (T1.out.below hb25)
      have T2 := Lib.hid tl2
      clear tl2
      clear hb4 hb5 hb25 hc4 hh4
      go_wp2_with (fail)
      go_loopw [97] (fun v wr => ∃ k : Nat, v = .int .i64 (k : Int) ∧ k ≤ j ∧ Hid (Below w5.heap.size w5 wr)) (fun v _ => j - (intOf v).toNat)
      case atStart => exact ⟨0, rfl, Nat.zero_le _, Lib.hid (Below.refl _ _)⟩
      case round =>
        obtain ⟨k, rfl, hk, HBR⟩ := hrel
        by_cases hkl : k < j
        · have hkl3 : k < l.length := by have := HI.out; omega
          obtain ⟨x, hx⟩ : ∃ x, l[k]? = some x := ⟨_, List.getElem?_eq_getElem hkl3⟩
          have hxl := HPL.out x (List.mem_of_getElem? hx)
          have hx2 := HLT.out k x hkl hx
          obtain ⟨h, cd, hv2, hcd, hcm2, hhl, _, pv2, hcell2⟩ := T2.out.cell (by rw [HLL.out]; omega)
          rw [HLL.out] at hv2
          obtain ⟨rfl, rfl⟩ : q2 = some ⟨h, 0, none⟩ ∧ c2 = cd := by
            injection hv2 with h1 _ h3
            exact ⟨h1, h3⟩
          obtain ⟨g, cc, hv, hcc, hcm, hgl, _, pv, hcell⟩ := T5.out.cell (by omega)
          obtain ⟨rfl, rfl⟩ : q1 = some ⟨g, 0, none⟩ ∧ c1 = cc := by
            injection hv with h1 _ h3
            exact ⟨h1, h3⟩
          obtain ⟨hpa, k0, k1, k2, k3, k4, k5⟩ := hcell k x hx
          obtain ⟨hpb, m0, m1, m2, m3, m4, m5⟩ := hcell2 k x hx2
          obtain ⟨q5, c5, hpv, _, _⟩ := hpa.form2
          rw [hpv] at hpa k3
          obtain ⟨q6, c6, hpv2, _, _⟩ := hpb.form2
          rw [hpv2] at hpb m3
          have d0 := hb_cell HBR.out k0
          have d1 := hb_cell HBR.out k1
          have d2 := hb_cell HBR.out k2
          have d3 := hb_cell HBR.out k3
          have d4 := hb_cell HBR.out k4
          have d5 := hb_cell HBR.out k5
          have e0 := hb_cell HBR.out m0
          have e1 := hb_cell HBR.out m1
          have e2 := hb_cell HBR.out m2
          have e3 := hb_cell HBR.out m3
          have e4 := hb_cell HBR.out m4
          have e5 := hb_cell HBR.out m5
          rw [Nat.mul_comm 6 k] at d0 d1 d2 d3 d4 d5 e0 e1 e2 e3 e4 e5
          have PC1 := Lib.hid (fun W (y : Below wr.heap.size wr W) => (hpa.pcells.below HBR.out).below y)
          have PC2 := Lib.hid (fun W (y : Below wr.heap.size wr W) => (hpb.pcells.below HBR.out).below y)
          have HXL := Lib.hid hxl
          have hlt2 : (k : Int) < (l.length : Int) := by omega
          have hlt3 : (k : Int) < (j : Int) := by omega
          obtain ⟨xa, xk⟩ := x
          obtain ⟨kd, nm, ps, tx, rf⟩ := xk
          simp only at d0 d1 d2 d3 d4 d5 e0 e1 e2 e3 e4 e5 PC1 PC2 HXL
          clear hv hcell hv2 hcell2 hpa hpb hpv hpv2 k0 k1 k2 k3 k4 k5 m0 m1 m2 m3 m4 m5 hx hx2 hgl hhl hxl hcc hcm hcd hcm2
          go_upto_region 18 with fail
          go_region_held3 (fun W => W.cell? ⟨g, k * 6, none⟩ = some (.int .i64 (kd : Int)) ∧ W.cell? ⟨g, k * 6 + 1, none⟩ = some (.int .i64 (xa : Int)) ∧ W.cell? ⟨g, k * 6 + 2, none⟩ = some (.string nm) ∧ W.cell? ⟨g, k * 6 + 3, none⟩ = some (.slice q5 ps.length c5) ∧ W.cell? ⟨g, k * 6 + 4, none⟩ = some (.string tx) ∧ W.cell? ⟨g, k * 6 + 5, none⟩ = some (.int .i64 (rf : Int)) ∧
              W.cell? ⟨h, k * 6, none⟩ = some (.int .i64 (kd : Int)) ∧ W.cell? ⟨h, k * 6 + 1, none⟩ = some (.int .i64 (xa : Int)) ∧ W.cell? ⟨h, k * 6 + 2, none⟩ = some (.string nm) ∧ W.cell? ⟨h, k * 6 + 3, none⟩ = some (.slice q6 ps.length c6) ∧ W.cell? ⟨h, k * 6 + 4, none⟩ = some (.string tx) ∧ W.cell? ⟨h, k * 6 + 5, none⟩ = some (.int .i64 (rf : Int)) ∧ Below wr.heap.size wr W)
            (first
              | exact ⟨d0, d1, d2, d3, d4, d5, e0, e1, e2, e3, e4, e5, (Below.refl _ _).drew⟩
              | (go_split_ands
                 exact ⟨hb_cell hbe (by assumption), hb_cell hbe (by assumption), hb_cell hbe (by assumption), hb_cell hbe (by assumption), hb_cell hbe (by assumption), hb_cell hbe (by assumption), hb_cell hbe (by assumption), hb_cell hbe (by assumption), hb_cell hbe (by assumption), hb_cell hbe (by assumption), hb_cell hbe (by assumption), hb_cell hbe (by assumption), below_cat (by assumption) hbe⟩))
            (first
              | (go_at_call 9
                 go_split_ands
                 refine (doc_any _ _ _ _ _ _ ps _ (by first | exact PC1.out _ (by assumption) | exact PC2.out _ (by assumption)) (by have := HXL.out; omega)).mono ?_
                 rintro e w' ⟨pvr, rfl, hr, hbe⟩)
              | (go_at_call 8
                 go_split_ands
                 refine (refSame_yes _ _ _ _ _ _ _ _ ps _ (by first | exact hr.cells | exact PCells.below (RPairsAt.cells (by assumption)) hbe) (by first | exact hr.cells | exact PCells.below (RPairsAt.cells (by assumption)) hbe) (by have := HXL.out; omega)).mono ?_
                 rintro e w' ⟨rfl, hbe⟩))
          all_goals
            go_split_ands
            have hbz := below_cat HBR.out (by assumption)
            have HBZ := Lib.hid hbz
            clear hbz
            go_wp2_with (fail)
            go_roundw
            case rel => exact ⟨k + 1, by go_num, by omega, Lib.hid HBZ.out⟩
            case measure => simp [intOf]; omega
        · obtain rfl : k = j := by omega
          go_wp2_with (fail)
          go_ret
          exact ⟨rfl, below_cat HB5.out HBR.out⟩
end Go.Proofs.YtpcdcndniibalaaGreatDoor
