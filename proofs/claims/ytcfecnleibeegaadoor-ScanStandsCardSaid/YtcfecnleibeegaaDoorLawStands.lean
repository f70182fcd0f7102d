/- Proved here: the statement ScanStands, walked: it answers true of every slice of bytes, in every world that holds what the scanner leans on. -/
import Derived.Test.YtcfecnleibeegaaDoorAwake3
import Derived.Test.YtcfecnleibeegaaDoorRefText
import Derived.Test.YtcfecnleibeegaaDoorM1
import Derived.Test.YtcfecnleibeegaaDoorStandsKit
import Derived.Deep.DeepCutAuto
import Derived.Deep.LoopGhost
namespace Go.Proofs.YtcfecnleibeegaaDoor
open Go.RowKit

def lastAt (l : List (Nat × Tok)) (i : Nat) : Int := match i with
  | 0 => -1
  | j + 1 => ((l.getD j (0, ⟨0, ⟨#[]⟩, [], ⟨#[]⟩, 0⟩)).1 : Int)
set_option maxHeartbeats 16000000 in
set_option maxRecDepth 100000 in
theorem stands_walk (p : Option Addr) (s : ByteArray) (c : Nat) (w : World) (hs : s.size ≤ 140737488355328) (hc : s.size ≤ c) (hp : HoldsB w p s) (hL : Leans w) :
    Calls Tryd.prog 3 #[.slice p s.size c] w fun e w' => e = .returned (.bool true) ∧ Below w.heap.size w w' := by
  have AW := Lib.hid (awake3_any w hL)
  have AL := Lib.hid (fun W (y : Below w.heap.size w W) => all_any p s c W hs hc (hp.below y) (hL.below y).tabs (hL.below y).named (hL.below y).max (hL.below y).fold)
  have RT := Lib.hid (fun W (y : Below w.heap.size w W) (z : s.size ≤ 4194304) => refText_any p s c W z hc (hp.below y))
  clear hp hL hc
  cases hres : allF s with
  | error ke =>
    obtain ⟨k, e0⟩ := ke
    obtain ⟨h1, h2⟩ := all_err hres
    rw [hres] at AL
    have g1 : ((e0 : Int) == 0) = false := by rw [beq_eq_false_iff_ne]; omega
    have g2 : ¬ (e0 : Int) = 0 := by omega
    have g3 : (0 : Int) ≤ (k : Int) := by omega
    have g4 : (k : Int) ≤ (s.size : Int) := by omega
    have g5 : decide ((0 : Int) ≤ (k : Int)) = true := decide_eq_true g3
    have g6 : decide ((k : Int) ≤ (s.size : Int)) = true := decide_eq_true g4
    clear hres h1 h2 RT hs
    go_enter Tryd.func3, Tryd.ntmps3
    go_wp2_with (fail)
    refine AW.out.mono ?_
    rintro e w1 ⟨rfl, hb1⟩
    go_wp2_with (fail)
    refine (AL.out w1 hb1).mono ?_
    rintro e w2 ⟨hpost, hb2⟩
    have he : e = .returned (.tuple #[.slice none 0 0, .int .i64 (k : Int), .int .i64 (e0 : Int)]) := hpost
    subst he
    have HB := Lib.hid (below_cat hb1 hb2)
    clear hb1 hb2 hpost
    go_wp2_with (fail)
    go_ret
    exact ⟨rfl, HB.out⟩
  | ok l =>
    obtain ⟨hacc, hsz⟩ := all_ok hres
    rw [hres] at AL
    have hts := text_size s
    have HACC := Lib.hid (And.intro hacc (And.intro hsz hts))
    clear hres hacc hts
    go_enter Tryd.func3, Tryd.ntmps3
    go_wp2_with (fail)
    refine AW.out.mono ?_
    rintro e w1 ⟨rfl, hb1⟩
    go_wp2_with (fail)
    refine (AL.out w1 hb1).mono ?_
    rintro e w2 ⟨hpost, hb2⟩
    obtain ⟨v, he, hl⟩ := hpost
    subst he
    obtain ⟨q, c2, hv⟩ := hl.form2
    subst hv
    have H2 := Lib.hid (And.intro (below_cat hb1 hb2) hl)
    clear hb1 hb2 hl
    go_wp2_with (fail)
    go_outline
    go_loopg [6, 39] l.length (fun g v6 v39 wr => ∃ i : Nat, v39 = .int .i64 (i : Int) ∧ i + g = l.length ∧ v6 = .int .i64 (lastAt l i) ∧ Below w2.heap.size w2 wr)
    case atStart => exact ⟨0, rfl, by omega, rfl, Below.refl _ _⟩
    case round =>
      obtain ⟨i, rfl, hig, rfl, hbr⟩ := hrel
      have HIG := Lib.hid hig
      have HBR := Lib.hid hbr
      clear hig hbr
      by_cases hlt : i < l.length
      · have hlpos : 0 < l.length := by omega
        obtain ⟨gn, rfl⟩ : ∃ gn, gk = gn + 1 := ⟨gk - 1, by have := HIG.out; omega⟩
        obtain ⟨g, c3, hv, hlc, hcm, hgl, _, pv, hcell⟩ := H2.out.2.cell hlpos
        obtain ⟨rfl, rfl⟩ : q = some ⟨g, 0, none⟩ ∧ c2 = c3 := by
          injection hv with h1 _ h3
          exact ⟨h1, h3⟩
        obtain ⟨x, hx⟩ : ∃ x, l[i]? = some x := ⟨_, List.getElem?_eq_getElem hlt⟩
        obtain ⟨hpa, k0, k1, k2, k3, k4, k5⟩ := hcell i x hx
        obtain ⟨q3, c4, hpv, hpc, hpm⟩ := hpa.form2
        rw [hpv] at hpa k3
        have d0 := hb_cell HBR.out k0
        have d1 := hb_cell HBR.out k1
        have d2 := hb_cell HBR.out k2
        have d3 := hb_cell HBR.out k3
        have d4 := hb_cell HBR.out k4
        have d5 := hb_cell HBR.out k5
        rw [Nat.mul_comm 6 i] at d0 d1 d2 d3 d4 d5
        have HX := Lib.hid (And.intro hx (And.intro hpa (And.intro hpc hpm)))
        have HCELL := Lib.hid hcell
        clear hv hx hpa hpv hpc hpm k0 k1 k2 k3 k4 k5 hcell
        go_upto_region 10 with fail
        obtain ⟨W1, hW1⟩ : ∃ W, wr.alloc (.cells #[.int .i64 (x.2.kind : Int), .int .i64 (x.1 : Int), .string x.2.name, .slice q3 x.2.pairs.length c4, .string x.2.text, .int .i64 (x.2.refs : Int)] 30) = W := ⟨_, rfl⟩
        have r1 := heap_alloc_new wr (.cells #[.int .i64 (x.2.kind : Int), .int .i64 (x.1 : Int), .string x.2.name, .slice q3 x.2.pairs.length c4, .string x.2.text, .int .i64 (x.2.refs : Int)] 30)
        have hb1 : Below wr.heap.size wr (wr.alloc (.cells #[.int .i64 (x.2.kind : Int), .int .i64 (x.1 : Int), .string x.2.name, .slice q3 x.2.pairs.length c4, .string x.2.text, .int .i64 (x.2.refs : Int)] 30)) := (Below.refl _ _).alloc (Nat.le_refl _) _
        rw [hW1] at r1 hb1 ⊢
        have R1 := Lib.hid r1
        have HB1 := Lib.hid (below_cat HBR.out hb1)
        clear hW1 r1 hb1 d0 d1 d2 d3 d4 d5
        obtain ⟨a1, a2, a3⟩ := HACC.out.1.here i x HX.out.1
        have hsx : x.1 < s.size := by have := HACC.out; omega
        have HA := Lib.hid (And.intro a1 (And.intro a2 a3))
        obtain ⟨la, hla⟩ : ∃ la : Int, lastAt l i = la := ⟨_, rfl⟩
        have hlax : la < (x.1 : Int) := by
          rw [← hla]
          cases i with
          | zero => show (-1 : Int) < _; omega
          | succ j =>
            have hjl : j < l.length := by omega
            have hy : l[j]? = some (l[j]'hjl) := List.getElem?_eq_getElem hjl
            have := (HACC.out.1.next j _ x hy HX.out.1).1
            show (((l.getD j (0, ⟨0, ⟨#[]⟩, [], ⟨#[]⟩, 0⟩)).1 : Nat) : Int) < _
            rw [List.getD, hy]
            simp only [Option.getD_some]
            omega
        rw [hla]
        clear hla a1 a2 a3
        go_cut [90] (fun v90 wx => v90 = .bool false ∧ wx = W1)
        case first =>
          obtain ⟨⟨e0, e1, e2, e3, e4, e5⟩, _⟩ := six_cells R1.out
          have t1 : ¬ (x.1 : Int) ≤ la := by omega
          have t1b : decide ((x.1 : Int) ≤ la) = false := decide_eq_false t1
          have t2 : ¬ (s.size : Int) ≤ (x.1 : Int) := by omega
          have t2b : decide ((s.size : Int) ≤ (x.1 : Int)) = false := decide_eq_false t2
          have t2c : ¬ s.size ≤ x.1 := by omega
          have t2d : decide (s.size ≤ x.1) = false := decide_eq_false t2c
          by_cases hi0 : i = 0
          · have hx0 : x.1 = 0 := HACC.out.1.first x (by rw [← hi0]; exact HX.out.1)
            have z1 : ((i : Int) == 0) = true := by rw [beq_iff_eq]; omega
            have z2 : ((x.1 : Int) == 0) = true := by rw [beq_iff_eq]; omega
            have z2b : ((x.1 : Int) != 0) = false := by rw [bne_eq_false_iff_eq]; omega
            have z3 : ¬ (0 : Int) < (i : Int) := by omega
            have z4 : decide ((0 : Int) < (i : Int)) = false := decide_eq_false z3
            have z5 : ¬ 0 < i := by omega
            have z6 : decide (0 < i) = false := decide_eq_false z5
            have HI0 := Lib.hid (And.intro hi0 hx0)
            clear hi0 hx0 hlt hlax hsx hlpos
            cases hk1 : ((x.2.kind : Int) == 1)
            all_goals
              go_wp2_with (fail)
              all_goals first
                | (go_meet; exact ⟨rfl, rfl⟩)
                | (exfalso; omega)
          · obtain ⟨j, hij⟩ : ∃ j, i = j + 1 := ⟨i - 1, by omega⟩
            have hjl : j < l.length := by omega
            have hy : l[j]? = some (l[j]'hjl) := List.getElem?_eq_getElem hjl
            obtain ⟨y, hyy⟩ : ∃ y, l[j]'hjl = y := ⟨_, rfl⟩
            rw [hyy] at hy
            have hny := HACC.out.1.next j y x hy (by rw [← hij]; exact HX.out.1)
            have yk := hb_cell HB1.out (HCELL.out j y hy).2.1
            rw [Nat.mul_comm 6 j] at yk
            have z1 : ((i : Int) == 0) = false := by rw [beq_eq_false_iff_ne]; omega
            have z1n : ¬ (i : Int) = 0 := by omega
            have z3 : (0 : Int) < (i : Int) := by omega
            have z4 : decide ((0 : Int) < (i : Int)) = true := decide_eq_true z3
            have z5 : 0 < i := by omega
            have z6 : decide (0 < i) = true := decide_eq_true z5
            have hsub : (i : Int) - 1 = (j : Int) := by omega
            have hji : (j : Int) < (l.length : Int) := by omega
            have hwr : wrap64 (j : Int) = (j : Int) := by
              unfold maxLen at hcm
              unfold wrap64
              omega
            have hk1 : ((x.2.kind : Int) == 1) = false := by
              rw [beq_eq_false_iff_ne]
              intro e
              have := HA.out.2.2 (by omega)
              omega
            have hk1n : ¬ (x.2.kind : Int) = 1 := by
              intro e
              rw [e] at hk1
              cases hk1
            have HNY := Lib.hid hny
            have HIJ := Lib.hid hij
            clear hi0 hny hlax hsx hlpos hyy hy hij
            cases hk5 : ((x.2.kind : Int) == 5)
            · go_wp2_with (fail)
              all_goals first
                | (go_meet; exact ⟨rfl, rfl⟩)
                | (exfalso; omega)
            · have hy5 : ((y.2.kind : Int) == 5) = false := by
                rw [beq_eq_false_iff_ne]
                intro e
                rw [beq_iff_eq] at hk5
                exact HNY.out.2 ⟨by omega, by omega⟩
              go_wp2_with (fail)
              all_goals first
                | (go_meet; exact ⟨rfl, rfl⟩)
                | (exfalso; omega)
        case rest =>
          obtain ⟨rfl, hwc⟩ := hcut
          subst hwc
          clear hlax hsx
          obtain ⟨⟨e0, e1, e2, e3, e4, e5⟩, _⟩ := six_cells R1.out
          go_upto_region 13 with fail
          obtain ⟨nb, hnb⟩ : ∃ nb : Bool, decide (0 < x.2.name.size) = nb := ⟨_, rfl⟩
          go_cut [9] (fun v9 wx => v9 = .bool nb ∧ wx = wc)
          case first =>
            have hk := HA.out.1.kind
            have hnm := HA.out.1.named
            have HNB := Lib.hid (And.intro hnb hnm)
            have hk8 : x.2.kind = 1 ∨ x.2.kind = 2 ∨ x.2.kind = 3 ∨ x.2.kind = 4 ∨ x.2.kind = 5 ∨ x.2.kind = 6 ∨ x.2.kind = 7 ∨ x.2.kind = 8 := by omega
            clear hk hnm hnb
            rcases hk8 with hk | hk | hk | hk | hk | hk | hk | hk
            all_goals
              have HK := Lib.hid hk
              rw [hk] at e0
              clear hk
              go_wp2_with (fail)
              go_meet
              refine ⟨?_, rfl⟩
              congr 1
              have h1 := HNB.out.1
              have h2 := HNB.out.2
              have h3 := HK.out
              rw [← h1]
              first
                | exact (decide_eq_true (h2.1 (by omega))).symm
                | exact (decide_eq_false (fun g => by have := h2.2 g; omega)).symm
          case rest =>
            obtain ⟨rfl, hwc2⟩ := hcut
            subst hwc2
            obtain ⟨nm, hnm⟩ : ∃ nm, x.2.name = nm := ⟨_, rfl⟩
            rw [hnm] at e2 hnb
            go_upto_region 14 with fail
            go_cut [115] (fun v115 wx => v115 = .bool false ∧ wx = wc)
            case first =>
              cases nb
              · have hz : nm = ⟨#[]⟩ := by
                  have := of_decide_eq_false hnb
                  apply ByteArray.ext
                  exact Array.eq_empty_of_size_eq_zero (show nm.size = 0 by omega)
                clear hnm hnb
                subst hz
                go_wp2_with (fail)
                go_meet
                exact ⟨rfl, rfl⟩
              · have ht := str_ne (of_decide_eq_true hnb)
                have hnz : ¬ nm.toList = [] := by
                  intro e
                  rw [e] at ht
                  cases ht
                have hnt : (!nm.toList.isEmpty) = true := by rw [ht]; rfl
                clear hnm hnb
                go_wp2_with (fail)
                go_meet
                exact ⟨rfl, rfl⟩
            case rest =>
              obtain ⟨rfl, hwc3⟩ := hcut
              subst hwc3
              clear hnb
              go_wp2_with (fail)
              have HWC := Lib.hid HB1.out
              obtain ⟨T8, hT8⟩ : ∃ n : Nat, wr.heap.size = n := ⟨_, rfl⟩
              rw [hT8] at e0 e1 e2 e3 e4 e5 ⊢
              clear hT8
              go_loopg [119] x.2.pairs.length (fun g2 v119 w3 => ∃ k : Nat, v119 = .int .i64 (k : Int) ∧ k + g2 = x.2.pairs.length ∧ Below wc.heap.size wc w3)
              case atStart => exact ⟨0, rfl, by omega, Below.refl _ _⟩
              case round =>
                obtain ⟨k, rfl, hkg, hb3⟩ := hrel
                have HKG := Lib.hid hkg
                have HB3 := Lib.hid hb3
                clear hkg hb3
                by_cases hkn : k < x.2.pairs.length
                · have hpa := HX.out.2.1
                  obtain ⟨g4, c5, hv4, hlc4, hcm4, _, _, hcell4⟩ := hpa.cell (by omega)
                  obtain ⟨rfl, rfl⟩ : q3 = some ⟨g4, 0, none⟩ ∧ c4 = c5 := by
                    injection hv4 with h1 _ h3
                    exact ⟨h1, h3⟩
                  obtain ⟨pr, hpr⟩ : ∃ pr, x.2.pairs[k]? = some pr := ⟨_, List.getElem?_eq_getElem hkn⟩
                  have hb23 : ∀ a v, w2.cell? a = some v → wr.cell? a = some v := fun a v h => hb_cell HB3.out (hb_cell HWC.out h)
                  obtain ⟨m0, m1⟩ := hcell4 k pr hpr
                  have n0 := hb23 _ _ m0
                  have n1 := hb23 _ _ m1
                  rw [Nat.mul_comm 2 k] at n0 n1
                  have f3 := hb_cell HB3.out e3
                  have hkc : (k : Int) ≤ (c4 : Int) := by omega
                  have HC4 := Lib.hid (And.intro hpr (And.intro hlc4 hcm4))
                  have HCELL4 := Lib.hid hcell4
                  have HB23 := Lib.hid hb23
                  obtain ⟨g2, rfl⟩ : ∃ g2', gk = g2' + 1 := ⟨gk - 1, by have := HKG.out; omega⟩
                  clear hpa hv4 hpr m0 m1 hcell4 hb23 e0 e1 e2 e4 e5
                  go_upto_region 19 with fail
                  obtain ⟨w4, hw4⟩ : ∃ W, wr.alloc (.cells #[.string pr.1, .string pr.2] 32) = W := ⟨_, rfl⟩
                  have r4 := heap_alloc_new wr (.cells #[.string pr.1, .string pr.2] 32)
                  have hb4 : Below wr.heap.size wr (wr.alloc (.cells #[.string pr.1, .string pr.2] 32)) := (Below.refl _ _).alloc (Nat.le_refl _) _
                  rw [hw4] at r4 hb4 ⊢
                  have f4 := hb_cell hb4 f3
                  have HB4 := Lib.hid hb4
                  obtain ⟨⟨x0, x1⟩, _⟩ := two_cells r4
                  have HB34 := Lib.hid (below_cat HB3.out hb4)
                  have HK4 := Lib.hid (fun a v (h : w2.cell? a = some v) => hb_cell hb4 (HB23.out a v h))
                  clear hw4 n0 n1 f3 r4 hb4
                  go_wp2_with (fail)
                  obtain ⟨T11, hT11⟩ : ∃ n : Nat, wr.heap.size = n := ⟨_, rfl⟩
                  rw [hT11] at x0 x1 ⊢
                  clear hT11
                  go_loopg [129] k (fun g3 v129 w5 => ∃ j : Nat, v129 = .int .i64 (j : Int) ∧ j + g3 = k ∧ Below w4.heap.size w4 w5)
                  case atStart => exact ⟨0, rfl, by omega, Below.refl _ _⟩
                  case round =>
                    obtain ⟨j, rfl, hjg, hb5⟩ := hrel
                    have HJG := Lib.hid hjg
                    have HB5 := Lib.hid hb5
                    clear hjg hb5
                    by_cases hjk : j < k
                    · have hjn : j < x.2.pairs.length := by omega
                      obtain ⟨qr, hqr⟩ : ∃ qr, x.2.pairs[j]? = some qr := ⟨_, List.getElem?_eq_getElem hjn⟩
                      obtain ⟨m0, m1⟩ := HCELL4.out j qr hqr
                      have n0 := hb_cell HB5.out (HK4.out _ _ m0)
                      have n1 := hb_cell HB5.out (HK4.out _ _ m1)
                      rw [Nat.mul_comm 2 j] at n0 n1
                      have y0 := hb_cell HB5.out x0
                      have hne : qr.1 ≠ pr.1 := by
                        have hap := List.pairwise_iff_getElem.1 HA.out.1.apart j k hjn hkn hjk
                        have e1 : x.2.pairs[j]'hjn = qr := by
                          rw [List.getElem?_eq_getElem hjn] at hqr
                          exact Option.some.inj hqr
                        have e2 : x.2.pairs[k]'hkn = pr := by
                          have := HC4.out.1
                          rw [List.getElem?_eq_getElem hkn] at this
                          exact Option.some.inj this
                        rw [e1, e2] at hap
                        exact hap
                      have hnb : (qr.1.toList == pr.1.toList) = false := by
                        rw [← str_dec2]
                        exact decide_eq_false hne
                      have hnl : ¬ qr.1.toList = pr.1.toList := by
                        intro e
                        rw [e] at hnb
                        simp at hnb
                      obtain ⟨g3, rfl⟩ : ∃ g3', gk = g3' + 1 := ⟨gk - 1, by have := HJG.out; omega⟩
                      clear hqr m0 m1 hne
                      go_upto_region 22 with fail
                      obtain ⟨w6, hw6⟩ : ∃ W, wr.alloc (.cells #[.string qr.1, .string qr.2] 32) = W := ⟨_, rfl⟩
                      have r6 := heap_alloc_new wr (.cells #[.string qr.1, .string qr.2] 32)
                      have hb6 : Below wr.heap.size wr (wr.alloc (.cells #[.string qr.1, .string qr.2] 32)) := (Below.refl _ _).alloc (Nat.le_refl _) _
                      rw [hw6] at r6 hb6 ⊢
                      obtain ⟨⟨a0, a1⟩, _⟩ := two_cells r6
                      have b0 := hb_cell hb6 y0
                      have HB6 := Lib.hid (below_cat HB5.out hb6)
                      clear hw6 r6 hb6 n0 n1 y0
                      go_wp2_with (fail)
                      all_goals first
                        | (exfalso; exact absurd ‹_› hnl)
                        | (go_roundg g3
                           case measure => omega
                           case rel =>
                             go_light
                             exact ⟨j + 1, by have h1 := HC4.out.2.2; unfold maxLen at h1; rw [show wrap64 ((j : Int) + 1) = ((j + 1 : Nat) : Int) by unfold wrap64; omega], by have := HJG.out; omega, HB6.out⟩)
                    · have hjk2 : j = k := by have := HJG.out; omega
                      go_wp2_with (fail)
                      go_roundg g2
                      case measure => omega
                      case rel =>
                        go_light
                        exact ⟨k + 1, by have h1 := HC4.out.2.2; unfold maxLen at h1; rw [show wrap64 ((k : Int) + 1) = ((k + 1 : Nat) : Int) by unfold wrap64; omega], by have := HKG.out; omega, below_cat HB34.out HB5.out⟩
                · go_wp2_with (fail)
                  go_roundg gn
                  case measure => omega
                  case rel =>
                    go_light
                    refine ⟨i + 1, by have h1 := hcm; unfold maxLen at h1; rw [show wrap64 ((i : Int) + 1) = ((i + 1 : Nat) : Int) by unfold wrap64; omega], by have := HIG.out; omega, ?_, below_cat HWC.out HB3.out⟩
                    congr 1
                    show _ = (((l.getD i (0, ⟨0, ⟨#[]⟩, [], ⟨#[]⟩, 0⟩)).1 : Nat) : Int)
                    rw [List.getD, HX.out.1]
                    rfl
      · have hil : i = l.length := by have := HIG.out; omega
        clear hlt
        by_cases h0 : 0 < l.length
        · have g1 : (0 : Int) < (l.length : Int) := by omega
          have g2 : decide ((0 : Int) < (l.length : Int)) = true := decide_eq_true g1
          subst hil
          have g3 : decide (0 < l.length) = true := decide_eq_true h0
          go_wp2_with (fail)
          go_ret
          exact ⟨rfl, below_cat H2.out.1 HBR.out⟩
        · have hl0 : l = [] := List.eq_nil_of_length_eq_zero (by omega)
          subst hl0
          have ht0 : (textF s).size = 0 := HACC.out.1.none_ rfl
          have R := RT.out wr (below_cat H2.out.1 HBR.out) (by have := HACC.out; omega)
          generalize textF s = t at *
          have htz : (t.size : Int) = 0 := by omega
          have RH := Lib.hid R
          have hi0 : i = 0 := hil
          subst hi0
          clear R h0 hil ht0
          go_wp2_with (fail)
          refine RH.out.mono ?_
          rintro e w5 ⟨rfl, hb5⟩
          go_wp2_with (fail)
          go_ret
          exact ⟨rfl, below_cat (below_cat H2.out.1 HBR.out) hb5⟩
end Go.Proofs.YtcfecnleibeegaaDoor
