/- Proved here: the statement ScanShows, walked: bytes whose tokens are told, by the double quote. -/
import Derived.Test.YteipiaefamfleaaGreatDoorM34
namespace Go.Proofs.YteipiaefamfleaaGreatDoor
open Go.RowKit

set_option maxRecDepth 100000 in
set_option maxHeartbeats 16000000 in
theorem shows_ok_false (p : Option Addr) (b : ByteArray) (c : Nat) (w : World) (hs : b.size ≤ 140737488355000) (hc : b.size ≤ c) (hp : HoldsB w p b) (hL : Leans w) (l : List (Nat × Tok)) (hl : allF b = .ok l) :
    Calls Tryz.prog 3 #[.slice p b.size c, .bool false] w fun e w' => e = .returned (.bool true) ∧ Below w.heap.size w w' := by
  have AW := Lib.hid (awake3_any w hL)
  have A1 := Lib.hid (fun W (y : Below w.heap.size w W) (q : Option Addr) (k : Nat) (t : ByteArray) (ht : t.size ≤ 140737488355328) (hk : t.size ≤ k) (h : HoldsB W q t) => (all_any q t k W ht hk h (hL.below y).tabs (hL.below y).named (hL.below y).max (hL.below y).fold))
  have AS := Lib.hid (fun W (y : Below w.heap.size w W) => (A1.out W y p c b (by omega) hc (hp.below y)).mono (fun e w' z => And.intro (all_okform z.1 hl rfl) z.2))
  obtain ⟨hll, hfx⟩ := shows_facts false hl
  have HF := Lib.hid hfx
  have HL := Lib.hid hl
  have gl : (l.length : Int) ≤ 65536 := by omega
  clear hp hL hc hs hfx hl
  go_enter Tryz.func3, Tryz.ntmps3
  go_wp2_with (fail)
  refine AW.out.mono ?_
  rintro e w0 ⟨rfl, hB0⟩
  go_wp2_with (fail)
  refine (AS.out w0 hB0).mono ?_
  rintro e w1 ⟨⟨q1, c1, rfl, tl1⟩, hb1⟩
  have HB1 := Lib.hid (below_cat hB0 hb1)
  have T1 := Lib.hid tl1
  clear hB0 hb1 tl1 AW AS
  go_wp2_with (fail)
  go_loopw [9, 10, 32] (fun v9 v10 v32 wr => ShwRel false l w1 v9 v10 v32 wr) (fun _ _ v _ => l.length - (intOf v).toNat)
  case atStart => exact ⟨0, ⟨#[]⟩, none, 0, rfl, rfl, rfl, Nat.zero_le _, Nat.zero_le _, Lib.hid ⟨rfl, OwnI.nil _ _, Below.refl _ _⟩⟩
  case round =>
    obtain ⟨i, o, qa, ca, rfl, rfl, rfl, hi, ho, HR⟩ := hrel
    by_cases hlt : i < l.length
    · obtain ⟨x, hx⟩ : ∃ x, l[i]? = some x := ⟨_, List.getElem?_eq_getElem hlt⟩
      obtain ⟨hkd, hfit, hpl, hval, hsb⟩ := HF.out i x hx
      obtain ⟨g, cc, hv, hcc, hcm, hgl, _, pv, hcell⟩ := T1.out.cell (by omega)
      obtain ⟨rfl, rfl⟩ : q1 = some ⟨g, 0, none⟩ ∧ c1 = cc := by
        injection hv with h1 _ h3
        exact ⟨h1, h3⟩
      obtain ⟨hpa, k0, k1, k2, k3, k4, k5⟩ := hcell i x hx
      have d0 := hb_cell HR.out.2.2 k0
      have d1 := hb_cell HR.out.2.2 k1
      have d2 := hb_cell HR.out.2.2 k2
      have d3 := hb_cell HR.out.2.2 k3
      have d4 := hb_cell HR.out.2.2 k4
      have d5 := hb_cell HR.out.2.2 k5
      rw [Nat.mul_comm 6 i] at d0 d1 d2 d3 d4 d5
      have gi : (i : Int) < (l.length : Int) := by omega
      have hshi := shown_take (s := false) hx
      have hlenA := ats_length false l i
      have hsn := ats_snoc false l i
      obtain ⟨xa, xk⟩ := x
      simp only at hshi hkd hfit hpl hval hsb hpa d0 d1 d2 d3 d4 d5
      obtain ⟨q5, c5, hpv5, _, _⟩ := hpa.form2
      rw [hpv5] at hpa d3
      have HSH := Lib.hid (fun W (y : Below w1.heap.size w1 W) => shown_walk_false xk (xa : Int) (xk.refs : Int) (.slice q5 xk.pairs.length c5) W ⟨hpa.pcells.below y, hfit, hpl, hval⟩ hkd)
      obtain ⟨X, hX⟩ : ∃ X : ByteArray, (⟨(shownL false xk).toArray⟩ : ByteArray) = X := ⟨_, rfl⟩
      have hXl : X.data.toList = shownL false xk := by rw [← hX]
      have hXz : X.size ≤ 200000000000 := by
        have : X.size = (shownL false xk).length := by rw [← hXl, size_list]
        omega
      rw [hX] at HSH
      have hoz : o.size ≤ 14000000000000000 := by omega
      have z1 : ¬ o.size + X.size > 9223372036854775807 := by omega
      obtain ⟨kd, nm, ps, tx, rf⟩ := xk
      simp only at d0 d1 d2 d3 d4 d5 HSH
      obtain ⟨wZ, hwZ⟩ : ∃ wZ, wr.alloc (.cells #[.int .i64 0, .int .i64 0, .string ⟨#[]⟩, .slice none 0 0, .string ⟨#[]⟩, .int .i64 0] 31) = wZ := ⟨_, rfl⟩
      have hZ : Below wr.heap.size wr wZ := by rw [← hwZ]; exact (Below.refl _ _).alloc (Nat.le_refl _) _
      have hhZ : wZ.heap[wr.heap.size]? = some (.cells #[.int .i64 0, .int .i64 0, .string ⟨#[]⟩, .slice none 0 0, .string ⟨#[]⟩, .int .i64 0] 31) := by rw [← hwZ]; exact heap_alloc_new wr _
      obtain ⟨⟨y0, y1, y2, y3, y4, y5⟩, ⟨f0, f1, f2, f3, f4, f5⟩⟩ := six_cells hhZ
      obtain ⟨hhB, hgB⟩ := setTok_row (kd : Int) (xa : Int) nm (.slice q5 ps.length c5) tx (rf : Int) hhZ
      obtain ⟨wB, hwB⟩ : ∃ wB, setTok wZ wr.heap.size (kd : Int) (xa : Int) nm (.slice q5 ps.length c5) tx (rf : Int) = wB := ⟨_, rfl⟩
      rw [hwB] at hhB hgB
      unfold setTok at hwB
      have hB : Below wr.heap.size wr wB := hZ.grown hgB hZ.size (fun k e => by injection e with e; omega)
      have hBs : wr.heap.size + 1 ≤ wB.heap.size := by
        have h1 := hgB.size
        have h2 : wZ.heap.size = wr.heap.size + 1 := by rw [← hwZ]; simp
        omega
      have hwB1 : w1.heap.size ≤ wB.heap.size := Nat.le_trans HR.out.2.2.size hB.size
      obtain ⟨ga, cap, w3, hrun, hown, hgr⟩ := appendI_one (x := (o.size : Int)) (HR.out.2.1.far hB) hwB1 (by rw [hlenA]; omega)
      have hne : (Value.slice qa (atsL false l i).length ca).ownBlock ≠ some wr.heap.size := fun e => by
        have := (World.ownsRow.lt HR.out.2.1.1 wr.heap.size e).2
        omega
      have hh3 : w3.heap[wr.heap.size]? = some (.cells #[.int .i64 (kd : Int), .int .i64 (xa : Int), .string nm, .slice q5 ps.length c5, .string tx, .int .i64 (rf : Int)] 31) := by
        rw [hgr.block wr.heap.size (by omega) (fun e => hne e.symm)]; exact hhB
      have TB := Lib.hid (tok_box hh3)
      have hb13 : Below w1.heap.size w1 w3 := (Below.trans HR.out.2.2 (hB.mono HR.out.2.2.size)).grown hgr hwB1 (fun k e => (World.ownsRow.lt (HR.out.2.1.far hB).1 k e).1)
      have HA := Lib.hid hrun
      have HN := Lib.hid (And.intro hown (And.intro hb13 (And.intro hlt (And.intro hXl (And.intro hshi (And.intro hsn hlenA))))))
      have HZ := Lib.hid (And.intro ho hXz)
      have SH := Lib.hid (HSH.out w3 hb13)
      clear hx hkd hfit hpl hval hsb hpv5 hv hcc hcm hgl hcell hpa k0 k1 k2 k3 k4 k5 hshi hsn hX hXl hXz hoz hB hhB hBs hZ hhZ hgB hwB1 hrun hown hgr hne hh3 hb13 HSH hlt hi ho hlenA
      obtain ⟨b0, b1, b2, b3, b4, b5⟩ := TB.out
      go_wp2_with (at_builtin; refine t_append_eq rfl _ _ _ rfl _ _ _ _ rfl rfl HA.out ?_)
      clear hwB hwZ d0 d1 d2 d3 d4 d5 y0 y1 y2 y3 y4 y5 f0 f1 f2 f3 f4 f5
      refine SH.out.mono ?_
      rintro e w4 ⟨rfl, hb4⟩
      have H4 := Lib.hid hb4
      clear hb4 b0 b1 b2 b3 b4 b5
      go_wp2_with (fail)
      go_round
      case rel =>
        obtain ⟨hown, hb13, hlt, hXl, hshi, hsn, hlenA⟩ := HN.out
        refine ⟨i + 1, o ++ X, some ⟨ga, 0, none⟩, cap, rfl, ?_, by go_num, hlt, by rw [ByteArray.size_append]; have := HZ.out; omega, Lib.hid ⟨?_, ?_, Below.trans hb13 (H4.out.mono hb13.size)⟩⟩
        · rw [hlenA, ats_length]
        · rw [hshi, ← HR.out.1, ← hXl]; simp
        · rw [hsn]
          have e : o.size = (shownAll false (l.take i)).length := by rw [← HR.out.1, size_list]
          rw [← e]
          exact hown.far H4.out
      case measure => have := HN.out.2.2.1; simp [intOf]; omega
    · obtain rfl : i = l.length := by omega
      have hu : o.data.toList = shownAll false l := by rw [HR.out.1, List.take_of_length_le (Nat.le_refl _)]
      by_cases hbig : 65533 < o.size
      · have gb : (65533 : Int) < (o.size : Int) := by omega
        clear hu hlt hi ho hbig
        go_wp2_with (fail)
        go_ret
        exact ⟨rfl, Below.trans HB1.out (HR.out.2.2.mono HB1.out.size)⟩
      · have gb : ¬ (65533 : Int) < (o.size : Int) := by omega
        obtain ⟨m, hm, hag⟩ := shows_plain false HL.out hu (by omega)
        have hlen := hag.len
        have hms : (markedB o).size ≤ 65539 := by
          unfold markedB
          split
          · rw [size_cat]; show 3 + _ ≤ _; omega
          · omega
        have MK := Lib.hid (fun W => marked_any o W (by omega))
        have A2 := Lib.hid (fun W (y : Below w.heap.size w W) (q : Option Addr) (k : Nat) (hk : (markedB o).size ≤ k) (h : HoldsB W q (markedB o)) => (A1.out W y q k _ (by omega) hk h).mono (fun e w' z => And.intro (all_okform z.1 hm hlen) z.2))
        have HAG := Lib.hid hag
        have hBw := Below.trans HB1.out (HR.out.2.2.mono HB1.out.size)
        have HBW := Lib.hid hBw
        have hag0 : ∀ (j : Nat) x y, l[j]? = some x → m[j]? = some y → Like x.2 y.2 ∧ y.1 = (shownAll false (l.take j)).length := fun j x y h1 h2 => by
          have := HAG.out.at j x y h1 h2
          rw [Nat.zero_add] at this
          exact this
        have HAT := Lib.hid (And.intro hag0 hlen)
        clear hu hlt hi ho hbig hm hag hlen hms hBw hag0 A1
        go_wp2_with (fail)
        refine (MK.out wr).mono ?_
        rintro e w4 ⟨c4, rfl, hc4, hh4, hb4⟩
        have hB4 := below_cat HBW.out hb4
        go_wp2_with (fail)
        refine (A2.out w4 hB4 (some ⟨wr.heap.size, 0, none⟩) c4 hc4 hh4).mono ?_
        rintro e w5 ⟨⟨q2, c2, rfl, tl2⟩, hb5⟩
        have H45 := Lib.hid (And.intro (below_cat hb4 hb5) (below_cat hB4 hb5))
        have T2 := Lib.hid tl2
        have TL := Lib.hid (T1.out.below (below_cat HR.out.2.2 (below_cat hb4 hb5)))
        have OA := Lib.hid ((HR.out.2.1).far (below_cat hb4 hb5)).holds
        clear hc4 hh4 hb4 hb5 hB4 tl2 MK A2
        go_wp2_with (fail)
        go_loopg [68] l.length (fun g v68 wr => ∃ k : Nat, v68 = .int .i64 (k : Int) ∧ k + g = l.length ∧ Hid (Below w5.heap.size w5 wr))
        case atStart => exact ⟨0, rfl, by omega, Lib.hid (Below.refl _ _)⟩
        case round =>
          obtain ⟨k, rfl, hkg, HBR⟩ := hrel
          have HKG := Lib.hid hkg
          clear hkg
          by_cases hlt : k < l.length
          · obtain ⟨gn, rfl⟩ : ∃ gn, gk = gn + 1 := ⟨gk - 1, by have := HKG.out; omega⟩
            obtain ⟨x, hx⟩ : ∃ x, l[k]? = some x := ⟨_, List.getElem?_eq_getElem hlt⟩
            obtain ⟨y, hy⟩ : ∃ y, m[k]? = some y := ⟨_, List.getElem?_eq_getElem (by rw [HAT.out.2]; exact hlt)⟩
            obtain ⟨⟨lk, ln, lp, lt⟩, hya⟩ := HAT.out.1 k x y hx hy
            obtain ⟨_, _, hpl, _, _⟩ := HF.out k x hx
            obtain ⟨g, cc, hv, hcc, hcm, hgl, _, pv, hcell⟩ := TL.out.cell (by omega)
            obtain ⟨rfl, rfl⟩ : q1 = some ⟨g, 0, none⟩ ∧ c1 = cc := by
              injection hv with h1 _ h3
              exact ⟨h1, h3⟩
            have hmpos : 0 < m.length := by rw [HAT.out.2]; omega
            obtain ⟨h, cd, hv2, hcd, hcm2, hhl, _, pv2, hcell2⟩ := T2.out.cell hmpos
            obtain ⟨rfl, rfl⟩ : q2 = some ⟨h, 0, none⟩ ∧ c2 = cd := by
              injection hv2 with h1 _ h3
              exact ⟨h1, h3⟩
            obtain ⟨hpa, k0, k1, k2, k3, k4, k5⟩ := hcell k x hx
            obtain ⟨hpb, m0, m1, m2, m3, m4, m5⟩ := hcell2 k y hy
            rw [lk] at m0
            rw [ln] at m2
            rw [lt] at m4
            rw [lp] at hpb
            obtain ⟨q5, c5, hpv, _, _⟩ := hpa.form2
            rw [hpv] at hpa k3
            obtain ⟨q6, c6, hpv2, _, _⟩ := hpb.form2
            rw [hpv2] at hpb m3
            obtain ⟨ga, offa, rfl, hac⟩ := OA.out (by rw [ats_length]; omega)
            have ac := hac k (by rw [ats_length]; exact hlt)
            rw [ats_getD false l _ k hlt, ← hya] at ac
            have d0 := hb_cell HBR.out k0
            have d1 := hb_cell HBR.out k1
            have d2 := hb_cell HBR.out k2
            have d3 := hb_cell HBR.out k3
            have d4 := hb_cell HBR.out k4
            have d5 := hb_cell HBR.out k5
            have e0 := hb_cell HBR.out m0
            have e1 := hb_cell HBR.out m1
            have e2 := hb_cell HBR.out m2
            have e3 := hb_cell HBR.out m3
            have e4 := hb_cell HBR.out m4
            have e5 := hb_cell HBR.out m5
            have ad := hb_cell HBR.out ac
            rw [Nat.mul_comm 6 k] at d0 d1 d2 d3 d4 d5 e0 e1 e2 e3 e4 e5
            have PC1 := Lib.hid (fun W (y : Below wr.heap.size wr W) => (hpa.pcells.below HBR.out).below y)
            have PC2 := Lib.hid (fun W (y : Below wr.heap.size wr W) => (hpb.pcells.below HBR.out).below y)
            have HXL := Lib.hid hpl
            have hlt2 : (k : Int) < (l.length : Int) := by omega
            have HAL := Lib.hid (ats_length false l l.length)
            obtain ⟨xa, xk⟩ := x
            obtain ⟨ya, yk⟩ := y
            obtain ⟨kd, nm, ps, tx, rf⟩ := xk
            simp only at d0 d1 d2 d3 d4 d5 e0 e1 e2 e3 e4 e5 PC1 PC2 HXL ad
            generalize yk.refs = rf2 at *
            clear lk ln lp lt hya hv hcell hv2 hcell2 hpa hpb hpv hpv2 k0 k1 k2 k3 k4 k5 m0 m1 m2 m3 m4 m5 hx hy hgl hhl hpl hcc hcm hcd hcm2 hmpos hac ac
            go_upto_region 25 with fail
            go_cut [17, 18] from 69 to 99 (fun v17 v18 wx => TwoToks wr (kd : Int) (xa : Int) (ya : Int) (rf : Int) (rf2 : Int) nm tx ps v17 v18 wx)
            case first =>
              refine wp_region_held_drew (S := fun W => Below wr.heap.size wr W) (by kernel_rfl) (Below.refl _ _).drew (fun hHeld => ?_)
              refine wpAnyH_take (i := 0) (oi := _) (v := ?v0) rfl (by kernel_rfl) (by kernel_rfl) (by kernel_rfl) (fun _ _ _ h => h) (Or.inl ⟨by rfl, ?hy0⟩) (by assumption) ?rest0
              case hy0 =>
                intro W9 hS9
                go_simp
                try (with_reducible rfl)
              try simp only [Act.put, List.getElem_toArray, List.getElem_cons_zero, List.getElem_cons_succ, List.setIfInBounds_toArray, List.set_cons_zero, List.set_cons_succ]
              refine wpAnyH_take (i := 1) (oi := _) (v := ?v1) rfl (by kernel_rfl) (by kernel_rfl) (by kernel_rfl) (fun _ _ _ h => h) (Or.inl ⟨by rfl, ?hy1⟩) (by assumption) ?rest1
              case hy1 =>
                intro W9 hS9
                go_simp
                try (with_reducible rfl)
              try simp only [Act.put, List.getElem_toArray, List.getElem_cons_zero, List.getElem_cons_succ, List.setIfInBounds_toArray, List.set_cons_zero, List.set_cons_succ]
              refine wpAnyH_take (i := 2) (oi := _) (v := ?v2) rfl (by kernel_rfl) (by kernel_rfl) (by kernel_rfl) (fun _ _ _ h => h) (Or.inl ⟨by rfl, ?hy2⟩) (by assumption) ?rest2
              case hy2 =>
                intro W9 hS9
                go_simp
                try (with_reducible rfl)
              try simp only [Act.put, List.getElem_toArray, List.getElem_cons_zero, List.getElem_cons_succ, List.setIfInBounds_toArray, List.set_cons_zero, List.set_cons_succ]
              refine wpAnyH_take (i := 3) (oi := _) (v := ?v3) rfl (by kernel_rfl) (by kernel_rfl) (by kernel_rfl) (fun _ _ _ h => h) (Or.inl ⟨by rfl, ?hy3⟩) (by assumption) ?rest3
              case hy3 =>
                intro W9 hS9
                have x0 := hb_cell hS9 d0
                have x1 := hb_cell hS9 d1
                have x2 := hb_cell hS9 d2
                have x3 := hb_cell hS9 d3
                have x4 := hb_cell hS9 d4
                have x5 := hb_cell hS9 d5
                go_simp
                try (with_reducible rfl)
              try simp only [Act.put, List.getElem_toArray, List.getElem_cons_zero, List.getElem_cons_succ, List.setIfInBounds_toArray, List.set_cons_zero, List.set_cons_succ]
              refine wpAnyH_take (i := 5) (oi := _) (v := ?v5) rfl (by kernel_rfl) (by kernel_rfl) (by kernel_rfl) (fun _ _ _ h => h) (Or.inl ⟨by rfl, ?hy5⟩) (by assumption) ?rest5
              case hy5 =>
                intro W9 hS9
                go_simp
                try (with_reducible rfl)
              try simp only [Act.put, List.getElem_toArray, List.getElem_cons_zero, List.getElem_cons_succ, List.setIfInBounds_toArray, List.set_cons_zero, List.set_cons_succ]
              refine wpAnyH_take (i := 6) (oi := _) (v := ?v6) rfl (by kernel_rfl) (by kernel_rfl) (by kernel_rfl) (fun _ _ _ h => h) (Or.inl ⟨by rfl, ?hy6⟩) (by assumption) ?rest6
              case hy6 =>
                intro W9 hS9
                go_simp
                try (with_reducible rfl)
              try simp only [Act.put, List.getElem_toArray, List.getElem_cons_zero, List.getElem_cons_succ, List.setIfInBounds_toArray, List.set_cons_zero, List.set_cons_succ]
              refine wpAnyH_take (i := 7) (oi := _) (v := ?v7) rfl (by kernel_rfl) (by kernel_rfl) (by kernel_rfl) (fun _ _ _ h => h) (Or.inl ⟨by rfl, ?hy7⟩) (by assumption) ?rest7
              case hy7 =>
                intro W9 hS9
                go_simp
                try (with_reducible rfl)
              try simp only [Act.put, List.getElem_toArray, List.getElem_cons_zero, List.getElem_cons_succ, List.setIfInBounds_toArray, List.set_cons_zero, List.set_cons_succ]
              refine wpAnyH_take (i := 8) (oi := _) (v := ?v8) rfl (by kernel_rfl) (by kernel_rfl) (by kernel_rfl) (fun _ _ _ h => h) (Or.inl ⟨by rfl, ?hy8⟩) (by assumption) ?rest8
              case hy8 =>
                intro W9 hS9
                have x0 := hb_cell hS9 e0
                have x1 := hb_cell hS9 e1
                have x2 := hb_cell hS9 e2
                have x3 := hb_cell hS9 e3
                have x4 := hb_cell hS9 e4
                have x5 := hb_cell hS9 e5
                go_simp
                try (with_reducible rfl)
              try simp only [Act.put, List.getElem_toArray, List.getElem_cons_zero, List.getElem_cons_succ, List.setIfInBounds_toArray, List.set_cons_zero, List.set_cons_succ]
              have HB0 : Below wr.heap.size wr wr.drew := (Below.refl _ _).drew
              obtain ⟨wk0, hwk0⟩ : ∃ W, wr.drew = W := ⟨_, rfl⟩
              rw [hwk0] at HB0 ⊢
              clear hwk0 hHeld d0 d1 d2 d3 d4 d5 e0 e1 e2 e3 e4 e5 ad
              refine wpAnyH_ready (rs := [4, 10, 11]) (by kernel_rfl) (by simp) ?_
              refine AllReadyH.cons (o := _) rfl (fun K hK => ?_) (AllReadyH.cons (o := _) rfl (fun K hK => ?_) (AllReadyH.cons (o := _) rfl (fun K hK => ?_) (AllReadyH.nil)))
              · go_simp
                refine (doc_any _ _ _ _ _ _ ps _ (PC1.out _ HB0) (by have := HXL.out; omega)).mono ?_
                rintro e wk1 ⟨pvr, rfl, hr, hba⟩
                obtain ⟨qr1, cr1, rfl⟩ := hr.form
                have HB1 := below_cat HB0 hba
                refine hK.out _ _ HB1 (fun _ => ?_)
                clear hK K
                try simp only [Act.put, List.getElem_toArray, List.getElem_cons_zero, List.getElem_cons_succ, List.setIfInBounds_toArray, List.set_cons_zero, List.set_cons_succ]
                have C1 := hr.cells
                have O1 : ∀ t, (Value.slice qr1 ps.length cr1).ownBlock = some t → t < wk1.heap.size := fun t e => (World.ownsRow.lt hr t e).2
                clear hr hba
                refine wpAnyH_ready (rs := [9, 10, 11]) (by kernel_rfl) (by simp) ?_
                refine AllReadyH.cons (o := _) rfl (fun K hK => ?_) (AllReadyH.cons (o := _) rfl (fun K hK => ?_) (AllReadyH.cons (o := _) rfl (fun K hK => ?_) (AllReadyH.nil)))
                · go_simp
                  refine (doc_any _ _ _ _ _ _ ps _ (PC2.out _ HB1) (by have := HXL.out; omega)).mono ?_
                  rintro e wk2 ⟨pvr, rfl, hr, hba⟩
                  obtain ⟨qr2, cr2, rfl⟩ := hr.form
                  have HB2 := below_cat HB1 hba
                  refine hK.out _ _ HB2 (fun _ => ?_)
                  clear hK K
                  try simp only [Act.put, List.getElem_toArray, List.getElem_cons_zero, List.getElem_cons_succ, List.setIfInBounds_toArray, List.set_cons_zero, List.set_cons_succ]
                  have C1 := C1.below hba
                  have C2 := hr.cells
                  have O2 : ∀ t, (Value.slice qr2 ps.length cr2).ownBlock = some t → t < wk2.heap.size := fun t e => (World.ownsRow.lt hr t e).2
                  have O1 : ∀ t, (Value.slice qr1 ps.length cr1).ownBlock = some t → t < wk2.heap.size := fun t e => Nat.lt_of_lt_of_le (O1 t e) hba.size
                  clear hr hba
                  refine wpAnyH_ready (rs := [10, 11]) (by kernel_rfl) (by simp) ?_
                  refine AllReadyH.cons (o := _) rfl (fun K hK => ?_) (AllReadyH.cons (o := _) rfl (fun K hK => ?_) (AllReadyH.nil))
                  · go_simp
                    refine hK.out _ _ (below_alloc HB2) (fun _ => ?_)
                    clear hK K
                    try simp only [Act.put, List.getElem_toArray, List.getElem_cons_zero, List.getElem_cons_succ, List.setIfInBounds_toArray, List.set_cons_zero, List.set_cons_succ]
                    obtain ⟨wk3, hw⟩ : ∃ W, wk2.alloc zTok = W := ⟨_, rfl⟩
                    have hba : Below wk2.heap.size wk2 wk3 := by rw [← hw]; exact (Below.refl _ _).alloc (Nat.le_refl _) _
                    have HB3 := below_cat HB2 hba
                    have R17 : wk3.heap[wk2.heap.size]? = some zTok := by rw [← hw]; exact heap_alloc_new _ _
                    have L17 := (Array.getElem?_eq_some_iff.1 R17).1
                    have G17 := HB2.size
                    change wpAnyH _ _ _ _ _ _ _ _ (wk2.alloc zTok)
                    rw [hw]
                    have C1 := C1.below hba
                    have C2 := C2.below hba
                    obtain ⟨g17, hg17⟩ : ∃ t, wk2.heap.size = t := ⟨_, rfl⟩
                    rw [hg17] at R17 L17 G17 ⊢
                    have K1 : (Value.slice qr1 ps.length cr1).ownBlock ≠ some g17 := fun e => by have := O1 g17 e; omega
                    have O1 : ∀ t, (Value.slice qr1 ps.length cr1).ownBlock = some t → t < wk3.heap.size := fun t e => Nat.lt_of_lt_of_le (O1 t e) hba.size
                    have K2 : (Value.slice qr2 ps.length cr2).ownBlock ≠ some g17 := fun e => by have := O2 g17 e; omega
                    have O2 : ∀ t, (Value.slice qr2 ps.length cr2).ownBlock = some t → t < wk3.heap.size := fun t e => Nat.lt_of_lt_of_le (O2 t e) hba.size
                    clear hw hba hg17
                    refine wpAnyH_ready (rs := [11]) (by kernel_rfl) (by simp) ?_
                    refine AllReadyH.cons (o := _) rfl (fun K hK => ?_) (AllReadyH.nil)
                    · go_simp
                      refine hK.out _ _ (below_alloc HB3) (fun _ => ?_)
                      clear hK K
                      try simp only [Act.put, List.getElem_toArray, List.getElem_cons_zero, List.getElem_cons_succ, List.setIfInBounds_toArray, List.set_cons_zero, List.set_cons_succ]
                      obtain ⟨wk4, hw⟩ : ∃ W, wk3.alloc zTok = W := ⟨_, rfl⟩
                      have hba : Below wk3.heap.size wk3 wk4 := by rw [← hw]; exact (Below.refl _ _).alloc (Nat.le_refl _) _
                      have HB4 := below_cat HB3 hba
                      have R18 : wk4.heap[wk3.heap.size]? = some zTok := by rw [← hw]; exact heap_alloc_new _ _
                      have L18 := (Array.getElem?_eq_some_iff.1 R18).1
                      have G18 := HB3.size
                      have R17 := (hba.block g17 L17).trans R17
                      have NE : g17 < wk3.heap.size := L17
                      have L17 := (Array.getElem?_eq_some_iff.1 R17).1
                      change wpAnyH _ _ _ _ _ _ _ _ (wk3.alloc zTok)
                      rw [hw]
                      have C1 := C1.below hba
                      have C2 := C2.below hba
                      obtain ⟨g18, hg18⟩ : ∃ t, wk3.heap.size = t := ⟨_, rfl⟩
                      rw [hg18] at R18 L18 G18 NE ⊢
                      have J1 : (Value.slice qr1 ps.length cr1).ownBlock ≠ some g18 := fun e => by have := O1 g18 e; omega
                      have O1 : ∀ t, (Value.slice qr1 ps.length cr1).ownBlock = some t → t < wk4.heap.size := fun t e => Nat.lt_of_lt_of_le (O1 t e) hba.size
                      have J2 : (Value.slice qr2 ps.length cr2).ownBlock ≠ some g18 := fun e => by have := O2 g18 e; omega
                      have O2 : ∀ t, (Value.slice qr2 ps.length cr2).ownBlock = some t → t < wk4.heap.size := fun t e => Nat.lt_of_lt_of_le (O2 t e) hba.size
                      clear hw hba hg18
                      obtain ⟨⟨s0, s1, s2, s3, s4, s5⟩, ⟨f0, f1, f2, f3, f4, f5⟩⟩ := six_cells R17
                      obtain ⟨N17, M17⟩ := setTok_row (kd : Int) (xa : Int) nm (.slice qr1 ps.length cr1) tx (rf : Int) R17
                      have HBS : Below wr.heap.size wr (setTok wk4 g17 (kd : Int) (xa : Int) nm (.slice qr1 ps.length cr1) tx (rf : Int)) := HB4.grown M17 HB4.size (fun k e => by injection e with e; omega)
                      refine wpAnyH_ready (rs := [12]) (by kernel_rfl) (by simp) ?_
                      refine AllReadyH.cons (o := _) rfl (fun K hK => ?_) AllReadyH.nil
                      go_simp
                      refine hK.out _ _ HBS (fun _ => ?_)
                      clear hK K
                      try simp only [Act.put, List.getElem_toArray, List.getElem_cons_zero, List.getElem_cons_succ, List.setIfInBounds_toArray, List.set_cons_zero, List.set_cons_succ]
                      have P18 : (setTok wk4 g17 (kd : Int) (xa : Int) nm (.slice qr1 ps.length cr1) tx (rf : Int)).heap[g18]? = some zTok := by rw [M17.block g18 (by omega) (fun e => by injection e with e; omega)]; exact R18
                      have C1' := C1.moved M17 (by intro e; exact absurd e K1)
                      have C2' := C2.moved M17 (by intro e; exact absurd e K2)
                      obtain ⟨wt, hwt⟩ : ∃ W, setTok wk4 g17 (kd : Int) (xa : Int) nm (.slice qr1 ps.length cr1) tx (rf : Int) = W := ⟨_, rfl⟩
                      change wpAnyH _ _ _ _ _ _ _ _ (setTok wk4 g17 (kd : Int) (xa : Int) nm (.slice qr1 ps.length cr1) tx (rf : Int))
                      rw [hwt] at N17 P18 HBS C1' C2' ⊢
                      clear s0 s1 s2 s3 s4 s5 f0 f1 f2 f3 f4 f5 hwt M17
                      obtain ⟨⟨s0, s1, s2, s3, s4, s5⟩, ⟨f0, f1, f2, f3, f4, f5⟩⟩ := six_cells P18
                      obtain ⟨N18, M18⟩ := setTok_row (kd : Int) (ya : Int) nm (.slice qr2 ps.length cr2) tx (rf2 : Int) P18
                      have HBT : Below wr.heap.size wr (setTok wt g18 (kd : Int) (ya : Int) nm (.slice qr2 ps.length cr2) tx (rf2 : Int)) := HBS.grown M18 HBS.size (fun k e => by injection e with e; omega)
                      have Q17 := (M18.block g17 (Array.getElem?_eq_some_iff.1 N17).1 (fun e => by injection e with e; omega)).trans N17
                      have C1'' := C1'.moved M18 (by intro e; exact absurd e J1)
                      have C2'' := C2'.moved M18 (by intro e; exact absurd e J2)
                      refine wpAnyH_ready (rs := [13]) (by kernel_rfl) (by simp) ?_
                      refine AllReadyH.cons (o := _) rfl (fun K hK => ?_) AllReadyH.nil
                      go_simp
                      refine hK.out _ _ HBT (fun _ => ?_)
                      clear hK K
                      try simp only [Act.put, List.getElem_toArray, List.getElem_cons_zero, List.getElem_cons_succ, List.setIfInBounds_toArray, List.set_cons_zero, List.set_cons_succ]
                      refine wpAnyH_done (by kernel_rfl) ?_ _
                      go_wp2_with fail
                      go_meet
                      exact ⟨g17, g18, qr1, cr1, qr2, cr2, rfl, rfl, Lib.hid ⟨by omega, by omega, by omega, Q17, N18, C1'', C2'', K1, J1, K2, J2, HBT⟩⟩
                  · go_simp
                    refine hK.out _ _ (below_alloc HB2) (fun _ => ?_)
                    clear hK K
                    try simp only [Act.put, List.getElem_toArray, List.getElem_cons_zero, List.getElem_cons_succ, List.setIfInBounds_toArray, List.set_cons_zero, List.set_cons_succ]
                    obtain ⟨wk3, hw⟩ : ∃ W, wk2.alloc zTok = W := ⟨_, rfl⟩
                    have hba : Below wk2.heap.size wk2 wk3 := by rw [← hw]; exact (Below.refl _ _).alloc (Nat.le_refl _) _
                    have HB3 := below_cat HB2 hba
                    have R18 : wk3.heap[wk2.heap.size]? = some zTok := by rw [← hw]; exact heap_alloc_new _ _
                    have L18 := (Array.getElem?_eq_some_iff.1 R18).1
                    have G18 := HB2.size
                    change wpAnyH _ _ _ _ _ _ _ _ (wk2.alloc zTok)
                    rw [hw]
                    have C1 := C1.below hba
                    have C2 := C2.below hba
                    obtain ⟨g18, hg18⟩ : ∃ t, wk2.heap.size = t := ⟨_, rfl⟩
                    rw [hg18] at R18 L18 G18 ⊢
                    have J1 : (Value.slice qr1 ps.length cr1).ownBlock ≠ some g18 := fun e => by have := O1 g18 e; omega
                    have O1 : ∀ t, (Value.slice qr1 ps.length cr1).ownBlock = some t → t < wk3.heap.size := fun t e => Nat.lt_of_lt_of_le (O1 t e) hba.size
                    have J2 : (Value.slice qr2 ps.length cr2).ownBlock ≠ some g18 := fun e => by have := O2 g18 e; omega
                    have O2 : ∀ t, (Value.slice qr2 ps.length cr2).ownBlock = some t → t < wk3.heap.size := fun t e => Nat.lt_of_lt_of_le (O2 t e) hba.size
                    clear hw hba hg18
                    refine wpAnyH_ready (rs := [10]) (by kernel_rfl) (by simp) ?_
                    refine AllReadyH.cons (o := _) rfl (fun K hK => ?_) (AllReadyH.nil)
                    · go_simp
                      refine hK.out _ _ (below_alloc HB3) (fun _ => ?_)
                      clear hK K
                      try simp only [Act.put, List.getElem_toArray, List.getElem_cons_zero, List.getElem_cons_succ, List.setIfInBounds_toArray, List.set_cons_zero, List.set_cons_succ]
                      obtain ⟨wk4, hw⟩ : ∃ W, wk3.alloc zTok = W := ⟨_, rfl⟩
                      have hba : Below wk3.heap.size wk3 wk4 := by rw [← hw]; exact (Below.refl _ _).alloc (Nat.le_refl _) _
                      have HB4 := below_cat HB3 hba
                      have R17 : wk4.heap[wk3.heap.size]? = some zTok := by rw [← hw]; exact heap_alloc_new _ _
                      have L17 := (Array.getElem?_eq_some_iff.1 R17).1
                      have G17 := HB3.size
                      have R18 := (hba.block g18 L18).trans R18
                      have NE : g18 < wk3.heap.size := L18
                      have L18 := (Array.getElem?_eq_some_iff.1 R18).1
                      change wpAnyH _ _ _ _ _ _ _ _ (wk3.alloc zTok)
                      rw [hw]
                      have C1 := C1.below hba
                      have C2 := C2.below hba
                      obtain ⟨g17, hg17⟩ : ∃ t, wk3.heap.size = t := ⟨_, rfl⟩
                      rw [hg17] at R17 L17 G17 NE ⊢
                      have K1 : (Value.slice qr1 ps.length cr1).ownBlock ≠ some g17 := fun e => by have := O1 g17 e; omega
                      have O1 : ∀ t, (Value.slice qr1 ps.length cr1).ownBlock = some t → t < wk4.heap.size := fun t e => Nat.lt_of_lt_of_le (O1 t e) hba.size
                      have K2 : (Value.slice qr2 ps.length cr2).ownBlock ≠ some g17 := fun e => by have := O2 g17 e; omega
                      have O2 : ∀ t, (Value.slice qr2 ps.length cr2).ownBlock = some t → t < wk4.heap.size := fun t e => Nat.lt_of_lt_of_le (O2 t e) hba.size
                      clear hw hba hg17
                      obtain ⟨⟨s0, s1, s2, s3, s4, s5⟩, ⟨f0, f1, f2, f3, f4, f5⟩⟩ := six_cells R17
                      obtain ⟨N17, M17⟩ := setTok_row (kd : Int) (xa : Int) nm (.slice qr1 ps.length cr1) tx (rf : Int) R17
                      have HBS : Below wr.heap.size wr (setTok wk4 g17 (kd : Int) (xa : Int) nm (.slice qr1 ps.length cr1) tx (rf : Int)) := HB4.grown M17 HB4.size (fun k e => by injection e with e; omega)
                      refine wpAnyH_ready (rs := [12]) (by kernel_rfl) (by simp) ?_
                      refine AllReadyH.cons (o := _) rfl (fun K hK => ?_) AllReadyH.nil
                      go_simp
                      refine hK.out _ _ HBS (fun _ => ?_)
                      clear hK K
                      try simp only [Act.put, List.getElem_toArray, List.getElem_cons_zero, List.getElem_cons_succ, List.setIfInBounds_toArray, List.set_cons_zero, List.set_cons_succ]
                      have P18 : (setTok wk4 g17 (kd : Int) (xa : Int) nm (.slice qr1 ps.length cr1) tx (rf : Int)).heap[g18]? = some zTok := by rw [M17.block g18 (by omega) (fun e => by injection e with e; omega)]; exact R18
                      have C1' := C1.moved M17 (by intro e; exact absurd e K1)
                      have C2' := C2.moved M17 (by intro e; exact absurd e K2)
                      obtain ⟨wt, hwt⟩ : ∃ W, setTok wk4 g17 (kd : Int) (xa : Int) nm (.slice qr1 ps.length cr1) tx (rf : Int) = W := ⟨_, rfl⟩
                      change wpAnyH _ _ _ _ _ _ _ _ (setTok wk4 g17 (kd : Int) (xa : Int) nm (.slice qr1 ps.length cr1) tx (rf : Int))
                      rw [hwt] at N17 P18 HBS C1' C2' ⊢
                      clear s0 s1 s2 s3 s4 s5 f0 f1 f2 f3 f4 f5 hwt M17
                      obtain ⟨⟨s0, s1, s2, s3, s4, s5⟩, ⟨f0, f1, f2, f3, f4, f5⟩⟩ := six_cells P18
                      obtain ⟨N18, M18⟩ := setTok_row (kd : Int) (ya : Int) nm (.slice qr2 ps.length cr2) tx (rf2 : Int) P18
                      have HBT : Below wr.heap.size wr (setTok wt g18 (kd : Int) (ya : Int) nm (.slice qr2 ps.length cr2) tx (rf2 : Int)) := HBS.grown M18 HBS.size (fun k e => by injection e with e; omega)
                      have Q17 := (M18.block g17 (Array.getElem?_eq_some_iff.1 N17).1 (fun e => by injection e with e; omega)).trans N17
                      have C1'' := C1'.moved M18 (by intro e; exact absurd e J1)
                      have C2'' := C2'.moved M18 (by intro e; exact absurd e J2)
                      refine wpAnyH_ready (rs := [13]) (by kernel_rfl) (by simp) ?_
                      refine AllReadyH.cons (o := _) rfl (fun K hK => ?_) AllReadyH.nil
                      go_simp
                      refine hK.out _ _ HBT (fun _ => ?_)
                      clear hK K
                      try simp only [Act.put, List.getElem_toArray, List.getElem_cons_zero, List.getElem_cons_succ, List.setIfInBounds_toArray, List.set_cons_zero, List.set_cons_succ]
                      refine wpAnyH_done (by kernel_rfl) ?_ _
                      go_wp2_with fail
                      go_meet
                      exact ⟨g17, g18, qr1, cr1, qr2, cr2, rfl, rfl, Lib.hid ⟨by omega, by omega, by omega, Q17, N18, C1'', C2'', K1, J1, K2, J2, HBT⟩⟩
                · go_simp
                  refine hK.out _ _ (below_alloc HB1) (fun _ => ?_)
                  clear hK K
                  try simp only [Act.put, List.getElem_toArray, List.getElem_cons_zero, List.getElem_cons_succ, List.setIfInBounds_toArray, List.set_cons_zero, List.set_cons_succ]
                  obtain ⟨wk2, hw⟩ : ∃ W, wk1.alloc zTok = W := ⟨_, rfl⟩
                  have hba : Below wk1.heap.size wk1 wk2 := by rw [← hw]; exact (Below.refl _ _).alloc (Nat.le_refl _) _
                  have HB2 := below_cat HB1 hba
                  have R17 : wk2.heap[wk1.heap.size]? = some zTok := by rw [← hw]; exact heap_alloc_new _ _
                  have L17 := (Array.getElem?_eq_some_iff.1 R17).1
                  have G17 := HB1.size
                  change wpAnyH _ _ _ _ _ _ _ _ (wk1.alloc zTok)
                  rw [hw]
                  have C1 := C1.below hba
                  obtain ⟨g17, hg17⟩ : ∃ t, wk1.heap.size = t := ⟨_, rfl⟩
                  rw [hg17] at R17 L17 G17 ⊢
                  have K1 : (Value.slice qr1 ps.length cr1).ownBlock ≠ some g17 := fun e => by have := O1 g17 e; omega
                  have O1 : ∀ t, (Value.slice qr1 ps.length cr1).ownBlock = some t → t < wk2.heap.size := fun t e => Nat.lt_of_lt_of_le (O1 t e) hba.size
                  clear hw hba hg17
                  refine wpAnyH_ready (rs := [9, 11]) (by kernel_rfl) (by simp) ?_
                  refine AllReadyH.cons (o := _) rfl (fun K hK => ?_) (AllReadyH.cons (o := _) rfl (fun K hK => ?_) (AllReadyH.nil))
                  · go_simp
                    refine (doc_any _ _ _ _ _ _ ps _ (PC2.out _ HB2) (by have := HXL.out; omega)).mono ?_
                    rintro e wk3 ⟨pvr, rfl, hr, hba⟩
                    obtain ⟨qr2, cr2, rfl⟩ := hr.form
                    have HB3 := below_cat HB2 hba
                    refine hK.out _ _ HB3 (fun _ => ?_)
                    clear hK K
                    try simp only [Act.put, List.getElem_toArray, List.getElem_cons_zero, List.getElem_cons_succ, List.setIfInBounds_toArray, List.set_cons_zero, List.set_cons_succ]
                    have C1 := C1.below hba
                    have C2 := hr.cells
                    have O2 : ∀ t, (Value.slice qr2 ps.length cr2).ownBlock = some t → t < wk3.heap.size := fun t e => (World.ownsRow.lt hr t e).2
                    have O1 : ∀ t, (Value.slice qr1 ps.length cr1).ownBlock = some t → t < wk3.heap.size := fun t e => Nat.lt_of_lt_of_le (O1 t e) hba.size
                    have K2 : (Value.slice qr2 ps.length cr2).ownBlock ≠ some g17 := fun e => by have := (World.ownsRow.lt hr g17 e).1; omega
                    have R17 := (hba.block g17 L17).trans R17
                    have L17 := (Array.getElem?_eq_some_iff.1 R17).1
                    clear hr hba
                    refine wpAnyH_ready (rs := [11]) (by kernel_rfl) (by simp) ?_
                    refine AllReadyH.cons (o := _) rfl (fun K hK => ?_) (AllReadyH.nil)
                    · go_simp
                      refine hK.out _ _ (below_alloc HB3) (fun _ => ?_)
                      clear hK K
                      try simp only [Act.put, List.getElem_toArray, List.getElem_cons_zero, List.getElem_cons_succ, List.setIfInBounds_toArray, List.set_cons_zero, List.set_cons_succ]
                      obtain ⟨wk4, hw⟩ : ∃ W, wk3.alloc zTok = W := ⟨_, rfl⟩
                      have hba : Below wk3.heap.size wk3 wk4 := by rw [← hw]; exact (Below.refl _ _).alloc (Nat.le_refl _) _
                      have HB4 := below_cat HB3 hba
                      have R18 : wk4.heap[wk3.heap.size]? = some zTok := by rw [← hw]; exact heap_alloc_new _ _
                      have L18 := (Array.getElem?_eq_some_iff.1 R18).1
                      have G18 := HB3.size
                      have R17 := (hba.block g17 L17).trans R17
                      have NE : g17 < wk3.heap.size := L17
                      have L17 := (Array.getElem?_eq_some_iff.1 R17).1
                      change wpAnyH _ _ _ _ _ _ _ _ (wk3.alloc zTok)
                      rw [hw]
                      have C1 := C1.below hba
                      have C2 := C2.below hba
                      obtain ⟨g18, hg18⟩ : ∃ t, wk3.heap.size = t := ⟨_, rfl⟩
                      rw [hg18] at R18 L18 G18 NE ⊢
                      have J1 : (Value.slice qr1 ps.length cr1).ownBlock ≠ some g18 := fun e => by have := O1 g18 e; omega
                      have O1 : ∀ t, (Value.slice qr1 ps.length cr1).ownBlock = some t → t < wk4.heap.size := fun t e => Nat.lt_of_lt_of_le (O1 t e) hba.size
                      have J2 : (Value.slice qr2 ps.length cr2).ownBlock ≠ some g18 := fun e => by have := O2 g18 e; omega
                      have O2 : ∀ t, (Value.slice qr2 ps.length cr2).ownBlock = some t → t < wk4.heap.size := fun t e => Nat.lt_of_lt_of_le (O2 t e) hba.size
                      clear hw hba hg18
                      obtain ⟨⟨s0, s1, s2, s3, s4, s5⟩, ⟨f0, f1, f2, f3, f4, f5⟩⟩ := six_cells R17
                      obtain ⟨N17, M17⟩ := setTok_row (kd : Int) (xa : Int) nm (.slice qr1 ps.length cr1) tx (rf : Int) R17
                      have HBS : Below wr.heap.size wr (setTok wk4 g17 (kd : Int) (xa : Int) nm (.slice qr1 ps.length cr1) tx (rf : Int)) := HB4.grown M17 HB4.size (fun k e => by injection e with e; omega)
                      refine wpAnyH_ready (rs := [12]) (by kernel_rfl) (by simp) ?_
                      refine AllReadyH.cons (o := _) rfl (fun K hK => ?_) AllReadyH.nil
                      go_simp
                      refine hK.out _ _ HBS (fun _ => ?_)
                      clear hK K
                      try simp only [Act.put, List.getElem_toArray, List.getElem_cons_zero, List.getElem_cons_succ, List.setIfInBounds_toArray, List.set_cons_zero, List.set_cons_succ]
                      have P18 : (setTok wk4 g17 (kd : Int) (xa : Int) nm (.slice qr1 ps.length cr1) tx (rf : Int)).heap[g18]? = some zTok := by rw [M17.block g18 (by omega) (fun e => by injection e with e; omega)]; exact R18
                      have C1' := C1.moved M17 (by intro e; exact absurd e K1)
                      have C2' := C2.moved M17 (by intro e; exact absurd e K2)
                      obtain ⟨wt, hwt⟩ : ∃ W, setTok wk4 g17 (kd : Int) (xa : Int) nm (.slice qr1 ps.length cr1) tx (rf : Int) = W := ⟨_, rfl⟩
                      change wpAnyH _ _ _ _ _ _ _ _ (setTok wk4 g17 (kd : Int) (xa : Int) nm (.slice qr1 ps.length cr1) tx (rf : Int))
                      rw [hwt] at N17 P18 HBS C1' C2' ⊢
                      clear s0 s1 s2 s3 s4 s5 f0 f1 f2 f3 f4 f5 hwt M17
                      obtain ⟨⟨s0, s1, s2, s3, s4, s5⟩, ⟨f0, f1, f2, f3, f4, f5⟩⟩ := six_cells P18
                      obtain ⟨N18, M18⟩ := setTok_row (kd : Int) (ya : Int) nm (.slice qr2 ps.length cr2) tx (rf2 : Int) P18
                      have HBT : Below wr.heap.size wr (setTok wt g18 (kd : Int) (ya : Int) nm (.slice qr2 ps.length cr2) tx (rf2 : Int)) := HBS.grown M18 HBS.size (fun k e => by injection e with e; omega)
                      have Q17 := (M18.block g17 (Array.getElem?_eq_some_iff.1 N17).1 (fun e => by injection e with e; omega)).trans N17
                      have C1'' := C1'.moved M18 (by intro e; exact absurd e J1)
                      have C2'' := C2'.moved M18 (by intro e; exact absurd e J2)
                      refine wpAnyH_ready (rs := [13]) (by kernel_rfl) (by simp) ?_
                      refine AllReadyH.cons (o := _) rfl (fun K hK => ?_) AllReadyH.nil
                      go_simp
                      refine hK.out _ _ HBT (fun _ => ?_)
                      clear hK K
                      try simp only [Act.put, List.getElem_toArray, List.getElem_cons_zero, List.getElem_cons_succ, List.setIfInBounds_toArray, List.set_cons_zero, List.set_cons_succ]
                      refine wpAnyH_done (by kernel_rfl) ?_ _
                      go_wp2_with fail
                      go_meet
                      exact ⟨g17, g18, qr1, cr1, qr2, cr2, rfl, rfl, Lib.hid ⟨by omega, by omega, by omega, Q17, N18, C1'', C2'', K1, J1, K2, J2, HBT⟩⟩
                  · go_simp
                    refine hK.out _ _ (below_alloc HB2) (fun _ => ?_)
                    clear hK K
                    try simp only [Act.put, List.getElem_toArray, List.getElem_cons_zero, List.getElem_cons_succ, List.setIfInBounds_toArray, List.set_cons_zero, List.set_cons_succ]
                    obtain ⟨wk3, hw⟩ : ∃ W, wk2.alloc zTok = W := ⟨_, rfl⟩
                    have hba : Below wk2.heap.size wk2 wk3 := by rw [← hw]; exact (Below.refl _ _).alloc (Nat.le_refl _) _
                    have HB3 := below_cat HB2 hba
                    have R18 : wk3.heap[wk2.heap.size]? = some zTok := by rw [← hw]; exact heap_alloc_new _ _
                    have L18 := (Array.getElem?_eq_some_iff.1 R18).1
                    have G18 := HB2.size
                    have R17 := (hba.block g17 L17).trans R17
                    have NE : g17 < wk2.heap.size := L17
                    have L17 := (Array.getElem?_eq_some_iff.1 R17).1
                    change wpAnyH _ _ _ _ _ _ _ _ (wk2.alloc zTok)
                    rw [hw]
                    have C1 := C1.below hba
                    obtain ⟨g18, hg18⟩ : ∃ t, wk2.heap.size = t := ⟨_, rfl⟩
                    rw [hg18] at R18 L18 G18 NE ⊢
                    have J1 : (Value.slice qr1 ps.length cr1).ownBlock ≠ some g18 := fun e => by have := O1 g18 e; omega
                    have O1 : ∀ t, (Value.slice qr1 ps.length cr1).ownBlock = some t → t < wk3.heap.size := fun t e => Nat.lt_of_lt_of_le (O1 t e) hba.size
                    clear hw hba hg18
                    refine wpAnyH_ready (rs := [9]) (by kernel_rfl) (by simp) ?_
                    refine AllReadyH.cons (o := _) rfl (fun K hK => ?_) (AllReadyH.nil)
                    · go_simp
                      refine (doc_any _ _ _ _ _ _ ps _ (PC2.out _ HB3) (by have := HXL.out; omega)).mono ?_
                      rintro e wk4 ⟨pvr, rfl, hr, hba⟩
                      obtain ⟨qr2, cr2, rfl⟩ := hr.form
                      have HB4 := below_cat HB3 hba
                      refine hK.out _ _ HB4 (fun _ => ?_)
                      clear hK K
                      try simp only [Act.put, List.getElem_toArray, List.getElem_cons_zero, List.getElem_cons_succ, List.setIfInBounds_toArray, List.set_cons_zero, List.set_cons_succ]
                      have C1 := C1.below hba
                      have C2 := hr.cells
                      have O2 : ∀ t, (Value.slice qr2 ps.length cr2).ownBlock = some t → t < wk4.heap.size := fun t e => (World.ownsRow.lt hr t e).2
                      have O1 : ∀ t, (Value.slice qr1 ps.length cr1).ownBlock = some t → t < wk4.heap.size := fun t e => Nat.lt_of_lt_of_le (O1 t e) hba.size
                      have K2 : (Value.slice qr2 ps.length cr2).ownBlock ≠ some g17 := fun e => by have := (World.ownsRow.lt hr g17 e).1; omega
                      have R17 := (hba.block g17 L17).trans R17
                      have L17 := (Array.getElem?_eq_some_iff.1 R17).1
                      have J2 : (Value.slice qr2 ps.length cr2).ownBlock ≠ some g18 := fun e => by have := (World.ownsRow.lt hr g18 e).1; omega
                      have R18 := (hba.block g18 L18).trans R18
                      have L18 := (Array.getElem?_eq_some_iff.1 R18).1
                      clear hr hba
                      obtain ⟨⟨s0, s1, s2, s3, s4, s5⟩, ⟨f0, f1, f2, f3, f4, f5⟩⟩ := six_cells R17
                      obtain ⟨N17, M17⟩ := setTok_row (kd : Int) (xa : Int) nm (.slice qr1 ps.length cr1) tx (rf : Int) R17
                      have HBS : Below wr.heap.size wr (setTok wk4 g17 (kd : Int) (xa : Int) nm (.slice qr1 ps.length cr1) tx (rf : Int)) := HB4.grown M17 HB4.size (fun k e => by injection e with e; omega)
                      refine wpAnyH_ready (rs := [12]) (by kernel_rfl) (by simp) ?_
                      refine AllReadyH.cons (o := _) rfl (fun K hK => ?_) AllReadyH.nil
                      go_simp
                      refine hK.out _ _ HBS (fun _ => ?_)
                      clear hK K
                      try simp only [Act.put, List.getElem_toArray, List.getElem_cons_zero, List.getElem_cons_succ, List.setIfInBounds_toArray, List.set_cons_zero, List.set_cons_succ]
                      have P18 : (setTok wk4 g17 (kd : Int) (xa : Int) nm (.slice qr1 ps.length cr1) tx (rf : Int)).heap[g18]? = some zTok := by rw [M17.block g18 (by omega) (fun e => by injection e with e; omega)]; exact R18
                      have C1' := C1.moved M17 (by intro e; exact absurd e K1)
                      have C2' := C2.moved M17 (by intro e; exact absurd e K2)
                      obtain ⟨wt, hwt⟩ : ∃ W, setTok wk4 g17 (kd : Int) (xa : Int) nm (.slice qr1 ps.length cr1) tx (rf : Int) = W := ⟨_, rfl⟩
                      change wpAnyH _ _ _ _ _ _ _ _ (setTok wk4 g17 (kd : Int) (xa : Int) nm (.slice qr1 ps.length cr1) tx (rf : Int))
                      rw [hwt] at N17 P18 HBS C1' C2' ⊢
                      clear s0 s1 s2 s3 s4 s5 f0 f1 f2 f3 f4 f5 hwt M17
                      obtain ⟨⟨s0, s1, s2, s3, s4, s5⟩, ⟨f0, f1, f2, f3, f4, f5⟩⟩ := six_cells P18
                      obtain ⟨N18, M18⟩ := setTok_row (kd : Int) (ya : Int) nm (.slice qr2 ps.length cr2) tx (rf2 : Int) P18
                      have HBT : Below wr.heap.size wr (setTok wt g18 (kd : Int) (ya : Int) nm (.slice qr2 ps.length cr2) tx (rf2 : Int)) := HBS.grown M18 HBS.size (fun k e => by injection e with e; omega)
                      have Q17 := (M18.block g17 (Array.getElem?_eq_some_iff.1 N17).1 (fun e => by injection e with e; omega)).trans N17
                      have C1'' := C1'.moved M18 (by intro e; exact absurd e J1)
                      have C2'' := C2'.moved M18 (by intro e; exact absurd e J2)
                      refine wpAnyH_ready (rs := [13]) (by kernel_rfl) (by simp) ?_
                      refine AllReadyH.cons (o := _) rfl (fun K hK => ?_) AllReadyH.nil
                      go_simp
                      refine hK.out _ _ HBT (fun _ => ?_)
                      clear hK K
                      try simp only [Act.put, List.getElem_toArray, List.getElem_cons_zero, List.getElem_cons_succ, List.setIfInBounds_toArray, List.set_cons_zero, List.set_cons_succ]
                      refine wpAnyH_done (by kernel_rfl) ?_ _
                      go_wp2_with fail
                      go_meet
                      exact ⟨g17, g18, qr1, cr1, qr2, cr2, rfl, rfl, Lib.hid ⟨by omega, by omega, by omega, Q17, N18, C1'', C2'', K1, J1, K2, J2, HBT⟩⟩
                · go_simp
                  refine hK.out _ _ (below_alloc HB1) (fun _ => ?_)
                  clear hK K
                  try simp only [Act.put, List.getElem_toArray, List.getElem_cons_zero, List.getElem_cons_succ, List.setIfInBounds_toArray, List.set_cons_zero, List.set_cons_succ]
                  obtain ⟨wk2, hw⟩ : ∃ W, wk1.alloc zTok = W := ⟨_, rfl⟩
                  have hba : Below wk1.heap.size wk1 wk2 := by rw [← hw]; exact (Below.refl _ _).alloc (Nat.le_refl _) _
                  have HB2 := below_cat HB1 hba
                  have R18 : wk2.heap[wk1.heap.size]? = some zTok := by rw [← hw]; exact heap_alloc_new _ _
                  have L18 := (Array.getElem?_eq_some_iff.1 R18).1
                  have G18 := HB1.size
                  change wpAnyH _ _ _ _ _ _ _ _ (wk1.alloc zTok)
                  rw [hw]
                  have C1 := C1.below hba
                  obtain ⟨g18, hg18⟩ : ∃ t, wk1.heap.size = t := ⟨_, rfl⟩
                  rw [hg18] at R18 L18 G18 ⊢
                  have J1 : (Value.slice qr1 ps.length cr1).ownBlock ≠ some g18 := fun e => by have := O1 g18 e; omega
                  have O1 : ∀ t, (Value.slice qr1 ps.length cr1).ownBlock = some t → t < wk2.heap.size := fun t e => Nat.lt_of_lt_of_le (O1 t e) hba.size
                  clear hw hba hg18
                  refine wpAnyH_ready (rs := [9, 10]) (by kernel_rfl) (by simp) ?_
                  refine AllReadyH.cons (o := _) rfl (fun K hK => ?_) (AllReadyH.cons (o := _) rfl (fun K hK => ?_) (AllReadyH.nil))
                  · go_simp
                    refine (doc_any _ _ _ _ _ _ ps _ (PC2.out _ HB2) (by have := HXL.out; omega)).mono ?_
                    rintro e wk3 ⟨pvr, rfl, hr, hba⟩
                    obtain ⟨qr2, cr2, rfl⟩ := hr.form
                    have HB3 := below_cat HB2 hba
                    refine hK.out _ _ HB3 (fun _ => ?_)
                    clear hK K
                    try simp only [Act.put, List.getElem_toArray, List.getElem_cons_zero, List.getElem_cons_succ, List.setIfInBounds_toArray, List.set_cons_zero, List.set_cons_succ]
                    have C1 := C1.below hba
                    have C2 := hr.cells
                    have O2 : ∀ t, (Value.slice qr2 ps.length cr2).ownBlock = some t → t < wk3.heap.size := fun t e => (World.ownsRow.lt hr t e).2
                    have O1 : ∀ t, (Value.slice qr1 ps.length cr1).ownBlock = some t → t < wk3.heap.size := fun t e => Nat.lt_of_lt_of_le (O1 t e) hba.size
                    have J2 : (Value.slice qr2 ps.length cr2).ownBlock ≠ some g18 := fun e => by have := (World.ownsRow.lt hr g18 e).1; omega
                    have R18 := (hba.block g18 L18).trans R18
                    have L18 := (Array.getElem?_eq_some_iff.1 R18).1
                    clear hr hba
                    refine wpAnyH_ready (rs := [10]) (by kernel_rfl) (by simp) ?_
                    refine AllReadyH.cons (o := _) rfl (fun K hK => ?_) (AllReadyH.nil)
                    · go_simp
                      refine hK.out _ _ (below_alloc HB3) (fun _ => ?_)
                      clear hK K
                      try simp only [Act.put, List.getElem_toArray, List.getElem_cons_zero, List.getElem_cons_succ, List.setIfInBounds_toArray, List.set_cons_zero, List.set_cons_succ]
                      obtain ⟨wk4, hw⟩ : ∃ W, wk3.alloc zTok = W := ⟨_, rfl⟩
                      have hba : Below wk3.heap.size wk3 wk4 := by rw [← hw]; exact (Below.refl _ _).alloc (Nat.le_refl _) _
                      have HB4 := below_cat HB3 hba
                      have R17 : wk4.heap[wk3.heap.size]? = some zTok := by rw [← hw]; exact heap_alloc_new _ _
                      have L17 := (Array.getElem?_eq_some_iff.1 R17).1
                      have G17 := HB3.size
                      have R18 := (hba.block g18 L18).trans R18
                      have NE : g18 < wk3.heap.size := L18
                      have L18 := (Array.getElem?_eq_some_iff.1 R18).1
                      change wpAnyH _ _ _ _ _ _ _ _ (wk3.alloc zTok)
                      rw [hw]
                      have C1 := C1.below hba
                      have C2 := C2.below hba
                      obtain ⟨g17, hg17⟩ : ∃ t, wk3.heap.size = t := ⟨_, rfl⟩
                      rw [hg17] at R17 L17 G17 NE ⊢
                      have K1 : (Value.slice qr1 ps.length cr1).ownBlock ≠ some g17 := fun e => by have := O1 g17 e; omega
                      have O1 : ∀ t, (Value.slice qr1 ps.length cr1).ownBlock = some t → t < wk4.heap.size := fun t e => Nat.lt_of_lt_of_le (O1 t e) hba.size
                      have K2 : (Value.slice qr2 ps.length cr2).ownBlock ≠ some g17 := fun e => by have := O2 g17 e; omega
                      have O2 : ∀ t, (Value.slice qr2 ps.length cr2).ownBlock = some t → t < wk4.heap.size := fun t e => Nat.lt_of_lt_of_le (O2 t e) hba.size
                      clear hw hba hg17
                      obtain ⟨⟨s0, s1, s2, s3, s4, s5⟩, ⟨f0, f1, f2, f3, f4, f5⟩⟩ := six_cells R17
                      obtain ⟨N17, M17⟩ := setTok_row (kd : Int) (xa : Int) nm (.slice qr1 ps.length cr1) tx (rf : Int) R17
                      have HBS : Below wr.heap.size wr (setTok wk4 g17 (kd : Int) (xa : Int) nm (.slice qr1 ps.length cr1) tx (rf : Int)) := HB4.grown M17 HB4.size (fun k e => by injection e with e; omega)
                      refine wpAnyH_ready (rs := [12]) (by kernel_rfl) (by simp) ?_
                      refine AllReadyH.cons (o := _) rfl (fun K hK => ?_) AllReadyH.nil
                      go_simp
                      refine hK.out _ _ HBS (fun _ => ?_)
                      clear hK K
                      try simp only [Act.put, List.getElem_toArray, List.getElem_cons_zero, List.getElem_cons_succ, List.setIfInBounds_toArray, List.set_cons_zero, List.set_cons_succ]
                      have P18 : (setTok wk4 g17 (kd : Int) (xa : Int) nm (.slice qr1 ps.length cr1) tx (rf : Int)).heap[g18]? = some zTok := by rw [M17.block g18 (by omega) (fun e => by injection e with e; omega)]; exact R18
                      have C1' := C1.moved M17 (by intro e; exact absurd e K1)
                      have C2' := C2.moved M17 (by intro e; exact absurd e K2)
                      obtain ⟨wt, hwt⟩ : ∃ W, setTok wk4 g17 (kd : Int) (xa : Int) nm (.slice qr1 ps.length cr1) tx (rf : Int) = W := ⟨_, rfl⟩
                      change wpAnyH _ _ _ _ _ _ _ _ (setTok wk4 g17 (kd : Int) (xa : Int) nm (.slice qr1 ps.length cr1) tx (rf : Int))
                      rw [hwt] at N17 P18 HBS C1' C2' ⊢
                      clear s0 s1 s2 s3 s4 s5 f0 f1 f2 f3 f4 f5 hwt M17
                      obtain ⟨⟨s0, s1, s2, s3, s4, s5⟩, ⟨f0, f1, f2, f3, f4, f5⟩⟩ := six_cells P18
                      obtain ⟨N18, M18⟩ := setTok_row (kd : Int) (ya : Int) nm (.slice qr2 ps.length cr2) tx (rf2 : Int) P18
                      have HBT : Below wr.heap.size wr (setTok wt g18 (kd : Int) (ya : Int) nm (.slice qr2 ps.length cr2) tx (rf2 : Int)) := HBS.grown M18 HBS.size (fun k e => by injection e with e; omega)
                      have Q17 := (M18.block g17 (Array.getElem?_eq_some_iff.1 N17).1 (fun e => by injection e with e; omega)).trans N17
                      have C1'' := C1'.moved M18 (by intro e; exact absurd e J1)
                      have C2'' := C2'.moved M18 (by intro e; exact absurd e J2)
                      refine wpAnyH_ready (rs := [13]) (by kernel_rfl) (by simp) ?_
                      refine AllReadyH.cons (o := _) rfl (fun K hK => ?_) AllReadyH.nil
                      go_simp
                      refine hK.out _ _ HBT (fun _ => ?_)
                      clear hK K
                      try simp only [Act.put, List.getElem_toArray, List.getElem_cons_zero, List.getElem_cons_succ, List.setIfInBounds_toArray, List.set_cons_zero, List.set_cons_succ]
                      refine wpAnyH_done (by kernel_rfl) ?_ _
                      go_wp2_with fail
                      go_meet
                      exact ⟨g17, g18, qr1, cr1, qr2, cr2, rfl, rfl, Lib.hid ⟨by omega, by omega, by omega, Q17, N18, C1'', C2'', K1, J1, K2, J2, HBT⟩⟩
                  · go_simp
                    refine hK.out _ _ (below_alloc HB2) (fun _ => ?_)
                    clear hK K
                    try simp only [Act.put, List.getElem_toArray, List.getElem_cons_zero, List.getElem_cons_succ, List.setIfInBounds_toArray, List.set_cons_zero, List.set_cons_succ]
                    obtain ⟨wk3, hw⟩ : ∃ W, wk2.alloc zTok = W := ⟨_, rfl⟩
                    have hba : Below wk2.heap.size wk2 wk3 := by rw [← hw]; exact (Below.refl _ _).alloc (Nat.le_refl _) _
                    have HB3 := below_cat HB2 hba
                    have R17 : wk3.heap[wk2.heap.size]? = some zTok := by rw [← hw]; exact heap_alloc_new _ _
                    have L17 := (Array.getElem?_eq_some_iff.1 R17).1
                    have G17 := HB2.size
                    have R18 := (hba.block g18 L18).trans R18
                    have NE : g18 < wk2.heap.size := L18
                    have L18 := (Array.getElem?_eq_some_iff.1 R18).1
                    change wpAnyH _ _ _ _ _ _ _ _ (wk2.alloc zTok)
                    rw [hw]
                    have C1 := C1.below hba
                    obtain ⟨g17, hg17⟩ : ∃ t, wk2.heap.size = t := ⟨_, rfl⟩
                    rw [hg17] at R17 L17 G17 NE ⊢
                    have K1 : (Value.slice qr1 ps.length cr1).ownBlock ≠ some g17 := fun e => by have := O1 g17 e; omega
                    have O1 : ∀ t, (Value.slice qr1 ps.length cr1).ownBlock = some t → t < wk3.heap.size := fun t e => Nat.lt_of_lt_of_le (O1 t e) hba.size
                    clear hw hba hg17
                    refine wpAnyH_ready (rs := [9]) (by kernel_rfl) (by simp) ?_
                    refine AllReadyH.cons (o := _) rfl (fun K hK => ?_) (AllReadyH.nil)
                    · go_simp
                      refine (doc_any _ _ _ _ _ _ ps _ (PC2.out _ HB3) (by have := HXL.out; omega)).mono ?_
                      rintro e wk4 ⟨pvr, rfl, hr, hba⟩
                      obtain ⟨qr2, cr2, rfl⟩ := hr.form
                      have HB4 := below_cat HB3 hba
                      refine hK.out _ _ HB4 (fun _ => ?_)
                      clear hK K
                      try simp only [Act.put, List.getElem_toArray, List.getElem_cons_zero, List.getElem_cons_succ, List.setIfInBounds_toArray, List.set_cons_zero, List.set_cons_succ]
                      have C1 := C1.below hba
                      have C2 := hr.cells
                      have O2 : ∀ t, (Value.slice qr2 ps.length cr2).ownBlock = some t → t < wk4.heap.size := fun t e => (World.ownsRow.lt hr t e).2
                      have O1 : ∀ t, (Value.slice qr1 ps.length cr1).ownBlock = some t → t < wk4.heap.size := fun t e => Nat.lt_of_lt_of_le (O1 t e) hba.size
                      have K2 : (Value.slice qr2 ps.length cr2).ownBlock ≠ some g17 := fun e => by have := (World.ownsRow.lt hr g17 e).1; omega
                      have R17 := (hba.block g17 L17).trans R17
                      have L17 := (Array.getElem?_eq_some_iff.1 R17).1
                      have J2 : (Value.slice qr2 ps.length cr2).ownBlock ≠ some g18 := fun e => by have := (World.ownsRow.lt hr g18 e).1; omega
                      have R18 := (hba.block g18 L18).trans R18
                      have L18 := (Array.getElem?_eq_some_iff.1 R18).1
                      clear hr hba
                      obtain ⟨⟨s0, s1, s2, s3, s4, s5⟩, ⟨f0, f1, f2, f3, f4, f5⟩⟩ := six_cells R17
                      obtain ⟨N17, M17⟩ := setTok_row (kd : Int) (xa : Int) nm (.slice qr1 ps.length cr1) tx (rf : Int) R17
                      have HBS : Below wr.heap.size wr (setTok wk4 g17 (kd : Int) (xa : Int) nm (.slice qr1 ps.length cr1) tx (rf : Int)) := HB4.grown M17 HB4.size (fun k e => by injection e with e; omega)
                      refine wpAnyH_ready (rs := [12]) (by kernel_rfl) (by simp) ?_
                      refine AllReadyH.cons (o := _) rfl (fun K hK => ?_) AllReadyH.nil
                      go_simp
                      refine hK.out _ _ HBS (fun _ => ?_)
                      clear hK K
                      try simp only [Act.put, List.getElem_toArray, List.getElem_cons_zero, List.getElem_cons_succ, List.setIfInBounds_toArray, List.set_cons_zero, List.set_cons_succ]
                      have P18 : (setTok wk4 g17 (kd : Int) (xa : Int) nm (.slice qr1 ps.length cr1) tx (rf : Int)).heap[g18]? = some zTok := by rw [M17.block g18 (by omega) (fun e => by injection e with e; omega)]; exact R18
                      have C1' := C1.moved M17 (by intro e; exact absurd e K1)
                      have C2' := C2.moved M17 (by intro e; exact absurd e K2)
                      obtain ⟨wt, hwt⟩ : ∃ W, setTok wk4 g17 (kd : Int) (xa : Int) nm (.slice qr1 ps.length cr1) tx (rf : Int) = W := ⟨_, rfl⟩
                      change wpAnyH _ _ _ _ _ _ _ _ (setTok wk4 g17 (kd : Int) (xa : Int) nm (.slice qr1 ps.length cr1) tx (rf : Int))
                      rw [hwt] at N17 P18 HBS C1' C2' ⊢
                      clear s0 s1 s2 s3 s4 s5 f0 f1 f2 f3 f4 f5 hwt M17
                      obtain ⟨⟨s0, s1, s2, s3, s4, s5⟩, ⟨f0, f1, f2, f3, f4, f5⟩⟩ := six_cells P18
                      obtain ⟨N18, M18⟩ := setTok_row (kd : Int) (ya : Int) nm (.slice qr2 ps.length cr2) tx (rf2 : Int) P18
                      have HBT : Below wr.heap.size wr (setTok wt g18 (kd : Int) (ya : Int) nm (.slice qr2 ps.length cr2) tx (rf2 : Int)) := HBS.grown M18 HBS.size (fun k e => by injection e with e; omega)
                      have Q17 := (M18.block g17 (Array.getElem?_eq_some_iff.1 N17).1 (fun e => by injection e with e; omega)).trans N17
                      have C1'' := C1'.moved M18 (by intro e; exact absurd e J1)
                      have C2'' := C2'.moved M18 (by intro e; exact absurd e J2)
                      refine wpAnyH_ready (rs := [13]) (by kernel_rfl) (by simp) ?_
                      refine AllReadyH.cons (o := _) rfl (fun K hK => ?_) AllReadyH.nil
                      go_simp
                      refine hK.out _ _ HBT (fun _ => ?_)
                      clear hK K
                      try simp only [Act.put, List.getElem_toArray, List.getElem_cons_zero, List.getElem_cons_succ, List.setIfInBounds_toArray, List.set_cons_zero, List.set_cons_succ]
                      refine wpAnyH_done (by kernel_rfl) ?_ _
                      go_wp2_with fail
                      go_meet
                      exact ⟨g17, g18, qr1, cr1, qr2, cr2, rfl, rfl, Lib.hid ⟨by omega, by omega, by omega, Q17, N18, C1'', C2'', K1, J1, K2, J2, HBT⟩⟩
              · go_simp
                refine hK.out _ _ (below_alloc HB0) (fun _ => ?_)
                clear hK K
                try simp only [Act.put, List.getElem_toArray, List.getElem_cons_zero, List.getElem_cons_succ, List.setIfInBounds_toArray, List.set_cons_zero, List.set_cons_succ]
                obtain ⟨wk1, hw⟩ : ∃ W, wk0.alloc zTok = W := ⟨_, rfl⟩
                have hba : Below wk0.heap.size wk0 wk1 := by rw [← hw]; exact (Below.refl _ _).alloc (Nat.le_refl _) _
                have HB1 := below_cat HB0 hba
                have R17 : wk1.heap[wk0.heap.size]? = some zTok := by rw [← hw]; exact heap_alloc_new _ _
                have L17 := (Array.getElem?_eq_some_iff.1 R17).1
                have G17 := HB0.size
                change wpAnyH _ _ _ _ _ _ _ _ (wk0.alloc zTok)
                rw [hw]
                obtain ⟨g17, hg17⟩ : ∃ t, wk0.heap.size = t := ⟨_, rfl⟩
                rw [hg17] at R17 L17 G17 ⊢
                clear hw hba hg17
                refine wpAnyH_ready (rs := [4, 11]) (by kernel_rfl) (by simp) ?_
                refine AllReadyH.cons (o := _) rfl (fun K hK => ?_) (AllReadyH.cons (o := _) rfl (fun K hK => ?_) (AllReadyH.nil))
                · go_simp
                  refine (doc_any _ _ _ _ _ _ ps _ (PC1.out _ HB1) (by have := HXL.out; omega)).mono ?_
                  rintro e wk2 ⟨pvr, rfl, hr, hba⟩
                  obtain ⟨qr1, cr1, rfl⟩ := hr.form
                  have HB2 := below_cat HB1 hba
                  refine hK.out _ _ HB2 (fun _ => ?_)
                  clear hK K
                  try simp only [Act.put, List.getElem_toArray, List.getElem_cons_zero, List.getElem_cons_succ, List.setIfInBounds_toArray, List.set_cons_zero, List.set_cons_succ]
                  have C1 := hr.cells
                  have O1 : ∀ t, (Value.slice qr1 ps.length cr1).ownBlock = some t → t < wk2.heap.size := fun t e => (World.ownsRow.lt hr t e).2
                  have K1 : (Value.slice qr1 ps.length cr1).ownBlock ≠ some g17 := fun e => by have := (World.ownsRow.lt hr g17 e).1; omega
                  have R17 := (hba.block g17 L17).trans R17
                  have L17 := (Array.getElem?_eq_some_iff.1 R17).1
                  clear hr hba
                  refine wpAnyH_ready (rs := [9, 11]) (by kernel_rfl) (by simp) ?_
                  refine AllReadyH.cons (o := _) rfl (fun K hK => ?_) (AllReadyH.cons (o := _) rfl (fun K hK => ?_) (AllReadyH.nil))
                  · go_simp
                    refine (doc_any _ _ _ _ _ _ ps _ (PC2.out _ HB2) (by have := HXL.out; omega)).mono ?_
                    rintro e wk3 ⟨pvr, rfl, hr, hba⟩
                    obtain ⟨qr2, cr2, rfl⟩ := hr.form
                    have HB3 := below_cat HB2 hba
                    refine hK.out _ _ HB3 (fun _ => ?_)
                    clear hK K
                    try simp only [Act.put, List.getElem_toArray, List.getElem_cons_zero, List.getElem_cons_succ, List.setIfInBounds_toArray, List.set_cons_zero, List.set_cons_succ]
                    have C1 := C1.below hba
                    have C2 := hr.cells
                    have O2 : ∀ t, (Value.slice qr2 ps.length cr2).ownBlock = some t → t < wk3.heap.size := fun t e => (World.ownsRow.lt hr t e).2
                    have O1 : ∀ t, (Value.slice qr1 ps.length cr1).ownBlock = some t → t < wk3.heap.size := fun t e => Nat.lt_of_lt_of_le (O1 t e) hba.size
                    have K2 : (Value.slice qr2 ps.length cr2).ownBlock ≠ some g17 := fun e => by have := (World.ownsRow.lt hr g17 e).1; omega
                    have R17 := (hba.block g17 L17).trans R17
                    have L17 := (Array.getElem?_eq_some_iff.1 R17).1
                    clear hr hba
                    refine wpAnyH_ready (rs := [11]) (by kernel_rfl) (by simp) ?_
                    refine AllReadyH.cons (o := _) rfl (fun K hK => ?_) (AllReadyH.nil)
                    · go_simp
                      refine hK.out _ _ (below_alloc HB3) (fun _ => ?_)
                      clear hK K
                      try simp only [Act.put, List.getElem_toArray, List.getElem_cons_zero, List.getElem_cons_succ, List.setIfInBounds_toArray, List.set_cons_zero, List.set_cons_succ]
                      obtain ⟨wk4, hw⟩ : ∃ W, wk3.alloc zTok = W := ⟨_, rfl⟩
                      have hba : Below wk3.heap.size wk3 wk4 := by rw [← hw]; exact (Below.refl _ _).alloc (Nat.le_refl _) _
                      have HB4 := below_cat HB3 hba
                      have R18 : wk4.heap[wk3.heap.size]? = some zTok := by rw [← hw]; exact heap_alloc_new _ _
                      have L18 := (Array.getElem?_eq_some_iff.1 R18).1
                      have G18 := HB3.size
                      have R17 := (hba.block g17 L17).trans R17
                      have NE : g17 < wk3.heap.size := L17
                      have L17 := (Array.getElem?_eq_some_iff.1 R17).1
                      change wpAnyH _ _ _ _ _ _ _ _ (wk3.alloc zTok)
                      rw [hw]
                      have C1 := C1.below hba
                      have C2 := C2.below hba
                      obtain ⟨g18, hg18⟩ : ∃ t, wk3.heap.size = t := ⟨_, rfl⟩
                      rw [hg18] at R18 L18 G18 NE ⊢
                      have J1 : (Value.slice qr1 ps.length cr1).ownBlock ≠ some g18 := fun e => by have := O1 g18 e; omega
                      have O1 : ∀ t, (Value.slice qr1 ps.length cr1).ownBlock = some t → t < wk4.heap.size := fun t e => Nat.lt_of_lt_of_le (O1 t e) hba.size
                      have J2 : (Value.slice qr2 ps.length cr2).ownBlock ≠ some g18 := fun e => by have := O2 g18 e; omega
                      have O2 : ∀ t, (Value.slice qr2 ps.length cr2).ownBlock = some t → t < wk4.heap.size := fun t e => Nat.lt_of_lt_of_le (O2 t e) hba.size
                      clear hw hba hg18
                      obtain ⟨⟨s0, s1, s2, s3, s4, s5⟩, ⟨f0, f1, f2, f3, f4, f5⟩⟩ := six_cells R17
                      obtain ⟨N17, M17⟩ := setTok_row (kd : Int) (xa : Int) nm (.slice qr1 ps.length cr1) tx (rf : Int) R17
                      have HBS : Below wr.heap.size wr (setTok wk4 g17 (kd : Int) (xa : Int) nm (.slice qr1 ps.length cr1) tx (rf : Int)) := HB4.grown M17 HB4.size (fun k e => by injection e with e; omega)
                      refine wpAnyH_ready (rs := [12]) (by kernel_rfl) (by simp) ?_
                      refine AllReadyH.cons (o := _) rfl (fun K hK => ?_) AllReadyH.nil
                      go_simp
                      refine hK.out _ _ HBS (fun _ => ?_)
                      clear hK K
                      try simp only [Act.put, List.getElem_toArray, List.getElem_cons_zero, List.getElem_cons_succ, List.setIfInBounds_toArray, List.set_cons_zero, List.set_cons_succ]
                      have P18 : (setTok wk4 g17 (kd : Int) (xa : Int) nm (.slice qr1 ps.length cr1) tx (rf : Int)).heap[g18]? = some zTok := by rw [M17.block g18 (by omega) (fun e => by injection e with e; omega)]; exact R18
                      have C1' := C1.moved M17 (by intro e; exact absurd e K1)
                      have C2' := C2.moved M17 (by intro e; exact absurd e K2)
                      obtain ⟨wt, hwt⟩ : ∃ W, setTok wk4 g17 (kd : Int) (xa : Int) nm (.slice qr1 ps.length cr1) tx (rf : Int) = W := ⟨_, rfl⟩
                      change wpAnyH _ _ _ _ _ _ _ _ (setTok wk4 g17 (kd : Int) (xa : Int) nm (.slice qr1 ps.length cr1) tx (rf : Int))
                      rw [hwt] at N17 P18 HBS C1' C2' ⊢
                      clear s0 s1 s2 s3 s4 s5 f0 f1 f2 f3 f4 f5 hwt M17
                      obtain ⟨⟨s0, s1, s2, s3, s4, s5⟩, ⟨f0, f1, f2, f3, f4, f5⟩⟩ := six_cells P18
                      obtain ⟨N18, M18⟩ := setTok_row (kd : Int) (ya : Int) nm (.slice qr2 ps.length cr2) tx (rf2 : Int) P18
                      have HBT : Below wr.heap.size wr (setTok wt g18 (kd : Int) (ya : Int) nm (.slice qr2 ps.length cr2) tx (rf2 : Int)) := HBS.grown M18 HBS.size (fun k e => by injection e with e; omega)
                      have Q17 := (M18.block g17 (Array.getElem?_eq_some_iff.1 N17).1 (fun e => by injection e with e; omega)).trans N17
                      have C1'' := C1'.moved M18 (by intro e; exact absurd e J1)
                      have C2'' := C2'.moved M18 (by intro e; exact absurd e J2)
                      refine wpAnyH_ready (rs := [13]) (by kernel_rfl) (by simp) ?_
                      refine AllReadyH.cons (o := _) rfl (fun K hK => ?_) AllReadyH.nil
                      go_simp
                      refine hK.out _ _ HBT (fun _ => ?_)
                      clear hK K
                      try simp only [Act.put, List.getElem_toArray, List.getElem_cons_zero, List.getElem_cons_succ, List.setIfInBounds_toArray, List.set_cons_zero, List.set_cons_succ]
                      refine wpAnyH_done (by kernel_rfl) ?_ _
                      go_wp2_with fail
                      go_meet
                      exact ⟨g17, g18, qr1, cr1, qr2, cr2, rfl, rfl, Lib.hid ⟨by omega, by omega, by omega, Q17, N18, C1'', C2'', K1, J1, K2, J2, HBT⟩⟩
                  · go_simp
                    refine hK.out _ _ (below_alloc HB2) (fun _ => ?_)
                    clear hK K
                    try simp only [Act.put, List.getElem_toArray, List.getElem_cons_zero, List.getElem_cons_succ, List.setIfInBounds_toArray, List.set_cons_zero, List.set_cons_succ]
                    obtain ⟨wk3, hw⟩ : ∃ W, wk2.alloc zTok = W := ⟨_, rfl⟩
                    have hba : Below wk2.heap.size wk2 wk3 := by rw [← hw]; exact (Below.refl _ _).alloc (Nat.le_refl _) _
                    have HB3 := below_cat HB2 hba
                    have R18 : wk3.heap[wk2.heap.size]? = some zTok := by rw [← hw]; exact heap_alloc_new _ _
                    have L18 := (Array.getElem?_eq_some_iff.1 R18).1
                    have G18 := HB2.size
                    have R17 := (hba.block g17 L17).trans R17
                    have NE : g17 < wk2.heap.size := L17
                    have L17 := (Array.getElem?_eq_some_iff.1 R17).1
                    change wpAnyH _ _ _ _ _ _ _ _ (wk2.alloc zTok)
                    rw [hw]
                    have C1 := C1.below hba
                    obtain ⟨g18, hg18⟩ : ∃ t, wk2.heap.size = t := ⟨_, rfl⟩
                    rw [hg18] at R18 L18 G18 NE ⊢
                    have J1 : (Value.slice qr1 ps.length cr1).ownBlock ≠ some g18 := fun e => by have := O1 g18 e; omega
                    have O1 : ∀ t, (Value.slice qr1 ps.length cr1).ownBlock = some t → t < wk3.heap.size := fun t e => Nat.lt_of_lt_of_le (O1 t e) hba.size
                    clear hw hba hg18
                    refine wpAnyH_ready (rs := [9]) (by kernel_rfl) (by simp) ?_
                    refine AllReadyH.cons (o := _) rfl (fun K hK => ?_) (AllReadyH.nil)
                    · go_simp
                      refine (doc_any _ _ _ _ _ _ ps _ (PC2.out _ HB3) (by have := HXL.out; omega)).mono ?_
                      rintro e wk4 ⟨pvr, rfl, hr, hba⟩
                      obtain ⟨qr2, cr2, rfl⟩ := hr.form
                      have HB4 := below_cat HB3 hba
                      refine hK.out _ _ HB4 (fun _ => ?_)
                      clear hK K
                      try simp only [Act.put, List.getElem_toArray, List.getElem_cons_zero, List.getElem_cons_succ, List.setIfInBounds_toArray, List.set_cons_zero, List.set_cons_succ]
                      have C1 := C1.below hba
                      have C2 := hr.cells
                      have O2 : ∀ t, (Value.slice qr2 ps.length cr2).ownBlock = some t → t < wk4.heap.size := fun t e => (World.ownsRow.lt hr t e).2
                      have O1 : ∀ t, (Value.slice qr1 ps.length cr1).ownBlock = some t → t < wk4.heap.size := fun t e => Nat.lt_of_lt_of_le (O1 t e) hba.size
                      have K2 : (Value.slice qr2 ps.length cr2).ownBlock ≠ some g17 := fun e => by have := (World.ownsRow.lt hr g17 e).1; omega
                      have R17 := (hba.block g17 L17).trans R17
                      have L17 := (Array.getElem?_eq_some_iff.1 R17).1
                      have J2 : (Value.slice qr2 ps.length cr2).ownBlock ≠ some g18 := fun e => by have := (World.ownsRow.lt hr g18 e).1; omega
                      have R18 := (hba.block g18 L18).trans R18
                      have L18 := (Array.getElem?_eq_some_iff.1 R18).1
                      clear hr hba
                      obtain ⟨⟨s0, s1, s2, s3, s4, s5⟩, ⟨f0, f1, f2, f3, f4, f5⟩⟩ := six_cells R17
                      obtain ⟨N17, M17⟩ := setTok_row (kd : Int) (xa : Int) nm (.slice qr1 ps.length cr1) tx (rf : Int) R17
                      have HBS : Below wr.heap.size wr (setTok wk4 g17 (kd : Int) (xa : Int) nm (.slice qr1 ps.length cr1) tx (rf : Int)) := HB4.grown M17 HB4.size (fun k e => by injection e with e; omega)
                      refine wpAnyH_ready (rs := [12]) (by kernel_rfl) (by simp) ?_
                      refine AllReadyH.cons (o := _) rfl (fun K hK => ?_) AllReadyH.nil
                      go_simp
                      refine hK.out _ _ HBS (fun _ => ?_)
                      clear hK K
                      try simp only [Act.put, List.getElem_toArray, List.getElem_cons_zero, List.getElem_cons_succ, List.setIfInBounds_toArray, List.set_cons_zero, List.set_cons_succ]
                      have P18 : (setTok wk4 g17 (kd : Int) (xa : Int) nm (.slice qr1 ps.length cr1) tx (rf : Int)).heap[g18]? = some zTok := by rw [M17.block g18 (by omega) (fun e => by injection e with e; omega)]; exact R18
                      have C1' := C1.moved M17 (by intro e; exact absurd e K1)
                      have C2' := C2.moved M17 (by intro e; exact absurd e K2)
                      obtain ⟨wt, hwt⟩ : ∃ W, setTok wk4 g17 (kd : Int) (xa : Int) nm (.slice qr1 ps.length cr1) tx (rf : Int) = W := ⟨_, rfl⟩
                      change wpAnyH _ _ _ _ _ _ _ _ (setTok wk4 g17 (kd : Int) (xa : Int) nm (.slice qr1 ps.length cr1) tx (rf : Int))
                      rw [hwt] at N17 P18 HBS C1' C2' ⊢
                      clear s0 s1 s2 s3 s4 s5 f0 f1 f2 f3 f4 f5 hwt M17
                      obtain ⟨⟨s0, s1, s2, s3, s4, s5⟩, ⟨f0, f1, f2, f3, f4, f5⟩⟩ := six_cells P18
                      obtain ⟨N18, M18⟩ := setTok_row (kd : Int) (ya : Int) nm (.slice qr2 ps.length cr2) tx (rf2 : Int) P18
                      have HBT : Below wr.heap.size wr (setTok wt g18 (kd : Int) (ya : Int) nm (.slice qr2 ps.length cr2) tx (rf2 : Int)) := HBS.grown M18 HBS.size (fun k e => by injection e with e; omega)
                      have Q17 := (M18.block g17 (Array.getElem?_eq_some_iff.1 N17).1 (fun e => by injection e with e; omega)).trans N17
                      have C1'' := C1'.moved M18 (by intro e; exact absurd e J1)
                      have C2'' := C2'.moved M18 (by intro e; exact absurd e J2)
                      refine wpAnyH_ready (rs := [13]) (by kernel_rfl) (by simp) ?_
                      refine AllReadyH.cons (o := _) rfl (fun K hK => ?_) AllReadyH.nil
                      go_simp
                      refine hK.out _ _ HBT (fun _ => ?_)
                      clear hK K
                      try simp only [Act.put, List.getElem_toArray, List.getElem_cons_zero, List.getElem_cons_succ, List.setIfInBounds_toArray, List.set_cons_zero, List.set_cons_succ]
                      refine wpAnyH_done (by kernel_rfl) ?_ _
                      go_wp2_with fail
                      go_meet
                      exact ⟨g17, g18, qr1, cr1, qr2, cr2, rfl, rfl, Lib.hid ⟨by omega, by omega, by omega, Q17, N18, C1'', C2'', K1, J1, K2, J2, HBT⟩⟩
                · go_simp
                  refine hK.out _ _ (below_alloc HB1) (fun _ => ?_)
                  clear hK K
                  try simp only [Act.put, List.getElem_toArray, List.getElem_cons_zero, List.getElem_cons_succ, List.setIfInBounds_toArray, List.set_cons_zero, List.set_cons_succ]
                  obtain ⟨wk2, hw⟩ : ∃ W, wk1.alloc zTok = W := ⟨_, rfl⟩
                  have hba : Below wk1.heap.size wk1 wk2 := by rw [← hw]; exact (Below.refl _ _).alloc (Nat.le_refl _) _
                  have HB2 := below_cat HB1 hba
                  have R18 : wk2.heap[wk1.heap.size]? = some zTok := by rw [← hw]; exact heap_alloc_new _ _
                  have L18 := (Array.getElem?_eq_some_iff.1 R18).1
                  have G18 := HB1.size
                  have R17 := (hba.block g17 L17).trans R17
                  have NE : g17 < wk1.heap.size := L17
                  have L17 := (Array.getElem?_eq_some_iff.1 R17).1
                  change wpAnyH _ _ _ _ _ _ _ _ (wk1.alloc zTok)
                  rw [hw]
                  obtain ⟨g18, hg18⟩ : ∃ t, wk1.heap.size = t := ⟨_, rfl⟩
                  rw [hg18] at R18 L18 G18 NE ⊢
                  clear hw hba hg18
                  refine wpAnyH_ready (rs := [4]) (by kernel_rfl) (by simp) ?_
                  refine AllReadyH.cons (o := _) rfl (fun K hK => ?_) (AllReadyH.nil)
                  · go_simp
                    refine (doc_any _ _ _ _ _ _ ps _ (PC1.out _ HB2) (by have := HXL.out; omega)).mono ?_
                    rintro e wk3 ⟨pvr, rfl, hr, hba⟩
                    obtain ⟨qr1, cr1, rfl⟩ := hr.form
                    have HB3 := below_cat HB2 hba
                    refine hK.out _ _ HB3 (fun _ => ?_)
                    clear hK K
                    try simp only [Act.put, List.getElem_toArray, List.getElem_cons_zero, List.getElem_cons_succ, List.setIfInBounds_toArray, List.set_cons_zero, List.set_cons_succ]
                    have C1 := hr.cells
                    have O1 : ∀ t, (Value.slice qr1 ps.length cr1).ownBlock = some t → t < wk3.heap.size := fun t e => (World.ownsRow.lt hr t e).2
                    have K1 : (Value.slice qr1 ps.length cr1).ownBlock ≠ some g17 := fun e => by have := (World.ownsRow.lt hr g17 e).1; omega
                    have R17 := (hba.block g17 L17).trans R17
                    have L17 := (Array.getElem?_eq_some_iff.1 R17).1
                    have J1 : (Value.slice qr1 ps.length cr1).ownBlock ≠ some g18 := fun e => by have := (World.ownsRow.lt hr g18 e).1; omega
                    have R18 := (hba.block g18 L18).trans R18
                    have L18 := (Array.getElem?_eq_some_iff.1 R18).1
                    clear hr hba
                    refine wpAnyH_ready (rs := [9]) (by kernel_rfl) (by simp) ?_
                    refine AllReadyH.cons (o := _) rfl (fun K hK => ?_) (AllReadyH.nil)
                    · go_simp
                      refine (doc_any _ _ _ _ _ _ ps _ (PC2.out _ HB3) (by have := HXL.out; omega)).mono ?_
                      rintro e wk4 ⟨pvr, rfl, hr, hba⟩
                      obtain ⟨qr2, cr2, rfl⟩ := hr.form
                      have HB4 := below_cat HB3 hba
                      refine hK.out _ _ HB4 (fun _ => ?_)
                      clear hK K
                      try simp only [Act.put, List.getElem_toArray, List.getElem_cons_zero, List.getElem_cons_succ, List.setIfInBounds_toArray, List.set_cons_zero, List.set_cons_succ]
                      have C1 := C1.below hba
                      have C2 := hr.cells
                      have O2 : ∀ t, (Value.slice qr2 ps.length cr2).ownBlock = some t → t < wk4.heap.size := fun t e => (World.ownsRow.lt hr t e).2
                      have O1 : ∀ t, (Value.slice qr1 ps.length cr1).ownBlock = some t → t < wk4.heap.size := fun t e => Nat.lt_of_lt_of_le (O1 t e) hba.size
                      have K2 : (Value.slice qr2 ps.length cr2).ownBlock ≠ some g17 := fun e => by have := (World.ownsRow.lt hr g17 e).1; omega
                      have R17 := (hba.block g17 L17).trans R17
                      have L17 := (Array.getElem?_eq_some_iff.1 R17).1
                      have J2 : (Value.slice qr2 ps.length cr2).ownBlock ≠ some g18 := fun e => by have := (World.ownsRow.lt hr g18 e).1; omega
                      have R18 := (hba.block g18 L18).trans R18
                      have L18 := (Array.getElem?_eq_some_iff.1 R18).1
                      clear hr hba
                      obtain ⟨⟨s0, s1, s2, s3, s4, s5⟩, ⟨f0, f1, f2, f3, f4, f5⟩⟩ := six_cells R17
                      obtain ⟨N17, M17⟩ := setTok_row (kd : Int) (xa : Int) nm (.slice qr1 ps.length cr1) tx (rf : Int) R17
                      have HBS : Below wr.heap.size wr (setTok wk4 g17 (kd : Int) (xa : Int) nm (.slice qr1 ps.length cr1) tx (rf : Int)) := HB4.grown M17 HB4.size (fun k e => by injection e with e; omega)
                      refine wpAnyH_ready (rs := [12]) (by kernel_rfl) (by simp) ?_
                      refine AllReadyH.cons (o := _) rfl (fun K hK => ?_) AllReadyH.nil
                      go_simp
                      refine hK.out _ _ HBS (fun _ => ?_)
                      clear hK K
                      try simp only [Act.put, List.getElem_toArray, List.getElem_cons_zero, List.getElem_cons_succ, List.setIfInBounds_toArray, List.set_cons_zero, List.set_cons_succ]
                      have P18 : (setTok wk4 g17 (kd : Int) (xa : Int) nm (.slice qr1 ps.length cr1) tx (rf : Int)).heap[g18]? = some zTok := by rw [M17.block g18 (by omega) (fun e => by injection e with e; omega)]; exact R18
                      have C1' := C1.moved M17 (by intro e; exact absurd e K1)
                      have C2' := C2.moved M17 (by intro e; exact absurd e K2)
                      obtain ⟨wt, hwt⟩ : ∃ W, setTok wk4 g17 (kd : Int) (xa : Int) nm (.slice qr1 ps.length cr1) tx (rf : Int) = W := ⟨_, rfl⟩
                      change wpAnyH _ _ _ _ _ _ _ _ (setTok wk4 g17 (kd : Int) (xa : Int) nm (.slice qr1 ps.length cr1) tx (rf : Int))
                      rw [hwt] at N17 P18 HBS C1' C2' ⊢
                      clear s0 s1 s2 s3 s4 s5 f0 f1 f2 f3 f4 f5 hwt M17
                      obtain ⟨⟨s0, s1, s2, s3, s4, s5⟩, ⟨f0, f1, f2, f3, f4, f5⟩⟩ := six_cells P18
                      obtain ⟨N18, M18⟩ := setTok_row (kd : Int) (ya : Int) nm (.slice qr2 ps.length cr2) tx (rf2 : Int) P18
                      have HBT : Below wr.heap.size wr (setTok wt g18 (kd : Int) (ya : Int) nm (.slice qr2 ps.length cr2) tx (rf2 : Int)) := HBS.grown M18 HBS.size (fun k e => by injection e with e; omega)
                      have Q17 := (M18.block g17 (Array.getElem?_eq_some_iff.1 N17).1 (fun e => by injection e with e; omega)).trans N17
                      have C1'' := C1'.moved M18 (by intro e; exact absurd e J1)
                      have C2'' := C2'.moved M18 (by intro e; exact absurd e J2)
                      refine wpAnyH_ready (rs := [13]) (by kernel_rfl) (by simp) ?_
                      refine AllReadyH.cons (o := _) rfl (fun K hK => ?_) AllReadyH.nil
                      go_simp
                      refine hK.out _ _ HBT (fun _ => ?_)
                      clear hK K
                      try simp only [Act.put, List.getElem_toArray, List.getElem_cons_zero, List.getElem_cons_succ, List.setIfInBounds_toArray, List.set_cons_zero, List.set_cons_succ]
                      refine wpAnyH_done (by kernel_rfl) ?_ _
                      go_wp2_with fail
                      go_meet
                      exact ⟨g17, g18, qr1, cr1, qr2, cr2, rfl, rfl, Lib.hid ⟨by omega, by omega, by omega, Q17, N18, C1'', C2'', K1, J1, K2, J2, HBT⟩⟩
              · go_simp
                refine hK.out _ _ (below_alloc HB0) (fun _ => ?_)
                clear hK K
                try simp only [Act.put, List.getElem_toArray, List.getElem_cons_zero, List.getElem_cons_succ, List.setIfInBounds_toArray, List.set_cons_zero, List.set_cons_succ]
                obtain ⟨wk1, hw⟩ : ∃ W, wk0.alloc zTok = W := ⟨_, rfl⟩
                have hba : Below wk0.heap.size wk0 wk1 := by rw [← hw]; exact (Below.refl _ _).alloc (Nat.le_refl _) _
                have HB1 := below_cat HB0 hba
                have R18 : wk1.heap[wk0.heap.size]? = some zTok := by rw [← hw]; exact heap_alloc_new _ _
                have L18 := (Array.getElem?_eq_some_iff.1 R18).1
                have G18 := HB0.size
                change wpAnyH _ _ _ _ _ _ _ _ (wk0.alloc zTok)
                rw [hw]
                obtain ⟨g18, hg18⟩ : ∃ t, wk0.heap.size = t := ⟨_, rfl⟩
                rw [hg18] at R18 L18 G18 ⊢
                clear hw hba hg18
                refine wpAnyH_ready (rs := [4, 10]) (by kernel_rfl) (by simp) ?_
                refine AllReadyH.cons (o := _) rfl (fun K hK => ?_) (AllReadyH.cons (o := _) rfl (fun K hK => ?_) (AllReadyH.nil))
                · go_simp
                  refine (doc_any _ _ _ _ _ _ ps _ (PC1.out _ HB1) (by have := HXL.out; omega)).mono ?_
                  rintro e wk2 ⟨pvr, rfl, hr, hba⟩
                  obtain ⟨qr1, cr1, rfl⟩ := hr.form
                  have HB2 := below_cat HB1 hba
                  refine hK.out _ _ HB2 (fun _ => ?_)
                  clear hK K
                  try simp only [Act.put, List.getElem_toArray, List.getElem_cons_zero, List.getElem_cons_succ, List.setIfInBounds_toArray, List.set_cons_zero, List.set_cons_succ]
                  have C1 := hr.cells
                  have O1 : ∀ t, (Value.slice qr1 ps.length cr1).ownBlock = some t → t < wk2.heap.size := fun t e => (World.ownsRow.lt hr t e).2
                  have J1 : (Value.slice qr1 ps.length cr1).ownBlock ≠ some g18 := fun e => by have := (World.ownsRow.lt hr g18 e).1; omega
                  have R18 := (hba.block g18 L18).trans R18
                  have L18 := (Array.getElem?_eq_some_iff.1 R18).1
                  clear hr hba
                  refine wpAnyH_ready (rs := [9, 10]) (by kernel_rfl) (by simp) ?_
                  refine AllReadyH.cons (o := _) rfl (fun K hK => ?_) (AllReadyH.cons (o := _) rfl (fun K hK => ?_) (AllReadyH.nil))
                  · go_simp
                    refine (doc_any _ _ _ _ _ _ ps _ (PC2.out _ HB2) (by have := HXL.out; omega)).mono ?_
                    rintro e wk3 ⟨pvr, rfl, hr, hba⟩
                    obtain ⟨qr2, cr2, rfl⟩ := hr.form
                    have HB3 := below_cat HB2 hba
                    refine hK.out _ _ HB3 (fun _ => ?_)
                    clear hK K
                    try simp only [Act.put, List.getElem_toArray, List.getElem_cons_zero, List.getElem_cons_succ, List.setIfInBounds_toArray, List.set_cons_zero, List.set_cons_succ]
                    have C1 := C1.below hba
                    have C2 := hr.cells
                    have O2 : ∀ t, (Value.slice qr2 ps.length cr2).ownBlock = some t → t < wk3.heap.size := fun t e => (World.ownsRow.lt hr t e).2
                    have O1 : ∀ t, (Value.slice qr1 ps.length cr1).ownBlock = some t → t < wk3.heap.size := fun t e => Nat.lt_of_lt_of_le (O1 t e) hba.size
                    have J2 : (Value.slice qr2 ps.length cr2).ownBlock ≠ some g18 := fun e => by have := (World.ownsRow.lt hr g18 e).1; omega
                    have R18 := (hba.block g18 L18).trans R18
                    have L18 := (Array.getElem?_eq_some_iff.1 R18).1
                    clear hr hba
                    refine wpAnyH_ready (rs := [10]) (by kernel_rfl) (by simp) ?_
                    refine AllReadyH.cons (o := _) rfl (fun K hK => ?_) (AllReadyH.nil)
                    · go_simp
                      refine hK.out _ _ (below_alloc HB3) (fun _ => ?_)
                      clear hK K
                      try simp only [Act.put, List.getElem_toArray, List.getElem_cons_zero, List.getElem_cons_succ, List.setIfInBounds_toArray, List.set_cons_zero, List.set_cons_succ]
                      obtain ⟨wk4, hw⟩ : ∃ W, wk3.alloc zTok = W := ⟨_, rfl⟩
                      have hba : Below wk3.heap.size wk3 wk4 := by rw [← hw]; exact (Below.refl _ _).alloc (Nat.le_refl _) _
                      have HB4 := below_cat HB3 hba
                      have R17 : wk4.heap[wk3.heap.size]? = some zTok := by rw [← hw]; exact heap_alloc_new _ _
                      have L17 := (Array.getElem?_eq_some_iff.1 R17).1
                      have G17 := HB3.size
                      have R18 := (hba.block g18 L18).trans R18
                      have NE : g18 < wk3.heap.size := L18
                      have L18 := (Array.getElem?_eq_some_iff.1 R18).1
                      change wpAnyH _ _ _ _ _ _ _ _ (wk3.alloc zTok)
                      rw [hw]
                      have C1 := C1.below hba
                      have C2 := C2.below hba
                      obtain ⟨g17, hg17⟩ : ∃ t, wk3.heap.size = t := ⟨_, rfl⟩
                      rw [hg17] at R17 L17 G17 NE ⊢
                      have K1 : (Value.slice qr1 ps.length cr1).ownBlock ≠ some g17 := fun e => by have := O1 g17 e; omega
                      have O1 : ∀ t, (Value.slice qr1 ps.length cr1).ownBlock = some t → t < wk4.heap.size := fun t e => Nat.lt_of_lt_of_le (O1 t e) hba.size
                      have K2 : (Value.slice qr2 ps.length cr2).ownBlock ≠ some g17 := fun e => by have := O2 g17 e; omega
                      have O2 : ∀ t, (Value.slice qr2 ps.length cr2).ownBlock = some t → t < wk4.heap.size := fun t e => Nat.lt_of_lt_of_le (O2 t e) hba.size
                      clear hw hba hg17
                      obtain ⟨⟨s0, s1, s2, s3, s4, s5⟩, ⟨f0, f1, f2, f3, f4, f5⟩⟩ := six_cells R17
                      obtain ⟨N17, M17⟩ := setTok_row (kd : Int) (xa : Int) nm (.slice qr1 ps.length cr1) tx (rf : Int) R17
                      have HBS : Below wr.heap.size wr (setTok wk4 g17 (kd : Int) (xa : Int) nm (.slice qr1 ps.length cr1) tx (rf : Int)) := HB4.grown M17 HB4.size (fun k e => by injection e with e; omega)
                      refine wpAnyH_ready (rs := [12]) (by kernel_rfl) (by simp) ?_
                      refine AllReadyH.cons (o := _) rfl (fun K hK => ?_) AllReadyH.nil
                      go_simp
                      refine hK.out _ _ HBS (fun _ => ?_)
                      clear hK K
                      try simp only [Act.put, List.getElem_toArray, List.getElem_cons_zero, List.getElem_cons_succ, List.setIfInBounds_toArray, List.set_cons_zero, List.set_cons_succ]
                      have P18 : (setTok wk4 g17 (kd : Int) (xa : Int) nm (.slice qr1 ps.length cr1) tx (rf : Int)).heap[g18]? = some zTok := by rw [M17.block g18 (by omega) (fun e => by injection e with e; omega)]; exact R18
                      have C1' := C1.moved M17 (by intro e; exact absurd e K1)
                      have C2' := C2.moved M17 (by intro e; exact absurd e K2)
                      obtain ⟨wt, hwt⟩ : ∃ W, setTok wk4 g17 (kd : Int) (xa : Int) nm (.slice qr1 ps.length cr1) tx (rf : Int) = W := ⟨_, rfl⟩
                      change wpAnyH _ _ _ _ _ _ _ _ (setTok wk4 g17 (kd : Int) (xa : Int) nm (.slice qr1 ps.length cr1) tx (rf : Int))
                      rw [hwt] at N17 P18 HBS C1' C2' ⊢
                      clear s0 s1 s2 s3 s4 s5 f0 f1 f2 f3 f4 f5 hwt M17
                      obtain ⟨⟨s0, s1, s2, s3, s4, s5⟩, ⟨f0, f1, f2, f3, f4, f5⟩⟩ := six_cells P18
                      obtain ⟨N18, M18⟩ := setTok_row (kd : Int) (ya : Int) nm (.slice qr2 ps.length cr2) tx (rf2 : Int) P18
                      have HBT : Below wr.heap.size wr (setTok wt g18 (kd : Int) (ya : Int) nm (.slice qr2 ps.length cr2) tx (rf2 : Int)) := HBS.grown M18 HBS.size (fun k e => by injection e with e; omega)
                      have Q17 := (M18.block g17 (Array.getElem?_eq_some_iff.1 N17).1 (fun e => by injection e with e; omega)).trans N17
                      have C1'' := C1'.moved M18 (by intro e; exact absurd e J1)
                      have C2'' := C2'.moved M18 (by intro e; exact absurd e J2)
                      refine wpAnyH_ready (rs := [13]) (by kernel_rfl) (by simp) ?_
                      refine AllReadyH.cons (o := _) rfl (fun K hK => ?_) AllReadyH.nil
                      go_simp
                      refine hK.out _ _ HBT (fun _ => ?_)
                      clear hK K
                      try simp only [Act.put, List.getElem_toArray, List.getElem_cons_zero, List.getElem_cons_succ, List.setIfInBounds_toArray, List.set_cons_zero, List.set_cons_succ]
                      refine wpAnyH_done (by kernel_rfl) ?_ _
                      go_wp2_with fail
                      go_meet
                      exact ⟨g17, g18, qr1, cr1, qr2, cr2, rfl, rfl, Lib.hid ⟨by omega, by omega, by omega, Q17, N18, C1'', C2'', K1, J1, K2, J2, HBT⟩⟩
                  · go_simp
                    refine hK.out _ _ (below_alloc HB2) (fun _ => ?_)
                    clear hK K
                    try simp only [Act.put, List.getElem_toArray, List.getElem_cons_zero, List.getElem_cons_succ, List.setIfInBounds_toArray, List.set_cons_zero, List.set_cons_succ]
                    obtain ⟨wk3, hw⟩ : ∃ W, wk2.alloc zTok = W := ⟨_, rfl⟩
                    have hba : Below wk2.heap.size wk2 wk3 := by rw [← hw]; exact (Below.refl _ _).alloc (Nat.le_refl _) _
                    have HB3 := below_cat HB2 hba
                    have R17 : wk3.heap[wk2.heap.size]? = some zTok := by rw [← hw]; exact heap_alloc_new _ _
                    have L17 := (Array.getElem?_eq_some_iff.1 R17).1
                    have G17 := HB2.size
                    have R18 := (hba.block g18 L18).trans R18
                    have NE : g18 < wk2.heap.size := L18
                    have L18 := (Array.getElem?_eq_some_iff.1 R18).1
                    change wpAnyH _ _ _ _ _ _ _ _ (wk2.alloc zTok)
                    rw [hw]
                    have C1 := C1.below hba
                    obtain ⟨g17, hg17⟩ : ∃ t, wk2.heap.size = t := ⟨_, rfl⟩
                    rw [hg17] at R17 L17 G17 NE ⊢
                    have K1 : (Value.slice qr1 ps.length cr1).ownBlock ≠ some g17 := fun e => by have := O1 g17 e; omega
                    have O1 : ∀ t, (Value.slice qr1 ps.length cr1).ownBlock = some t → t < wk3.heap.size := fun t e => Nat.lt_of_lt_of_le (O1 t e) hba.size
                    clear hw hba hg17
                    refine wpAnyH_ready (rs := [9]) (by kernel_rfl) (by simp) ?_
                    refine AllReadyH.cons (o := _) rfl (fun K hK => ?_) (AllReadyH.nil)
                    · go_simp
                      refine (doc_any _ _ _ _ _ _ ps _ (PC2.out _ HB3) (by have := HXL.out; omega)).mono ?_
                      rintro e wk4 ⟨pvr, rfl, hr, hba⟩
                      obtain ⟨qr2, cr2, rfl⟩ := hr.form
                      have HB4 := below_cat HB3 hba
                      refine hK.out _ _ HB4 (fun _ => ?_)
                      clear hK K
                      try simp only [Act.put, List.getElem_toArray, List.getElem_cons_zero, List.getElem_cons_succ, List.setIfInBounds_toArray, List.set_cons_zero, List.set_cons_succ]
                      have C1 := C1.below hba
                      have C2 := hr.cells
                      have O2 : ∀ t, (Value.slice qr2 ps.length cr2).ownBlock = some t → t < wk4.heap.size := fun t e => (World.ownsRow.lt hr t e).2
                      have O1 : ∀ t, (Value.slice qr1 ps.length cr1).ownBlock = some t → t < wk4.heap.size := fun t e => Nat.lt_of_lt_of_le (O1 t e) hba.size
                      have K2 : (Value.slice qr2 ps.length cr2).ownBlock ≠ some g17 := fun e => by have := (World.ownsRow.lt hr g17 e).1; omega
                      have R17 := (hba.block g17 L17).trans R17
                      have L17 := (Array.getElem?_eq_some_iff.1 R17).1
                      have J2 : (Value.slice qr2 ps.length cr2).ownBlock ≠ some g18 := fun e => by have := (World.ownsRow.lt hr g18 e).1; omega
                      have R18 := (hba.block g18 L18).trans R18
                      have L18 := (Array.getElem?_eq_some_iff.1 R18).1
                      clear hr hba
                      obtain ⟨⟨s0, s1, s2, s3, s4, s5⟩, ⟨f0, f1, f2, f3, f4, f5⟩⟩ := six_cells R17
                      obtain ⟨N17, M17⟩ := setTok_row (kd : Int) (xa : Int) nm (.slice qr1 ps.length cr1) tx (rf : Int) R17
                      have HBS : Below wr.heap.size wr (setTok wk4 g17 (kd : Int) (xa : Int) nm (.slice qr1 ps.length cr1) tx (rf : Int)) := HB4.grown M17 HB4.size (fun k e => by injection e with e; omega)
                      refine wpAnyH_ready (rs := [12]) (by kernel_rfl) (by simp) ?_
                      refine AllReadyH.cons (o := _) rfl (fun K hK => ?_) AllReadyH.nil
                      go_simp
                      refine hK.out _ _ HBS (fun _ => ?_)
                      clear hK K
                      try simp only [Act.put, List.getElem_toArray, List.getElem_cons_zero, List.getElem_cons_succ, List.setIfInBounds_toArray, List.set_cons_zero, List.set_cons_succ]
                      have P18 : (setTok wk4 g17 (kd : Int) (xa : Int) nm (.slice qr1 ps.length cr1) tx (rf : Int)).heap[g18]? = some zTok := by rw [M17.block g18 (by omega) (fun e => by injection e with e; omega)]; exact R18
                      have C1' := C1.moved M17 (by intro e; exact absurd e K1)
                      have C2' := C2.moved M17 (by intro e; exact absurd e K2)
                      obtain ⟨wt, hwt⟩ : ∃ W, setTok wk4 g17 (kd : Int) (xa : Int) nm (.slice qr1 ps.length cr1) tx (rf : Int) = W := ⟨_, rfl⟩
                      change wpAnyH _ _ _ _ _ _ _ _ (setTok wk4 g17 (kd : Int) (xa : Int) nm (.slice qr1 ps.length cr1) tx (rf : Int))
                      rw [hwt] at N17 P18 HBS C1' C2' ⊢
                      clear s0 s1 s2 s3 s4 s5 f0 f1 f2 f3 f4 f5 hwt M17
                      obtain ⟨⟨s0, s1, s2, s3, s4, s5⟩, ⟨f0, f1, f2, f3, f4, f5⟩⟩ := six_cells P18
                      obtain ⟨N18, M18⟩ := setTok_row (kd : Int) (ya : Int) nm (.slice qr2 ps.length cr2) tx (rf2 : Int) P18
                      have HBT : Below wr.heap.size wr (setTok wt g18 (kd : Int) (ya : Int) nm (.slice qr2 ps.length cr2) tx (rf2 : Int)) := HBS.grown M18 HBS.size (fun k e => by injection e with e; omega)
                      have Q17 := (M18.block g17 (Array.getElem?_eq_some_iff.1 N17).1 (fun e => by injection e with e; omega)).trans N17
                      have C1'' := C1'.moved M18 (by intro e; exact absurd e J1)
                      have C2'' := C2'.moved M18 (by intro e; exact absurd e J2)
                      refine wpAnyH_ready (rs := [13]) (by kernel_rfl) (by simp) ?_
                      refine AllReadyH.cons (o := _) rfl (fun K hK => ?_) AllReadyH.nil
                      go_simp
                      refine hK.out _ _ HBT (fun _ => ?_)
                      clear hK K
                      try simp only [Act.put, List.getElem_toArray, List.getElem_cons_zero, List.getElem_cons_succ, List.setIfInBounds_toArray, List.set_cons_zero, List.set_cons_succ]
                      refine wpAnyH_done (by kernel_rfl) ?_ _
                      go_wp2_with fail
                      go_meet
                      exact ⟨g17, g18, qr1, cr1, qr2, cr2, rfl, rfl, Lib.hid ⟨by omega, by omega, by omega, Q17, N18, C1'', C2'', K1, J1, K2, J2, HBT⟩⟩
                · go_simp
                  refine hK.out _ _ (below_alloc HB1) (fun _ => ?_)
                  clear hK K
                  try simp only [Act.put, List.getElem_toArray, List.getElem_cons_zero, List.getElem_cons_succ, List.setIfInBounds_toArray, List.set_cons_zero, List.set_cons_succ]
                  obtain ⟨wk2, hw⟩ : ∃ W, wk1.alloc zTok = W := ⟨_, rfl⟩
                  have hba : Below wk1.heap.size wk1 wk2 := by rw [← hw]; exact (Below.refl _ _).alloc (Nat.le_refl _) _
                  have HB2 := below_cat HB1 hba
                  have R17 : wk2.heap[wk1.heap.size]? = some zTok := by rw [← hw]; exact heap_alloc_new _ _
                  have L17 := (Array.getElem?_eq_some_iff.1 R17).1
                  have G17 := HB1.size
                  have R18 := (hba.block g18 L18).trans R18
                  have NE : g18 < wk1.heap.size := L18
                  have L18 := (Array.getElem?_eq_some_iff.1 R18).1
                  change wpAnyH _ _ _ _ _ _ _ _ (wk1.alloc zTok)
                  rw [hw]
                  obtain ⟨g17, hg17⟩ : ∃ t, wk1.heap.size = t := ⟨_, rfl⟩
                  rw [hg17] at R17 L17 G17 NE ⊢
                  clear hw hba hg17
                  refine wpAnyH_ready (rs := [4]) (by kernel_rfl) (by simp) ?_
                  refine AllReadyH.cons (o := _) rfl (fun K hK => ?_) (AllReadyH.nil)
                  · go_simp
                    refine (doc_any _ _ _ _ _ _ ps _ (PC1.out _ HB2) (by have := HXL.out; omega)).mono ?_
                    rintro e wk3 ⟨pvr, rfl, hr, hba⟩
                    obtain ⟨qr1, cr1, rfl⟩ := hr.form
                    have HB3 := below_cat HB2 hba
                    refine hK.out _ _ HB3 (fun _ => ?_)
                    clear hK K
                    try simp only [Act.put, List.getElem_toArray, List.getElem_cons_zero, List.getElem_cons_succ, List.setIfInBounds_toArray, List.set_cons_zero, List.set_cons_succ]
                    have C1 := hr.cells
                    have O1 : ∀ t, (Value.slice qr1 ps.length cr1).ownBlock = some t → t < wk3.heap.size := fun t e => (World.ownsRow.lt hr t e).2
                    have K1 : (Value.slice qr1 ps.length cr1).ownBlock ≠ some g17 := fun e => by have := (World.ownsRow.lt hr g17 e).1; omega
                    have R17 := (hba.block g17 L17).trans R17
                    have L17 := (Array.getElem?_eq_some_iff.1 R17).1
                    have J1 : (Value.slice qr1 ps.length cr1).ownBlock ≠ some g18 := fun e => by have := (World.ownsRow.lt hr g18 e).1; omega
                    have R18 := (hba.block g18 L18).trans R18
                    have L18 := (Array.getElem?_eq_some_iff.1 R18).1
                    clear hr hba
                    refine wpAnyH_ready (rs := [9]) (by kernel_rfl) (by simp) ?_
                    refine AllReadyH.cons (o := _) rfl (fun K hK => ?_) (AllReadyH.nil)
                    · go_simp
                      refine (doc_any _ _ _ _ _ _ ps _ (PC2.out _ HB3) (by have := HXL.out; omega)).mono ?_
                      rintro e wk4 ⟨pvr, rfl, hr, hba⟩
                      obtain ⟨qr2, cr2, rfl⟩ := hr.form
                      have HB4 := below_cat HB3 hba
                      refine hK.out _ _ HB4 (fun _ => ?_)
                      clear hK K
                      try simp only [Act.put, List.getElem_toArray, List.getElem_cons_zero, List.getElem_cons_succ, List.setIfInBounds_toArray, List.set_cons_zero, List.set_cons_succ]
                      have C1 := C1.below hba
                      have C2 := hr.cells
                      have O2 : ∀ t, (Value.slice qr2 ps.length cr2).ownBlock = some t → t < wk4.heap.size := fun t e => (World.ownsRow.lt hr t e).2
                      have O1 : ∀ t, (Value.slice qr1 ps.length cr1).ownBlock = some t → t < wk4.heap.size := fun t e => Nat.lt_of_lt_of_le (O1 t e) hba.size
                      have K2 : (Value.slice qr2 ps.length cr2).ownBlock ≠ some g17 := fun e => by have := (World.ownsRow.lt hr g17 e).1; omega
                      have R17 := (hba.block g17 L17).trans R17
                      have L17 := (Array.getElem?_eq_some_iff.1 R17).1
                      have J2 : (Value.slice qr2 ps.length cr2).ownBlock ≠ some g18 := fun e => by have := (World.ownsRow.lt hr g18 e).1; omega
                      have R18 := (hba.block g18 L18).trans R18
                      have L18 := (Array.getElem?_eq_some_iff.1 R18).1
                      clear hr hba
                      obtain ⟨⟨s0, s1, s2, s3, s4, s5⟩, ⟨f0, f1, f2, f3, f4, f5⟩⟩ := six_cells R17
                      obtain ⟨N17, M17⟩ := setTok_row (kd : Int) (xa : Int) nm (.slice qr1 ps.length cr1) tx (rf : Int) R17
                      have HBS : Below wr.heap.size wr (setTok wk4 g17 (kd : Int) (xa : Int) nm (.slice qr1 ps.length cr1) tx (rf : Int)) := HB4.grown M17 HB4.size (fun k e => by injection e with e; omega)
                      refine wpAnyH_ready (rs := [12]) (by kernel_rfl) (by simp) ?_
                      refine AllReadyH.cons (o := _) rfl (fun K hK => ?_) AllReadyH.nil
                      go_simp
                      refine hK.out _ _ HBS (fun _ => ?_)
                      clear hK K
                      try simp only [Act.put, List.getElem_toArray, List.getElem_cons_zero, List.getElem_cons_succ, List.setIfInBounds_toArray, List.set_cons_zero, List.set_cons_succ]
                      have P18 : (setTok wk4 g17 (kd : Int) (xa : Int) nm (.slice qr1 ps.length cr1) tx (rf : Int)).heap[g18]? = some zTok := by rw [M17.block g18 (by omega) (fun e => by injection e with e; omega)]; exact R18
                      have C1' := C1.moved M17 (by intro e; exact absurd e K1)
                      have C2' := C2.moved M17 (by intro e; exact absurd e K2)
                      obtain ⟨wt, hwt⟩ : ∃ W, setTok wk4 g17 (kd : Int) (xa : Int) nm (.slice qr1 ps.length cr1) tx (rf : Int) = W := ⟨_, rfl⟩
                      change wpAnyH _ _ _ _ _ _ _ _ (setTok wk4 g17 (kd : Int) (xa : Int) nm (.slice qr1 ps.length cr1) tx (rf : Int))
                      rw [hwt] at N17 P18 HBS C1' C2' ⊢
                      clear s0 s1 s2 s3 s4 s5 f0 f1 f2 f3 f4 f5 hwt M17
                      obtain ⟨⟨s0, s1, s2, s3, s4, s5⟩, ⟨f0, f1, f2, f3, f4, f5⟩⟩ := six_cells P18
                      obtain ⟨N18, M18⟩ := setTok_row (kd : Int) (ya : Int) nm (.slice qr2 ps.length cr2) tx (rf2 : Int) P18
                      have HBT : Below wr.heap.size wr (setTok wt g18 (kd : Int) (ya : Int) nm (.slice qr2 ps.length cr2) tx (rf2 : Int)) := HBS.grown M18 HBS.size (fun k e => by injection e with e; omega)
                      have Q17 := (M18.block g17 (Array.getElem?_eq_some_iff.1 N17).1 (fun e => by injection e with e; omega)).trans N17
                      have C1'' := C1'.moved M18 (by intro e; exact absurd e J1)
                      have C2'' := C2'.moved M18 (by intro e; exact absurd e J2)
                      refine wpAnyH_ready (rs := [13]) (by kernel_rfl) (by simp) ?_
                      refine AllReadyH.cons (o := _) rfl (fun K hK => ?_) AllReadyH.nil
                      go_simp
                      refine hK.out _ _ HBT (fun _ => ?_)
                      clear hK K
                      try simp only [Act.put, List.getElem_toArray, List.getElem_cons_zero, List.getElem_cons_succ, List.setIfInBounds_toArray, List.set_cons_zero, List.set_cons_succ]
                      refine wpAnyH_done (by kernel_rfl) ?_ _
                      go_wp2_with fail
                      go_meet
                      exact ⟨g17, g18, qr1, cr1, qr2, cr2, rfl, rfl, Lib.hid ⟨by omega, by omega, by omega, Q17, N18, C1'', C2'', K1, J1, K2, J2, HBT⟩⟩
            case rest =>
              obtain ⟨g17, g18, qa, ca, qb, cb, rfl, rfl, HT2⟩ := hcut
              obtain ⟨hne, l17, l18, N17, N18, C1, C2, K1, J1, K2, J2, HBX⟩ := HT2.out
              have L17 := (Array.getElem?_eq_some_iff.1 N17).1
              have L18 := (Array.getElem?_eq_some_iff.1 N18).1
              obtain ⟨⟨_, _, _, _, _, s5⟩, ⟨_, _, _, _, _, f5⟩⟩ := six_cells N17
              obtain ⟨R17, M17⟩ := setCell_row (k := 5) (.int .i64 0) N17
              have P18 := (M17.block g18 L18 (fun e => by injection e with e; omega)).trans N18
              obtain ⟨⟨_, _, _, _, _, t5⟩, ⟨_, _, _, _, _, u5⟩⟩ := six_cells P18
              obtain ⟨R18, M18⟩ := setCell_row (k := 5) (.int .i64 0) P18
              have L17' := (Array.getElem?_eq_some_iff.1 R17).1
              have Q17 := (M18.block g17 L17' (fun e => by injection e with e; omega)).trans R17
              have D1 := (C1.moved M17 K1).moved M18 J1
              have D2 := (C2.moved M17 K2).moved M18 J2
              have HB1 := HBX.grown M17 HBX.size (fun k e => by injection e with e; omega)
              have HB2 := HB1.grown M18 HB1.size (fun k e => by injection e with e; omega)
              have z1 := hb_cell HB2 e1
              have z2 := hb_cell HB2 ad
              obtain ⟨wz, hwz⟩ : ∃ W, (wc.setCell ⟨g17, 5, none⟩ (.int .i64 0)).setCell ⟨g18, 5, none⟩ (.int .i64 0) = W := ⟨_, rfl⟩
              rw [hwz] at R18 Q17 D1 D2 HB2 z1 z2
              obtain ⟨⟨a0, a1, a2, a3, a4, a5⟩, -⟩ := six_cells Q17
              obtain ⟨⟨b0, b1, b2, b3, b4, b5⟩, -⟩ := six_cells R18
              have PD1 := Lib.hid (fun W (y : Below wz.heap.size wz W) => D1.below y)
              have PD2 := Lib.hid (fun W (y : Below wz.heap.size wz W) => D2.below y)
              have HBZ := Lib.hid (below_cat HBR.out HB2)
              clear d0 d1 d2 d3 d4 d5 e0 e1 e2 e3 e4 e5 ad PC1 PC2 HT2 N17 N18 C1 C2 K1 J1 K2 J2 HBX L17 L18 R17 M17 P18 R18 M18 L17' Q17 D1 D2 HB1 HB2 l17 l18 hne
              have hlt4 : (k : Int) < ((atsL false l l.length).length : Int) := by rw [HAL.out]; exact hlt2
              go_upto_region 27 with fail
              clear s5 f5 t5 u5 hwz
              go_region_held3 (fun W => W.cell? ⟨g17, 0, none⟩ = some (.int .i64 (kd : Int)) ∧ W.cell? ⟨g17, 1, none⟩ = some (.int .i64 (xa : Int)) ∧ W.cell? ⟨g17, 2, none⟩ = some (.string nm) ∧ W.cell? ⟨g17, 3, none⟩ = some (.slice qa ps.length ca) ∧ W.cell? ⟨g17, 4, none⟩ = some (.string tx) ∧ W.cell? ⟨g17, 5, none⟩ = some (.int .i64 0) ∧
                  W.cell? ⟨g18, 0, none⟩ = some (.int .i64 (kd : Int)) ∧ W.cell? ⟨g18, 1, none⟩ = some (.int .i64 (ya : Int)) ∧ W.cell? ⟨g18, 2, none⟩ = some (.string nm) ∧ W.cell? ⟨g18, 3, none⟩ = some (.slice qb ps.length cb) ∧ W.cell? ⟨g18, 4, none⟩ = some (.string tx) ∧ W.cell? ⟨g18, 5, none⟩ = some (.int .i64 0) ∧
                  W.cell? ⟨h, k * 6 + 1, none⟩ = some (.int .i64 (ya : Int)) ∧ W.cell? ⟨ga, offa + k, none⟩ = some (.int .i64 (ya : Int)) ∧ Below wz.heap.size wz W)
                (first
                  | exact ⟨a0, a1, a2, a3, a4, a5, b0, b1, b2, b3, b4, b5, z1, z2, (Below.refl _ _).drew⟩
                  | (go_split_ands
                     exact ⟨hb_cell hbe (by assumption), hb_cell hbe (by assumption), hb_cell hbe (by assumption), hb_cell hbe (by assumption), hb_cell hbe (by assumption), hb_cell hbe (by assumption), hb_cell hbe (by assumption), hb_cell hbe (by assumption), hb_cell hbe (by assumption), hb_cell hbe (by assumption), hb_cell hbe (by assumption), hb_cell hbe (by assumption), hb_cell hbe (by assumption), hb_cell hbe (by assumption), below_cat (by assumption) hbe⟩))
                (first
                  | (go_at_call 9
                     go_split_ands
                     refine (refSame_yes _ _ _ _ _ _ _ _ ps _ (PD1.out _ (by assumption)) (PD2.out _ (by assumption)) (by have := HXL.out; omega)).mono ?_
                     rintro e w' ⟨rfl, hbe⟩))
              all_goals
                go_split_ands
                have hbz := below_cat HBZ.out (by assumption)
                have HB9 := Lib.hid hbz
                clear hbz
                go_wp2_with (fail)
                go_roundg gn
                case measure => omega
                case rel =>
                  go_light
                  exact ⟨k + 1, by go_num, by have := HKG.out; omega, Lib.hid HB9.out⟩
          · obtain rfl : k = l.length := by have := HKG.out; omega
            go_wp2_with (fail)
            go_ret
            exact ⟨rfl, below_cat H45.out.2 HBR.out⟩
end Go.Proofs.YteipiaefamfleaaGreatDoor
