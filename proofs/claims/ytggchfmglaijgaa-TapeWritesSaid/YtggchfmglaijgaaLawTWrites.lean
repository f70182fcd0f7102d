/- Proved here: the statement TapeWrites, walked: it answers true of all numbers and every script, in every world. -/
import Derived.Test.YtggchfmglaijgaaTapeAwake
import Derived.Test.YtggchfmglaijgaaTapeWriteS
import Derived.Test.YtggchfmglaijgaaByteBits
namespace Go.Proofs.Ytggchfmglaijgaa
open Go.RowKit

theorem blank14_any (n lo hi gen : Nat) (h1 : lo < hi) (h2 : hi ≤ n) (h3 : 1 ≤ gen) (h4 : gen ≤ 4294967295) : readsM gen newR (logOf (newM n) lo (hi - lo)) = newR := by
  have hd := logOf_drop (newM n) n lo (hi - lo) 0 (by rw [new_now, List.length_replicate]) (by omega) (by omega)
  rw [List.drop_zero] at hd
  rw [hd]
  refine reads_stop (fit_gen (by omega) ?_) _
  rw [new_now, List.getD_eq_getElem?_getD, List.getElem?_replicate, if_pos (by omega), Option.getD_some]
  show genL (zL 64) ≠ gen
  rw [show genL (zL 64) = 0 from rfl]
  omega
set_option maxRecDepth 100000 in
set_option maxHeartbeats 32000000 in
theorem tapeWrites_any (loI hiI nI genI : Int) (p0 : Option Addr) (ops : List OpT) (c0 : Nat) (w : World) (bl1 : -9223372036854775808 ≤ loI ∧ loI ≤ 9223372036854775807) (bh1 : -9223372036854775808 ≤ hiI ∧ hiI ≤ 9223372036854775807) (hl0 : ops.length ≤ 140737488351232) (hp0 : HoldsOpsT w p0 ops) :
    Calls Try.prog 6 #[.int .i64 loI, .int .i64 hiI, .int .i64 nI, .int .i64 genI, .slice p0 ops.length c0] w fun e w' => e = .returned (.bool true) ∧ Below w.heap.size w w' := by
  have AW := Lib.hid (awake14_any w)
  have HP := Lib.hid (And.intro hl0 hp0)
  obtain ⟨N, hN⟩ : ∃ N, ops.length = N := ⟨_, rfl⟩
  have HN := Lib.hid hN
  rw [hN] at hl0 ⊢
  have hN9 : (N : Int) ≤ 140737488351232 := by omega
  clear hl0 hp0 hN
  go_enter Try.func6, Try.ntmps6
  go_wp2_with (fail)
  with_reducible (refine AW.out.mono ?_)
  rintro e W0 ⟨rfl, hb⟩
  have B0 := Lib.hid hb
  clear hb AW
  by_cases h1 : nI < 1
  · go_wp2_with (fail)
    all_goals try (exfalso; omega; done)
    go_ret
    exact ⟨rfl, B0.out⟩
  by_cases h2 : 60 < nI
  · go_wp2_with (fail)
    all_goals try (exfalso; omega; done)
    go_ret
    exact ⟨rfl, B0.out⟩
  by_cases h3 : loI < 0
  · go_wp2_with (fail)
    all_goals try (exfalso; omega; done)
    go_ret
    exact ⟨rfl, B0.out⟩
  by_cases h4 : nI < hiI
  · go_wp2_with (fail)
    all_goals try (exfalso; omega; done)
    go_ret
    exact ⟨rfl, B0.out⟩
  by_cases h5 : hiI ≤ loI
  · go_wp2_with (fail)
    all_goals try (exfalso; omega; done)
    go_ret
    exact ⟨rfl, B0.out⟩
  by_cases h6 : genI < 1
  · go_wp2_with (fail)
    all_goals try (exfalso; omega; done)
    go_ret
    exact ⟨rfl, B0.out⟩
  by_cases h7 : 4294967295 < genI
  · go_wp2_with (fail)
    all_goals try (exfalso; omega; done)
    go_ret
    exact ⟨rfl, B0.out⟩
  obtain ⟨n, rfl⟩ : ∃ n : Nat, nI = (n : Int) := ⟨nI.toNat, by omega⟩
  obtain ⟨lo, rfl⟩ : ∃ n : Nat, loI = (n : Int) := ⟨loI.toNat, by omega⟩
  obtain ⟨hi, rfl⟩ : ∃ n : Nat, hiI = (n : Int) := ⟨hiI.toNat, by omega⟩
  obtain ⟨gen, rfl⟩ : ∃ n : Nat, genI = (n : Int) := ⟨genI.toNat, by omega⟩
  have HQ := Lib.hid (show 1 ≤ n ∧ n ≤ 60 ∧ hi ≤ n ∧ lo < hi ∧ 1 ≤ gen ∧ gen ≤ 4294967295 from ⟨by omega, by omega, by omega, by omega, by omega, by omega⟩)
  have NW := Lib.hid (new_ok n (by omega) (by omega) W0)
  have j1 : decide ((n : Int) < 1) = false := decide_eq_false h1
  have j2 : decide ((60 : Int) < (n : Int)) = false := decide_eq_false h2
  have j3 : decide ((lo : Int) < 0) = false := decide_eq_false h3
  have j4 : decide (n < hi) = false := decide_eq_false (by omega)
  have j5 : decide (hi ≤ lo) = false := decide_eq_false (by omega)
  have j6 : decide ((gen : Int) < 1) = false := decide_eq_false h6
  have j7 : decide ((4294967295 : Int) < (gen : Int)) = false := decide_eq_false h7
  go_wp2_with (fail)
  all_goals try (exfalso; omega; done)
  with_reducible (refine NW.out.mono ?_)
  rintro e W1 ⟨G, F1, rfl, hd, hb, hF⟩
  have OP := open_ok (DW.mk hd hb hF) ⟨by rfl, by rfl⟩ (by show 0 ≤ 1000000000; decide) (by show 0 ≤ 1000000; decide) lo hi gen HQ.out.2.2.2.1 HQ.out.2.2.1 (by have := HQ.out; omega) HQ.out.2.2.2.2.1 HQ.out.2.2.2.2.2
  rw [blank14_any n lo hi gen HQ.out.2.2.2.1 HQ.out.2.2.1 HQ.out.2.2.2.2.1 HQ.out.2.2.2.2.2] at OP
  have HOP := Lib.hid OP
  have H01 := Lib.hid hb.size
  clear hd hb hF NW OP
  go_wp2_with (fail)
  all_goals try (exfalso; omega; done)
  with_reducible (refine HOP.out.mono ?_)
  rintro e W2 ⟨t, gv, jo, Y, rfl, hj, d2, t2, n2, wt2, ft2, ⟨VsG, gG, -, -⟩, -⟩
  obtain ⟨ga, gc, rfl, -⟩ := owns_form gG
  rw [show newR.groups.length = 0 from rfl]
  have AL := all14_any d2 ⟨by rfl, by rfl⟩ (by show 0 + jo ≤ _; have := HQ.out; omega) (by show 0 ≤ 1000000; decide) (by have := HQ.out; omega)
  have HAL := Lib.hid AL
  have H2 := Lib.hid (And.intro hj (And.intro n2 (And.intro wt2 (And.intro ft2 (And.intro d2 t2)))))
  clear hj d2 t2 n2 wt2 ft2 gG AL HOP
  go_wp2_with (fail)
  all_goals try (exfalso; omega; done)
  with_reducible (refine HAL.out.mono ?_)
  rintro e W3 ⟨q, k, rfl, d3, t3, g3⟩
  have hlen3 : ((newM n).bump jo).now.length = n := d3.drum.ok.nowLen
  have hW02 : W0.heap.size ≤ W2.heap.size := H2.out.2.2.2.2.1.below.size
  have s3 : WSt W0 W3 F1 G t n lo hi gen (((newM n).bump jo).bump n) 0 0 false (-1) 0 q k := ⟨d3, (t3.block t (obj_lt H2.out.2.1) (fun e => H2.out.2.2.2.1 (by have e : t = G := e; rw [e]; exact d3.drum.fG))).trans H2.out.2.1, H2.out.2.2.2.1, Nat.le_trans H01.out H2.out.2.2.1,
    ⟨⟨Since W2, g3, fun j hj => ⟨fun f => by have := H2.out.2.2.2.2.1.drum.lt j f; have h : W2.heap.size ≤ j := hj; omega, fun e => by have := obj_lt H2.out.2.1; have h : W2.heap.size ≤ j := hj; omega, by have h : W2.heap.size ≤ j := hj; omega⟩⟩, hlen3⟩,
    fun _ => ⟨rfl, rfl⟩, by have := HQ.out; omega, Nat.le_refl _, by show 0 + jo + n ≤ _; have := H2.out.1; have := HQ.out; omega, Nat.le_refl _, by show 0 ≤ 9223372036854775807; decide, by decide⟩
  have S3 := Lib.hid s3
  have HBB := Lib.hid (And.intro B0.out (HP.out.2.below B0.out))
  clear d3 t3 g3 hlen3 hW02 s3 HAL H2
  go_wp2_with (fail)
  all_goals try (exfalso; omega; done)
  go_loopw [17, 18, 19, 20, 97] (fun v17 v18 v19 v20 x wr => ∃ (i : Nat) (F' : Nat → Prop) (M' : DM) (place g : Nat) (down : Bool) (left : Int), x = .int .i64 (i : Int) ∧ v17 = .int .i64 (place : Int) ∧ v18 = .int .i64 (g : Int) ∧ v19 = .bool down ∧ v20 = .int .i64 left ∧ i ≤ N ∧ i ≤ 100 ∧ Hid (WSt W0 wr F' G t n lo hi gen M' place g down left i q k)) (fun _ _ _ _ x _ => N - (intOf x).toNat)
  case atStart => exact ⟨0, F1, _, 0, 0, false, -1, rfl, rfl, rfl, rfl, rfl, Nat.zero_le _, by decide, S3⟩
  case round =>
    obtain ⟨i, F', M', place, g, down, left, rfl, rfl, rfl, rfl, rfl, hi', hi9, HM⟩ := hrel
    clear S3
    obtain ⟨WM, rfl⟩ : ∃ WM, WM = wr := ⟨wr, rfl⟩
    have hi0 : (0 : Int) ≤ (i : Int) := by omega
    have HL9 := Lib.hid hi9
    have HQ9 := Lib.hid (show hi ≤ 60 by have := HQ.out; omega)
    have hhiI : (hi : Int) ≤ 60 := by have := HQ.out; omega
    have hgI0 : (g : Int) ≤ 1000 := by have := HM.out.gp; have := HM.out.pl; omega
    have hplI : (lo : Int) + (place : Int) ≤ (hi : Int) := by have := HM.out.pl; omega
    by_cases hlt : i < N
    · have hltI : (i : Int) < (N : Int) := by omega
      obtain ⟨b, off, rfl, hops⟩ := HBB.out.2 (by rw [HN.out]; omega)
      obtain ⟨pa, pc, e1, e2, e3, e4, e5, e6, e7, e8, e9⟩ := hops i (by rw [HN.out]; exact hlt)
      generalize (ops[i]'(by rw [HN.out]; exact hlt)) = x at *
      obtain ⟨kind, nI, s⟩ := x
      simp only at e1 e2 e3 e4 e6 e7 e8 e9
      have hbw := HM.out.d.below
      have x1 := hb_cell hbw e1
      have x2 := hb_cell hbw e2
      have x3 := hb_cell hbw e3
      obtain ⟨sn, hsn⟩ : ∃ sn, s.size = sn := ⟨_, rfl⟩
      rw [hsn] at x3
      have HX := Lib.hid (And.intro e4 (And.intro e5 (And.intro e6 (And.intro e7 (And.intro e8 (And.intro e9 hsn))))))
      have HX9 := Lib.hid e9
      have HL := Lib.hid (And.intro hlt hi9)
      obtain ⟨W5, hW5⟩ : ∃ W5, WM.alloc (.cells #[.int .i64 kind, .int .i64 nI, .slice pa sn pc] 60) = W5 := ⟨_, rfl⟩
      have n5 : W5.heap[WM.heap.size]? = some (.cells #[.int .i64 kind, .int .i64 nI, .slice pa sn pc] 60 (0, 0)) := by rw [← hW5]; exact heap_alloc_new _ _
      have b5 : Below WM.heap.size WM W5 := by rw [← hW5]; exact (Below.refl _ _).alloc (Nat.le_refl _) _
      have h5 := HM.out.far b5
      have H5p := Lib.hid (show Pre W0 W5 F' G t n lo hi gen M' place g down WM.heap.size #[.int .i64 kind, .int .i64 nI, .slice pa sn pc] q k M'.now from ⟨h5.d, h5.tp, h5.ft, h5.wt, h5.want, n5, fun f => by have := HM.out.d.drum.lt _ f; omega, fun e => by have := obj_lt HM.out.tp; omega, HM.out.want.z.blk⟩)
      have H5 := Lib.hid h5
      have HW5 := Lib.hid hW5
      have u0 : W5.cell? ⟨WM.heap.size, 0, none⟩ = some (.int .i64 kind) := by rw [cell_of_row _ _ _ _ _ _ n5]; rfl
      have u1 : W5.cell? ⟨WM.heap.size, 1, none⟩ = some (.int .i64 nI) := by rw [cell_of_row _ _ _ _ _ _ n5]; rfl
      have u2 : W5.cell? ⟨WM.heap.size, 2, none⟩ = some (.slice pa sn pc) := by rw [cell_of_row _ _ _ _ _ _ n5]; rfl
      clear e1 e2 e3 e4 e5 e6 e7 e8 e9 hsn hops hbw n5 b5 h5 hlt hi' hi9
      by_cases h100 : 100 ≤ i
      · have h100I : (100 : Int) ≤ (i : Int) := by omega
        have HM5 : Hid (WSt W0 W5 F' G t n lo hi gen M' place g down left i q k) := H5
        as_aux_lemma =>
          obtain ⟨m9, hm9⟩ : ∃ m9, M'.loose.length = m9 := ⟨_, rfl⟩
          have LO := loose_any W5 F' G n M' HM5.out.d.drum
          rw [hm9] at LO
          have HLO := Lib.hid LO
          have hm9b : m9 ≤ 20000 := by have := HM5.out.lo9; have := HL9.out; omega
          obtain ⟨w1, hmk, bo, bb⟩ := make_bools W5 m9 (by omega)
          have HB1 := Lib.hid (And.intro bo bb)
          have HM9 := Lib.hid (And.intro hm9 hm9b)
          have hm9I : (m9 : Int) ≤ 20000 := by omega
          clear LO hm9 hm9b bo bb
          go_wp2_with (fail)
          all_goals try (exfalso; omega; done)
          with_reducible (refine HLO.out.mono ?_)
          rintro e W' ⟨rfl, rfl⟩
          go_wp2_with (fail)
          all_goals try (exfalso; omega; done)
          go_loopw [229] (fun x wr => ∃ a : Nat, x = .int .i64 (a : Int) ∧ a ≤ m9 ∧ Hid (BoolsIn wr W5.heap.size (List.replicate a true ++ List.replicate (m9 - a) false) ∧ Touch (fun j => j = W5.heap.size) w1 wr)) (fun x _ => m9 - (intOf x).toNat)
          case atStart => exact ⟨0, rfl, Nat.zero_le _, Lib.hid ⟨HB1.out.1, Touch.refl _ _⟩⟩
          case round =>
            obtain ⟨a, rfl, ha, HR⟩ := hrel
            have ha0 : (0 : Int) ≤ (a : Int) := by omega
            by_cases hlt : a < m9
            · have hltI : (a : Int) < (m9 : Int) := by omega
              obtain ⟨ca', cf⟩ := HR.out.1.at a (by simp; omega)
              obtain ⟨uc, ca⟩ : ∃ u, wr.cell? ⟨W5.heap.size, a, none⟩ = some u := ⟨_, ca'⟩
              clear ca'
              have pu := HR.out.1.put a true
              rw [set_true a m9 hlt] at pu
              have HN2 := Lib.hid (show BoolsIn (wr.setCell ⟨W5.heap.size, a, none⟩ (.bool true)) W5.heap.size (List.replicate (a + 1) true ++ List.replicate (m9 - (a + 1)) false) ∧ Touch (fun j => j = W5.heap.size) w1 (wr.setCell ⟨W5.heap.size, a, none⟩ (.bool true)) from ⟨pu, Touch.set (F := fun j => j = W5.heap.size) HR.out.2 (p := ⟨W5.heap.size, a, none⟩) rfl _⟩)
              have HLT := Lib.hid hlt
              clear pu hlt ha
              go_wp2_with (fail)
              all_goals try (exfalso; omega; done)
              go_roundw
              case rel => exact ⟨a + 1, by go_num, by have := HLT.out; omega, HN2⟩
              case measure => simp [intOf]; have := HLT.out; omega
            · have ham : a = m9 := by omega
              subst ham
              have bo := HR.out.1
              rw [Nat.sub_self, List.replicate_zero, List.append_nil] at bo
              have d1 := (HM5.out.d.on HB1.out.2).aside HR.out.2 (fun j e => by
                subst e
                exact ⟨fun f => by have := HM5.out.d.drum.lt _ f; omega, HM5.out.d.below.size⟩)
              have CR := dcrash d1 ⟨by have := HM5.out.st; have := HL9.out; omega, HM5.out.fu, by have := HM5.out.lo9; have := HL9.out; omega⟩ (some ⟨W5.heap.size, 0, none⟩) (List.replicate a true) a bo.holds (by rw [List.length_replicate]; have := HM9.out.2; omega) (fun x hx f => by
                cases hx
                exact Nat.lt_irrefl _ (show W5.heap.size < W5.heap.size from HM5.out.d.drum.lt _ f))
              rw [List.length_replicate] at CR
              have ws := (HM5.out.want.z.touch (Touch.of_below (F := F') HB1.out.2) (fun j f => .inl f) (fun j f => .inl f)).touch HR.out.2 (fun j e => .inr (.inr (Nat.le_of_eq (show j = W5.heap.size from e).symm))) (fun j f => .inl f)
              have hcr : (M'.crash (List.replicate a true)).now = M'.now := by rw [← HM9.out.1]; exact crash_all M'
              have HWS := Lib.hid (And.intro ws (And.intro hcr d1))
              have HCR := Lib.hid CR
              clear ws hcr d1 CR bo hlt ha
              go_wp2_with (fail)
              all_goals try (exfalso; omega; done)
              with_reducible (refine HCR.out.mono ?_)
              rintro e W9 ⟨rfl, d9, t9⟩
              have AL := all14_any d9 ⟨by rfl, by rfl⟩ (by show M'.steps ≤ _; have := HM5.out.st; have := HL9.out; omega) (by show 0 ≤ 1000000; decide) (by have := HQ.out; omega)
              rw [HWS.out.2.1] at AL
              have HAL := Lib.hid AL
              have H9 := Lib.hid (And.intro d9 t9)
              clear AL d9 t9 HCR
              go_wp2_with (fail)
              all_goals try (exfalso; omega; done)
              with_reducible (refine HAL.out.mono ?_)
              rintro e WA ⟨qa, ka, rfl, da, ta, ga⟩
              have wa := ((HWS.out.1.touch H9.out.2 (fun j f => .inl f) (fun j f => .inl f)).touch ta (fun j f => .inl (only_F H9.out.1.drum.fG _ f)) (fun j f => .inl f)).at
              have hln := wa.len
              have SM := same14_any qa q M'.now M'.now n n ka k WA hln hln (by have := HQ.out; omega) (by
                have h1 := ga
                rw [← hln] at h1
                exact h1.holds) wa.holds
              rw [show decide (M'.now = M'.now) = true from decide_eq_true rfl] at SM
              have HSM := Lib.hid SM
              have HDA := Lib.hid da.below
              clear SM wa hln da ta ga HAL
              go_wp2_with (fail)
              all_goals try (exfalso; omega; done)
              with_reducible (refine HSM.out.mono ?_)
              rintro e WF ⟨rfl, -, bF⟩
              have HBF := Lib.hid (B0.out.trans ((cat_b HDA.out bF).mono B0.out.size))
              clear bF
              go_wp2_with (fail)
              go_ret
              exact ⟨rfl, HBF.out⟩
      · have h100I : ¬ (100 : Int) ≤ (i : Int) := by omega
        have H100 := Lib.hid h100
        clear h100
        by_cases hk0 : kind = 0
        · subst hk0
          as_aux_lemma =>
            have RS := rsectors_any sn (by have := HX.out.2.2.2.1; have := HX.out.2.2.2.2.2.2; omega) W5
            obtain ⟨cs, hcs⟩ : ∃ cs, countS sn = cs := ⟨_, rfl⟩
            have hcs9 : (cs : Int) ≤ 140737488355328 := by have := HX.out.2.2.2.1; have := HX.out.2.2.2.2.2.2; have : cs ≤ sn + 1 := by rw [← hcs]; unfold countS; omega
                                                           omega
            rw [hcs] at RS
            have HCS := Lib.hid hcs
            have HRS := Lib.hid RS
            have hsnI : (sn : Int) ≤ 140737488351232 := by have := HX.out.2.2.2.1; have := HX.out.2.2.2.2.2.2; omega
            clear RS hcs
            cases down with
            | true =>
              obtain ⟨WX, hWX⟩ : ∃ WX, WX = W5 := ⟨W5, rfl⟩
              have HPRE : Hid (Pre W0 WX F' G t n lo hi gen M' place g true WM.heap.size #[.int .i64 0, .int .i64 nI, .slice pa sn pc] q k M'.now) := Lib.hid (by rw [hWX]; exact H5p.out)
              subst hWX
              go_wp2_with (fail)
              all_goals try (exfalso; omega; done)
              with_reducible (refine HRS.out.mono ?_)
              rintro e W' ⟨rfl, rfl⟩
              as_aux_lemma =>
                have SP := spare_any pa s pc WX (by have := HX.out.2.2.2.1; omega) (HX.out.1.below HPRE.out.d.below) HX.out.2.1
                rw [HX.out.2.2.2.2.2.2] at SP
                have HSP := Lib.hid SP
                clear SP
                go_wp2_with (fail)
                all_goals try (exfalso; omega; done)
                with_reducible (refine HSP.out.mono ?_)
                rintro e Ws ⟨g6, c6, he6, o6, b6⟩
                rw [HX.out.2.2.2.2.2.2] at he6
                subst he6
                have ps := HPRE.out.far b6
                have hcap := o6.2.2.2
                rw [size_push, HX.out.2.2.2.2.2.2] at hcap
                have HAP := Lib.hid (append_down Ws t G lo hi gen g place ps.tp (some ⟨g6, 0, none⟩) sn c6)
                have HS := Lib.hid (And.intro ps (And.intro o6 b6))
                have hcapI : (sn : Int) + 1 ≤ (c6 : Int) := by omega
                clear ps o6 b6 hcap HSP
                go_wp2_with (fail)
                all_goals try (exfalso; omega; done)
                with_reducible (refine HAP.out.mono ?_)
                rintro e W7 ⟨rfl, rfl⟩
                have H7 := Lib.hid (show Touch (WithT F' t) Ws Ws ∧ (∀ j, F' j → Grow F' Ws Ws j) ∧ DW W0 Ws F' G n M' ∧ Ws.heap[t]? = some (.cells (tapeV G lo hi gen g place true) 118 (0, 0)) from ⟨Touch.refl _ _, fun j f => .inl f, HS.out.1.d, HS.out.1.tp⟩)
                have SV := HPRE.out.seven HS.out.2.2 H7.out.1 HS.out.2.1
                have v2 : Ws.cell? ⟨WM.heap.size, 2, none⟩ = some (.slice pa sn pc) := by rw [cell_of_row _ _ _ _ _ _ SV.2]; rfl
                have KP := kept_yes WX.heap.size g6 c6 pa s pc Ws (by have := HX.out.2.2.2.1; omega) SV.1 (HX.out.1.below H7.out.2.2.1.below)
                rw [HX.out.2.2.2.2.2.2] at KP
                have HKP := Lib.hid KP
                have HO7 := Lib.hid SV.1
                clear SV KP
                go_wp2_with (fail)
                all_goals try (exfalso; omega; done)
                with_reducible (refine HKP.out.mono ?_)
                rintro e W' ⟨rfl, rfl⟩
                go_wp2_with (fail)
                all_goals try (exfalso; omega; done)
                go_loopw [173] (fun x wr => ∃ a : Nat, x = .int .i64 (a : Int) ∧ a ≤ sn ∧ Hid (∃ l : List UInt8, l.length = sn + 1 ∧ Owns wr WX.heap.size g6 c6 (ofL l) ∧ Touch (fun j => j = g6) Ws wr)) (fun x _ => sn - (intOf x).toNat)
                case atStart => exact ⟨0, rfl, Nat.zero_le _, Lib.hid ⟨bl (s ++ ⟨#[165]⟩), by rw [bl_length, size_push, HX.out.2.2.2.2.2.2], by rw [ofL_bl]; exact HO7.out, Touch.refl _ _⟩⟩
                case round =>
                  obtain ⟨a, rfl, ha, HR⟩ := hrel
                  have ha0 : (0 : Int) ≤ (a : Int) := by omega
                  by_cases hlt : a < sn
                  · have hltI : (a : Int) < (sn : Int) := by omega
                    obtain ⟨l, hl, ol, tl⟩ := HR.out
                    obtain ⟨ca', cf⟩ := ol.byte a (by omega)
                    obtain ⟨uc, ca⟩ : ∃ u, wr.cell? ⟨g6, a, none⟩ = some u := ⟨_, ca'⟩
                    clear ca'
                    have HN3 := Lib.hid (show ∃ l' : List UInt8, l'.length = sn + 1 ∧ Owns (wr.setCell ⟨g6, a, none⟩ (.int .u8 5)) WX.heap.size g6 c6 (ofL l') ∧ Touch (fun j => j = g6) Ws (wr.setCell ⟨g6, a, none⟩ (.int .u8 5)) from ⟨l.set a 5, by rw [List.length_set]; exact hl, ol.put a 5 (by rw [bl_ofL, bl_ofL]), Touch.set (F := fun j => j = g6) tl (p := ⟨g6, a, none⟩) rfl _⟩)
                    have HLT := Lib.hid hlt
                    clear hl ol tl hlt ha HR
                    go_wp2_with (fail)
                    all_goals try (exfalso; omega; done)
                    go_roundw
                    case rel => exact ⟨a + 1, by go_num, by have := HLT.out; omega, HN3⟩
                    case measure => simp [intOf]; have := HLT.out; omega
                  · have has : a = sn := by omega
                    obtain ⟨W8, rfl⟩ : ∃ W8, W8 = wr := ⟨wr, rfl⟩
                    obtain ⟨l, hl, ol, tl⟩ := HR.out
                    have E8 := HPRE.out.eight HS.out.2.2 H7.out.1 H7.out.2.1 HS.out.2.1 H7.out.2.2.1 H7.out.2.2.2 tl
                    clear hl ol tl
                    have HNX := Lib.hid (HM.out.on8 E8)
                    clear E8 ha hlt
                    have GR := Lib.hid (groups_any W8 t G lo hi gen (g) (place) true HNX.out.tp)
                    have FR0 := free_any W8 t G lo hi gen (g) (place) true HNX.out.tp (by have := HQ.out; omega) HNX.out.pl
                    have hpN := HNX.out.pl
                    have hgN := HNX.out.gp
                    have hpI : (lo : Int) + ((place : Nat) : Int) ≤ (hi : Int) := by omega
                    have hgI : ((g : Nat) : Int) ≤ 1000 := by have := HQ.out; omega
                    rw [show ((hi - lo - (place) : Nat) : Int) = (hi : Int) - (lo : Int) - ((place : Nat) : Int) by omega] at FR0
                    have FR := Lib.hid FR0
                    clear FR0 hpN hgN
                    go_wp2_with (fail)
                    all_goals try (exfalso; omega; done)
                    with_reducible (refine GR.out.mono ?_)
                    rintro e W' ⟨rfl, rfl⟩
                    go_wp2_with (fail)
                    all_goals try (exfalso; omega; done)
                    with_reducible (refine FR.out.mono ?_)
                    rintro e W' ⟨rfl, m', rfl⟩
                    have HN2 := Lib.hid (HNX.out.far (below_drewN (Below.refl _ _) m'))
                    go_wp2_with (fail)
                    all_goals try (exfalso; omega; done)
                    go_roundw
                    case rel => exact ⟨i + 1, F', _, place, g, true, _, by go_num, rfl, rfl, rfl, rfl, by have := HL.out; omega, by have := H100.out; omega, HN2⟩
                    case measure => simp [intOf]; have := HL.out; omega
            | false =>
              by_cases hfit : lo + place + cs ≤ hi
              · have hfitI : ¬ (hi : Int) - (lo : Int) - (place : Int) < (cs : Int) := by omega
                have HFIT := Lib.hid hfit
                have hcs60 : (cs : Int) ≤ 60 := by omega
                have RG := rgroup_any gen place g pa s sn pc W5 (by have := HQ.out; omega) (by have := HM.out.pl; have := HQ.out; omega) (by have := HM.out.gp; have := HM.out.pl; have := HQ.out; omega) HX.out.2.2.2.2.2.2 (by have := countS_le sn; have := HCS.out; omega) (by have := HX.out.2.2.1; have := HX.out.2.2.2.2.2.2; omega) (HX.out.1.below (H5p.out.d.below)) HX.out.2.1
                have HRG := Lib.hid RG
                clear RG hfit
                go_wp2_with (fail)
                all_goals try (exfalso; omega; done)
                with_reducible (refine HRS.out.mono ?_)
                rintro e W' ⟨rfl, rfl⟩
                go_wp2_with (fail)
                all_goals try (exfalso; omega; done)
                refine HRG.out.mono ?_
                rintro e W6 ⟨gq, gk, rfl, gi6, b6⟩
                have hrl : ((groupL gen place g (bl s)).map ofL).length = cs := by rw [List.length_map, groupL_length, bl_length, HX.out.2.2.2.2.2.2, HCS.out]
                rw [show countS (bl s).length = cs by rw [bl_length, HX.out.2.2.2.2.2.2, HCS.out]] at gi6 ⊢
                obtain ⟨rows, hrows⟩ : ∃ rows, (groupL gen place g (bl s)).map ofL = rows := ⟨_, rfl⟩
                rw [hrows] at gi6 hrl
                have L0 := Lib.hid (show LSt W0 W5 W6 F' G t n lo hi gen M' place g WM.heap.size #[.int .i64 0, .int .i64 nI, .slice pa sn pc] q k gq gk rows 0 from ⟨H5p.out.far b6, by rw [hrl]; exact gi6, obj_lt H5p.out.op, H5p.out.d.below.size, obj_lt H5p.out.tp, fun x f => H5p.out.d.drum.lt x f⟩)
                have HRL := Lib.hid (And.intro hrl hrows)
                have lz := left_zero M'.fuse
                have hlf := (HM.out.rel rfl).2
                rw [← lz] at hlf
                have HLF := Lib.hid hlf
                clear lz hlf hrl hrows gi6 b6 HRG
                go_wp2_with (fail)
                all_goals try (exfalso; omega; done)
                go_loopw [19, 20, 24, 119] (fun v19 v v24 x wr => ∃ j : Nat, x = .int .i64 (j : Int) ∧ v19 = .bool false ∧ v24 = .int .i64 0 ∧ v = .int .i64 (leftZ (M'.fuse.map (· - j))) ∧ j ≤ doneK M'.fuse cs ∧ Hid (LSt W0 W5 wr F' G t n lo hi gen M' place g WM.heap.size #[.int .i64 0, .int .i64 nI, .slice pa sn pc] q k gq gk rows j)) (fun _ _ _ x _ => cs - (intOf x).toNat)
                case atStart => exact ⟨0, rfl, rfl, rfl, by rw [HLF.out], Nat.zero_le _, L0⟩
                case round =>
                  obtain ⟨j, rfl, rfl, rfl, rfl, hj, HR⟩ := hrel
                  clear L0
                  have hj0 : (0 : Int) ≤ (j : Int) := by omega
                  have hlb := left_bounds M'.fuse j HM.out.fu
                  have hdl := done_le M'.fuse cs
                  by_cases hlt : j < cs
                  · have hltI : (j : Int) < (cs : Int) := by omega
                    have hf3 := left_facts M'.fuse j cs hj hlt
                    obtain ⟨v, gb, gw, c3, hq1, hc1, hv1, hq2, ⟨u, hc2⟩, hc3, hn1⟩ := HR.out.next (j := j) (by rw [HRL.out.1]; exact hlt) (by have := HFIT.out; have := HQ.out; omega)
                    subst hv1
                    rcases hf3 with ⟨z1, z2⟩ | ⟨z1, z2, z3⟩ | ⟨z1, z2, z3⟩
                    · rw [z1]
                      have HDN := Lib.hid (And.intro z2 hlt)
                      obtain ⟨WX, rfl⟩ : ∃ WX, WX = wr := ⟨wr, rfl⟩
                      have HPRE := Lib.hid HR.out.p
                      rw [← HRL.out.2] at HPRE
                      subst hq1
                      clear hn1 hc2 hc3 hq2 hlb hdl z1 z2 hj hlt
                      as_aux_lemma =>
                        have v0 : WX.cell? ⟨WM.heap.size, 2, none⟩ = some (.slice pa sn pc) := by rw [cell_of_row _ _ _ _ _ _ HPRE.out.op]; rfl
                        have SP := spare_any pa s pc WX (by have := HX.out.2.2.2.1; omega) (HX.out.1.below HPRE.out.d.below) HX.out.2.1
                        rw [HX.out.2.2.2.2.2.2] at SP
                        have HSP := Lib.hid SP
                        clear SP
                        go_wp2_with (fail)
                        all_goals try (exfalso; omega; done)
                        with_reducible (refine HSP.out.mono ?_)
                        rintro e Ws ⟨g6, c6, he6, o6, b6⟩
                        rw [HX.out.2.2.2.2.2.2] at he6
                        subst he6
                        have ps := HPRE.out.far b6
                        have hcap := o6.2.2.2
                        rw [size_push, HX.out.2.2.2.2.2.2] at hcap
                        have hbl : (bl s).length = sn := by rw [bl_length, HX.out.2.2.2.2.2.2]
                        have hfit := HFIT.out
                        have ai : AppIn W0 Ws F' G n M' t lo hi gen g place (some ⟨g6, 0, none⟩) sn c6 s := ⟨ps.d, by have := HM.out.st; have := HL9.out; omega, by have := HM.out.lo9; have := HL9.out; omega, HM.out.fu, ps.tp, ps.ft, ps.wt, by have := HQ.out; omega, by have := HQ.out; omega, by have := HQ.out; omega, by have := HM.out.gp; have := HM.out.pl; have := HQ.out; omega, HX.out.2.2.2.2.2.2, by have := countS_le sn; have := HCS.out; have := HQ.out; omega, by omega, owns_front o6, (fun e => by cases e), (fun a e => by cases e; exact ⟨fun f => Nat.not_lt.2 o6.2.1 (HPRE.out.d.drum.lt g6 f), o6.2.2.1⟩), by rw [HCS.out]; exact hfit⟩
                        have HAP := Lib.hid (append_any ai)
                        have HS := Lib.hid (And.intro ps (And.intro o6 b6))
                        have HBL := Lib.hid hbl
                        have hcapI : (sn : Int) + 1 ≤ (c6 : Int) := by omega
                        clear ai ps o6 b6 hcap HSP hfit hbl
                        go_wp2_with (fail)
                        all_goals try (exfalso; omega; done)
                        refine HAP.out.mono ?_
                        rw [HCS.out]
                        rintro e W7 ⟨F7, k7, hk7, on7, ft7, tt7, gr7, ⟨ek, rfl, d7, n7⟩ | ⟨hlt7, off7, rfl, d7, n7⟩⟩
                        · exfalso
                          subst k7
                          have h1 := done_all (HM.out.rel rfl).1 on7
                          have h2 := HDN.out
                          omega
                        · have H7 := Lib.hid (And.intro tt7 (And.intro gr7 (And.intro d7 n7)))
                          have HON := Lib.hid on7
                          have hkj : k7 = j := by
                            have h1 := (done_cut (HM.out.rel rfl).1 hlt7 on7 off7).2
                            have h2 := HDN.out
                            omega
                          subst hkj
                          have HLT7 := Lib.hid hlt7
                          clear off7 hlt7
                          clear on7 ft7 tt7 gr7 d7 n7 hk7 HAP
                          have SV := HPRE.out.seven HS.out.2.2 H7.out.1 HS.out.2.1
                          have v2 : W7.cell? ⟨WM.heap.size, 2, none⟩ = some (.slice pa sn pc) := by rw [cell_of_row _ _ _ _ _ _ SV.2]; rfl
                          have KP := kept_yes WX.heap.size g6 c6 pa s pc W7 (by have := HX.out.2.2.2.1; omega) SV.1 (HX.out.1.below H7.out.2.2.1.below)
                          rw [HX.out.2.2.2.2.2.2] at KP
                          have HKP := Lib.hid KP
                          have HO7 := Lib.hid SV.1
                          clear SV KP
                          go_wp2_with (fail)
                          all_goals try (exfalso; omega; done)
                          with_reducible (refine HKP.out.mono ?_)
                          rintro e W' ⟨rfl, rfl⟩
                          go_wp2_with (fail)
                          all_goals try (exfalso; omega; done)
                          go_loopw [173] (fun x wr => ∃ a : Nat, x = .int .i64 (a : Int) ∧ a ≤ sn ∧ Hid (∃ l : List UInt8, l.length = sn + 1 ∧ Owns wr WX.heap.size g6 c6 (ofL l) ∧ Touch (fun j => j = g6) W7 wr)) (fun x _ => sn - (intOf x).toNat)
                          case atStart => exact ⟨0, rfl, Nat.zero_le _, Lib.hid ⟨bl (s ++ ⟨#[165]⟩), by rw [bl_length, size_push, HX.out.2.2.2.2.2.2], by rw [ofL_bl]; exact HO7.out, Touch.refl _ _⟩⟩
                          case round =>
                            obtain ⟨a, rfl, ha, HR⟩ := hrel
                            have ha0 : (0 : Int) ≤ (a : Int) := by omega
                            by_cases hlt : a < sn
                            · have hltI : (a : Int) < (sn : Int) := by omega
                              obtain ⟨l, hl, ol, tl⟩ := HR.out
                              obtain ⟨ca', cf⟩ := ol.byte a (by omega)
                              obtain ⟨uc, ca⟩ : ∃ u, wr.cell? ⟨g6, a, none⟩ = some u := ⟨_, ca'⟩
                              clear ca'
                              have HN3 := Lib.hid (show ∃ l' : List UInt8, l'.length = sn + 1 ∧ Owns (wr.setCell ⟨g6, a, none⟩ (.int .u8 5)) WX.heap.size g6 c6 (ofL l') ∧ Touch (fun j => j = g6) W7 (wr.setCell ⟨g6, a, none⟩ (.int .u8 5)) from ⟨l.set a 5, by rw [List.length_set]; exact hl, ol.put a 5 (by rw [bl_ofL, bl_ofL]), Touch.set (F := fun j => j = g6) tl (p := ⟨g6, a, none⟩) rfl _⟩)
                              have HLT := Lib.hid hlt
                              clear hl ol tl hlt ha HR
                              go_wp2_with (fail)
                              all_goals try (exfalso; omega; done)
                              go_roundw
                              case rel => exact ⟨a + 1, by go_num, by have := HLT.out; omega, HN3⟩
                              case measure => simp [intOf]; have := HLT.out; omega
                            · have has : a = sn := by omega
                              obtain ⟨W8, rfl⟩ : ∃ W8, W8 = wr := ⟨wr, rfl⟩
                              obtain ⟨l, hl, ol, tl⟩ := HR.out
                              have E8 := HPRE.out.eight HS.out.2.2 H7.out.1 H7.out.2.1 HS.out.2.1 H7.out.2.2.1 H7.out.2.2.2 tl
                              clear hl ol tl
                              have HNX := Lib.hid (HM.out.cut8 (bl s) (by rw [HBL.out, HCS.out]; exact HFIT.out) HQ9.out (by rw [HBL.out, HCS.out]; exact HLT7.out) (by rw [HBL.out, HCS.out]; exact HON.out) (by rw [HBL.out, HCS.out]; exact E8))
                              rw [HBL.out, HCS.out] at HNX
                              clear E8 ha hlt
                              have GR := Lib.hid (groups_any W8 t G lo hi gen (g) (place) true HNX.out.tp)
                              have FR0 := free_any W8 t G lo hi gen (g) (place) true HNX.out.tp (by have := HQ.out; omega) HNX.out.pl
                              have hpN := HNX.out.pl
                              have hgN := HNX.out.gp
                              have hpI : (lo : Int) + ((place : Nat) : Int) ≤ (hi : Int) := by omega
                              have hgI : ((g : Nat) : Int) ≤ 1000 := by have := HQ.out; omega
                              rw [show ((hi - lo - (place) : Nat) : Int) = (hi : Int) - (lo : Int) - ((place : Nat) : Int) by omega] at FR0
                              have FR := Lib.hid FR0
                              clear FR0 hpN hgN
                              go_wp2_with (fail)
                              all_goals try (exfalso; omega; done)
                              with_reducible (refine GR.out.mono ?_)
                              rintro e W' ⟨rfl, rfl⟩
                              go_wp2_with (fail)
                              all_goals try (exfalso; omega; done)
                              with_reducible (refine FR.out.mono ?_)
                              rintro e W' ⟨rfl, m', rfl⟩
                              have HN2 := Lib.hid (HNX.out.far (below_drewN (Below.refl _ _) m'))
                              go_wp2_with (fail)
                              all_goals try (exfalso; omega; done)
                              go_roundw
                              case rel => exact ⟨i + 1, F7, _, place, g, true, _, by go_num, rfl, rfl, rfl, rfl, by have := HL.out; omega, by have := H100.out; omega, HN2⟩
                              case measure => simp [intOf]; have := HL.out; omega
                    · rw [z1]
                      have HN1 := Lib.hid hn1
                      have HLT := Lib.hid (And.intro hlt (And.intro z2 z3))
                      subst hq1 hq2
                      have hidx : (lo : Int) + (place : Int) + (j : Int) < (n : Int) := by have := HFIT.out; have := HQ.out; omega
                      clear hn1 hlb hdl z2 z3 hj hlt
                      go_wp2_with (fail)
                      all_goals try (exfalso; omega; done)
                      go_roundw
                      case rel => exact ⟨j + 1, by go_num, rfl, rfl, by rw [HLT.out.2.1], HLT.out.2.2, HN1⟩
                      case measure => simp [intOf]; have := HLT.out.1; omega
                    · obtain ⟨lj, hlj⟩ : ∃ lj, leftZ (M'.fuse.map (· - j)) = lj := ⟨_, rfl⟩
                      rw [hlj] at z1 z2 hlb ⊢
                      have HN1 := Lib.hid hn1
                      have HLT := Lib.hid (And.intro hlt (And.intro z2 z3))
                      subst hq1 hq2
                      have hidx : (lo : Int) + (place : Int) + (j : Int) < (n : Int) := by have := HFIT.out; have := HQ.out; omega
                      clear hn1 hdl z2 z3 hj hlt hlj
                      go_wp2_with (fail)
                      all_goals try (exfalso; omega; done)
                      go_roundw
                      case rel => exact ⟨j + 1, by go_num, rfl, rfl, by rw [HLT.out.2.1], HLT.out.2.2, HN1⟩
                      case measure => simp [intOf]; have := HLT.out.1; omega
                  · have hjc : j = cs := by omega
                    subst j
                    have HDN := Lib.hid (show doneK M'.fuse cs = cs by omega)
                    obtain ⟨WX, rfl⟩ : ∃ WX, WX = wr := ⟨wr, rfl⟩
                    have HPRE := Lib.hid HR.out.p
                    rw [← HRL.out.2] at HPRE
                    clear hlb hdl hj hlt
                    as_aux_lemma =>
                      have v0 : WX.cell? ⟨WM.heap.size, 2, none⟩ = some (.slice pa sn pc) := by rw [cell_of_row _ _ _ _ _ _ HPRE.out.op]; rfl
                      have SP := spare_any pa s pc WX (by have := HX.out.2.2.2.1; omega) (HX.out.1.below HPRE.out.d.below) HX.out.2.1
                      rw [HX.out.2.2.2.2.2.2] at SP
                      have HSP := Lib.hid SP
                      clear SP
                      go_wp2_with (fail)
                      all_goals try (exfalso; omega; done)
                      with_reducible (refine HSP.out.mono ?_)
                      rintro e Ws ⟨g6, c6, he6, o6, b6⟩
                      rw [HX.out.2.2.2.2.2.2] at he6
                      subst he6
                      have ps := HPRE.out.far b6
                      have hcap := o6.2.2.2
                      rw [size_push, HX.out.2.2.2.2.2.2] at hcap
                      have hbl : (bl s).length = sn := by rw [bl_length, HX.out.2.2.2.2.2.2]
                      have hfit := HFIT.out
                      have ai : AppIn W0 Ws F' G n M' t lo hi gen g place (some ⟨g6, 0, none⟩) sn c6 s := ⟨ps.d, by have := HM.out.st; have := HL9.out; omega, by have := HM.out.lo9; have := HL9.out; omega, HM.out.fu, ps.tp, ps.ft, ps.wt, by have := HQ.out; omega, by have := HQ.out; omega, by have := HQ.out; omega, by have := HM.out.gp; have := HM.out.pl; have := HQ.out; omega, HX.out.2.2.2.2.2.2, by have := countS_le sn; have := HCS.out; have := HQ.out; omega, by omega, owns_front o6, (fun e => by cases e), (fun a e => by cases e; exact ⟨fun f => Nat.not_lt.2 o6.2.1 (HPRE.out.d.drum.lt g6 f), o6.2.2.1⟩), by rw [HCS.out]; exact hfit⟩
                      have HAP := Lib.hid (append_any ai)
                      have HS := Lib.hid (And.intro ps (And.intro o6 b6))
                      have HBL := Lib.hid hbl
                      have hcapI : (sn : Int) + 1 ≤ (c6 : Int) := by omega
                      clear ai ps o6 b6 hcap HSP hfit hbl
                      go_wp2_with (fail)
                      all_goals try (exfalso; omega; done)
                      refine HAP.out.mono ?_
                      rw [HCS.out]
                      rintro e W7 ⟨F7, k7, hk7, on7, ft7, tt7, gr7, ⟨ek, rfl, d7, n7⟩ | ⟨hlt7, off7, rfl, d7, n7⟩⟩
                      · subst k7
                        have H7 := Lib.hid (And.intro tt7 (And.intro gr7 (And.intro d7 n7)))
                        have HON := Lib.hid on7
                        clear on7 ft7 tt7 gr7 d7 n7 hk7 HAP
                        have SV := HPRE.out.seven HS.out.2.2 H7.out.1 HS.out.2.1
                        have v2 : W7.cell? ⟨WM.heap.size, 2, none⟩ = some (.slice pa sn pc) := by rw [cell_of_row _ _ _ _ _ _ SV.2]; rfl
                        have KP := kept_yes WX.heap.size g6 c6 pa s pc W7 (by have := HX.out.2.2.2.1; omega) SV.1 (HX.out.1.below H7.out.2.2.1.below)
                        rw [HX.out.2.2.2.2.2.2] at KP
                        have HKP := Lib.hid KP
                        have HO7 := Lib.hid SV.1
                        clear SV KP
                        go_wp2_with (fail)
                        all_goals try (exfalso; omega; done)
                        with_reducible (refine HKP.out.mono ?_)
                        rintro e W' ⟨rfl, rfl⟩
                        go_wp2_with (fail)
                        all_goals try (exfalso; omega; done)
                        go_loopw [173] (fun x wr => ∃ a : Nat, x = .int .i64 (a : Int) ∧ a ≤ sn ∧ Hid (∃ l : List UInt8, l.length = sn + 1 ∧ Owns wr WX.heap.size g6 c6 (ofL l) ∧ Touch (fun j => j = g6) W7 wr)) (fun x _ => sn - (intOf x).toNat)
                        case atStart => exact ⟨0, rfl, Nat.zero_le _, Lib.hid ⟨bl (s ++ ⟨#[165]⟩), by rw [bl_length, size_push, HX.out.2.2.2.2.2.2], by rw [ofL_bl]; exact HO7.out, Touch.refl _ _⟩⟩
                        case round =>
                          obtain ⟨a, rfl, ha, HR⟩ := hrel
                          have ha0 : (0 : Int) ≤ (a : Int) := by omega
                          by_cases hlt : a < sn
                          · have hltI : (a : Int) < (sn : Int) := by omega
                            obtain ⟨l, hl, ol, tl⟩ := HR.out
                            obtain ⟨ca', cf⟩ := ol.byte a (by omega)
                            obtain ⟨uc, ca⟩ : ∃ u, wr.cell? ⟨g6, a, none⟩ = some u := ⟨_, ca'⟩
                            clear ca'
                            have HN3 := Lib.hid (show ∃ l' : List UInt8, l'.length = sn + 1 ∧ Owns (wr.setCell ⟨g6, a, none⟩ (.int .u8 5)) WX.heap.size g6 c6 (ofL l') ∧ Touch (fun j => j = g6) W7 (wr.setCell ⟨g6, a, none⟩ (.int .u8 5)) from ⟨l.set a 5, by rw [List.length_set]; exact hl, ol.put a 5 (by rw [bl_ofL, bl_ofL]), Touch.set (F := fun j => j = g6) tl (p := ⟨g6, a, none⟩) rfl _⟩)
                            have HLT := Lib.hid hlt
                            clear hl ol tl hlt ha HR
                            go_wp2_with (fail)
                            all_goals try (exfalso; omega; done)
                            go_roundw
                            case rel => exact ⟨a + 1, by go_num, by have := HLT.out; omega, HN3⟩
                            case measure => simp [intOf]; have := HLT.out; omega
                          · have has : a = sn := by omega
                            obtain ⟨W8, rfl⟩ : ∃ W8, W8 = wr := ⟨wr, rfl⟩
                            obtain ⟨l, hl, ol, tl⟩ := HR.out
                            have E8 := HPRE.out.eight HS.out.2.2 H7.out.1 H7.out.2.1 HS.out.2.1 H7.out.2.2.1 H7.out.2.2.2 tl
                            clear hl ol tl
                            have HNX := Lib.hid (HM.out.all8 (bl s) (by rw [HBL.out, HCS.out]; exact HFIT.out) HQ9.out (by rw [HBL.out, HCS.out]; exact HON.out) (by rw [HBL.out, HCS.out]; exact E8))
                            rw [HBL.out, HCS.out] at HNX
                            clear E8 ha hlt
                            have GR := Lib.hid (groups_any W8 t G lo hi gen (g + 1) (place + cs) false HNX.out.tp)
                            have FR0 := free_any W8 t G lo hi gen (g + 1) (place + cs) false HNX.out.tp (by have := HQ.out; omega) HNX.out.pl
                            have hpN := HNX.out.pl
                            have hgN := HNX.out.gp
                            have hpI : (lo : Int) + ((place + cs : Nat) : Int) ≤ (hi : Int) := by omega
                            have hgI : ((g + 1 : Nat) : Int) ≤ 1000 := by have := HQ.out; omega
                            rw [show ((hi - lo - (place + cs) : Nat) : Int) = (hi : Int) - (lo : Int) - ((place + cs : Nat) : Int) by omega] at FR0
                            have FR := Lib.hid FR0
                            clear FR0 hpN hgN
                            go_wp2_with (fail)
                            all_goals try (exfalso; omega; done)
                            with_reducible (refine GR.out.mono ?_)
                            rintro e W' ⟨rfl, rfl⟩
                            go_wp2_with (fail)
                            all_goals try (exfalso; omega; done)
                            with_reducible (refine FR.out.mono ?_)
                            rintro e W' ⟨rfl, m', rfl⟩
                            have HN2 := Lib.hid (HNX.out.far (below_drewN (Below.refl _ _) m'))
                            go_wp2_with (fail)
                            all_goals try (exfalso; omega; done)
                            go_roundw
                            case rel => exact ⟨i + 1, F7, _, place + cs, g + 1, false, _, by go_num, (by go_num), (by go_num), rfl, rfl, by have := HL.out; omega, by have := H100.out; omega, HN2⟩
                            case measure => simp [intOf]; have := HL.out; omega
                      · exfalso
                        have h1 := (done_cut (HM.out.rel rfl).1 hlt7 on7 off7).2
                        have h2 := HDN.out
                        omega
              · have hfitI : (hi : Int) - (lo : Int) - (place : Int) < (cs : Int) := by omega
                have HFIT := Lib.hid hfit
                obtain ⟨WX, hWX⟩ : ∃ WX, WX = W5 := ⟨W5, rfl⟩
                have HPRE : Hid (Pre W0 WX F' G t n lo hi gen M' place g false WM.heap.size #[.int .i64 0, .int .i64 nI, .slice pa sn pc] q k M'.now) := Lib.hid (by rw [hWX]; exact H5p.out)
                subst hWX
                clear hfit
                go_wp2_with (fail)
                all_goals try (exfalso; omega; done)
                with_reducible (refine HRS.out.mono ?_)
                rintro e W' ⟨rfl, rfl⟩
                as_aux_lemma =>
                  have SP := spare_any pa s pc WX (by have := HX.out.2.2.2.1; omega) (HX.out.1.below HPRE.out.d.below) HX.out.2.1
                  rw [HX.out.2.2.2.2.2.2] at SP
                  have HSP := Lib.hid SP
                  clear SP
                  go_wp2_with (fail)
                  all_goals try (exfalso; omega; done)
                  with_reducible (refine HSP.out.mono ?_)
                  rintro e Ws ⟨g6, c6, he6, o6, b6⟩
                  rw [HX.out.2.2.2.2.2.2] at he6
                  subst he6
                  have ps := HPRE.out.far b6
                  have hcap := o6.2.2.2
                  rw [size_push, HX.out.2.2.2.2.2.2] at hcap
                  have HAP := Lib.hid (append_full Ws t G lo hi gen g place ps.tp (by have := HQ.out; omega) HM.out.pl (some ⟨g6, 0, none⟩) sn c6 (by have := HX.out.2.2.2.1; have := HX.out.2.2.2.2.2.2; omega) (by rw [HCS.out]; have := HFIT.out; omega))
                  have HS := Lib.hid (And.intro ps (And.intro o6 b6))
                  have hcapI : (sn : Int) + 1 ≤ (c6 : Int) := by omega
                  clear ps o6 b6 hcap HSP
                  go_wp2_with (fail)
                  all_goals try (exfalso; omega; done)
                  with_reducible (refine HAP.out.mono ?_)
                  rintro e W7 ⟨rfl, m7, hm7⟩
                  have hb7 : Below Ws.heap.size Ws W7 := by rw [hm7]; exact below_drewN (Below.refl _ _) m7
                  have H7 := Lib.hid (show Touch (WithT F' t) Ws W7 ∧ (∀ j, F' j → Grow F' Ws W7 j) ∧ DW W0 W7 F' G n M' ∧ W7.heap[t]? = some (.cells (tapeV G lo hi gen g place false) 118 (0, 0)) from ⟨Touch.of_below hb7, fun j f => .inl f, HS.out.1.d.on hb7, (HS.out.1.far hb7).tp⟩)
                  clear hm7 hb7
                  have SV := HPRE.out.seven HS.out.2.2 H7.out.1 HS.out.2.1
                  have v2 : W7.cell? ⟨WM.heap.size, 2, none⟩ = some (.slice pa sn pc) := by rw [cell_of_row _ _ _ _ _ _ SV.2]; rfl
                  have KP := kept_yes WX.heap.size g6 c6 pa s pc W7 (by have := HX.out.2.2.2.1; omega) SV.1 (HX.out.1.below H7.out.2.2.1.below)
                  rw [HX.out.2.2.2.2.2.2] at KP
                  have HKP := Lib.hid KP
                  have HO7 := Lib.hid SV.1
                  clear SV KP
                  go_wp2_with (fail)
                  all_goals try (exfalso; omega; done)
                  with_reducible (refine HKP.out.mono ?_)
                  rintro e W' ⟨rfl, rfl⟩
                  go_wp2_with (fail)
                  all_goals try (exfalso; omega; done)
                  go_loopw [173] (fun x wr => ∃ a : Nat, x = .int .i64 (a : Int) ∧ a ≤ sn ∧ Hid (∃ l : List UInt8, l.length = sn + 1 ∧ Owns wr WX.heap.size g6 c6 (ofL l) ∧ Touch (fun j => j = g6) W7 wr)) (fun x _ => sn - (intOf x).toNat)
                  case atStart => exact ⟨0, rfl, Nat.zero_le _, Lib.hid ⟨bl (s ++ ⟨#[165]⟩), by rw [bl_length, size_push, HX.out.2.2.2.2.2.2], by rw [ofL_bl]; exact HO7.out, Touch.refl _ _⟩⟩
                  case round =>
                    obtain ⟨a, rfl, ha, HR⟩ := hrel
                    have ha0 : (0 : Int) ≤ (a : Int) := by omega
                    by_cases hlt : a < sn
                    · have hltI : (a : Int) < (sn : Int) := by omega
                      obtain ⟨l, hl, ol, tl⟩ := HR.out
                      obtain ⟨ca', cf⟩ := ol.byte a (by omega)
                      obtain ⟨uc, ca⟩ : ∃ u, wr.cell? ⟨g6, a, none⟩ = some u := ⟨_, ca'⟩
                      clear ca'
                      have HN3 := Lib.hid (show ∃ l' : List UInt8, l'.length = sn + 1 ∧ Owns (wr.setCell ⟨g6, a, none⟩ (.int .u8 5)) WX.heap.size g6 c6 (ofL l') ∧ Touch (fun j => j = g6) W7 (wr.setCell ⟨g6, a, none⟩ (.int .u8 5)) from ⟨l.set a 5, by rw [List.length_set]; exact hl, ol.put a 5 (by rw [bl_ofL, bl_ofL]), Touch.set (F := fun j => j = g6) tl (p := ⟨g6, a, none⟩) rfl _⟩)
                      have HLT := Lib.hid hlt
                      clear hl ol tl hlt ha HR
                      go_wp2_with (fail)
                      all_goals try (exfalso; omega; done)
                      go_roundw
                      case rel => exact ⟨a + 1, by go_num, by have := HLT.out; omega, HN3⟩
                      case measure => simp [intOf]; have := HLT.out; omega
                    · have has : a = sn := by omega
                      obtain ⟨W8, rfl⟩ : ∃ W8, W8 = wr := ⟨wr, rfl⟩
                      obtain ⟨l, hl, ol, tl⟩ := HR.out
                      have E8 := HPRE.out.eight HS.out.2.2 H7.out.1 H7.out.2.1 HS.out.2.1 H7.out.2.2.1 H7.out.2.2.2 tl
                      clear hl ol tl
                      have HNX := Lib.hid (HM.out.on8 E8)
                      clear E8 ha hlt
                      have GR := Lib.hid (groups_any W8 t G lo hi gen (g) (place) false HNX.out.tp)
                      have FR0 := free_any W8 t G lo hi gen (g) (place) false HNX.out.tp (by have := HQ.out; omega) HNX.out.pl
                      have hpN := HNX.out.pl
                      have hgN := HNX.out.gp
                      have hpI : (lo : Int) + ((place : Nat) : Int) ≤ (hi : Int) := by omega
                      have hgI : ((g : Nat) : Int) ≤ 1000 := by have := HQ.out; omega
                      rw [show ((hi - lo - (place) : Nat) : Int) = (hi : Int) - (lo : Int) - ((place : Nat) : Int) by omega] at FR0
                      have FR := Lib.hid FR0
                      clear FR0 hpN hgN
                      go_wp2_with (fail)
                      all_goals try (exfalso; omega; done)
                      with_reducible (refine GR.out.mono ?_)
                      rintro e W' ⟨rfl, rfl⟩
                      go_wp2_with (fail)
                      all_goals try (exfalso; omega; done)
                      with_reducible (refine FR.out.mono ?_)
                      rintro e W' ⟨rfl, m', rfl⟩
                      have HN2 := Lib.hid (HNX.out.far (below_drewN (Below.refl _ _) m'))
                      go_wp2_with (fail)
                      all_goals try (exfalso; omega; done)
                      go_roundw
                      case rel => exact ⟨i + 1, F', _, place, g, false, _, by go_num, rfl, rfl, rfl, rfl, by have := HL.out; omega, by have := H100.out; omega, HN2⟩
                      case measure => simp [intOf]; have := HL.out; omega
        · by_cases hk1 : kind = 1
          · subst hk1
            as_aux_lemma =>
              have hlfb := HM.out.lf
              have tm : Tame M' := ⟨by have := HM.out.st; have := HL9.out; omega, HM.out.fu, by have := HM.out.lo9; have := HL9.out; omega⟩
              cases down with
              | true =>
                have HFD := Lib.hid (flush_down W5 t G lo hi gen g place H5p.out.tp)
                clear tm
                go_wp2_with (fail)
                all_goals try (exfalso; omega; done)
                with_reducible (refine HFD.out.mono ?_)
                rintro e W' ⟨rfl, rfl⟩
                by_cases hl0 : 0 < left
                · have HNX := Lib.hid (H5.out.less (left' := left - 1) ⟨fun _ => rfl, fun h => absurd hl0 h⟩)
                  have GR := Lib.hid (groups_any W5 t G lo hi gen (g) (place) true HNX.out.tp)
                  have FR0 := free_any W5 t G lo hi gen (g) (place) true HNX.out.tp (by have := HQ.out; omega) HNX.out.pl
                  have hpN := HNX.out.pl
                  have hgN := HNX.out.gp
                  have hpI : (lo : Int) + ((place : Nat) : Int) ≤ (hi : Int) := by omega
                  have hgI : ((g : Nat) : Int) ≤ 1000 := by have := HQ.out; omega
                  rw [show ((hi - lo - (place) : Nat) : Int) = (hi : Int) - (lo : Int) - ((place : Nat) : Int) by omega] at FR0
                  have FR := Lib.hid FR0
                  clear FR0 hpN hgN
                  go_wp2_with (fail)
                  all_goals try (exfalso; omega; done)
                  with_reducible (refine GR.out.mono ?_)
                  rintro e W' ⟨rfl, rfl⟩
                  go_wp2_with (fail)
                  all_goals try (exfalso; omega; done)
                  with_reducible (refine FR.out.mono ?_)
                  rintro e W' ⟨rfl, m', rfl⟩
                  have HN2 := Lib.hid (HNX.out.far (below_drewN (Below.refl _ _) m'))
                  go_wp2_with (fail)
                  all_goals try (exfalso; omega; done)
                  go_roundw
                  case rel => exact ⟨i + 1, F', _, place, g, true, _, by go_num, rfl, rfl, rfl, rfl, by have := HL.out; omega, by have := H100.out; omega, HN2⟩
                  case measure => simp [intOf]; have := HL.out; omega
                · have HNX := Lib.hid (H5.out.less (left' := left) ⟨fun h => absurd h hl0, fun _ => rfl⟩)
                  have GR := Lib.hid (groups_any W5 t G lo hi gen (g) (place) true HNX.out.tp)
                  have FR0 := free_any W5 t G lo hi gen (g) (place) true HNX.out.tp (by have := HQ.out; omega) HNX.out.pl
                  have hpN := HNX.out.pl
                  have hgN := HNX.out.gp
                  have hpI : (lo : Int) + ((place : Nat) : Int) ≤ (hi : Int) := by omega
                  have hgI : ((g : Nat) : Int) ≤ 1000 := by have := HQ.out; omega
                  rw [show ((hi - lo - (place) : Nat) : Int) = (hi : Int) - (lo : Int) - ((place : Nat) : Int) by omega] at FR0
                  have FR := Lib.hid FR0
                  clear FR0 hpN hgN
                  go_wp2_with (fail)
                  all_goals try (exfalso; omega; done)
                  with_reducible (refine GR.out.mono ?_)
                  rintro e W' ⟨rfl, rfl⟩
                  go_wp2_with (fail)
                  all_goals try (exfalso; omega; done)
                  with_reducible (refine FR.out.mono ?_)
                  rintro e W' ⟨rfl, m', rfl⟩
                  have HN2 := Lib.hid (HNX.out.far (below_drewN (Below.refl _ _) m'))
                  go_wp2_with (fail)
                  all_goals try (exfalso; omega; done)
                  go_roundw
                  case rel => exact ⟨i + 1, F', _, place, g, true, _, by go_num, rfl, rfl, rfl, rfl, by have := HL.out; omega, by have := H100.out; omega, HN2⟩
                  case measure => simp [intOf]; have := HL.out; omega
              | false =>
                have hrel := HM.out.rel rfl
                by_cases hz : left = 0
                · have hoff : M'.off = true := (left_off hrel.1).1 (by rw [← hrel.2]; exact hz)
                  have HFD := Lib.hid (tflush_off H5.out.d tm hoff t lo hi gen g place H5.out.tp H5.out.ft H5.out.wt)
                  have HOFF := Lib.hid hoff
                  subst hz
                  clear tm hoff hrel
                  go_wp2_with (fail)
                  all_goals try (exfalso; omega; done)
                  with_reducible (refine HFD.out.mono ?_)
                  rintro e W6 ⟨rfl, d6, t6, n6⟩
                  have HNX := Lib.hid (H5.out.fell HOFF.out d6 t6 n6)
                  clear d6 t6 n6 HFD
                  have GR := Lib.hid (groups_any W6 t G lo hi gen (g) (place) true HNX.out.tp)
                  have FR0 := free_any W6 t G lo hi gen (g) (place) true HNX.out.tp (by have := HQ.out; omega) HNX.out.pl
                  have hpN := HNX.out.pl
                  have hgN := HNX.out.gp
                  have hpI : (lo : Int) + ((place : Nat) : Int) ≤ (hi : Int) := by omega
                  have hgI : ((g : Nat) : Int) ≤ 1000 := by have := HQ.out; omega
                  rw [show ((hi - lo - (place) : Nat) : Int) = (hi : Int) - (lo : Int) - ((place : Nat) : Int) by omega] at FR0
                  have FR := Lib.hid FR0
                  clear FR0 hpN hgN
                  go_wp2_with (fail)
                  all_goals try (exfalso; omega; done)
                  with_reducible (refine GR.out.mono ?_)
                  rintro e W' ⟨rfl, rfl⟩
                  go_wp2_with (fail)
                  all_goals try (exfalso; omega; done)
                  with_reducible (refine FR.out.mono ?_)
                  rintro e W' ⟨rfl, m', rfl⟩
                  have HN2 := Lib.hid (HNX.out.far (below_drewN (Below.refl _ _) m'))
                  go_wp2_with (fail)
                  all_goals try (exfalso; omega; done)
                  go_roundw
                  case rel => exact ⟨i + 1, F', _, place, g, true, _, by go_num, rfl, rfl, rfl, rfl, by have := HL.out; omega, by have := H100.out; omega, HN2⟩
                  case measure => simp [intOf]; have := HL.out; omega
                · have hoff : M'.off = false := by
                    cases h0 : M'.off with
                    | false => rfl
                    | true => exact absurd (by rw [hrel.2]; exact (left_off hrel.1).2 h0) hz
                  have HFD := Lib.hid (tflush_ok H5.out.d tm hoff t lo hi gen g place H5.out.tp)
                  have HOFF := Lib.hid hoff
                  clear tm hoff hrel
                  go_wp2_with (fail)
                  all_goals try (exfalso; omega; done)
                  with_reducible (refine HFD.out.mono ?_)
                  rintro e W6 ⟨rfl, d6, t6⟩
                  by_cases hl0 : 0 < left
                  · have HNX := Lib.hid (H5.out.flushed (left' := left - 1) HOFF.out d6 t6 ⟨fun _ => rfl, fun h => absurd hl0 h⟩)
                    clear d6 t6 HFD
                    have GR := Lib.hid (groups_any W6 t G lo hi gen (g) (place) false HNX.out.tp)
                    have FR0 := free_any W6 t G lo hi gen (g) (place) false HNX.out.tp (by have := HQ.out; omega) HNX.out.pl
                    have hpN := HNX.out.pl
                    have hgN := HNX.out.gp
                    have hpI : (lo : Int) + ((place : Nat) : Int) ≤ (hi : Int) := by omega
                    have hgI : ((g : Nat) : Int) ≤ 1000 := by have := HQ.out; omega
                    rw [show ((hi - lo - (place) : Nat) : Int) = (hi : Int) - (lo : Int) - ((place : Nat) : Int) by omega] at FR0
                    have FR := Lib.hid FR0
                    clear FR0 hpN hgN
                    go_wp2_with (fail)
                    all_goals try (exfalso; omega; done)
                    with_reducible (refine GR.out.mono ?_)
                    rintro e W' ⟨rfl, rfl⟩
                    go_wp2_with (fail)
                    all_goals try (exfalso; omega; done)
                    with_reducible (refine FR.out.mono ?_)
                    rintro e W' ⟨rfl, m', rfl⟩
                    have HN2 := Lib.hid (HNX.out.far (below_drewN (Below.refl _ _) m'))
                    go_wp2_with (fail)
                    all_goals try (exfalso; omega; done)
                    go_roundw
                    case rel => exact ⟨i + 1, F', _, place, g, false, _, by go_num, rfl, rfl, rfl, rfl, by have := HL.out; omega, by have := H100.out; omega, HN2⟩
                    case measure => simp [intOf]; have := HL.out; omega
                  · have HNX := Lib.hid (H5.out.flushed (left' := left) HOFF.out d6 t6 ⟨fun h => absurd h hl0, fun _ => rfl⟩)
                    clear d6 t6 HFD
                    have GR := Lib.hid (groups_any W6 t G lo hi gen (g) (place) false HNX.out.tp)
                    have FR0 := free_any W6 t G lo hi gen (g) (place) false HNX.out.tp (by have := HQ.out; omega) HNX.out.pl
                    have hpN := HNX.out.pl
                    have hgN := HNX.out.gp
                    have hpI : (lo : Int) + ((place : Nat) : Int) ≤ (hi : Int) := by omega
                    have hgI : ((g : Nat) : Int) ≤ 1000 := by have := HQ.out; omega
                    rw [show ((hi - lo - (place) : Nat) : Int) = (hi : Int) - (lo : Int) - ((place : Nat) : Int) by omega] at FR0
                    have FR := Lib.hid FR0
                    clear FR0 hpN hgN
                    go_wp2_with (fail)
                    all_goals try (exfalso; omega; done)
                    with_reducible (refine GR.out.mono ?_)
                    rintro e W' ⟨rfl, rfl⟩
                    go_wp2_with (fail)
                    all_goals try (exfalso; omega; done)
                    with_reducible (refine FR.out.mono ?_)
                    rintro e W' ⟨rfl, m', rfl⟩
                    have HN2 := Lib.hid (HNX.out.far (below_drewN (Below.refl _ _) m'))
                    go_wp2_with (fail)
                    all_goals try (exfalso; omega; done)
                    go_roundw
                    case rel => exact ⟨i + 1, F', _, place, g, false, _, by go_num, rfl, rfl, rfl, rfl, by have := HL.out; omega, by have := H100.out; omega, HN2⟩
                    case measure => simp [intOf]; have := HL.out; omega
          · by_cases hk2 : kind = 2
            · subst hk2
              as_aux_lemma =>
                by_cases hn0 : 0 ≤ nI
                · obtain ⟨kk, rfl⟩ : ∃ kk : Nat, nI = (kk : Int) := ⟨nI.toNat, by omega⟩
                  have HFU := Lib.hid (dfuse H5.out.d kk)
                  have HKB := Lib.hid (show kk ≤ 9223372036854775807 by have := HX.out.2.2.2.2.2.1; omega)
                  clear hn0
                  go_wp2_with (fail)
                  all_goals try (exfalso; omega; done)
                  with_reducible (refine HFU.out.mono ?_)
                  rintro e W6 ⟨rfl, d6, t6⟩
                  have HNX := Lib.hid (H5.out.fused HKB.out d6 t6)
                  have w1 : W6.cell? ⟨WM.heap.size, 1, none⟩ = some (.int .i64 (kk : Int)) := by
                    have e6 := (t6.block WM.heap.size (obj_lt H5p.out.op) (fun e => H5p.out.zF (by rw [show WM.heap.size = G from e]; exact H5p.out.d.drum.fG))).trans H5p.out.op
                    rw [cell_of_row _ _ _ _ _ _ e6]; rfl
                  clear d6 t6 HFU
                  have GR := Lib.hid (groups_any W6 t G lo hi gen (g) (place) down HNX.out.tp)
                  have FR0 := free_any W6 t G lo hi gen (g) (place) down HNX.out.tp (by have := HQ.out; omega) HNX.out.pl
                  have hpN := HNX.out.pl
                  have hgN := HNX.out.gp
                  have hpI : (lo : Int) + ((place : Nat) : Int) ≤ (hi : Int) := by omega
                  have hgI : ((g : Nat) : Int) ≤ 1000 := by have := HQ.out; omega
                  rw [show ((hi - lo - (place) : Nat) : Int) = (hi : Int) - (lo : Int) - ((place : Nat) : Int) by omega] at FR0
                  have FR := Lib.hid FR0
                  clear FR0 hpN hgN
                  go_wp2_with (fail)
                  all_goals try (exfalso; omega; done)
                  with_reducible (refine GR.out.mono ?_)
                  rintro e W' ⟨rfl, rfl⟩
                  go_wp2_with (fail)
                  all_goals try (exfalso; omega; done)
                  with_reducible (refine FR.out.mono ?_)
                  rintro e W' ⟨rfl, m', rfl⟩
                  have HN2 := Lib.hid (HNX.out.far (below_drewN (Below.refl _ _) m'))
                  go_wp2_with (fail)
                  all_goals try (exfalso; omega; done)
                  go_roundw
                  case rel => exact ⟨i + 1, F', _, place, g, down, _, by go_num, rfl, rfl, rfl, rfl, by have := HL.out; omega, by have := H100.out; omega, HN2⟩
                  case measure => simp [intOf]; have := HL.out; omega
                · have HNX := Lib.hid H5.out.later
                  have GR := Lib.hid (groups_any W5 t G lo hi gen (g) (place) down HNX.out.tp)
                  have FR0 := free_any W5 t G lo hi gen (g) (place) down HNX.out.tp (by have := HQ.out; omega) HNX.out.pl
                  have hpN := HNX.out.pl
                  have hgN := HNX.out.gp
                  have hpI : (lo : Int) + ((place : Nat) : Int) ≤ (hi : Int) := by omega
                  have hgI : ((g : Nat) : Int) ≤ 1000 := by have := HQ.out; omega
                  rw [show ((hi - lo - (place) : Nat) : Int) = (hi : Int) - (lo : Int) - ((place : Nat) : Int) by omega] at FR0
                  have FR := Lib.hid FR0
                  clear FR0 hpN hgN
                  go_wp2_with (fail)
                  all_goals try (exfalso; omega; done)
                  with_reducible (refine GR.out.mono ?_)
                  rintro e W' ⟨rfl, rfl⟩
                  go_wp2_with (fail)
                  all_goals try (exfalso; omega; done)
                  with_reducible (refine FR.out.mono ?_)
                  rintro e W' ⟨rfl, m', rfl⟩
                  have HN2 := Lib.hid (HNX.out.far (below_drewN (Below.refl _ _) m'))
                  go_wp2_with (fail)
                  all_goals try (exfalso; omega; done)
                  go_roundw
                  case rel => exact ⟨i + 1, F', _, place, g, down, _, by go_num, rfl, rfl, rfl, rfl, by have := HL.out; omega, by have := H100.out; omega, HN2⟩
                  case measure => simp [intOf]; have := HL.out; omega
            · have k0 : (kind == 0) = false := by rw [beq_eq_false_iff_ne]; exact hk0
              have k1 : (kind == 1) = false := by rw [beq_eq_false_iff_ne]; exact hk1
              have k2 : (kind == 2) = false := by rw [beq_eq_false_iff_ne]; exact hk2
              have HNX := Lib.hid H5.out.later
              have GR := Lib.hid (groups_any W5 t G lo hi gen (g) (place) down HNX.out.tp)
              have FR0 := free_any W5 t G lo hi gen (g) (place) down HNX.out.tp (by have := HQ.out; omega) HNX.out.pl
              have hpN := HNX.out.pl
              have hgN := HNX.out.gp
              have hpI : (lo : Int) + ((place : Nat) : Int) ≤ (hi : Int) := by omega
              have hgI : ((g : Nat) : Int) ≤ 1000 := by have := HQ.out; omega
              rw [show ((hi - lo - (place) : Nat) : Int) = (hi : Int) - (lo : Int) - ((place : Nat) : Int) by omega] at FR0
              have FR := Lib.hid FR0
              clear FR0 hpN hgN
              go_wp2_with (fail)
              all_goals try (exfalso; omega; done)
              with_reducible (refine GR.out.mono ?_)
              rintro e W' ⟨rfl, rfl⟩
              go_wp2_with (fail)
              all_goals try (exfalso; omega; done)
              with_reducible (refine FR.out.mono ?_)
              rintro e W' ⟨rfl, m', rfl⟩
              have HN2 := Lib.hid (HNX.out.far (below_drewN (Below.refl _ _) m'))
              go_wp2_with (fail)
              all_goals try (exfalso; omega; done)
              go_roundw
              case rel => exact ⟨i + 1, F', _, place, g, down, _, by go_num, rfl, rfl, rfl, rfl, by have := HL.out; omega, by have := H100.out; omega, HN2⟩
              case measure => simp [intOf]; have := HL.out; omega
    · have hiN : i = N := by omega
      clear hi' hi9 hlt
      subst hiN
      as_aux_lemma =>
        obtain ⟨m9, hm9⟩ : ∃ m9, M'.loose.length = m9 := ⟨_, rfl⟩
        have LO := loose_any WM F' G n M' HM.out.d.drum
        rw [hm9] at LO
        have HLO := Lib.hid LO
        have hm9b : m9 ≤ 20000 := by have := HM.out.lo9; have := HL9.out; omega
        obtain ⟨w1, hmk, bo, bb⟩ := make_bools WM m9 (by omega)
        have HB1 := Lib.hid (And.intro bo bb)
        have HM9 := Lib.hid (And.intro hm9 hm9b)
        have hm9I : (m9 : Int) ≤ 20000 := by omega
        clear LO hm9 hm9b bo bb
        go_wp2_with (fail)
        all_goals try (exfalso; omega; done)
        with_reducible (refine HLO.out.mono ?_)
        rintro e W' ⟨rfl, rfl⟩
        go_wp2_with (fail)
        all_goals try (exfalso; omega; done)
        go_loopw [229] (fun x wr => ∃ a : Nat, x = .int .i64 (a : Int) ∧ a ≤ m9 ∧ Hid (BoolsIn wr WM.heap.size (List.replicate a true ++ List.replicate (m9 - a) false) ∧ Touch (fun j => j = WM.heap.size) w1 wr)) (fun x _ => m9 - (intOf x).toNat)
        case atStart => exact ⟨0, rfl, Nat.zero_le _, Lib.hid ⟨HB1.out.1, Touch.refl _ _⟩⟩
        case round =>
          obtain ⟨a, rfl, ha, HR⟩ := hrel
          have ha0 : (0 : Int) ≤ (a : Int) := by omega
          by_cases hlt : a < m9
          · have hltI : (a : Int) < (m9 : Int) := by omega
            obtain ⟨ca', cf⟩ := HR.out.1.at a (by simp; omega)
            obtain ⟨uc, ca⟩ : ∃ u, wr.cell? ⟨WM.heap.size, a, none⟩ = some u := ⟨_, ca'⟩
            clear ca'
            have pu := HR.out.1.put a true
            rw [set_true a m9 hlt] at pu
            have HN2 := Lib.hid (show BoolsIn (wr.setCell ⟨WM.heap.size, a, none⟩ (.bool true)) WM.heap.size (List.replicate (a + 1) true ++ List.replicate (m9 - (a + 1)) false) ∧ Touch (fun j => j = WM.heap.size) w1 (wr.setCell ⟨WM.heap.size, a, none⟩ (.bool true)) from ⟨pu, Touch.set (F := fun j => j = WM.heap.size) HR.out.2 (p := ⟨WM.heap.size, a, none⟩) rfl _⟩)
            have HLT := Lib.hid hlt
            clear pu hlt ha
            go_wp2_with (fail)
            all_goals try (exfalso; omega; done)
            go_roundw
            case rel => exact ⟨a + 1, by go_num, by have := HLT.out; omega, HN2⟩
            case measure => simp [intOf]; have := HLT.out; omega
          · have ham : a = m9 := by omega
            subst ham
            have bo := HR.out.1
            rw [Nat.sub_self, List.replicate_zero, List.append_nil] at bo
            have d1 := (HM.out.d.on HB1.out.2).aside HR.out.2 (fun j e => by
              subst e
              exact ⟨fun f => by have := HM.out.d.drum.lt _ f; omega, HM.out.d.below.size⟩)
            have CR := dcrash d1 ⟨by have := HM.out.st; have := HL9.out; omega, HM.out.fu, by have := HM.out.lo9; have := HL9.out; omega⟩ (some ⟨WM.heap.size, 0, none⟩) (List.replicate a true) a bo.holds (by rw [List.length_replicate]; have := HM9.out.2; omega) (fun x hx f => by
              cases hx
              exact Nat.lt_irrefl _ (show WM.heap.size < WM.heap.size from HM.out.d.drum.lt _ f))
            rw [List.length_replicate] at CR
            have ws := (HM.out.want.z.touch (Touch.of_below (F := F') HB1.out.2) (fun j f => .inl f) (fun j f => .inl f)).touch HR.out.2 (fun j e => .inr (.inr (Nat.le_of_eq (show j = WM.heap.size from e).symm))) (fun j f => .inl f)
            have hcr : (M'.crash (List.replicate a true)).now = M'.now := by rw [← HM9.out.1]; exact crash_all M'
            have HWS := Lib.hid (And.intro ws (And.intro hcr d1))
            have HCR := Lib.hid CR
            clear ws hcr d1 CR bo hlt ha
            go_wp2_with (fail)
            all_goals try (exfalso; omega; done)
            with_reducible (refine HCR.out.mono ?_)
            rintro e W9 ⟨rfl, d9, t9⟩
            have AL := all14_any d9 ⟨by rfl, by rfl⟩ (by show M'.steps ≤ _; have := HM.out.st; have := HL9.out; omega) (by show 0 ≤ 1000000; decide) (by have := HQ.out; omega)
            rw [HWS.out.2.1] at AL
            have HAL := Lib.hid AL
            have H9 := Lib.hid (And.intro d9 t9)
            clear AL d9 t9 HCR
            go_wp2_with (fail)
            all_goals try (exfalso; omega; done)
            with_reducible (refine HAL.out.mono ?_)
            rintro e WA ⟨qa, ka, rfl, da, ta, ga⟩
            have wa := ((HWS.out.1.touch H9.out.2 (fun j f => .inl f) (fun j f => .inl f)).touch ta (fun j f => .inl (only_F H9.out.1.drum.fG _ f)) (fun j f => .inl f)).at
            have hln := wa.len
            have SM := same14_any qa q M'.now M'.now n n ka k WA hln hln (by have := HQ.out; omega) (by
              have h1 := ga
              rw [← hln] at h1
              exact h1.holds) wa.holds
            rw [show decide (M'.now = M'.now) = true from decide_eq_true rfl] at SM
            have HSM := Lib.hid SM
            have HDA := Lib.hid da.below
            clear SM wa hln da ta ga HAL
            go_wp2_with (fail)
            all_goals try (exfalso; omega; done)
            with_reducible (refine HSM.out.mono ?_)
            rintro e WF ⟨rfl, -, bF⟩
            have HBF := Lib.hid (B0.out.trans ((cat_b HDA.out bF).mono B0.out.size))
            clear bF
            go_wp2_with (fail)
            go_ret
            exact ⟨rfl, HBF.out⟩
end Go.Proofs.Ytggchfmglaijgaa
