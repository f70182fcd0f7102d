/- Proved here: what the document's drum is behind a Flush and a Crash, and what its Read answers. -/
import Derived.Test.YtlkffignbjpfcaaRDStand
namespace Go.Proofs.Ytlkffignbjpfcaa
open Go.RowKit

theorem keptTo_past {keep : List Bool} {l : List (Nat × ByteArray)} {k : Nat} (h : keep.length ≤ k) : keptTo keep l (k + 1) = keptTo keep l k := by
  unfold keptTo
  rw [List.take_of_length_le (by rw [List.length_zip]; omega), List.take_of_length_le (by rw [List.length_zip]; omega)]
set_option maxRecDepth 100000 in
set_option maxHeartbeats 8000000 in
theorem rstand_keep (W : World) (X : Nat → Prop) (R N : Nat) (M : DM) (h : RDrum W X R N M) (hX : X R) (ht : Tame M) (p : Option Addr) (keep : List Bool) (cap : Nat) (hk : HoldsT W p keep) (hkb : keep.length ≤ 140737488351232) :
    Calls Try.prog 58 #[.pointer (some ⟨R, 0, none⟩), .slice p keep.length cap, .bool false] W fun e W' => e = .returned (.tuple #[]) ∧ RDrum W' X R N { M with safe := layM M.safe (keptM keep M.loose), loose := [] } ∧ Touch (Only R) W W' := by
  obtain ⟨s, q, cS, cL, Vs, Ws, hd⟩ := h
  obtain ⟨iR, hiR, hzR, hsR, hbR⟩ := info_parts infoRow
  have hR := block_lt hd.blk
  have c0 := hd.cells.1
  have c1 := hd.cells.2.1
  have hsn : s = none → cS = 0 := fun e => by
    rcases hd.safe.2 with ⟨e1, _⟩ | ⟨g', c', cur, e1, _⟩
    · injection e1
    · rw [e] at e1; cases e1
  obtain ⟨g1, cap1, w2, hr1, ho1, hg1, hb1, hz1⟩ := copy_first 28 33 iR _ 1 24 Try.underlying28 hiR hzR hsR hbR rfl (by decide) hd.safe hsn hd.vone.1 (by have := hd.big.1; omega) (by have := hd.big.1; omega)
  have hlay : Laying w2 W X g1 cap1 N M.safe := ⟨Vs, ho1, fun i hi => by
    obtain ⟨u, hu, hq⟩ := hd.rows i hi
    exact ⟨u, hu, hq.keep fun b cur hf hh => ⟨hb1.block b (block_lt hh), hf⟩⟩, hd.ok.len⟩
  have hnc : N ≤ cap1 := by
    rcases ho1.2 with ⟨e, _⟩ | ⟨b, c', cur, e, _, _, hle, _⟩
    · cases e
    · injection e with _ _ e3
      omega
  have hR2 := (hb1.block R hR).trans hd.blk
  have d1 : w2.cell? ⟨R, 1, none⟩ = some (.slice q M.loose.length cL) := by rw [cell_of_row _ _ _ _ _ _ hR2]; rfl
  obtain ⟨L, hL⟩ : ∃ L, M.loose.length = L := ⟨_, rfl⟩
  have hLb : L ≤ 1099511627776 := by rw [← hL]; exact ht.loose
  rw [hL] at c1 d1
  have HR1 := Lib.hid hr1
  have HD := Lib.hid hd
  have HY := Lib.hid (And.intro hlay (And.intro hb1 hX))
  have HL := Lib.hid (And.intro hL hLb)
  have hLi : (L : Int) ≤ 1099511627776 := by omega
  have hN1 : (N : Int) ≤ 16384 := by have := hd.big.1; omega
  have hNc : (N : Int) ≤ (cap1 : Int) := by omega
  clear hsn ho1 hg1 hb1 hz1 hlay hR2 hL hLb hd hr1 ht hX hiR hzR hsR hbR hnc
  obtain ⟨kl, hkl⟩ : ∃ kl, keep.length = kl := ⟨_, rfl⟩
  have HK := Lib.hid (And.intro hk hkl)
  rw [hkl] at hkb ⊢
  have hkb' : (kl : Int) ≤ 140737488351232 := by omega
  clear hk hkl
  go_enter Try.func58, Try.ntmps58
  go_wp2_with (at_builtin; refine wpList_append_eq rfl _ _ _ rfl _ _ _ _ rfl rfl HR1.out ?_)
  go_loopw [20] (fun v wr => LayRel W X g1 cap1 N (fun j => layM M.safe (keptTo keep M.loose j)) L v wr) (fun v _ => L - (intOf v).toNat)
  case atStart => exact ⟨0, rfl, Nat.zero_le _, Lib.hid ⟨HY.out.1, HY.out.2.1⟩⟩
  case round =>
    obtain ⟨j, rfl, hj, HR⟩ := hrel
    by_cases hlt : j < L
    · have hHJ := Lib.hid hlt
      by_cases hjk : j < kl
      · have HJK := Lib.hid hjk
        obtain ⟨kb, ko, hpe, hkc⟩ := (HK.out.1.below HR.out.2) (by rw [HK.out.2]; omega)
        have k1 := hkc j (by rw [HK.out.2]; exact hjk)
        have hkbw : kb < wr.heap.size := World.block_lt_of_cell? wr _ k1
        subst hpe
        clear hkc
        have hjk' : (j : Int) < (kl : Int) := by omega
        cases hky : keep.getD j false
        · rw [hky] at k1
          have HKN := Lib.hid (show keep[j]'(by rw [HK.out.2]; exact hjk) = false from by rw [List.getD_eq_getElem?_getD, List.getElem?_eq_getElem (by rw [HK.out.2]; exact hjk)] at hky; exact hky)
          clear hky
          obtain ⟨gl, v, eq, hlc, e0, e1, hro⟩ := HD.out.write (j := j) (by rw [HL.out.1]; exact hlt)
          obtain ⟨gv, cv, rfl⟩ : ∃ gv cv, v = .slice (some ⟨gv, 0, none⟩) 64 cv := by
            obtain ⟨g', c', _, e', _⟩ := hro
            exact ⟨g', c', e'⟩
          obtain ⟨hn, hp⟩ := HD.out.ok.at_ (M.loose[j]'(by rw [HL.out.1]; exact hlt)) (List.getElem_mem _)
          obtain ⟨x, hx⟩ : ∃ x, M.loose[j]'(by rw [HL.out.1]; exact hlt) = x := ⟨_, rfl⟩
          rw [hx] at e0 hro hn
          have e0' := hb_cell HR.out.2 e0
          have e1' := hb_cell HR.out.2 e1
          obtain ⟨n, hn'⟩ : ∃ n, x.1 = n := ⟨_, rfl⟩
          rw [hn'] at e0' hn
          have hlt' : (j : Int) < (L : Int) := by omega
          have hn1 : (n : Int) < (N : Int) := by omega
          have hn0 : (0 : Int) ≤ (n : Int) := by omega
          subst eq
          go_wp2_with (fail)
          go_round
          case rel =>
            refine ⟨j + 1, by go_num, by have := hHJ.out; omega, Lib.hid ⟨?_, HR.out.2.alloc HR.out.2.size _⟩⟩
            show Laying _ W X g1 cap1 N (layM M.safe (keptTo keep M.loose (j + 1)))
            rw [keptTo_no (by rw [HK.out.2]; exact HJK.out) (by rw [HL.out.1]; exact hHJ.out) HKN.out]
            exact HR.out.1.below ((Below.refl _ _).alloc (Nat.le_refl _) _)
          case measure => have := hHJ.out; simp [intOf]; omega
        · rw [hky] at k1
          have HKY := Lib.hid (show keep[j]'(by rw [HK.out.2]; exact hjk) = true from by rw [List.getD_eq_getElem?_getD, List.getElem?_eq_getElem (by rw [HK.out.2]; exact hjk)] at hky; exact hky)
          clear hky
          obtain ⟨gl, v, eq, hlc, e0, e1, hro⟩ := HD.out.write (j := j) (by rw [HL.out.1]; exact hlt)
          obtain ⟨gv, cv, rfl⟩ : ∃ gv cv, v = .slice (some ⟨gv, 0, none⟩) 64 cv := by
            obtain ⟨g', c', _, e', _⟩ := hro
            exact ⟨g', c', e'⟩
          obtain ⟨hn, hp⟩ := HD.out.ok.at_ (M.loose[j]'(by rw [HL.out.1]; exact hlt)) (List.getElem_mem _)
          obtain ⟨x, hx⟩ : ∃ x, M.loose[j]'(by rw [HL.out.1]; exact hlt) = x := ⟨_, rfl⟩
          rw [hx] at e0 hro hn
          have e0' := hb_cell HR.out.2 e0
          have e1' := hb_cell HR.out.2 e1
          obtain ⟨n, hn'⟩ : ∃ n, x.1 = n := ⟨_, rfl⟩
          rw [hn'] at e0' hn
          have hlt' : (j : Int) < (L : Int) := by omega
          have hn1 : (n : Int) < (N : Int) := by omega
          have hn0 : (0 : Int) ≤ (n : Int) := by omega
          have hrow : RowOut wr X (.slice (some ⟨gv, 0, none⟩) 64 cv) x.2 := hro.keep fun b cur hf hh => ⟨HR.out.2.block b (block_lt hh), hf⟩
          have hlay := (HR.out.1.set hn hrow).below ((Below.refl _ _).alloc (Nat.le_refl _) (.cells #[.int .i64 (n : Int), .slice (some ⟨gv, 0, none⟩) 64 cv] 107))
          obtain ⟨u, d2⟩ : ∃ u, (wr.alloc (.cells #[.int .i64 (n : Int), .slice (some ⟨gv, 0, none⟩) 64 cv] 107)).cell? ⟨g1, n, none⟩ = some u := by
            obtain ⟨Vs', ho', _, _⟩ := HR.out.1.below ((Below.refl _ _).alloc (Nat.le_refl _) (.cells #[.int .i64 (n : Int), .slice (some ⟨gv, 0, none⟩) 64 cv] 107))
            have hvl : Vs'.length = N := by have := ho'.1; omega
            exact ⟨Vs'[n]'(by omega), by rw [World.ownsRow.cellAt ho' n (by omega), List.getElem?_eq_getElem]⟩
          have f2 : (wr.alloc (.cells #[.int .i64 (n : Int), .slice (some ⟨gv, 0, none⟩) 64 cv] 107)).frozen? ⟨g1, n, none⟩ = false := by
            obtain ⟨Vs', ho', _, _⟩ := HR.out.1.below ((Below.refl _ _).alloc (Nat.le_refl _) (.cells #[.int .i64 (n : Int), .slice (some ⟨gv, 0, none⟩) 64 cv] 107))
            exact World.ownsRow.frozenAt ho' n
          have hg1 : W.heap.size ≤ g1 := by
            obtain ⟨Vs', ho', _, _⟩ := HR.out.1
            exact (ho'.lt g1 rfl).1
          have HQ := Lib.hid (And.intro hlay (And.intro hx (And.intro hn' hg1)))
          have hgw : g1 < wr.heap.size := by
            obtain ⟨Vs', ho', _, _⟩ := HR.out.1
            exact (ho'.lt g1 rfl).2
          subst eq
          clear e0 e1 hro hp hx hn' hn hrow hlay hlc hg1
          go_wp2_with (fail)
          go_round
          case rel =>
            refine ⟨j + 1, by go_num, by have := hHJ.out; omega, Lib.hid ⟨?_, (HR.out.2.setCell (p := ⟨g1, n, none⟩) HQ.out.2.2.2 _).alloc (by rw [set_size]; exact HR.out.2.size) _⟩⟩
            show Laying _ W X g1 cap1 N (layM M.safe (keptTo keep M.loose (j + 1)))
            rw [keptTo_yes (by rw [HK.out.2]; exact HJK.out) (by rw [HL.out.1]; exact hHJ.out) HKY.out, HQ.out.2.1]
            have := HQ.out.1
            rw [← HQ.out.2.2.1] at this
            have e3 : layM M.safe (keptTo keep M.loose j ++ [x]) = (layM M.safe (keptTo keep M.loose j)).set x.1 x.2 := layM_snoc _ _ _ _
            rw [e3]
            first | exact this | (rw [← HQ.out.2.2.1]; exact this)
          case measure => have := hHJ.out; simp [intOf]; omega
      · have HJK := Lib.hid hjk
        have hjk' : ¬ (j : Int) < (kl : Int) := by omega
        obtain ⟨gl, v, eq, hlc, e0, e1, hro⟩ := HD.out.write (j := j) (by rw [HL.out.1]; exact hlt)
        obtain ⟨gv, cv, rfl⟩ : ∃ gv cv, v = .slice (some ⟨gv, 0, none⟩) 64 cv := by
          obtain ⟨g', c', _, e', _⟩ := hro
          exact ⟨g', c', e'⟩
        obtain ⟨hn, hp⟩ := HD.out.ok.at_ (M.loose[j]'(by rw [HL.out.1]; exact hlt)) (List.getElem_mem _)
        obtain ⟨x, hx⟩ : ∃ x, M.loose[j]'(by rw [HL.out.1]; exact hlt) = x := ⟨_, rfl⟩
        rw [hx] at e0 hro hn
        have e0' := hb_cell HR.out.2 e0
        have e1' := hb_cell HR.out.2 e1
        obtain ⟨n, hn'⟩ : ∃ n, x.1 = n := ⟨_, rfl⟩
        rw [hn'] at e0' hn
        have hlt' : (j : Int) < (L : Int) := by omega
        have hn1 : (n : Int) < (N : Int) := by omega
        have hn0 : (0 : Int) ≤ (n : Int) := by omega
        subst eq
        go_wp2_with (fail)
        go_round
        case rel =>
          refine ⟨j + 1, by go_num, by have := hHJ.out; omega, Lib.hid ⟨?_, HR.out.2.alloc HR.out.2.size _⟩⟩
          show Laying _ W X g1 cap1 N (layM M.safe (keptTo keep M.loose (j + 1)))
          rw [keptTo_past (by rw [HK.out.2]; have := HJK.out; omega)]
          exact HR.out.1.below ((Below.refl _ _).alloc (Nat.le_refl _) _)
        case measure => have := hHJ.out; simp [intOf]; omega
    · obtain rfl : j = L := by omega
      have hRw := (HR.out.2.block R hR).trans HD.out.blk
      obtain ⟨u0, d0⟩ : ∃ u, wr.cell? ⟨R, 0, none⟩ = some u := ⟨_, by rw [cell_of_row _ _ _ _ _ _ hRw]; rfl⟩
      obtain ⟨u1, d1'⟩ : ∃ u, wr.cell? ⟨R, 1, none⟩ = some u := ⟨_, by rw [cell_of_row _ _ _ _ _ _ hRw]; rfl⟩
      have f0 : wr.frozen? ⟨R, 0, none⟩ = false := frozen_of_row _ _ _ _ _ hRw
      have f1 : wr.frozen? ⟨R, 1, none⟩ = false := frozen_of_row _ _ _ _ _ hRw
      have HRW := Lib.hid hRw
      clear hRw
      go_wp2_with (fail)
      go_end0
      have hl := HR.out.1
      rw [keptTo_all (by rw [HL.out.1]; exact Nat.min_le_right _ _)] at hl
      refine ⟨rfl, HD.out.done HY.out.2.2 hl HR.out.2 ⟨(HD.out.ok.crash keep).len, (HD.out.ok.crash keep).row, fun x hx => by cases hx⟩ rfl rfl (fun k hk => (set_other k hk).trans (set_other k hk)) (set_size.trans set_size) ?_, (((Touch.of_below HR.out.2).set1 _).set1 _)⟩
      exact u_row (k := 1) (.slice none 0 0) (u_row (k := 0) (.slice (some ⟨g1, 0, none⟩) N cap1) HRW.out)
set_option maxHeartbeats 4000000 in
theorem rflush_ok (W : World) (X : Nat → Prop) (R N : Nat) (M : DM) (h : RDrum W X R N M) (hX : X R) (ht : Tame M) (ht2 : Tame M.step) (hoff : M.off = false) :
    Calls Try.prog 32 #[.pointer (some ⟨R, 0, none⟩)] W fun e W' => e = .returned (.int .i64 0) ∧ RDrum W' X R N M.flush ∧ Touch (Only R) W W' := by
  have ST := Lib.hid (rstep_ok W X R N M h hX ht hoff)
  have SD := Lib.hid (fun W1 (h : RDrum W1 X R N M.step) => rstand_all W1 X R N M.step h hX ht2)
  have E := Lib.hid (show { M.step with safe := M.step.now, loose := [] } = M.flush from by rw [M.flush_yes hoff, M.step_now])
  clear h hX ht ht2 hoff
  go_enter Try.func32, Try.ntmps32
  go_wp2_with (fail)
  refine (ST.out).mono ?_
  rintro e W1 ⟨rfl, hD, hT, hz⟩
  have HD := Lib.hid (And.intro hD hT)
  clear hD hT hz
  go_wp2_with (fail)
  refine (SD.out _ HD.out.1).mono ?_
  rintro e W2 ⟨rfl, hD, hT⟩
  have H2 := Lib.hid (And.intro hD hT)
  clear hD hT
  go_wp2_with (fail)
  go_ret
  exact ⟨rfl, by rw [← E.out]; exact H2.out.1, HD.out.2.trans H2.out.2 (fun k hk => .inl hk)⟩
set_option maxHeartbeats 4000000 in
theorem rflush_off (W : World) (X : Nat → Prop) (R N : Nat) (M : DM) (h : RDrum W X R N M) (hX : X R) (hoff : M.off = true) :
    Calls Try.prog 32 #[.pointer (some ⟨R, 0, none⟩)] W fun e W' => e = .returned (.int .i64 9) ∧ RDrum W' X R N M.flush ∧ Touch (Only R) W W' := by
  have ST := Lib.hid (rstep_off W X R N M h hX hoff)
  have E := Lib.hid (M.flush_no hoff)
  clear h hX hoff
  go_enter Try.func32, Try.ntmps32
  go_wp2_with (fail)
  refine (ST.out).mono ?_
  rintro e W1 ⟨rfl, hD, hT, hz⟩
  have HD := Lib.hid (And.intro hD hT)
  clear hD hT hz
  go_wp2_with (fail)
  go_ret
  exact ⟨rfl, by rw [E.out]; exact HD.out.1, HD.out.2⟩
set_option maxHeartbeats 4000000 in
theorem rcrash_any (W : World) (X : Nat → Prop) (R N : Nat) (M : DM) (h : RDrum W X R N M) (hX : X R) (ht : Tame M) (p : Option Addr) (keep : List Bool) (cap : Nat) (hk : HoldsT W p keep) (hkb : keep.length ≤ 140737488351232) :
    Calls Try.prog 34 #[.pointer (some ⟨R, 0, none⟩), .slice p keep.length cap] W fun e W' => e = .returned (.tuple #[]) ∧ RDrum W' X R N (M.crash keep) ∧ Touch (Only R) W W' := by
  have SD := Lib.hid (rstand_keep W X R N M h hX ht p keep cap hk hkb)
  have HX := Lib.hid hX
  clear h hX ht hk
  go_enter Try.func34, Try.ntmps34
  go_wp2_with (fail)
  refine (SD.out).mono ?_
  rintro e W1 ⟨rfl, hD, hT⟩
  obtain ⟨s, q, cS, cL, Vs, Ws, hd⟩ := hD
  obtain ⟨_, _, _, c3, c4, fr⟩ := hd.cells
  have f3 := fr 3
  have f4 := fr 4
  have HD := Lib.hid (And.intro hd hT)
  clear hd hT fr
  go_wp2_with (fail)
  go_end0
  refine ⟨rfl, ⟨s, q, cS, cL, Vs, Ws, HD.out.1.after HX.out rfl rfl (fun k hk => (set_other k hk).trans (set_other k hk)) (set_size.trans set_size) ?_⟩, ((HD.out.2.set1 _).set1 _)⟩
  exact u_row (k := 4) (.bool false) (u_row (k := 3) (.int .i64 (-1)) HD.out.1.blk)
end Go.Proofs.Ytlkffignbjpfcaa
