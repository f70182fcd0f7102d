/- Proved here: the statement TapeLasts, walked: it answers true of every script, every choice of what is kept, and all bytes that were there, in every world. -/
import Derived.Test.YtggchfmglaijgaaTapeAwake
import Derived.Test.YtggchfmglaijgaaTapeLastK
namespace Go.Proofs.Ytggchfmglaijgaa
open Go.RowKit

def sliceLen : Value → Nat
  | .slice _ n _ => n
  | _ => 0
theorem row64_own {W : World} {B g c : Nat} {l : List UInt8} (h : Owns W B g c (ofL l)) (hl : l.length = 64) : W.ownsRow 0 5 1 (.slice (some ⟨g, 0, none⟩) 64 c) (ofL l).size (bytesV (ofL l)) := by
  have h0 := h.1
  rw [ofL_size, hl] at h0 ⊢
  rcases h0.2 with ⟨e, _⟩ | ⟨g', cap', cur', e, _, h1, h2⟩
  · cases e
  · exact ⟨h0.1, .inr ⟨g', cap', cur', e, Nat.zero_le _, h1, h2⟩⟩
theorem placesL_len : ∀ (gs : List (List UInt8)), gs.length ≤ placesL gs
  | [] => Nat.le_refl _
  | l :: r => by
    have := placesL_len r
    have := countS_pos l.length
    rw [placesL, List.length_cons]; omega
theorem step_bounds (M : DM) : M.step.steps ≤ M.steps + 1 ∧ M.step.loose.length = M.loose.length ∧ M.step.fuse.getD 0 ≤ M.fuse.getD 0 := by
  refine ⟨?_, by rw [M.step_loose], ?_⟩
  · cases ho : M.off with
    | true => rw [M.step_no ho]; exact Nat.le_succ _
    | false => rw [M.step_steps ho]; exact Nat.le_refl _
  · cases ho : M.off with
    | true => rw [M.step_no ho]; exact Nat.le_refl _
    | false =>
      rw [M.step_fuse ho]
      cases M.fuse with
      | none => exact Nat.le_refl _
      | some k => exact Nat.sub_le k 1
structure Behind (wB W W' : World) (F F' : Nat → Prop) (G N t : Nat) (M : DM) (row : Array Value) : Prop where
  d : DW wB W' F' G N M
  tp : W'.heap[t]? = some (.cells row 118 (0, 0))
  ft : ¬ F' t
  tt : Touch (WithT F t) W W'
  gr : ∀ j, F' j → Grow F W W' j
set_option maxRecDepth 100000 in
set_option maxHeartbeats 32000000 in
theorem tapeLasts_any (p0 : Option Addr) (ops : List OpT) (c0 : Nat) (kp : Option Addr) (keep : List Bool) (kc : Nat) (p2 : Option Addr) (old : ByteArray) (c2 : Nat) (w : World)
    (hl0 : ops.length ≤ 140737488351232) (hp0 : HoldsOpsT w p0 ops) (hk : HoldsT w kp keep) (hk9 : keep.length ≤ 140737488351232) (hkn : kp = none → kc = 0) (ho : HoldsB w p2 old) (ho9 : old.size ≤ 140737488351232) (hoc : old.size ≤ c2) :
    Calls Try.prog 7 #[.slice p0 ops.length c0, .slice kp keep.length kc, .slice p2 old.size c2] w fun e w' => e = .returned (.bool true) ∧ Below w.heap.size w w' := by
  have AW := Lib.hid (awake14_any w)
  have HP := Lib.hid (And.intro hl0 (And.intro hp0 (And.intro hk (And.intro hk9 (And.intro hkn (And.intro ho (And.intro ho9 hoc)))))))
  obtain ⟨N, hN⟩ : ∃ N, ops.length = N := ⟨_, rfl⟩
  obtain ⟨n2, hn2⟩ : ∃ n2, old.size = n2 := ⟨_, rfl⟩
  have HN := Lib.hid (And.intro hN hn2)
  rw [hN] at hl0 ⊢
  rw [hn2]
  have hN9 : (N : Int) ≤ 140737488351232 := by omega
  clear hl0 hp0 hk hk9 hkn ho ho9 hoc hN hn2
  go_enter Try.func7, Try.ntmps7
  go_wp2_with (fail)
  with_reducible (refine AW.out.mono ?_)
  rintro e W0 ⟨rfl, hb⟩
  have B0 := Lib.hid hb
  have SE : Calls Try.prog 20 #[.slice p2 n2 c2, .int .i64 40] W0 _ := sectors14_any p2 old n2 c2 40 W0 HN.out.2 (by have := HP.out.2.2.2.2.2.2.1; have := HN.out.2; omega) (by have := HP.out.2.2.2.2.2.2.2; have := HN.out.2; omega) (HP.out.2.2.2.2.2.1.below hb) (by decide)
  have hT : (sectorsP (bl old) 40).length ≤ 40 := by unfold sectorsP; rw [List.length_map, List.length_range]; omega
  have h64 : ∀ x ∈ sectorsP (bl old) 40, x.length = 64 := fun x hx => by
    unfold sectorsP at hx
    obtain ⟨i, _, rfl⟩ := List.mem_map.1 hx
    exact partS_length _ _
  generalize sectorsP (bl old) 40 = A0 at *
  have HSE := Lib.hid SE
  have HA0 := Lib.hid (And.intro hT h64)
  clear hb AW SE hT h64
  go_wp2_with (fail)
  with_reducible (refine HSE.out.mono ?_)
  rintro e W1 ⟨q1, k1, rfl, gi1, b1⟩
  have H1 := Lib.hid (And.intro gi1 b1)
  clear gi1 b1 HSE
  go_wp2_with (fail)
  go_loopw [7] (fun v wr => ∃ (L : List (List UInt8)) (q : Option Addr) (m k : Nat), v = .slice q m k ∧ m = L.length ∧ m ≤ 40 ∧ Hid (GroupsIn wr (Since W0) (.slice q m k) (L.map ofL) ∧ Below W0.heap.size W0 wr ∧ ∀ x ∈ L, x.length = 64)) (fun v _ => 40 - sliceLen v)
  case atStart => exact ⟨A0, q1, A0.length, k1, rfl, rfl, HA0.out.1, Lib.hid ⟨H1.out.1, H1.out.2, HA0.out.2⟩⟩
  case round =>
    obtain ⟨L, q, m, k, rfl, hm, hm40, HR⟩ := hrel
    clear H1
    by_cases hlt : m < 40
    · have hltI : (m : Int) < 40 := by omega
      obtain ⟨w3, hmk, ho3, hb3⟩ := make_full wr 64 (by decide)
      have hmk' : (Instr.makeSlice 33 (.int .i64 64) (.int .i64 64)).run Try.prog wr = .ok (.slice (some ⟨wr.heap.size, 0, none⟩) 64 64) w3 := hmk
      obtain ⟨U, hU⟩ : ∃ U, w3.alloc (.cells #[.slice (some ⟨wr.heap.size, 0, none⟩) 64 64] 33) = U := ⟨_, rfl⟩
      have bU : Below w3.heap.size w3 U := by rw [← hU]; exact (Below.refl _ _).alloc (Nat.le_refl _) _
      have nU : U.heap[w3.heap.size]? = some (.cells #[.slice (some ⟨wr.heap.size, 0, none⟩) 64 64] 33 (0, 0)) := by rw [← hU]; exact heap_alloc_new _ _
      have oU := row64_own (l := zL 64) (ho3.far bU) rfl
      have hll : (L.map ofL).length = m := by rw [List.length_map, hm]
      obtain ⟨q', c', W5, hrun, gin, hgrow, hgY⟩ := ((HR.out.1.far hb3).far bU).push oU (by rw [cell_of_row _ _ _ _ _ _ nU]; rfl) (by rw [hll]; omega)
      rw [hll] at hrun gin
      have hbb := (HR.out.2.1.trans (hb3.mono HR.out.2.1.size)).trans (bU.mono (HR.out.2.1.trans (hb3.mono HR.out.2.1.size)).size)
      have hb5 : Below W0.heap.size W0 W5 := hbb.grown hgrow hbb.size (fun k hk => hgY k hk)
      have gin2 := gin.mono (Y' := Since W0) (fun k hk => by
        rcases hk with h | h | h
        · exact h
        · have e : wr.heap.size = k := by injection h
          have := HR.out.2.1.size
          show W0.heap.size ≤ k
          omega
        · have := hbb.size
          show W0.heap.size ≤ k
          omega)
      rw [show L.map ofL ++ [ofL (zL 64)] = (L ++ [zL 64]).map ofL by rw [List.map_append]; rfl] at gin2
      have HN5 := Lib.hid (show GroupsIn W5 (Since W0) (.slice q' (m + 1) c') ((L ++ [zL 64]).map ofL) ∧ Below W0.heap.size W0 W5 ∧ ∀ x ∈ L ++ [zL 64], x.length = 64 from ⟨gin2, hb5, fun x hx => by
        rcases List.mem_append.1 hx with h | h
        · exact HR.out.2.2 x h
        · rw [List.mem_singleton.1 h]; rfl⟩)
      have HM := Lib.hid (And.intro hm hlt)
      have HRUN := Lib.hid hrun
      have HU := Lib.hid hU
      clear hU bU nU oU hll hrun gin hgrow hgY hbb hb5 gin2 ho3 hb3 hmk hm hlt hm40
      go_wp2_with (at_builtin; refine wpList_append_eq rfl (.tmp 27) (.tmp 29) 28 rfl _ _ _ _ rfl rfl (by rw [HU.out]; exact HRUN.out) ?_)
      go_roundw
      case rel => exact ⟨L ++ [zL 64], q', m + 1, c', rfl, by rw [List.length_append, ← HM.out.1]; rfl, by have := HM.out.2; omega, HN5⟩
      case measure => have := HM.out.2; show 40 - (m + 1) < 40 - m; omega
    · have hm4 : m = 40 := by omega
      subst hm4
      obtain ⟨WB, rfl⟩ : ∃ WB, WB = wr := ⟨wr, rfl⟩
      have hLL : (L.map ofL).length = 40 := by rw [List.length_map, ← hm]
      have FI := filled14_any q (L.map ofL) 40 k (Since W0) WB hLL (by decide) (by decide) HR.out.1 (fun s hs => by
        obtain ⟨x, hx, rfl⟩ := List.mem_map.1 hs
        rw [ofL_size]; exact HR.out.2.2 x hx)
      have HFI := Lib.hid FI
      have HLL := Lib.hid (And.intro hLL hm)
      clear FI hLL hm hm40 hlt
      go_wp2_with (fail)
      with_reducible (refine HFI.out.mono ?_)
      rintro e W2 ⟨G, F, M, rfl, d2, st2, s2, l2, n2'⟩
      rw [HLL.out.1] at d2 s2 l2
      have DF := dflush_ok d2 ⟨by omega, by rw [st2.fuse]; exact Nat.zero_le _, by omega⟩ st2.off
      have HDF := Lib.hid DF
      have H2 := Lib.hid (And.intro st2 (And.intro s2 (And.intro l2 (And.intro n2' d2.below))))
      clear d2 st2 s2 l2 n2' DF HFI
      go_wp2_with (fail)
      with_reducible (refine HDF.out.mono ?_)
      rintro e W3 ⟨rfl, d3, t3⟩
      have H3z := Lib.hid d3.below.size
      have sf := still_flush H2.out.1
      have OP := open_ok d3 sf.1 (by rw [sf.2.1]; have := H2.out.2.1; omega) (by rw [sf.2.2.1]; exact Nat.zero_le _) 2 40 7 (by decide) (by decide) (by decide) (by decide) (by decide)
      obtain ⟨Rf, hRf⟩ : ∃ Rf, readsM 7 newR (logOf M.flush 2 (40 - 2)) = Rf := ⟨_, rfl⟩
      rw [hRf] at OP
      have HRF := Lib.hid hRf
      have HSF := Lib.hid sf
      have HOP := Lib.hid OP
      clear sf OP hRf d3 t3 HDF
      go_wp2_with (fail)
      refine HOP.out.mono ?_
      rintro e W4 ⟨t, gv, jo, Y, rfl, hj, d4, t4, n4, wt4, ft4, gin4, hY4⟩
      obtain ⟨VsG, gG, -⟩ := gin4
      obtain ⟨ga, gc, rfl, -⟩ := owns_form gG
      have g4 := HR.out.1.far d4.below
      have H4 := Lib.hid (And.intro hj (And.intro d4 (And.intro n4 (And.intro wt4 (And.intro ft4 g4)))))
      clear hj d4 t4 n4 wt4 ft4 hY4 gG g4 HOP
      go_wp2_with (fail)
      go_loop [54] (fun x => ∃ i : Nat, x = .int .i64 (i : Int) ∧ i ≤ 40 ∧ Hid (∀ j (h : j < L.length), j < i → genL L[j] ≠ 7)) (fun x => 40 - (intOf x).toNat)
      case atStart => exact ⟨0, rfl, Nat.zero_le _, Lib.hid (fun j h h0 => absurd h0 (Nat.not_lt_zero j))⟩
      case round =>
        obtain ⟨i, rfl, hi, HW⟩ := hrel
        by_cases hlt : i < 40
        · have hltI : (i : Int) < 40 := by omega
          have hi0 : (0 : Int) ≤ (i : Int) := by omega
          obtain ⟨Vs, a1, -, a3⟩ := H4.out.2.2.2.2.2
          have hiL : i < L.length := by have := HLL.out.2; omega
          obtain ⟨v, b1, b2, -⟩ := a3 i (by rw [List.length_map]; exact hiL)
          rw [HLL.out.1] at a1
          obtain ⟨g, cap, hq, -, -⟩ := a1.form (by decide)
          injection hq with hq1 hq2 hq3
          subst hq1 hq3
          have hcell := a1.cellAt i (by omega)
          rw [b1] at hcell
          have e64 : ((L.map ofL)[i]'(by rw [List.length_map]; exact hiL)) = ofL L[i] := List.getElem_map ..
          rw [e64, ofL_size, HR.out.2.2 L[i] (List.getElem_mem hiL)] at b2
          have hrow64 := HR.out.2.2 L[i] (List.getElem_mem hiL)
          have HWI := Lib.hid (show ∃ h : i < L.length, True from ⟨hiL, trivial⟩)
          rcases b2.2 with ⟨-, e0⟩ | ⟨gr, cp, cur, rfl, -, -, hcp, -⟩
          · cases e0
          · have hB : HoldsB W4 (some ⟨gr, 0, none⟩) (ofL L[i]) := fun _ => ⟨gr, 0, rfl, fun j hj => by
              rw [ofL_size, hrow64] at hj
              rw [Nat.zero_add, b2.cellAt j (by omega), bytesV_get _ _ (by rw [ofL_size, hrow64]; exact hj)]⟩
            have VA := value_any (some ⟨gr, 0 + 4, none⟩) ((ofL L[i]).extract 4 8) 4 (cp - 4) W4 (ext_size _ _ _ (by rw [ofL_size, hrow64]; decide)) (by decide) (hB.part 4 8 (by rw [ofL_size, hrow64]; decide))
            rw [bl_extract, bl_ofL] at VA
            have eg : valN ((L[i].drop 4).take (8 - 4)) = genL L[i] := rfl
            rw [eg] at VA
            obtain ⟨gn, hgn⟩ : ∃ gn, genL L[i] = gn := ⟨_, rfl⟩
            rw [hgn] at VA
            have HVA := Lib.hid VA
            have HGN := Lib.hid (show ∀ h : i < L.length, genL (L[i]'h) = gn from fun _ => hgn)
            have hcpI : (64 : Int) ≤ (cp : Int) := by omega
            have hcp4 : ¬ cp = 4 := by omega
            have HL := Lib.hid hlt
            clear VA eg hgn hB b1 b2 a1 a3 e64 hrow64 hcp hlt hi hiL
            go_wp2_with (fail)
            all_goals try (exfalso; omega; done)
            with_reducible (refine HVA.out.mono ?_)
            rintro e W' ⟨rfl, rfl⟩
            by_cases h7 : gn = 7
            · subst h7
              have HB4 := Lib.hid (B0.out.trans (HR.out.2.1.mono B0.out.size))
              have HBe := Lib.hid (HB4.out.trans (H4.out.2.1.below.mono HB4.out.size))
              go_wp2_with (fail)
              all_goals try (exfalso; omega; done)
              go_ret
              exact ⟨rfl, HBe.out⟩
            · have t7 : ((gn : Int) == 7) = false := by rw [beq_eq_false_iff_ne]; omega
              have H7 := Lib.hid h7
              clear h7
              go_wp2_with (fail)
              all_goals try (exfalso; omega; done)
              go_round
              case rel => exact ⟨i + 1, by go_num, by have := HL.out; omega, Lib.hid (fun j h hj => by
                by_cases e : j = i
                · subst e
                  rw [HGN.out h]; exact H7.out
                · exact HW.out j h (by omega))⟩
              case measure => simp [intOf]; have := HL.out; omega
        · obtain rfl : i = 40 := by omega
          have hall : ∀ p, p ∈ M.flush.now → genL (bl p) ≠ 7 := fun p hp => by
            rw [HSF.out.2.2.2.2, H2.out.2.2.2.1] at hp
            obtain ⟨x, hx, rfl⟩ := List.mem_map.1 hp
            obtain ⟨j, hj, rfl⟩ := List.getElem_of_mem hx
            rw [bl_ofL]
            exact HW.out j hj (by have := HLL.out.2; omega)
          have hRn : Rf = newR := by
            rw [← HRF.out]
            have hnl : M.flush.now.length = 40 := H4.out.2.1.drum.ok.nowLen
            have hd := logOf_drop M.flush 40 2 (40 - 2) 0 hnl (by decide) (by decide)
            rw [List.drop_zero] at hd
            rw [hd]
            refine reads_stop (fit_gen (by decide) (hall _ ?_)) _
            rw [List.getD_eq_getElem?_getD, List.getElem?_eq_getElem (by omega), Option.getD_some]
            exact List.getElem_mem _
          subst hRn
          have ms : MainSt WB W4 F G t (M.flush.bump jo) [] 0 0 none 0 0 := ⟨H4.out.2.1, ⟨fun j h => absurd h (Nat.not_lt_zero j), fun j p _ hp => hall p (List.mem_of_getElem? hp), fun j p hp => .inl (by
              have e1 : (M.flush.bump jo).safe = M.flush.now := HSF.out.2.2.2.1.trans HSF.out.2.2.2.2.symm
              rw [e1] at hp
              exact hp), by rw [show (M.flush.bump jo).loose = M.flush.loose from rfl, HSF.out.2.2.1]; exact fun x hx => (by cases hx), by decide, Nat.le_refl _⟩, H4.out.2.2.1, H4.out.2.2.2.2.1, Nat.le_trans H3z.out H4.out.2.2.2.1,
            ⟨⟨[], World.ownsRow_nil _ _ _ _, fun k hk => (by cases hk), fun i hi => absurd hi (Nat.not_lt_zero i)⟩, fun k hk => (by cases hk), rfl⟩, Nat.le_refl _,
            by show M.flush.steps + _ ≤ _; rw [HSF.out.2.1]; have := H2.out.2.1; have := H4.out.1; omega, by show M.flush.loose.length ≤ _; rw [HSF.out.2.2.1]; exact Nat.le_refl _, by rw [(HSF.out.1.bump jo).fuse]; exact Nat.zero_le _⟩
          have MS := Lib.hid ms
          have hbB : Below w.heap.size w WB := B0.out.trans (HR.out.2.1.mono B0.out.size)
          have HBB := Lib.hid (And.intro hbB (And.intro (HP.out.2.1.below hbB) (And.intro (HP.out.2.2.1.below hbB) (And.intro HP.out.2.2.2.1 HP.out.2.2.2.2.1))))
          clear ms hbB hall HW H4 HSF HRF H2 HLL HR H3z
          rw [show newR.groups.length = 0 from rfl]
          go_wp2_with (fail)
          all_goals try (exfalso; omega; done)
          go_loopw [14, 15, 68] (fun v14 v15 x wr => ∃ (i : Nat) (F' : Nat → Prop) (M' : DM) (gs : List (List UInt8)) (safe : Nat) (q : Option Addr) (m c : Nat), x = .int .i64 (i : Int) ∧ v15 = .int .i64 (safe : Int) ∧ v14 = .slice q m c ∧ i ≤ N ∧ i ≤ 100 ∧ Hid (MainSt WB wr F' G t M' gs safe i q m c)) (fun _ _ x _ => N - (intOf x).toNat)
          case atStart => exact ⟨0, F, _, [], 0, none, 0, 0, rfl, rfl, rfl, Nat.zero_le _, by decide, MS⟩
          case round =>
            obtain ⟨i, F', M', gs, safe, qp, mp, cp, rfl, rfl, rfl, hi, hi9, HM⟩ := hrel
            clear MS
            have hi0 : (0 : Int) ≤ (i : Int) := by omega
            by_cases hlt : i < N
            · have hltI : (i : Int) < (N : Int) := by omega
              obtain ⟨b, off, rfl, hops⟩ := HBB.out.2.1 (by rw [HN.out.1]; omega)
              obtain ⟨pa, pc, e1, e2, e3, e4, e5, e6, e7, e8, e9⟩ := hops i (by rw [HN.out.1]; exact hlt)
              generalize (ops[i]'(by rw [HN.out.1]; exact hlt)) = x at *
              obtain ⟨kind, n, s⟩ := x
              simp only at e1 e2 e3 e4 e7 e8 e9
              have hbw := HM.out.d.below
              have x1 := hb_cell hbw e1
              have x2 := hb_cell hbw e2
              have x3 := hb_cell hbw e3
              obtain ⟨sn, hsn⟩ : ∃ sn, s.size = sn := ⟨_, rfl⟩
              rw [hsn] at x3
              have HX := Lib.hid (And.intro e4 (And.intro e5 (And.intro e6 (And.intro e7 (And.intro e8 (And.intro e9 hsn))))))
              have HL := Lib.hid (And.intro hlt hi9)
              obtain ⟨W5, hW5⟩ : ∃ W5, wr.alloc (.cells #[.int .i64 kind, .int .i64 n, .slice pa sn pc] 60) = W5 := ⟨_, rfl⟩
              have n5 : W5.heap[wr.heap.size]? = some (.cells #[.int .i64 kind, .int .i64 n, .slice pa sn pc] 60 (0, 0)) := by rw [← hW5]; exact heap_alloc_new _ _
              have b5 : Below wr.heap.size wr W5 := by rw [← hW5]; exact (Below.refl _ _).alloc (Nat.le_refl _) _
              have H5 := Lib.hid (And.intro n5 (HM.out.far b5))
              have H5b := Lib.hid b5
              have HW5 := Lib.hid hW5
              have hnF5 := Lib.hid (show ¬ F' wr.heap.size from fun f => by have := HM.out.d.drum.lt _ f; omega)
              have u0 : W5.cell? ⟨wr.heap.size, 0, none⟩ = some (.int .i64 kind) := by rw [cell_of_row _ _ _ _ _ _ n5]; rfl
              have u1 : W5.cell? ⟨wr.heap.size, 1, none⟩ = some (.int .i64 n) := by rw [cell_of_row _ _ _ _ _ _ n5]; rfl
              have u2 : W5.cell? ⟨wr.heap.size, 2, none⟩ = some (.slice pa sn pc) := by rw [cell_of_row _ _ _ _ _ _ n5]; rfl
              clear e1 e2 e3 e4 e5 e6 e7 e8 e9 hsn hops hbw n5 b5 hlt hi hi9
              by_cases h100 : 100 ≤ i
              · have h100I : (100 : Int) ≤ (i : Int) := by omega
                have LK := H5.out.2.look HL.out.2 kp keep kc HBB.out.2.2.1 HBB.out.2.2.2.1 HBB.out.2.2.2.2
                have HLK := Lib.hid LK
                clear LK
                go_wp2_with (fail)
                all_goals try (exfalso; omega; done)
                with_reducible (refine HLK.out.mono ?_)
                rintro e WF ⟨rfl, bF⟩
                have HBF := Lib.hid (HBB.out.1.trans (bF.mono HBB.out.1.size))
                clear bF
                go_wp2_with (fail)
                go_ret
                exact ⟨rfl, HBF.out⟩
              · have h100I : ¬ (100 : Int) ≤ (i : Int) := by omega
                have H100 := Lib.hid h100
                clear h100
                by_cases hk0 : kind = 0
                · subst hk0
                  have TW := twin_any pa s pc W5 (by have := HX.out.2.2.2.1; omega) ((HX.out.1.below HM.out.d.below).below H5b.out) HX.out.2.1
                  rw [HX.out.2.2.2.2.2.2] at TW
                  have HTW := Lib.hid TW
                  clear TW
                  go_wp2_with (fail)
                  all_goals try (exfalso; omega; done)
                  with_reducible (refine HTW.out.mono ?_)
                  rintro e W6 ⟨g6, c6, rfl, o6, b6⟩
                  rw [HX.out.2.2.2.2.2.2]
                  have m6 := H5.out.2.far b6
                  have n6 : W6.heap[wr.heap.size]? = some (.cells #[.int .i64 0, .int .i64 n, .slice pa sn pc] 60 (0, 0)) := (b6.block _ (obj_lt H5.out.1)).trans H5.out.1
                  have H6 := Lib.hid m6
                  have H6n := Lib.hid n6
                  have hbl : (bl s).length = sn := by rw [bl_length, HX.out.2.2.2.2.2.2]
                  have HBL := Lib.hid hbl
                  by_cases hfit : placesL gs + countS sn ≤ 38
                  · have hg6 : wr.heap.size < g6 := by have := o6.2.1; have := obj_lt H5.out.1; omega
                    have ai : AppIn WB W6 F' G 40 M' t 2 40 7 gs.length (placesL gs) (some ⟨g6, 0, none⟩) sn c6 s := ⟨m6.d, by have := m6.st; have := HL.out.2; omega, by have := m6.lo; have := HL.out.2; omega, m6.fu, m6.tp, m6.ft, m6.wt, by decide, by decide, by decide, by have := placesL_len gs; omega, HX.out.2.2.2.2.2.2, by have := countS_le sn; omega, by have := o6.2.2.2; rw [HX.out.2.2.2.2.2.2] at this; exact this, o6.holds, (fun e => by cases e), (fun a e => by cases e; exact ⟨fun f => absurd (HM.out.d.drum.lt _ f) (by show ¬ g6 < wr.heap.size; omega), o6.2.2.1⟩), by omega⟩
                    have HAP := Lib.hid (append_any ai)
                    have HFIT := Lib.hid hfit
                    clear ai m6 n6 o6 b6 hbl hfit hg6 HTW
                    go_wp2_with (fail)
                    all_goals try (exfalso; omega; done)
                    with_reducible (refine HAP.out.mono ?_)
                    rintro e W7 ⟨F7, k7, hk7, on7, ft7, tt7, gr7, ⟨rfl, rfl, d7, n7⟩ | ⟨hlt7, off7, rfl, d7, n7⟩⟩
                    · have H7 := Lib.hid (Behind.mk d7 n7 ft7 tt7 gr7)
                      have HON := Lib.hid on7
                      clear on7 ft7 tt7 gr7 d7 n7 hk7 HAP
                      -- the op's block stands
                      have hopn : W7.heap[wr.heap.size]? = some (.cells #[.int .i64 0, .int .i64 n, .slice pa sn pc] 60 (0, 0)) := (H7.out.tt.block _ (obj_lt H6n.out) (fun f => by
                        rcases f with f | f
                        · exact hnF5.out f
                        · have := obj_lt HM.out.tp; omega)).trans H6n.out
                      have v2 : W7.cell? ⟨wr.heap.size, 2, none⟩ = some (.slice pa sn pc) := by rw [cell_of_row _ _ _ _ _ _ hopn]; rfl
                      have pp7 := H6.out.p.touch H7.out.tt H7.out.gr
                      obtain ⟨U, hU⟩ : ∃ U, W7.alloc (.cells #[.slice pa sn pc] 33) = U := ⟨_, rfl⟩
                      have bU : Below W7.heap.size W7 U := by rw [← hU]; exact (Below.refl _ _).alloc (Nat.le_refl _) _
                      have nU : U.heap[W7.heap.size]? = some (.cells #[.slice pa sn pc] 33 (0, 0)) := by rw [← hU]; exact heap_alloc_new _ _
                      obtain ⟨q', c', W8, hrun, pp8, hgrow, hpb⟩ := (pp7.far bU).push (s := s) (pa := pa) (pc := pc) (b := W7.heap.size) HX.out.1 (by rw [cell_of_row _ _ _ _ _ _ nU, HX.out.2.2.2.2.2.2]; rfl) (by have := H6.out.room; have := placesL_len gs; omega) (Nat.lt_of_lt_of_le (obj_lt H7.out.tp) bU.size) (fun k hk => Nat.lt_of_lt_of_le (H7.out.d.drum.lt k hk) bU.size) (Nat.le_trans H7.out.d.below.size bU.size)
                      have tb : Touch (fun k => (Value.slice qp mp cp).ownBlock = some k) W7 W8 := (Touch.of_below (F := fun k => (Value.slice qp mp cp).ownBlock = some k) bU).grown hgrow (fun k e => .inl e)
                      have d8 := H7.out.d.past tb (fun k hk => ⟨(hpb k hk).1, (hpb k hk).2.2⟩)
                      have tp8 := (tb.block t (obj_lt H7.out.tp) (fun e => (hpb t e).2.1 rfl)).trans H7.out.tp
                      have H8 := Lib.hid (And.intro d8 (And.intro tp8 pp8))
                      have HRUN := Lib.hid hrun
                      have HU := Lib.hid hU
                      clear hopn pp7 hU bU nU hrun pp8 hgrow hpb tb d8 tp8
                      go_wp2_with (at_builtin; refine wpList_append_eq rfl (.tmp 86) (.tmp 89) 28 rfl _ _ _ _ rfl rfl (by rw [HU.out]; exact HRUN.out) ?_)
                      all_goals try (exfalso; omega; done)
                      have HNX := Lib.hid (H6.out.more (bl s) (by rw [HBL.out]; exact HFIT.out) (by rw [HBL.out]; exact HON.out) (by rw [HBL.out]; exact H8.out.1) (by rw [HBL.out]; exact H8.out.2.1) H7.out.ft H8.out.2.2)
                      go_roundw
                      case rel => exact ⟨i + 1, F7, _, gs ++ [bl s], safe, q', mp + 1, c', by go_num, rfl, rfl, by have := HL.out; omega, by have := H100.out; omega, HNX⟩
                      case measure => simp [intOf]; have := HL.out; omega
                    · have H7 := Lib.hid (Behind.mk d7 n7 ft7 tt7 gr7)
                      have HON := Lib.hid (And.intro on7 hlt7)
                      clear on7 ft7 tt7 gr7 d7 n7 hk7 hlt7 off7 HAP
                      -- the op's block stands
                      have hopn : W7.heap[wr.heap.size]? = some (.cells #[.int .i64 0, .int .i64 n, .slice pa sn pc] 60 (0, 0)) := (H7.out.tt.block _ (obj_lt H6n.out) (fun f => by
                        rcases f with f | f
                        · exact hnF5.out f
                        · have := obj_lt HM.out.tp; omega)).trans H6n.out
                      have v2 : W7.cell? ⟨wr.heap.size, 2, none⟩ = some (.slice pa sn pc) := by rw [cell_of_row _ _ _ _ _ _ hopn]; rfl
                      have pp7 := H6.out.p.touch H7.out.tt H7.out.gr
                      obtain ⟨U, hU⟩ : ∃ U, W7.alloc (.cells #[.slice pa sn pc] 33) = U := ⟨_, rfl⟩
                      have bU : Below W7.heap.size W7 U := by rw [← hU]; exact (Below.refl _ _).alloc (Nat.le_refl _) _
                      have nU : U.heap[W7.heap.size]? = some (.cells #[.slice pa sn pc] 33 (0, 0)) := by rw [← hU]; exact heap_alloc_new _ _
                      obtain ⟨q', c', W8, hrun, pp8, hgrow, hpb⟩ := (pp7.far bU).push (s := s) (pa := pa) (pc := pc) (b := W7.heap.size) HX.out.1 (by rw [cell_of_row _ _ _ _ _ _ nU, HX.out.2.2.2.2.2.2]; rfl) (by have := H6.out.room; have := placesL_len gs; omega) (Nat.lt_of_lt_of_le (obj_lt H7.out.tp) bU.size) (fun k hk => Nat.lt_of_lt_of_le (H7.out.d.drum.lt k hk) bU.size) (Nat.le_trans H7.out.d.below.size bU.size)
                      have tb : Touch (fun k => (Value.slice qp mp cp).ownBlock = some k) W7 W8 := (Touch.of_below (F := fun k => (Value.slice qp mp cp).ownBlock = some k) bU).grown hgrow (fun k e => .inl e)
                      have d8 := H7.out.d.past tb (fun k hk => ⟨(hpb k hk).1, (hpb k hk).2.2⟩)
                      have tp8 := (tb.block t (obj_lt H7.out.tp) (fun e => (hpb t e).2.1 rfl)).trans H7.out.tp
                      have H8 := Lib.hid (And.intro d8 (And.intro tp8 pp8))
                      have HRUN := Lib.hid hrun
                      have HU := Lib.hid hU
                      clear hopn pp7 hU bU nU hrun pp8 hgrow hpb tb d8 tp8
                      go_wp2_with (at_builtin; refine wpList_append_eq rfl (.tmp 86) (.tmp 89) 28 rfl _ _ _ _ rfl rfl (by rw [HU.out]; exact HRUN.out) ?_)
                      all_goals try (exfalso; omega; done)
                      have hbd := laid_bounds M' 2 (placesL gs) 7 gs.length (countS sn) (bl s) k7
                      have hst := step_bounds (laidM M' 2 (placesL gs) 7 gs.length (countS sn) (bl s) k7)
                      have hpl : placesL (gs ++ [bl s]) = placesL gs + countS sn := by rw [placesL_append, placesL, placesL, HBL.out]; rfl
                      have inv := H6.out.laid (bl s) (by rw [HBL.out]; exact HFIT.out) k7 (by rw [HBL.out]; exact Nat.le_of_lt HON.out.2) (by rw [HBL.out]; exact HON.out.1)
                      rw [HBL.out] at inv
                      have LK := lasted_main (m0 := placesL gs + k7) H8.out.1 inv.step (by rw [hpl]; have := HON.out.2; omega) (by rw [hpl]; exact HFIT.out) (by rw [List.length_append]; exact Nat.le_succ_of_le H6.out.sf) H8.out.2.2 (by have := H6.out.st; have := HL.out; have := HON.out.2; have := HFIT.out; omega) (by have := H6.out.lo; have := HL.out; have := HON.out.2; have := HFIT.out; omega) (by have := H6.out.fu; omega) kp keep kc HBB.out.2.2.1 HBB.out.2.2.2.1 HBB.out.2.2.2.2
                      have HLK := Lib.hid LK
                      clear LK hbd hst hpl inv
                      with_reducible (refine HLK.out.mono ?_)
                      rintro e WF ⟨rfl, bF⟩
                      have HBF := Lib.hid (HBB.out.1.trans (bF.mono HBB.out.1.size))
                      clear bF
                      go_wp2_with (fail)
                      go_ret
                      exact ⟨rfl, HBF.out⟩
                  · have AF := append_full W6 t G 2 40 7 gs.length (placesL gs) m6.tp (by decide) (by have := m6.room; omega) (some ⟨g6, 0, none⟩) sn c6 (by have := HX.out.2.2.2.1; have := HX.out.2.2.2.2.2.2; omega) (by have := m6.room; omega)
                    have HAF := Lib.hid AF
                    clear AF m6 n6 o6 b6 hbl hfit HTW
                    go_wp2_with (fail)
                    all_goals try (exfalso; omega; done)
                    with_reducible (refine HAF.out.mono ?_)
                    rintro e W7 ⟨rfl, m7, rfl⟩
                    have HNX := Lib.hid ((H6.out.far (below_drewN (Below.refl W6.heap.size W6) m7)).later)
                    go_wp2_with (fail)
                    all_goals try (exfalso; omega; done)
                    go_roundw
                    case rel => exact ⟨i + 1, F', _, gs, safe, qp, mp, cp, by go_num, rfl, rfl, by have := HL.out; omega, by have := H100.out; omega, HNX⟩
                    case measure => simp [intOf]; have := HL.out; omega
                · by_cases hk1 : kind = 1
                  · subst hk1
                    have tm : Tame M' := ⟨by have := HM.out.st; have := HL.out; omega, HM.out.fu, by have := HM.out.lo; have := HL.out; omega⟩
                    by_cases hoff : M'.off = true
                    · have FL := tflush_off H5.out.2.d tm hoff t 2 40 7 gs.length (placesL gs) H5.out.2.tp H5.out.2.ft H5.out.2.wt
                      have HFL := Lib.hid FL
                      have HOFF := Lib.hid hoff
                      clear FL tm hoff
                      go_wp2_with (fail)
                      all_goals try (exfalso; omega; done)
                      with_reducible (refine HFL.out.mono ?_)
                      rintro e W6 ⟨rfl, d6, t6, n6⟩
                      have e6 : M'.flush = M'.step := M'.flush_no HOFF.out
                      rw [e6] at d6
                      have hst := step_bounds M'
                      have LK := lasted_main (m0 := placesL gs) d6 (by rw [List.take_of_length_le (by rw [logL_length]; exact Nat.le_refl _)]; exact H5.out.2.inv.step) (Nat.le_refl _) H5.out.2.room H5.out.2.sf (H5.out.2.p.touch t6 (fun k hk => .inl hk)) (by have := H5.out.2.st; have := HL.out; omega) (by have := H5.out.2.lo; have := HL.out; omega) (by have := H5.out.2.fu; omega) kp keep kc HBB.out.2.2.1 HBB.out.2.2.2.1 HBB.out.2.2.2.2
                      clear d6 t6 n6 e6 hst HFL
                      have HLK := Lib.hid LK
                      clear LK
                      go_wp2_with (fail)
                      all_goals try (exfalso; omega; done)
                      with_reducible (refine HLK.out.mono ?_)
                      rintro e WF ⟨rfl, bF⟩
                      have HBF := Lib.hid (HBB.out.1.trans (bF.mono HBB.out.1.size))
                      clear bF
                      go_wp2_with (fail)
                      go_ret
                      exact ⟨rfl, HBF.out⟩
                    · have FL := tflush_ok H5.out.2.d tm (by simpa using hoff) t 2 40 7 gs.length (placesL gs) H5.out.2.tp
                      have HFL := Lib.hid FL
                      have HOFF := Lib.hid (show M'.off = false from by simpa using hoff)
                      have HPL := Lib.hid HM.out.p.len
                      clear FL tm hoff
                      go_wp2_with (fail)
                      all_goals try (exfalso; omega; done)
                      with_reducible (refine HFL.out.mono ?_)
                      rintro e W6 ⟨rfl, d6, t6⟩
                      have HNX := Lib.hid (H5.out.2.flushed HOFF.out d6 t6)
                      clear d6 t6 HFL
                      go_wp2_with (fail)
                      all_goals try (exfalso; omega; done)
                      go_roundw
                      case rel => exact ⟨i + 1, F', _, gs, gs.length, qp, mp, cp, by go_num, by rw [HPL.out], rfl, by have := HL.out; omega, by have := H100.out; omega, HNX⟩
                      case measure => simp [intOf]; have := HL.out; omega
                  · by_cases hk2 : kind = 2
                    · subst hk2
                      by_cases hn0 : 0 ≤ n
                      · obtain ⟨k, rfl⟩ : ∃ k : Nat, n = (k : Int) := ⟨n.toNat, by omega⟩
                        have FU := dfuse H5.out.2.d k
                        have HFU := Lib.hid FU
                        have HKB := Lib.hid (show k ≤ 9223372036854775807 by have := HX.out.2.2.2.2.2.1; omega)
                        clear FU hn0
                        go_wp2_with (fail)
                        all_goals try (exfalso; omega; done)
                        with_reducible (refine HFU.out.mono ?_)
                        rintro e W6 ⟨rfl, d6, t6⟩
                        have HNX := Lib.hid (H5.out.2.fused HKB.out d6 t6)
                        clear d6 t6 HFU
                        go_wp2_with (fail)
                        all_goals try (exfalso; omega; done)
                        go_roundw
                        case rel => exact ⟨i + 1, F', _, gs, safe, qp, mp, cp, by go_num, rfl, rfl, by have := HL.out; omega, by have := H100.out; omega, HNX⟩
                        case measure => simp [intOf]; have := HL.out; omega
                      · have FU := fuse_arg W5 G n (by omega)
                        have HFU := Lib.hid FU
                        clear FU hn0
                        go_wp2_with (fail)
                        all_goals try (exfalso; omega; done)
                        with_reducible (refine HFU.out.mono ?_)
                        rintro e W6 ⟨rfl, rfl⟩
                        have HNX := Lib.hid H5.out.2.later
                        go_wp2_with (fail)
                        all_goals try (exfalso; omega; done)
                        go_roundw
                        case rel => exact ⟨i + 1, F', _, gs, safe, qp, mp, cp, by go_num, rfl, rfl, by have := HL.out; omega, by have := H100.out; omega, HNX⟩
                        case measure => simp [intOf]; have := HL.out; omega
                    · have k0 : (kind == 0) = false := by rw [beq_eq_false_iff_ne]; exact hk0
                      have k1 : (kind == 1) = false := by rw [beq_eq_false_iff_ne]; exact hk1
                      have k2 : (kind == 2) = false := by rw [beq_eq_false_iff_ne]; exact hk2
                      have HNX := Lib.hid H5.out.2.later
                      go_wp2_with (fail)
                      all_goals try (exfalso; omega; done)
                      go_roundw
                      case rel => exact ⟨i + 1, F', _, gs, safe, qp, mp, cp, by go_num, rfl, rfl, by have := HL.out; omega, by have := H100.out; omega, HNX⟩
                      case measure => simp [intOf]; have := HL.out; omega
            · have hiN : i = N := by omega
              subst hiN
              have LK := HM.out.look hi9 kp keep kc HBB.out.2.2.1 HBB.out.2.2.2.1 HBB.out.2.2.2.2
              have HLK := Lib.hid LK
              clear LK
              go_wp2_with (fail)
              all_goals try (exfalso; omega; done)
              with_reducible (refine HLK.out.mono ?_)
              rintro e WF ⟨rfl, bF⟩
              have HBF := Lib.hid (HBB.out.1.trans (bF.mono HBB.out.1.size))
              clear bF
              go_wp2_with (fail)
              go_ret
              exact ⟨rfl, HBF.out⟩
end Go.Proofs.Ytggchfmglaijgaa
