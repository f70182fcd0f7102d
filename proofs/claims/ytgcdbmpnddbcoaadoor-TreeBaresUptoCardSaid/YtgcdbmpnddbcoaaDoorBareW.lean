/- Proved here: the law's bare answers a tree without its comments and instructions. -/
import Derived.Test.YtgcdbmpnddbcoaaDoorBarePlain
import Derived.Test.YtgcdbmpnddbcoaaDoorPartsPlain
import Derived.Deep.RegionWith
import Derived.Deep.RegionHeld3
import Derived.Deep.Cut
namespace Go.Proofs.YtgcdbmpnddbcoaaDoor
open Go.RowKit Go.Shelf

theorem step_of {P : Program} {ops : Array Oper} {o : Oper} {a : Act} {w : World} {K : Act → World → Prop} {Q : Exit → Act → World → Prop} {E : Prop} (hgd : o.guard = none) (h : Oper.wp P o a w K Q) :
    if Region.wanted o (yielded ops a.tmps) = true then Oper.wp P o a w K Q else E := by
  rw [if_pos (by simp [Region.wanted, hgd])]
  exact h
theorem wp_append_eq {P : Program} {w : World} {o : Oper} {a : Act} {K : Act → World → Prop} {Q : Exit → Act → World → Prop} (s x : Operand) (t : TypeId)
    (ho : o.op = .call { callee := .builtin .append, args := #[s, x], argTypes := #[t, t] }) (v u v' : Value) (w' : World) (hs : a.eval s = v) (hx : a.eval x = u)
    (hrun : ∀ ty, (Builtin.append_ #[t, t] ty #[v, u]).run P w = .ok v' w')
    (h : K (a.put o.dst v') w') : Oper.wp P o a w K Q := by
  have hr := hrun o.type
  unfold Oper.wp
  simp [execOp, ho, resolve, invoke, builtin, hs, hx, hr, Result.andThen]
  exact h

theorem BSt.start (n0 : Nat) (w : World) (kd : Int) (u l s : ByteArray) (pa : Option Addr) (la ca : Nat) :
    BSt n0 w kd u l s pa la ca none 0 [] ((w.alloc (.cells #[.int .i64 kd, .string u, .string l, .slice pa la ca, .slice none 0 0, .string s] 27)).alloc (.cells #[.int .i64 0, .string ⟨#[]⟩, .string ⟨#[]⟩, .slice none 0 0, .slice none 0 0, .string ⟨#[]⟩] 27)) := by
  refine ⟨((Below.refl _ _).alloc (Nat.le_refl _) _).alloc (by simp) _, (Below.heap_alloc _ _ _ (by simp)).trans (heap_alloc_new w _), ?_, OwnN.nil _ _, fun _ _ z hz => (by cases hz)⟩
  have := heap_alloc_new (w.alloc (.cells #[.int .i64 kd, .string u, .string l, .slice pa la ca, .slice none 0 0, .string s] 27)) (.cells #[.int .i64 0, .string ⟨#[]⟩, .string ⟨#[]⟩, .slice none 0 0, .slice none 0 0, .string ⟨#[]⟩] 27)
  rwa [World.size_alloc] at this
set_option maxRecDepth 100000 in
set_option maxHeartbeats 16000000 in
theorem bare_any (w0 : World) : ∀ (t : AT) (w : World) (pa : Option Addr) (ca : Nat) (pk : Option Addr) (ck : Nat), PartsAt w0 t pa ca pk ck → KidsAt w0 t → Below w0.heap.size w0 w → t.count ≤ 1048576 →
    Calls Tryd.prog 11 #[nodeV t pa ca pk ck] w (BareOut w0.heap.size w t) := fun t => by
  induction t using AT.ind with
  | h t ih =>
    intro w pa ca pk ck h hk hb0 hc
    obtain ⟨ks, hks⟩ : ∃ ks, t.kids = ks := ⟨_, rfl⟩
    have hcnt := count_kids' t
    rw [hks] at hcnt
    have hkn : ks.length ≤ 1048576 := by
      have : ks.length ≤ counted ks := by
        unfold counted
        clear hks hcnt
        induction ks with
        | nil => exact Nat.zero_le _
        | cons k r ih2 =>
          rw [List.flatMap_cons, List.length_append, List.length_cons, AT.all_eq, List.length_cons]
          omega
      omega
    have HK := Lib.hid (fun (i : Nat) (hi : i < ks.length) => show (∃ kb ko pa' ca' pk' ck', pk = some ⟨kb, ko, none⟩ ∧ (w0.cell? ⟨kb, ko + i * 6, none⟩ = some (.int .i64 ks[i].kind) ∧ w0.cell? ⟨kb, ko + i * 6 + 1, none⟩ = some (.string ks[i].uri) ∧
        w0.cell? ⟨kb, ko + i * 6 + 2, none⟩ = some (.string ks[i].loc) ∧ w0.cell? ⟨kb, ko + i * 6 + 3, none⟩ = some (.slice pa' ks[i].attrs.length ca') ∧ w0.cell? ⟨kb, ko + i * 6 + 4, none⟩ = some (.slice pk' ks[i].kids.length ck') ∧
        w0.cell? ⟨kb, ko + i * 6 + 5, none⟩ = some (.string ks[i].text)) ∧ ∀ V, Below w0.heap.size w0 V → Calls Tryd.prog 11 #[nodeV ks[i] pa' ca' pk' ck'] V (BareOut w0.heap.size V ks[i])) from by
      subst hks
      obtain ⟨kb, ko, pa', ca', pk', ck', e, hP, hK, c0, c1, c2, c3, c4, c5⟩ := kid_at h hk i hi
      exact ⟨kb, ko, pa', ca', pk', ck', e, ⟨c0, c1, c2, c3, c4, c5⟩, fun V hV => ih _ (List.getElem_mem hi) V pa' ca' pk' ck' hP hK hV (by have := counted_le (List.getElem_mem hi); omega)⟩)
    have hkl := h.ksz
    have hkc := h.kcap
    rw [hks] at hkl hkc
    have HH := Lib.hid h
    have HB0 := Lib.hid hb0
    have hkd := h.kind
    obtain ⟨kd, ekd⟩ : ∃ x, t.kind = x := ⟨_, rfl⟩
    obtain ⟨u, eu⟩ : ∃ x, t.uri = x := ⟨_, rfl⟩
    obtain ⟨l, el⟩ : ∃ x, t.loc = x := ⟨_, rfl⟩
    obtain ⟨s, es⟩ : ∃ x, t.text = x := ⟨_, rfl⟩
    obtain ⟨la, ela⟩ : ∃ x, t.attrs = x := ⟨_, rfl⟩
    have HE := Lib.hid (And.intro ekd (And.intro eu (And.intro el (And.intro es (And.intro ela hks)))))
    obtain ⟨na, ena⟩ : ∃ n, la.length = n := ⟨_, rfl⟩
    have HNA := Lib.hid ena
    unfold nodeV
    rw [ekd, eu, el, es, ela, hks, ena]
    clear h hk ih hb0 hc hcnt ekd eu el es ela hks ena hkd
    go_enter Tryd.func11, Tryd.ntmps11
    go_wp2_with (fail)
    go_loopw [11] (fun v wr => ∃ (i : Nat) (q : Option Addr) (c : Nat) (zs : List KN), v = .int .i64 (i : Int) ∧ i ≤ ks.length ∧ zs.length ≤ i ∧ Hid' (BSt w0.heap.size w kd u l s pa na ca q c zs wr ∧ zs.map (fun z => z.t.plain) = bareL ((ks.take i).map AT.plain))) (fun v _ => ks.length - (intOf v).toNat)
    case atStart => exact ⟨0, none, 0, [], rfl, Nat.zero_le _, Nat.le_refl _, ⟨BSt.start _ _ _ _ _ _ _ _ _, by rw [List.take_zero]; rfl⟩⟩
    case round =>
      obtain ⟨i, q, c, zs, rfl, hi, hzi, HI⟩ := hrel
      obtain ⟨V, rfl⟩ : ∃ V, V = wr := ⟨_, rfl⟩
      by_cases hlt : i < ks.length
      · have hi' : (i : Int) < (ks.length : Int) := by omega
        obtain ⟨kb, ko, pa', ca', pk', ck', rfl, ⟨c0, c1, c2, c3, c4, c5⟩, hcall⟩ := HK.out i hlt
        have bV : Below w0.heap.size w0 V := below_cat5 HB0.out HI.out.1.below
        have e0 := t_cell' bV c0
        have e1 := t_cell' bV c1
        have e2 := t_cell' bV c2
        have e3 := t_cell' bV c3
        have e4 := t_cell' bV c4
        have e5 := t_cell' bV c5
        have hsnoc : (ks.take (i + 1)).map AT.plain = (ks.take i).map AT.plain ++ [ks[i].plain] := by rw [List.take_add_one, List.getElem?_eq_getElem hlt, List.map_append]; rfl
        have HP := Lib.hid (show bareL ((ks.take (i + 1)).map AT.plain) = zs.map (fun z => z.t.plain) ++ (if leftK ks[i].plain then [bareP ks[i].plain] else []) from by rw [hsnoc, bareL_snoc, ← HI.out.2])
        have HLK := Lib.hid (show leftK ks[i].plain = (!(ks[i].kind == 4) && !(ks[i].kind == 5)) from by unfold leftK; rw [AT.plain_kind])
        have CB := Lib.hid hcall
        unfold nodeV at CB
        unfold BareOut at CB
        obtain ⟨kp, ekp⟩ : ∃ kp, ks[i].plain = kp := ⟨_, rfl⟩
        rw [ekp] at HP HLK CB
        clear c0 c1 c2 c3 c4 c5 hcall hsnoc bV ekp
        generalize ks[i].kind = y0 at *
        generalize ks[i].uri = y1 at *
        generalize ks[i].loc = y2 at *
        generalize ks[i].attrs.length = y3 at *
        generalize ks[i].kids.length = y4 at *
        generalize ks[i].text = y5 at *
        by_cases k4 : y0 = 4
        · have HF : Hid (leftK kp = false) := Lib.hid (by rw [HLK.out, k4]; rfl)
          clear CB
          go_wp2_with (fail)
          go_roundw
          case rel => exact ⟨i + 1, q, c, zs, by go_num, hlt, by omega, ⟨HI.out.1.far ((Below.refl _ _).alloc (Nat.le_refl _) _), by rw [HP.out, HF.out]; simp⟩⟩
          case measure => simp only [intOf]; omega
        · by_cases k5 : y0 = 5
          · have HF : Hid (leftK kp = false) := Lib.hid (by rw [HLK.out, k5]; rfl)
            clear CB
            go_wp2_with (fail)
            go_roundw
            case rel => exact ⟨i + 1, q, c, zs, by go_num, hlt, by omega, ⟨HI.out.1.far ((Below.refl _ _).alloc (Nat.le_refl _) _), by rw [HP.out, HF.out]; simp⟩⟩
            case measure => simp only [intOf]; omega
          · have HF : Hid (leftK kp = true) := Lib.hid (by rw [HLK.out]; simp [k4, k5])
            have hzl : zs.length ≤ 1048576 := by omega
            obtain ⟨n, hn⟩ : ∃ n, zs.length = n := ⟨_, rfl⟩
            go_upto_region 7 with (fail)
            obtain ⟨U, hU⟩ : ∃ U, V.alloc (.cells #[.int .i64 y0, .string y1, .string y2, .slice pa' y3 ca', .slice pk' y4 ck', .string y5] 27) = U := ⟨_, rfl⟩
            have bU : Below V.heap.size V U := by rw [← hU]; exact (Below.refl _ _).alloc (Nat.le_refl _) _
            have rU : U.heap[V.heap.size]? = some (.cells #[.int .i64 y0, .string y1, .string y2, .slice pa' y3 ca', .slice pk' y4 ck', .string y5] 27 (0, 0)) := by rw [← hU]; exact heap_alloc_new _ _
            have zU : U.heap.size = V.heap.size + 1 := by rw [← hU]; simp
            have HU := Lib.hid (And.intro bU (And.intro rU zU))
            have HS := Lib.hid (fun (W : World) (hr : W.heap[V.heap.size]? = some (.cells #[.int .i64 y0, .string y1, .string y2, .slice pa' y3 ca', .slice pk' y4 ck', .string y5] 27 (0, 0))) => (show W.cell? ⟨V.heap.size, 0, none⟩ = some (.int .i64 y0) ∧ W.cell? ⟨V.heap.size, 1, none⟩ = some (.string y1) ∧ W.cell? ⟨V.heap.size, 2, none⟩ = some (.string y2) ∧ W.cell? ⟨V.heap.size, 3, none⟩ = some (.slice pa' y3 ca') ∧ W.cell? ⟨V.heap.size, 4, none⟩ = some (.slice pk' y4 ck') ∧ W.cell? ⟨V.heap.size, 5, none⟩ = some (.string y5) from ⟨cell_of_row _ _ 0 _ _ _ hr, cell_of_row _ _ 1 _ _ _ hr, cell_of_row _ _ 2 _ _ _ hr, cell_of_row _ _ 3 _ _ _ hr, cell_of_row _ _ 4 _ _ _ hr, cell_of_row _ _ 5 _ _ _ hr⟩))
            have HQ := Lib.hid (fun (W : World) (y : Below V.heap.size V W) => (show W.cell? ⟨w.heap.size, 4, none⟩ = some (.slice q n c) from by rw [← hn]; exact cell_of_row _ _ 4 _ _ _ (HI.out.1.far y).box))
            have HN := Lib.hid hn
            clear rU zU
            rw [hU]
            refine wp_region_held_drew (S := fun W => W.cell? ⟨V.heap.size, 0, none⟩ = some (.int .i64 y0) ∧ W.cell? ⟨V.heap.size, 1, none⟩ = some (.string y1) ∧ W.cell? ⟨V.heap.size, 2, none⟩ = some (.string y2) ∧ W.cell? ⟨V.heap.size, 3, none⟩ = some (.slice pa' y3 ca') ∧ W.cell? ⟨V.heap.size, 4, none⟩ = some (.slice pk' y4 ck') ∧ W.cell? ⟨V.heap.size, 5, none⟩ = some (.string y5)) (by kernel_rfl) (HS.out _ HU.out.2.1) (fun hHeld => ?_)
            have b0 : Below V.heap.size V U.drew := bU.drew
            have r0 := HU.out.2.1
            clear bU hU hn
            refine wpAnyH_take (i := 0) (oi := _) (v := ?v0) rfl (by kernel_rfl) (by kernel_rfl) (by kernel_rfl) (fun _ _ _ h => h) (Or.inl ⟨by rfl, ?hy0⟩) (by assumption) ?rest0
            case hy0 =>
              intro W hSw
              clear hSw
              go_simp
              try (with_reducible rfl)
            try simp only [Act.put, List.getElem_toArray, List.getElem_cons_zero, List.getElem_cons_succ, List.setIfInBounds_toArray, List.set_cons_zero, List.set_cons_succ]
            refine wpAnyH_take (i := 2) (oi := _) (v := ?v2) rfl (by kernel_rfl) (by kernel_rfl) (by kernel_rfl) (fun _ _ _ h => h) (Or.inl ⟨by rfl, ?hy2⟩) (by assumption) ?rest2
            case hy2 =>
              intro W hSw
              obtain ⟨e0, e1, e2, e3, e4, e5⟩ := hSw
              go_simp
              try (with_reducible rfl)
            try simp only [Act.put, List.getElem_toArray, List.getElem_cons_zero, List.getElem_cons_succ, List.setIfInBounds_toArray, List.set_cons_zero, List.set_cons_succ]
            have hHeld0 := hHeld
            clear hHeld
            obtain ⟨X0, hX0⟩ : ∃ X, X = U.drew := ⟨_, rfl⟩
            have z0 : X0.heap.size = V.heap.size + 1 := by rw [hX0]; exact HU.out.2.2
            have r0 : X0.heap[V.heap.size]? = some (.cells #[.int .i64 y0, .string y1, .string y2, .slice pa' y3 ca', .slice pk' y4 ck', .string y5] 27 (0, 0)) := by rw [hX0]; exact HU.out.2.1
            rw [← hX0] at b0 hHeld0 ⊢
            clear hX0
            refine wpAnyH_ready (rs := [1, 3]) (by kernel_rfl) (by simp) ?_
            refine AllReadyH.cons (o := _) rfl (fun K hK => ?_) (AllReadyH.cons (o := _) rfl (fun K hK => ?_) AllReadyH.nil)
            · skip
              have q1 := HQ.out X0 b0
              go_simp
              refine hK.out _ _ (HS.out _ r0) (fun _ => ?_)
              clear hK K q1
              try simp only [Act.put, List.getElem_toArray, List.getElem_cons_zero, List.getElem_cons_succ, List.setIfInBounds_toArray, List.set_cons_zero, List.set_cons_succ]
              refine wpAnyH_ready (rs := [3]) (by kernel_rfl) (by simp) ?_
              refine AllReadyH.cons (o := _) rfl (fun K hK => ?_) AllReadyH.nil
              go_simp
              refine (CB.out X0 (below_cat5 HB0.out (HI.out.1.below.trans (b0.mono HI.out.1.below.size)))).mono ?_
              rintro e X2 ⟨T, pa1, ca1, pk1, ck1, rfl, hpl, hbY, hliv⟩
              have b2 : Below V.heap.size V X2 := b0.trans (hbY.mono b0.size)
              have r2 := (hbY.block _ (it_lt r0)).trans r0
              have z2 : X2.heap.size ≥ V.heap.size + 1 := by have := hbY.size; omega
              have HLV := Lib.hid (And.intro hpl (show ∀ W', Outside w0.heap.size V.heap.size X2 W' → PartsAt W' T pa1 ca1 pk1 ck1 ∧ KidsAt W' T from fun W' ho => hliv W' (fun j hj hs => ho j hj (by rcases hs with g | g; exact .inl g; exact .inr (by omega)))))
              refine hK.out _ _ (HS.out _ r2) (fun _ => ?_)
              clear hK K hpl hliv hbY
              unfold nodeV
              try simp only [Act.put, List.getElem_toArray, List.getElem_cons_zero, List.getElem_cons_succ, List.setIfInBounds_toArray, List.set_cons_zero, List.set_cons_succ]
              refine wpAnyH_ready (rs := [4]) (by kernel_rfl) (by simp) ?_
              refine AllReadyH.cons (o := _) rfl (fun K hK => ?_) AllReadyH.nil
              go_simp
              obtain ⟨X3, hY3⟩ : ∃ Y, X2.alloc (.cells (KN.enc ⟨T, pa1, ca1, pk1, ck1⟩).toArray 27) = Y := ⟨_, rfl⟩
              have b3 : Below V.heap.size V X3 := by rw [← hY3]; exact b2.alloc b2.size _
              have r3 : X3.heap[V.heap.size]? = some (.cells #[.int .i64 y0, .string y1, .string y2, .slice pa' y3 ca', .slice pk' y4 ck', .string y5] 27 (0, 0)) := by rw [← hY3]; exact (Below.heap_alloc _ _ _ (it_lt r2)).trans r2
              unfold KN.enc at hY3
              simp only at hY3
              rw [hY3]
              refine hK.out _ _ (HS.out _ r3) (fun _ => ?_)
              clear hK K
              try simp only [Act.put, List.getElem_toArray, List.getElem_cons_zero, List.getElem_cons_succ, List.setIfInBounds_toArray, List.set_cons_zero, List.set_cons_succ]
              refine wpAnyH_ready (rs := [5]) (by kernel_rfl) (by simp) ?_
              refine AllReadyH.cons (o := _) rfl (fun K hK => ?_) AllReadyH.nil
              obtain ⟨q', c', X4, hrun, hbst, b4', hoth, hbox3⟩ := BSt.more (t := T) (z := ⟨T, pa1, ca1, pk1, ck1⟩) (HB0.out.size) HI.out.1 HLV.out.2 b2 hY3 (by omega)
              rw [HN.out] at hrun hbst hbox3
              have r4 := (hoth _ (it_lt r3) (Nat.le_refl _)).trans r3
              have HBS := Lib.hid (And.intro hbst hbox3)
              refine step_of rfl (wp_append_eq (.tmp 24) (.tmp 27) 25 rfl (.slice q n c) (.slice (some ⟨X2.heap.size, 0, none⟩) 1 1) (.slice q' (n + 1) c') X4 (by rfl) (by rfl) hrun ?_)
              refine hK.out _ _ (HS.out _ r4) (fun hHeld4 => ?_)
              clear hK K hrun hbst hoth hbox3 b4'
              try simp only [Act.put, List.getElem_toArray, List.getElem_cons_zero, List.getElem_cons_succ, List.setIfInBounds_toArray, List.set_cons_zero, List.set_cons_succ]
              refine wpAnyH_take (i := 6) (oi := _) (v := ?vn4_6) rfl (by kernel_rfl) (by kernel_rfl) (by kernel_rfl) (fun _ _ _ h => h) (Or.inl ⟨by rfl, ?hyn4_6⟩) hHeld4 ?restn4_6
              case hyn4_6 =>
                intro W hSw
                clear hSw
                go_simp
                try (with_reducible rfl)
              try simp only [Act.put, List.getElem_toArray, List.getElem_cons_zero, List.getElem_cons_succ, List.setIfInBounds_toArray, List.set_cons_zero, List.set_cons_succ]
              clear hHeld4
              refine wpAnyH_ready (rs := [7]) (by kernel_rfl) (by simp) ?_
              refine AllReadyH.cons (o := _) rfl (fun K hK => ?_) AllReadyH.nil
              have ff : X4.frozen? ⟨w.heap.size, 4, none⟩ = false := frozen_of_row _ _ _ _ _ HBS.out.2
              have cc : X4.cell? ⟨w.heap.size, 4, none⟩ = some (.slice q n c) := cell_of_row _ _ 4 _ _ _ HBS.out.2
              go_simp
              have r5 : (X4.setCell ⟨w.heap.size, 4, none⟩ (.slice q' (n + 1) c')).heap[V.heap.size]? = some (.cells #[.int .i64 y0, .string y1, .string y2, .slice pa' y3 ca', .slice pk' y4 ck', .string y5] 27 (0, 0)) := (set_oth5 (by have := it_lt HI.out.1.box; show V.heap.size ≠ w.heap.size; omega)).trans r4
              refine hK.out _ _ (HS.out _ r5) (fun _ => ?_)
              clear hK K
              try simp only [Act.put, List.getElem_toArray, List.getElem_cons_zero, List.getElem_cons_succ, List.setIfInBounds_toArray, List.set_cons_zero, List.set_cons_succ]
              refine wpAnyH_done (by kernel_rfl) ?_ _
              go_wp2_with (fail)
              go_roundw
              case rel => exact ⟨i + 1, q', c', zs ++ [⟨T, pa1, ca1, pk1, ck1⟩], by go_num, hlt, by simp; omega, ⟨HBS.out.1, by rw [List.map_append, HP.out, HF.out]; simp [HLV.out.1]⟩⟩
              case measure => simp only [intOf]; omega
            · skip
              go_simp
              refine (CB.out X0 (below_cat5 HB0.out (HI.out.1.below.trans (b0.mono HI.out.1.below.size)))).mono ?_
              rintro e X6 ⟨T, pa1, ca1, pk1, ck1, rfl, hpl, hbY, hliv⟩
              have b6 : Below V.heap.size V X6 := b0.trans (hbY.mono b0.size)
              have r6 := (hbY.block _ (it_lt r0)).trans r0
              have z6 : X6.heap.size ≥ V.heap.size + 1 := by have := hbY.size; omega
              have HLV := Lib.hid (And.intro hpl (show ∀ W', Outside w0.heap.size V.heap.size X6 W' → PartsAt W' T pa1 ca1 pk1 ck1 ∧ KidsAt W' T from fun W' ho => hliv W' (fun j hj hs => ho j hj (by rcases hs with g | g; exact .inl g; exact .inr (by omega)))))
              refine hK.out _ _ (HS.out _ r6) (fun _ => ?_)
              clear hK K hpl hliv hbY
              unfold nodeV
              try simp only [Act.put, List.getElem_toArray, List.getElem_cons_zero, List.getElem_cons_succ, List.setIfInBounds_toArray, List.set_cons_zero, List.set_cons_succ]
              refine wpAnyH_ready (rs := [1, 4]) (by kernel_rfl) (by simp) ?_
              refine AllReadyH.cons (o := _) rfl (fun K hK => ?_) (AllReadyH.cons (o := _) rfl (fun K hK => ?_) AllReadyH.nil)
              · skip
                have q7 := HQ.out X6 b6
                go_simp
                refine hK.out _ _ (HS.out _ r6) (fun _ => ?_)
                clear hK K q7
                try simp only [Act.put, List.getElem_toArray, List.getElem_cons_zero, List.getElem_cons_succ, List.setIfInBounds_toArray, List.set_cons_zero, List.set_cons_succ]
                refine wpAnyH_ready (rs := [4]) (by kernel_rfl) (by simp) ?_
                refine AllReadyH.cons (o := _) rfl (fun K hK => ?_) AllReadyH.nil
                go_simp
                obtain ⟨X8, hY8⟩ : ∃ Y, X6.alloc (.cells (KN.enc ⟨T, pa1, ca1, pk1, ck1⟩).toArray 27) = Y := ⟨_, rfl⟩
                have b8 : Below V.heap.size V X8 := by rw [← hY8]; exact b6.alloc b6.size _
                have r8 : X8.heap[V.heap.size]? = some (.cells #[.int .i64 y0, .string y1, .string y2, .slice pa' y3 ca', .slice pk' y4 ck', .string y5] 27 (0, 0)) := by rw [← hY8]; exact (Below.heap_alloc _ _ _ (it_lt r6)).trans r6
                unfold KN.enc at hY8
                simp only at hY8
                rw [hY8]
                refine hK.out _ _ (HS.out _ r8) (fun _ => ?_)
                clear hK K
                try simp only [Act.put, List.getElem_toArray, List.getElem_cons_zero, List.getElem_cons_succ, List.setIfInBounds_toArray, List.set_cons_zero, List.set_cons_succ]
                refine wpAnyH_ready (rs := [5]) (by kernel_rfl) (by simp) ?_
                refine AllReadyH.cons (o := _) rfl (fun K hK => ?_) AllReadyH.nil
                obtain ⟨q', c', X9, hrun, hbst, b9', hoth, hbox3⟩ := BSt.more (t := T) (z := ⟨T, pa1, ca1, pk1, ck1⟩) (HB0.out.size) HI.out.1 HLV.out.2 b6 hY8 (by omega)
                rw [HN.out] at hrun hbst hbox3
                have r9 := (hoth _ (it_lt r8) (Nat.le_refl _)).trans r8
                have HBS := Lib.hid (And.intro hbst hbox3)
                refine step_of rfl (wp_append_eq (.tmp 24) (.tmp 27) 25 rfl (.slice q n c) (.slice (some ⟨X6.heap.size, 0, none⟩) 1 1) (.slice q' (n + 1) c') X9 (by rfl) (by rfl) hrun ?_)
                refine hK.out _ _ (HS.out _ r9) (fun hHeld9 => ?_)
                clear hK K hrun hbst hoth hbox3 b9'
                try simp only [Act.put, List.getElem_toArray, List.getElem_cons_zero, List.getElem_cons_succ, List.setIfInBounds_toArray, List.set_cons_zero, List.set_cons_succ]
                refine wpAnyH_take (i := 6) (oi := _) (v := ?vn9_6) rfl (by kernel_rfl) (by kernel_rfl) (by kernel_rfl) (fun _ _ _ h => h) (Or.inl ⟨by rfl, ?hyn9_6⟩) hHeld9 ?restn9_6
                case hyn9_6 =>
                  intro W hSw
                  clear hSw
                  go_simp
                  try (with_reducible rfl)
                try simp only [Act.put, List.getElem_toArray, List.getElem_cons_zero, List.getElem_cons_succ, List.setIfInBounds_toArray, List.set_cons_zero, List.set_cons_succ]
                clear hHeld9
                refine wpAnyH_ready (rs := [7]) (by kernel_rfl) (by simp) ?_
                refine AllReadyH.cons (o := _) rfl (fun K hK => ?_) AllReadyH.nil
                have ff : X9.frozen? ⟨w.heap.size, 4, none⟩ = false := frozen_of_row _ _ _ _ _ HBS.out.2
                have cc : X9.cell? ⟨w.heap.size, 4, none⟩ = some (.slice q n c) := cell_of_row _ _ 4 _ _ _ HBS.out.2
                go_simp
                have r10 : (X9.setCell ⟨w.heap.size, 4, none⟩ (.slice q' (n + 1) c')).heap[V.heap.size]? = some (.cells #[.int .i64 y0, .string y1, .string y2, .slice pa' y3 ca', .slice pk' y4 ck', .string y5] 27 (0, 0)) := (set_oth5 (by have := it_lt HI.out.1.box; show V.heap.size ≠ w.heap.size; omega)).trans r9
                refine hK.out _ _ (HS.out _ r10) (fun _ => ?_)
                clear hK K
                try simp only [Act.put, List.getElem_toArray, List.getElem_cons_zero, List.getElem_cons_succ, List.setIfInBounds_toArray, List.set_cons_zero, List.set_cons_succ]
                refine wpAnyH_done (by kernel_rfl) ?_ _
                go_wp2_with (fail)
                go_roundw
                case rel => exact ⟨i + 1, q', c', zs ++ [⟨T, pa1, ca1, pk1, ck1⟩], by go_num, hlt, by simp; omega, ⟨HBS.out.1, by rw [List.map_append, HP.out, HF.out]; simp [HLV.out.1]⟩⟩
                case measure => simp only [intOf]; omega
              · skip
                go_simp
                obtain ⟨X11, hY11⟩ : ∃ Y, X6.alloc (.cells (KN.enc ⟨T, pa1, ca1, pk1, ck1⟩).toArray 27) = Y := ⟨_, rfl⟩
                have b11 : Below V.heap.size V X11 := by rw [← hY11]; exact b6.alloc b6.size _
                have r11 : X11.heap[V.heap.size]? = some (.cells #[.int .i64 y0, .string y1, .string y2, .slice pa' y3 ca', .slice pk' y4 ck', .string y5] 27 (0, 0)) := by rw [← hY11]; exact (Below.heap_alloc _ _ _ (it_lt r6)).trans r6
                unfold KN.enc at hY11
                simp only at hY11
                rw [hY11]
                refine hK.out _ _ (HS.out _ r11) (fun _ => ?_)
                clear hK K
                try simp only [Act.put, List.getElem_toArray, List.getElem_cons_zero, List.getElem_cons_succ, List.setIfInBounds_toArray, List.set_cons_zero, List.set_cons_succ]
                refine wpAnyH_ready (rs := [1]) (by kernel_rfl) (by simp) ?_
                refine AllReadyH.cons (o := _) rfl (fun K hK => ?_) AllReadyH.nil
                have q12 := HQ.out X11 b11
                go_simp
                refine hK.out _ _ (HS.out _ r11) (fun _ => ?_)
                clear hK K q12
                try simp only [Act.put, List.getElem_toArray, List.getElem_cons_zero, List.getElem_cons_succ, List.setIfInBounds_toArray, List.set_cons_zero, List.set_cons_succ]
                refine wpAnyH_ready (rs := [5]) (by kernel_rfl) (by simp) ?_
                refine AllReadyH.cons (o := _) rfl (fun K hK => ?_) AllReadyH.nil
                obtain ⟨q', c', X13, hrun, hbst, b13', hoth, hbox3⟩ := BSt.more (t := T) (z := ⟨T, pa1, ca1, pk1, ck1⟩) (HB0.out.size) HI.out.1 HLV.out.2 b6 hY11 (by omega)
                rw [HN.out] at hrun hbst hbox3
                have r13 := (hoth _ (it_lt r11) (Nat.le_refl _)).trans r11
                have HBS := Lib.hid (And.intro hbst hbox3)
                refine step_of rfl (wp_append_eq (.tmp 24) (.tmp 27) 25 rfl (.slice q n c) (.slice (some ⟨X6.heap.size, 0, none⟩) 1 1) (.slice q' (n + 1) c') X13 (by rfl) (by rfl) hrun ?_)
                refine hK.out _ _ (HS.out _ r13) (fun hHeld13 => ?_)
                clear hK K hrun hbst hoth hbox3 b13'
                try simp only [Act.put, List.getElem_toArray, List.getElem_cons_zero, List.getElem_cons_succ, List.setIfInBounds_toArray, List.set_cons_zero, List.set_cons_succ]
                refine wpAnyH_take (i := 6) (oi := _) (v := ?vn13_6) rfl (by kernel_rfl) (by kernel_rfl) (by kernel_rfl) (fun _ _ _ h => h) (Or.inl ⟨by rfl, ?hyn13_6⟩) hHeld13 ?restn13_6
                case hyn13_6 =>
                  intro W hSw
                  clear hSw
                  go_simp
                  try (with_reducible rfl)
                try simp only [Act.put, List.getElem_toArray, List.getElem_cons_zero, List.getElem_cons_succ, List.setIfInBounds_toArray, List.set_cons_zero, List.set_cons_succ]
                clear hHeld13
                refine wpAnyH_ready (rs := [7]) (by kernel_rfl) (by simp) ?_
                refine AllReadyH.cons (o := _) rfl (fun K hK => ?_) AllReadyH.nil
                have ff : X13.frozen? ⟨w.heap.size, 4, none⟩ = false := frozen_of_row _ _ _ _ _ HBS.out.2
                have cc : X13.cell? ⟨w.heap.size, 4, none⟩ = some (.slice q n c) := cell_of_row _ _ 4 _ _ _ HBS.out.2
                go_simp
                have r14 : (X13.setCell ⟨w.heap.size, 4, none⟩ (.slice q' (n + 1) c')).heap[V.heap.size]? = some (.cells #[.int .i64 y0, .string y1, .string y2, .slice pa' y3 ca', .slice pk' y4 ck', .string y5] 27 (0, 0)) := (set_oth5 (by have := it_lt HI.out.1.box; show V.heap.size ≠ w.heap.size; omega)).trans r13
                refine hK.out _ _ (HS.out _ r14) (fun _ => ?_)
                clear hK K
                try simp only [Act.put, List.getElem_toArray, List.getElem_cons_zero, List.getElem_cons_succ, List.setIfInBounds_toArray, List.set_cons_zero, List.set_cons_succ]
                refine wpAnyH_done (by kernel_rfl) ?_ _
                go_wp2_with (fail)
                go_roundw
                case rel => exact ⟨i + 1, q', c', zs ++ [⟨T, pa1, ca1, pk1, ck1⟩], by go_num, hlt, by simp; omega, ⟨HBS.out.1, by rw [List.map_append, HP.out, HF.out]; simp [HLV.out.1]⟩⟩
                case measure => simp only [intOf]; omega
      · have hi' : ¬ (i : Int) < (ks.length : Int) := by omega
        have hall : (ks.take i) = ks := List.take_of_length_le (by omega)
        have HI2 := HI.out.2
        rw [hall] at HI2
        have HP2 := Lib.hid HI2
        have cb := HI.out.1.box
        have cr := HI.out.1.res
        have q0 := cell_of_row _ _ 0 _ _ _ cb
        have q1 := cell_of_row _ _ 1 _ _ _ cb
        have q2 := cell_of_row _ _ 2 _ _ _ cb
        have q3 := cell_of_row _ _ 3 _ _ _ cb
        have q4 := cell_of_row _ _ 4 _ _ _ cb
        have q5 := cell_of_row _ _ 5 _ _ _ cb
        have s0 := cell_of_row _ _ 0 _ _ _ cr
        have s1 := cell_of_row _ _ 1 _ _ _ cr
        have s2 := cell_of_row _ _ 2 _ _ _ cr
        have s3 := cell_of_row _ _ 3 _ _ _ cr
        have s4 := cell_of_row _ _ 4 _ _ _ cr
        have s5 := cell_of_row _ _ 5 _ _ _ cr
        have f0 : V.frozen? ⟨w.heap.size + 1, 0, none⟩ = false := frozen_of_row _ _ _ _ _ cr
        have f1 : V.frozen? ⟨w.heap.size + 1, 1, none⟩ = false := frozen_of_row _ _ _ _ _ cr
        have f2 : V.frozen? ⟨w.heap.size + 1, 2, none⟩ = false := frozen_of_row _ _ _ _ _ cr
        have f3 : V.frozen? ⟨w.heap.size + 1, 3, none⟩ = false := frozen_of_row _ _ _ _ _ cr
        have f4 : V.frozen? ⟨w.heap.size + 1, 4, none⟩ = false := frozen_of_row _ _ _ _ _ cr
        have f5 : V.frozen? ⟨w.heap.size + 1, 5, none⟩ = false := frozen_of_row _ _ _ _ _ cr
        obtain ⟨n, hn⟩ : ∃ n, zs.length = n := ⟨_, rfl⟩
        rw [hn] at q4
        have HN := Lib.hid hn
        have HCR := Lib.hid cr
        clear cb cr HI2 hall hn
        go_wp2_with (fail)
        clear q0 q1 q2 q3 q4 q5 s0 s1 s2 s3 s4 s5 f0 f1 f2 f3 f4 f5
        obtain ⟨W4, hW4⟩ : ∃ W4, ((((((V.setCell ⟨w.heap.size + 1, 0, none⟩ (.int .i64 kd)).setCell ⟨w.heap.size + 1, 1, none⟩ (.string u)).setCell ⟨w.heap.size + 1, 2, none⟩ (.string l)).setCell ⟨w.heap.size + 1, 3, none⟩ (.slice pa na ca)).setCell ⟨w.heap.size + 1, 4, none⟩ (.slice q n c)).setCell ⟨w.heap.size + 1, 5, none⟩ (.string s)) = W4 := ⟨_, rfl⟩
        rw [hW4]
        have r4 : W4.heap[w.heap.size + 1]? = some (.cells #[.int .i64 kd, .string u, .string l, .slice pa na ca, .slice q n c, .string s] 27 (0, 0)) := by
          rw [← hW4]
          exact set_row5 (k := 5) _ (set_row5 (k := 4) _ (set_row5 (k := 3) _ (set_row5 (k := 2) _ (set_row5 (k := 1) _ (set_row5 (k := 0) _ HCR.out)))))
        have o4 : ∀ k, k ≠ w.heap.size + 1 → W4.heap[k]? = V.heap[k]? := fun k hne => by
          rw [← hW4]
          exact ((set_oth5 hne).trans ((set_oth5 hne).trans ((set_oth5 hne).trans ((set_oth5 hne).trans ((set_oth5 hne).trans (set_oth5 hne))))))
        have z4 : W4.heap.size = V.heap.size := by rw [← hW4]; simp [World.setCell]
        have b4 : Below w.heap.size w W4 := by
          rw [← hW4]
          exact ((((((HI.out.1.below.setCell (p := ⟨w.heap.size + 1, 0, none⟩) (Nat.le_succ _) _).setCell (p := ⟨w.heap.size + 1, 1, none⟩) (Nat.le_succ _) _).setCell (p := ⟨w.heap.size + 1, 2, none⟩) (Nat.le_succ _) _).setCell (p := ⟨w.heap.size + 1, 3, none⟩) (Nat.le_succ _) _).setCell (p := ⟨w.heap.size + 1, 4, none⟩) (Nat.le_succ _) _).setCell (p := ⟨w.heap.size + 1, 5, none⟩) (Nat.le_succ _) _)
        clear hW4
        have t0 := cell_of_row _ _ 0 _ _ _ r4
        have t1 := cell_of_row _ _ 1 _ _ _ r4
        have t2 := cell_of_row _ _ 2 _ _ _ r4
        have t3 := cell_of_row _ _ 3 _ _ _ r4
        have t4 := cell_of_row _ _ 4 _ _ _ r4
        have t5 := cell_of_row _ _ 5 _ _ _ r4
        simp at t0 t1 t2 t3 t4 t5
        refine bodyPost_ret (v := .agg #[.int .i64 kd, .string u, .string l, .slice pa na ca, .slice q n c, .string s]) ?_ rfl ?_
        · simp [results, Tryd.f11, go_sem, t0, t1, t2, t3, t4, t5]
        · have en := HNA.out
          subst en
          obtain ⟨h1, h2, h3, h4, h5, h6⟩ := HE.out
          refine ⟨.node 0 0 kd u l la s (kidsOf q zs), pa, ca, q, c, ?_, ?_, b4, ?_⟩
          · show Ending.returned (.agg #[.int .i64 kd, .string u, .string l, .slice pa la.length ca, .slice q n c, .string s]) = Ending.returned (.agg #[.int .i64 kd, .string u, .string l, .slice pa la.length ca, .slice q (kidsOf q zs).length c, .string s])
            rw [kidsOf_len HI.out.1.own, HN.out]
          · refine PT.ext ?_ ?_ ?_ ?_ ?_ ?_
            · rw [AT.plain_kind, bareP_kind, AT.plain_kind, h1]; rfl
            · rw [AT.plain_uri, bareP_uri, AT.plain_uri, h2]; rfl
            · rw [AT.plain_loc, bareP_loc, AT.plain_loc, h3]; rfl
            · rw [AT.plain_attrs, bareP_attrs, AT.plain_attrs, h5]; rfl
            · rw [AT.plain_text, bareP_text, AT.plain_text, h4]; rfl
            · rw [AT.plain_kids, bareP_kids, AT.plain_kids, h6]
              exact (kidsOf_plain HI.out.1.own).trans HP2.out
          · exact HI.out.1.out (w0 := w0) (by omega) rfl HB0.out (h5 ▸ HH.out.attrs) (h5 ▸ HH.out.acap) HH.out.anil (h1 ▸ HH.out.kind) (h2 ▸ HH.out.uri) (h3 ▸ HH.out.loc) (h4 ▸ HH.out.text) (h5 ▸ HH.out.asz) (h5 ▸ HH.out.each) (fun k hne _ => o4 k hne) z4
end Go.Proofs.YtgcdbmpnddbcoaaDoor
