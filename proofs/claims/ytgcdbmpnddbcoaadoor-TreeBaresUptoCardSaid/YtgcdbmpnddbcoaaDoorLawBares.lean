/- Proved here: the statement TreeBares, walked: it answers true of every tree, in every world. -/
import Derived.Test.YtgcdbmpnddbcoaaDoorAwake5A
import Derived.Test.YtgcdbmpnddbcoaaDoorBareW
import Derived.Test.YtgcdbmpnddbcoaaDoorBareFacts
import Derived.Test.YtgcdbmpnddbcoaaDoorSpacesA
namespace Go.Proofs.YtgcdbmpnddbcoaaDoor
open Go.RowKit Go.Shelf

theorem uris_few {t : AT} (h1 : t.all.any AT.tooLarge = false) (h2 : t.count ≤ 2001) : (t.all.flatMap AT.uris).length ≤ 1000000000 := by
  have go : ∀ l : List AT, (∀ x ∈ l, x.tooLarge = false) → (l.flatMap AT.uris).length ≤ l.length * 65 := fun l => by
    induction l with
    | nil => intro _; exact Nat.le_refl _
    | cons x r ih =>
      intro h
      have h3 := ih (fun y hy => h y (List.mem_cons_of_mem _ hy))
      have h4 := h x List.mem_cons_self
      unfold AT.tooLarge at h4
      rw [Bool.or_eq_false_iff, decide_eq_false_iff_not] at h4
      have h5 : x.uris.length = x.attrs.length + 1 := by unfold AT.uris; simp
      rw [List.flatMap_cons, List.length_append, List.length_cons]
      omega
  have := go t.all (fun x hx => by have := List.any_eq_false.1 h1 x hx; simpa using this)
  unfold AT.count at h2
  omega
theorem bareT_small {T t : AT} (h : T.plain = bareP t.plain) (hF : t.Fits 1048576) (b o : Nat) : ∀ x ∈ (T.put b o).all, x.text.size < 4294967281 := fun x hx => by
  have hp : (T.put b o).plain = bareP t.plain := by rw [AT.plain_put, h]
  obtain ⟨y, hy, e⟩ := bare_nodes hp x hx
  rw [(bare_fields e).2.2.2.2.1]
  have := (hF y hy).2.2.1
  omega
set_option maxRecDepth 100000 in
set_option maxHeartbeats 16000000 in
theorem bares_walk (w : World) (hL : Leans5 w) (t : AT) (pa : Option Addr) (ca : Nat) (pk : Option Addr) (ck : Nat) (h : PartsAt w t pa ca pk ck) (hk : KidsAt w t) (hc : t.count ≤ 1048576) (hF : t.Fits 1048576) :
    Calls Tryd.prog 4 #[nodeV t pa ca pk ck] w fun e W' => e = .returned (.bool true) ∧ Below w.heap.size w W' := by
  obtain ⟨W1, hW1⟩ : ∃ W1, w.alloc (.cells (nodeC t pa ca pk ck) 27) = W1 := ⟨_, rfl⟩
  have hB : Below w.heap.size w W1 := by rw [← hW1]; exact (Below.refl _ _).alloc (Nat.le_refl _) _
  have hbx : W1.heap[w.heap.size]? = some (.cells (nodeC t pa ca pk ck) 27 (0, 0)) := by rw [← hW1]; exact heap_alloc_new _ _
  have HX := Lib.hid (fun (W : World) (y : Below W1.heap.size W1 W) => (y.block _ (it_lt hbx)).trans hbx)
  have hsub : ∀ W, Below W1.heap.size W1 W → Stay w W := fun W y => Stay.below (hB.trans (y.mono hB.size))
  have CA := Lib.hid (awake5_any W1 (hL.below hB))
  obtain ⟨z, hz⟩ : ∃ z : Int, t.checkA = z := ⟨_, rfl⟩
  have CK := Lib.hid (fun (W : World) (y : Below W1.heap.size W1 W) => (checks_any W t pa ca pk ck (h.stay (hsub W y)) (hk.stay (hsub W y)) (by omega) ((hL.below hB).below y).tabs ((hL.below hB).below y).fold ((hL.below hB).below y).max (fun x hx => by have := (hF.put W.heap.size 0 x hx).2.2.1; omega)).mono (R' := fun e W' => e = .returned (.int .i64 z) ∧ Below W.heap.size W W') (fun e W' q => ⟨by rw [q.1, put_checkA, hz], q.2⟩))
  have CB := Lib.hid (fun (W : World) (y : Below W1.heap.size W1 W) => bare_any W1 t W pa ca pk ck (h.stay (hsub W1 (Below.refl _ _))) (hk.stay (hsub W1 (Below.refl _ _))) y hc)
  have CS := Lib.hid (fun (W : World) (y : Below W1.heap.size W1 W) => size_any W t pa ca pk ck (h.stay (hsub W y)) (hk.stay (hsub W y)) (by omega))
  have CD := Lib.hid (fun (W : World) (y : Below W1.heap.size W1 W) => (depth_any W t pa ca pk ck (h.stay (hsub W y)) (hk.stay (hsub W y)) (by omega)).mono (R' := fun e W' => e = .returned (.int .i64 (t.deep : Int)) ∧ Below W.heap.size W W') (fun e W' q => ⟨by rw [q.1, put_deep], q.2⟩))
  have CP := Lib.hid (fun (hr : Right t) (W : World) (y : Below W1.heap.size W1 W) => spaces_all W t pa ca pk ck (h.stay (hsub W y)) (hk.stay (hsub W y)) (by omega) (uris_few hr.large hr.count))
  have HZ := Lib.hid (fun (e : z = 0) => Right.of (hz.trans e))
  have HB := Lib.hid hB
  have HL := Lib.hid (hL.below hB)
  have HFF := Lib.hid hF
  unfold nodeC at hW1 HX
  unfold nodeV at CS CD CK CP CB ⊢
  clear h hk hc hF hbx hsub hz hB hL
  generalize t.kind = kd at *
  generalize t.uri = u at *
  generalize t.loc = l at *
  generalize t.attrs.length = la at *
  generalize t.kids.length = lk at *
  generalize t.text = s at *
  have CC := Lib.hid (fun (W : World) (y : Below W1.heap.size W1 W) => And.intro (cell_of_row W w.heap.size 0 _ _ _ (HX.out W y)) (And.intro (cell_of_row W w.heap.size 1 _ _ _ (HX.out W y)) (And.intro (cell_of_row W w.heap.size 2 _ _ _ (HX.out W y)) (And.intro (cell_of_row W w.heap.size 3 _ _ _ (HX.out W y)) (And.intro (cell_of_row W w.heap.size 4 _ _ _ (HX.out W y)) (cell_of_row W w.heap.size 5 _ _ _ (HX.out W y)))))))
  by_cases hz0 : z = 0
  · have hR := Lib.hid (HZ.out hz0)
    subst hz0
    go_enter Tryd.func4, Tryd.ntmps4
    go_wp2_with (first | (go_at_call 7; refine CA.out.mono ?_; rintro e wA ⟨rfl, hbA⟩; obtain ⟨q0, q1, q2, q3, q4, q5⟩ := CC.out _ hbA) | (go_at_call 10; with_reducible refine (CK.out _ hbA).mono ?_; rintro e wC ⟨rfl, hbC⟩; have yC := below_cat5 hbA hbC; obtain ⟨r0, r1, r2, r3, r4, r5⟩ := CC.out _ yC) | (go_at_call 11; with_reducible refine (CB.out _ yC).mono ?_))
    rintro e wB0 ⟨T, pa2, ca2, pk2, ck2, rfl, hpl, hbB, hliv⟩
    have yB0 := below_cat5 yC hbB
    obtain ⟨K, hK0⟩ : ∃ K, wB0.heap.size = K := ⟨_, rfl⟩
    obtain ⟨wB, hwB⟩ : ∃ wB, wB0.alloc (.cells (nodeC T pa2 ca2 pk2 ck2) 27) = wB := ⟨_, rfl⟩
    have bB : Below wB0.heap.size wB0 wB := by rw [← hwB]; exact (Below.refl _ _).alloc (Nat.le_refl _) _
    have hbx2 : wB.heap[K]? = some (.cells (nodeC T pa2 ca2 pk2 ck2) 27 (0, 0)) := by rw [← hwB, ← hK0]; exact heap_alloc_new _ _
    have yB := below_cat5 yB0 bB
    have HP := Lib.hid (fun (W : World) (y : Below wB.heap.size wB W) => hliv W (fun k hk' _ => ((below_cat5 bB y).block k hk')))
    have hTc := count_bare hpl
    have hTd := deep_bare hpl
    have hrc := hR.out.count
    have hdc := deep_le_count t
    have CK2 := Lib.hid (fun (W : World) (y : Below wB.heap.size wB W) => (checks_any W T pa2 ca2 pk2 ck2 (HP.out W y).1 (HP.out W y).2 (by omega) (HL.out.below (below_cat5 yB y)).tabs (HL.out.below (below_cat5 yB y)).fold (HL.out.below (below_cat5 yB y)).max (bareT_small hpl HFF.out _ _)).mono (R' := fun e W' => e = .returned (.int .i64 T.checkA) ∧ Below W.heap.size W W') (fun e W' q => ⟨by rw [q.1, put_checkA], q.2⟩))
    have CS2 := Lib.hid (fun (W : World) (y : Below wB.heap.size wB W) => size_any W T pa2 ca2 pk2 ck2 (HP.out W y).1 (HP.out W y).2 (by omega))
    have CD2 := Lib.hid (fun (W : World) (y : Below wB.heap.size wB W) => (depth_any W T pa2 ca2 pk2 ck2 (HP.out W y).1 (HP.out W y).2 (by omega)).mono (R' := fun e W' => e = .returned (.int .i64 (T.deep : Int)) ∧ Below W.heap.size W W') (fun e W' q => ⟨by rw [q.1, put_deep], q.2⟩))
    have CP2 := Lib.hid (fun (W : World) (y : Below wB.heap.size wB W) => spaces_all W T pa2 ca2 pk2 ck2 (HP.out W y).1 (HP.out W y).2 (by omega) (uris_few (any_bare large_bare hpl hR.out.large) (by omega)))
    have CS1 := Lib.hid (fun (W : World) (y : Below wB.heap.size wB W) => CS.out W (below_cat5 yB y))
    have CD1 := Lib.hid (fun (W : World) (y : Below wB.heap.size wB W) => CD.out W (below_cat5 yB y))
    have CP1 := Lib.hid (fun (W : World) (y : Below wB.heap.size wB W) => CP.out hR.out W (below_cat5 yB y))
    have HLEN := Lib.hid (fun (l1 l2 : List ByteArray) (n1 : l1.Nodup) (n2 : l2.Nodup) (m1 : ∀ s, s ∈ l1 ↔ s ∈ T.all.flatMap AT.uris ∧ s ≠ (⟨#[]⟩ : ByteArray)) (m2 : ∀ s, s ∈ l2 ↔ s ∈ t.all.flatMap AT.uris ∧ s ≠ (⟨#[]⟩ : ByteArray)) => same_len n1 n2 (fun s => (m1 s).trans ((spaces_bare hpl hR.out.misfit s).trans (m2 s).symm)))
    have HCK := Lib.hid (check_bare hpl hR.out)
    have HBB := Lib.hid (HB.out.trans (yB.mono HB.out.size))
    have HD := Lib.hid (fun (W : World) (y : Below wB.heap.size wB W) => HX.out W (below_cat5 yB y))
    have HE := Lib.hid (fun (W : World) (y : Below wB.heap.size wB W) => (y.block _ (it_lt hbx2)).trans hbx2)
    obtain ⟨tc, htc⟩ : ∃ n, t.count = n := ⟨_, rfl⟩
    obtain ⟨td, htd⟩ : ∃ n, t.deep = n := ⟨_, rfl⟩
    obtain ⟨Tc, hTcc⟩ : ∃ n, T.count = n := ⟨_, rfl⟩
    obtain ⟨Td, hTdd⟩ : ∃ n, T.deep = n := ⟨_, rfl⟩
    obtain ⟨zT, hzT⟩ : ∃ n, T.checkA = n := ⟨_, rfl⟩
    rw [htc, hTcc] at hTc
    rw [htd, hTdd] at hTd
    rw [htc] at CS1
    rw [hTcc] at CS2
    rw [htd] at CD1
    rw [hTdd] at CD2
    rw [hzT] at HCK CK2
    have hg1 : ¬ (tc : Int) < (Tc : Int) := by omega
    have hg2 : ¬ (td : Int) < (Td : Int) := by omega
    unfold nodeC at hwB HE
    unfold nodeV at CS2 CD2 CK2 CP2 ⊢
    clear hliv hpl hbB hbx2 HP hrc hdc htc htd hTcc hTdd hzT hTc hTd CS CD CP CB CK HX HZ
    generalize T.kind = kd2 at *
    generalize T.uri = u2 at *
    generalize T.loc = l2 at *
    generalize T.attrs.length = la2 at *
    generalize T.kids.length = lk2 at *
    generalize T.text = s2 at *
    have HS := Lib.hid (fun (W : World) (y : Below wB.heap.size wB W) => (show W.cell? ⟨w.heap.size, 0, none⟩ = some (.int .i64 kd) ∧ W.cell? ⟨w.heap.size, 1, none⟩ = some (.string u) ∧ W.cell? ⟨w.heap.size, 2, none⟩ = some (.string l) ∧ W.cell? ⟨w.heap.size, 3, none⟩ = some (.slice pa la ca) ∧ W.cell? ⟨w.heap.size, 4, none⟩ = some (.slice pk lk ck) ∧ W.cell? ⟨w.heap.size, 5, none⟩ = some (.string s) ∧ W.cell? ⟨K, 0, none⟩ = some (.int .i64 kd2) ∧ W.cell? ⟨K, 1, none⟩ = some (.string u2) ∧ W.cell? ⟨K, 2, none⟩ = some (.string l2) ∧ W.cell? ⟨K, 3, none⟩ = some (.slice pa2 la2 ca2) ∧ W.cell? ⟨K, 4, none⟩ = some (.slice pk2 lk2 ck2) ∧ W.cell? ⟨K, 5, none⟩ = some (.string s2) from ⟨cell_of_row W w.heap.size 0 _ _ _ (HD.out W y), cell_of_row W w.heap.size 1 _ _ _ (HD.out W y), cell_of_row W w.heap.size 2 _ _ _ (HD.out W y), cell_of_row W w.heap.size 3 _ _ _ (HD.out W y), cell_of_row W w.heap.size 4 _ _ _ (HD.out W y), cell_of_row W w.heap.size 5 _ _ _ (HD.out W y), cell_of_row W K 0 _ _ _ (HE.out W y), cell_of_row W K 1 _ _ _ (HE.out W y), cell_of_row W K 2 _ _ _ (HE.out W y), cell_of_row W K 3 _ _ _ (HE.out W y), cell_of_row W K 4 _ _ _ (HE.out W y), cell_of_row W K 5 _ _ _ (HE.out W y)⟩))
    have b00 : Below wB.heap.size wB (wB0.alloc (.cells #[.int .i64 kd2, .string u2, .string l2, .slice pa2 la2 ca2, .slice pk2 lk2 ck2, .string s2] 27)) := by rw [hwB]; exact Below.refl _ _
    have hsK := Lib.hid hK0
    clear hwB bB yB0 hbA hbC yC q0 q1 q2 q3 q4 q5 r0 r1 r2 r3 r4 r5 CC CA
    rw [← hK0] at HS
    go_wp2_with (go_at_call 10; with_reducible refine (CK2.out _ b00).mono ?_; rintro e w4 ⟨rfl, hb4⟩; have y0 := below_cat5 b00 hb4)
    go_upto_region 7 with (fail)
    rw [hK0] at HS
    refine wp_region_held_drew (S := fun W => W.cell? ⟨w.heap.size, 0, none⟩ = some (.int .i64 kd) ∧ W.cell? ⟨w.heap.size, 1, none⟩ = some (.string u) ∧ W.cell? ⟨w.heap.size, 2, none⟩ = some (.string l) ∧ W.cell? ⟨w.heap.size, 3, none⟩ = some (.slice pa la ca) ∧ W.cell? ⟨w.heap.size, 4, none⟩ = some (.slice pk lk ck) ∧ W.cell? ⟨w.heap.size, 5, none⟩ = some (.string s) ∧ W.cell? ⟨K, 0, none⟩ = some (.int .i64 kd2) ∧ W.cell? ⟨K, 1, none⟩ = some (.string u2) ∧ W.cell? ⟨K, 2, none⟩ = some (.string l2) ∧ W.cell? ⟨K, 3, none⟩ = some (.slice pa2 la2 ca2) ∧ W.cell? ⟨K, 4, none⟩ = some (.slice pk2 lk2 ck2) ∧ W.cell? ⟨K, 5, none⟩ = some (.string s2)) (by kernel_rfl) (HS.out _ y0.drew) (fun hHeld => ?_)
    have y0 := y0.drew
    refine wpAnyH_take (i := 0) (oi := _) (v := ?v0) rfl (by kernel_rfl) (by kernel_rfl) (by kernel_rfl) (fun _ _ _ h => h) (Or.inl ⟨by rfl, ?hy0⟩) (by assumption) ?rest0
    case hy0 =>
      intro W hSw
      obtain ⟨e0, e1, e2, e3, e4, e5, g0, g1, g2, g3, g4, g5⟩ := hSw
      go_simp
      try (first | (with_reducible rfl) | omega)
    try simp only [Act.put, List.getElem_toArray, List.getElem_cons_zero, List.getElem_cons_succ, List.setIfInBounds_toArray, List.set_cons_zero, List.set_cons_succ]
    refine wpAnyH_take (i := 2) (oi := _) (v := ?v2) rfl (by kernel_rfl) (by kernel_rfl) (by kernel_rfl) (fun _ _ _ h => h) (Or.inl ⟨by rfl, ?hy2⟩) (by assumption) ?rest2
    case hy2 =>
      intro W hSw
      obtain ⟨e0, e1, e2, e3, e4, e5, g0, g1, g2, g3, g4, g5⟩ := hSw
      go_simp
      try (first | (with_reducible rfl) | omega)
    try simp only [Act.put, List.getElem_toArray, List.getElem_cons_zero, List.getElem_cons_succ, List.setIfInBounds_toArray, List.set_cons_zero, List.set_cons_succ]
    refine wpAnyH_ready (rs := [1]) (by kernel_rfl) (by simp) ?_
    refine AllReadyH.cons (o := _) rfl (fun K hK => ?_) AllReadyH.nil
    go_simp
    refine (CS2.out _ y0).mono ?_
    rintro e w5 ⟨rfl, hb1⟩
    have y1 : Below wB.heap.size wB w5 := below_cat5 y0 hb1
    refine hK.out _ _ (HS.out _ y1) (fun hHeld1 => ?_)
    clear hK K hHeld hb1
    have hHeld := hHeld1
    clear hHeld1
    try simp only [Act.put, List.getElem_toArray, List.getElem_cons_zero, List.getElem_cons_succ, List.setIfInBounds_toArray, List.set_cons_zero, List.set_cons_succ]
    refine wpAnyH_ready (rs := [3]) (by kernel_rfl) (by simp) ?_
    refine AllReadyH.cons (o := _) rfl (fun K hK => ?_) AllReadyH.nil
    go_simp
    refine (CS1.out _ y1).mono ?_
    rintro e w6 ⟨rfl, hb3⟩
    have y3 : Below wB.heap.size wB w6 := below_cat5 y1 hb3
    refine hK.out _ _ (HS.out _ y3) (fun hHeld3 => ?_)
    clear hK K hHeld hb3
    have hHeld := hHeld3
    clear hHeld3
    try simp only [Act.put, List.getElem_toArray, List.getElem_cons_zero, List.getElem_cons_succ, List.setIfInBounds_toArray, List.set_cons_zero, List.set_cons_succ]
    refine wpAnyH_take (i := 4) (oi := _) (v := .bool false) rfl (by kernel_rfl) (by kernel_rfl) (by kernel_rfl) (fun _ _ _ h => h) (Or.inl ⟨by rfl, ?hy4⟩) (by assumption) ?rest4
    case hy4 =>
      intro W hSw
      clear hSw
      go_simp
      try (first | (with_reducible rfl) | omega)
    try simp only [Act.put, List.getElem_toArray, List.getElem_cons_zero, List.getElem_cons_succ, List.setIfInBounds_toArray, List.set_cons_zero, List.set_cons_succ]
    refine wpAnyH_take (i := 5) (oi := _) (v := .bool false) rfl (by kernel_rfl) (by kernel_rfl) (by kernel_rfl) (fun _ _ _ h => h) (Or.inl ⟨by rfl, ?hy5⟩) (by assumption) ?rest5
    case hy5 =>
      intro W hSw
      clear hSw
      go_simp
      try (first | (with_reducible rfl) | omega)
    try simp only [Act.put, List.getElem_toArray, List.getElem_cons_zero, List.getElem_cons_succ, List.setIfInBounds_toArray, List.set_cons_zero, List.set_cons_succ]
    refine wpAnyH_take (i := 6) (oi := _) (v := ?v6) rfl (by kernel_rfl) (by kernel_rfl) (by kernel_rfl) (fun _ _ _ h => h) (Or.inl ⟨by rfl, ?hy6⟩) (by assumption) ?rest6
    case hy6 =>
      intro W hSw
      obtain ⟨e0, e1, e2, e3, e4, e5, g0, g1, g2, g3, g4, g5⟩ := hSw
      go_simp
      try (first | (with_reducible rfl) | omega)
    try simp only [Act.put, List.getElem_toArray, List.getElem_cons_zero, List.getElem_cons_succ, List.setIfInBounds_toArray, List.set_cons_zero, List.set_cons_succ]
    refine wpAnyH_take (i := 8) (oi := _) (v := ?v8) rfl (by kernel_rfl) (by kernel_rfl) (by kernel_rfl) (fun _ _ _ h => h) (Or.inl ⟨by rfl, ?hy8⟩) (by assumption) ?rest8
    case hy8 =>
      intro W hSw
      obtain ⟨e0, e1, e2, e3, e4, e5, g0, g1, g2, g3, g4, g5⟩ := hSw
      go_simp
      try (first | (with_reducible rfl) | omega)
    try simp only [Act.put, List.getElem_toArray, List.getElem_cons_zero, List.getElem_cons_succ, List.setIfInBounds_toArray, List.set_cons_zero, List.set_cons_succ]
    refine wpAnyH_ready (rs := [7]) (by kernel_rfl) (by simp) ?_
    refine AllReadyH.cons (o := _) rfl (fun K hK => ?_) AllReadyH.nil
    go_simp
    refine (CD2.out _ y3).mono ?_
    rintro e w7 ⟨rfl, hb7⟩
    have y7 : Below wB.heap.size wB w7 := below_cat5 y3 hb7
    refine hK.out _ _ (HS.out _ y7) (fun hHeld7 => ?_)
    clear hK K hHeld hb7
    have hHeld := hHeld7
    clear hHeld7
    try simp only [Act.put, List.getElem_toArray, List.getElem_cons_zero, List.getElem_cons_succ, List.setIfInBounds_toArray, List.set_cons_zero, List.set_cons_succ]
    refine wpAnyH_ready (rs := [9]) (by kernel_rfl) (by simp) ?_
    refine AllReadyH.cons (o := _) rfl (fun K hK => ?_) AllReadyH.nil
    go_simp
    refine (CD1.out _ y7).mono ?_
    rintro e w8 ⟨rfl, hb9⟩
    have y9 : Below wB.heap.size wB w8 := below_cat5 y7 hb9
    refine hK.out _ _ (HS.out _ y9) (fun hHeld9 => ?_)
    clear hK K hHeld hb9
    have hHeld := hHeld9
    clear hHeld9
    try simp only [Act.put, List.getElem_toArray, List.getElem_cons_zero, List.getElem_cons_succ, List.setIfInBounds_toArray, List.set_cons_zero, List.set_cons_succ]
    refine wpAnyH_take (i := 10) (oi := _) (v := .bool false) rfl (by kernel_rfl) (by kernel_rfl) (by kernel_rfl) (fun _ _ _ h => h) (Or.inl ⟨by rfl, ?hy10⟩) (by assumption) ?rest10
    case hy10 =>
      intro W hSw
      clear hSw
      go_simp
      try (first | (with_reducible rfl) | omega)
    try simp only [Act.put, List.getElem_toArray, List.getElem_cons_zero, List.getElem_cons_succ, List.setIfInBounds_toArray, List.set_cons_zero, List.set_cons_succ]
    refine wpAnyH_take (i := 11) (oi := _) (v := .bool false) rfl (by kernel_rfl) (by kernel_rfl) (by kernel_rfl) (fun _ _ _ h => h) (Or.inl ⟨by rfl, ?hy11⟩) (by assumption) ?rest11
    case hy11 =>
      intro W hSw
      clear hSw
      go_simp
      try (first | (with_reducible rfl) | omega)
    try simp only [Act.put, List.getElem_toArray, List.getElem_cons_zero, List.getElem_cons_succ, List.setIfInBounds_toArray, List.set_cons_zero, List.set_cons_succ]
    refine wpAnyH_take (i := 12) (oi := _) (v := .bool false) rfl (by kernel_rfl) (by kernel_rfl) (by kernel_rfl) (fun _ _ _ h => h) (Or.inl ⟨by rfl, ?hy12⟩) (by assumption) ?rest12
    case hy12 =>
      intro W hSw
      clear hSw
      go_simp
      try (first | (with_reducible rfl) | omega)
    try simp only [Act.put, List.getElem_toArray, List.getElem_cons_zero, List.getElem_cons_succ, List.setIfInBounds_toArray, List.set_cons_zero, List.set_cons_succ]
    refine wpAnyH_take (i := 13) (oi := _) (v := ?v13) rfl (by kernel_rfl) (by kernel_rfl) (by kernel_rfl) (fun _ _ _ h => h) (Or.inl ⟨by rfl, ?hy13⟩) (by assumption) ?rest13
    case hy13 =>
      intro W hSw
      obtain ⟨e0, e1, e2, e3, e4, e5, g0, g1, g2, g3, g4, g5⟩ := hSw
      go_simp
      try (first | (with_reducible rfl) | omega)
    try simp only [Act.put, List.getElem_toArray, List.getElem_cons_zero, List.getElem_cons_succ, List.setIfInBounds_toArray, List.set_cons_zero, List.set_cons_succ]
    refine wpAnyH_take (i := 16) (oi := _) (v := ?v16) rfl (by kernel_rfl) (by kernel_rfl) (by kernel_rfl) (fun _ _ _ h => h) (Or.inl ⟨by rfl, ?hy16⟩) (by assumption) ?rest16
    case hy16 =>
      intro W hSw
      obtain ⟨e0, e1, e2, e3, e4, e5, g0, g1, g2, g3, g4, g5⟩ := hSw
      go_simp
      try (first | (with_reducible rfl) | omega)
    try simp only [Act.put, List.getElem_toArray, List.getElem_cons_zero, List.getElem_cons_succ, List.setIfInBounds_toArray, List.set_cons_zero, List.set_cons_succ]
    refine wpAnyH_ready (rs := [14]) (by kernel_rfl) (by simp) ?_
    refine AllReadyH.cons (o := _) rfl (fun K hK => ?_) AllReadyH.nil
    go_simp
    refine (CP2.out _ y9).mono ?_
    rintro e w9 ⟨q2, cp2, ls2, rfl, hn2, hm2, hb14⟩
    have y14 : Below wB.heap.size wB w9 := below_cat5 y9 hb14
    refine hK.out _ _ (HS.out _ y14) (fun hHeld14 => ?_)
    clear hK K hHeld hb14
    have hHeld := hHeld14
    clear hHeld14
    try simp only [Act.put, List.getElem_toArray, List.getElem_cons_zero, List.getElem_cons_succ, List.setIfInBounds_toArray, List.set_cons_zero, List.set_cons_succ]
    refine wpAnyH_take (i := 15) (oi := _) (v := ?v15) rfl (by kernel_rfl) (by kernel_rfl) (by kernel_rfl) (fun _ _ _ h => h) (Or.inl ⟨by rfl, ?hy15⟩) (by assumption) ?rest15
    case hy15 =>
      intro W hSw
      clear hSw
      go_simp
      try (first | (with_reducible rfl) | omega)
    try simp only [Act.put, List.getElem_toArray, List.getElem_cons_zero, List.getElem_cons_succ, List.setIfInBounds_toArray, List.set_cons_zero, List.set_cons_succ]
    refine wpAnyH_ready (rs := [17]) (by kernel_rfl) (by simp) ?_
    refine AllReadyH.cons (o := _) rfl (fun K hK => ?_) AllReadyH.nil
    go_simp
    refine (CP1.out _ y14).mono ?_
    rintro e w10 ⟨q1, cp1, ls1, rfl, hn1, hm1, hb17⟩
    have y17 : Below wB.heap.size wB w10 := below_cat5 y14 hb17
    refine hK.out _ _ (HS.out _ y17) (fun hHeld17 => ?_)
    clear hK K hHeld hb17
    have hHeld := hHeld17
    clear hHeld17
    have hlen : ls2.length = ls1.length := HLEN.out ls2 ls1 hn2 hn1 hm2 hm1
    obtain ⟨m1, hm1e⟩ : ∃ m, ls1.length = m := ⟨_, rfl⟩
    rw [hm1e] at hlen ⊢
    rw [hlen]
    have HY := Lib.hid y17
    clear hn1 hm1 hn2 hm2 hm1e hlen
    try simp only [Act.put, List.getElem_toArray, List.getElem_cons_zero, List.getElem_cons_succ, List.setIfInBounds_toArray, List.set_cons_zero, List.set_cons_succ]
    refine wpAnyH_take (i := 18) (oi := _) (v := ?v18) rfl (by kernel_rfl) (by kernel_rfl) (by kernel_rfl) (fun _ _ _ h => h) (Or.inl ⟨by rfl, ?hy18⟩) (by assumption) ?rest18
    case hy18 =>
      intro W hSw
      clear hSw
      go_simp
      try (first | (with_reducible rfl) | omega)
    try simp only [Act.put, List.getElem_toArray, List.getElem_cons_zero, List.getElem_cons_succ, List.setIfInBounds_toArray, List.set_cons_zero, List.set_cons_succ]
    refine wpAnyH_take (i := 19) (oi := _) (v := .bool false) rfl (by kernel_rfl) (by kernel_rfl) (by kernel_rfl) (fun _ _ _ h => h) (Or.inl ⟨by rfl, ?hy19⟩) (by assumption) ?rest19
    case hy19 =>
      intro W hSw
      clear hSw
      go_simp
      try (first | (with_reducible rfl) | omega)
    try simp only [Act.put, List.getElem_toArray, List.getElem_cons_zero, List.getElem_cons_succ, List.setIfInBounds_toArray, List.set_cons_zero, List.set_cons_succ]
    refine wpAnyH_take (i := 20) (oi := _) (v := .bool false) rfl (by kernel_rfl) (by kernel_rfl) (by kernel_rfl) (fun _ _ _ h => h) (Or.inl ⟨by rfl, ?hy20⟩) (by assumption) ?rest20
    case hy20 =>
      intro W hSw
      clear hSw
      go_simp
      try (first | (with_reducible rfl) | omega)
    try simp only [Act.put, List.getElem_toArray, List.getElem_cons_zero, List.getElem_cons_succ, List.setIfInBounds_toArray, List.set_cons_zero, List.set_cons_succ]
    refine wpAnyH_done (by kernel_rfl) ?_ _
    clear hHeld
    rcases HCK.out with e0 | e0
    · subst e0
      go_wp2_with (fail)
      go_ret
      exact ⟨rfl, HBB.out.trans (HY.out.mono HBB.out.size)⟩
    · subst e0
      go_wp2_with (fail)
      go_ret
      exact ⟨rfl, HBB.out.trans (HY.out.mono HBB.out.size)⟩
  · go_enter Tryd.func4, Tryd.ntmps4
    go_wp2_with (first | (go_at_call 7; refine CA.out.mono ?_; rintro e wA ⟨rfl, hbA⟩; obtain ⟨q0, q1, q2, q3, q4, q5⟩ := CC.out _ hbA) | (go_at_call 10; with_reducible refine (CK.out _ hbA).mono ?_; rintro e wC ⟨rfl, hbC⟩; have yC := below_cat5 hbA hbC))
    go_ret
    exact ⟨rfl, HB.out.trans (yC.mono HB.out.size)⟩
end Go.Proofs.YtgcdbmpnddbcoaaDoor
