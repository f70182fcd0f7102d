/- Proved here: the document's Twin answers the same tree in new memory. -/
import Derived.Test.YtfmlmdfehaajbaaGreatDoorTwinPlain
import Derived.Test.YtfmlmdfehaajbaaGreatDoorPartsPlain
import Derived.Deep.RegionWith
import Derived.Deep.RegionHeld3
import Derived.Deep.Cut
import Derived.Deep.DeepCutAuto
namespace Go.Proofs.YtfmlmdfehaajbaaGreatDoor
open Go.RowKit Go.Shelf

theorem step_of {P : Program} {ops : Array Oper} {o : Oper} {a : Act} {w : World} {K : Act → World → Prop} {Q : Exit → Act → World → Prop} {E : Prop} (hgd : o.guard = none) (h : Oper.wp P o a w K Q) :
    if Region.wanted o (yielded ops a.tmps) = true then Oper.wp P o a w K Q else E := by
  rw [if_pos (by simp [Region.wanted, hgd])]
  exact h
theorem wp_append_eq {P : Program} {w : World} {o : Oper} {a : Act} {K : Act → World → Prop} {Q : Exit → Act → World → Prop} (s x : Operand) (t : TypeId)
    (ho : o.op = .call { callee := .builtin .append, args := #[s, x], argTypes := #[t, t] }) (v u v' : Value) (w' : World) (hs : a.eval s = v) (hx : a.eval x = u)
    (hrun : ∀ ty, (Builtin.append_ #[t, t] ty #[v, u]).run P w = .ok v' w')
    (h : K (a.put o.dst v') w') : Oper.wp P o a w K Q := by
  have hr := hrun o.type
  unfold Oper.wp
  simp [execOp, ho, resolve, invoke, builtin, hs, hx, hr, Result.andThen]
  exact h

/-- How Twin stands in its first region. -/
structure RegT (w : World) (N : Array Value) (X : World) : Prop where
  below : Below w.heap.size w X
  box : X.heap[w.heap.size]? = some (.cells N 27 (0, 0))
  res : X.heap[w.heap.size + 1]? = some (.cells #[.int .i64 0, .string ⟨#[]⟩, .string ⟨#[]⟩, .slice none 0 0, .slice none 0 0, .string ⟨#[]⟩] 27 (0, 0))
theorem RegT.far {w : World} {N : Array Value} {X Y : World} (h : RegT w N X) (k : Below X.heap.size X Y) : RegT w N Y :=
  ⟨h.below.trans (k.mono h.below.size), (k.block _ (it_lt h.box)).trans h.box, (k.block _ (it_lt h.res)).trans h.res⟩
theorem RegT.but {w : World} {N : Array Value} {X Y : World} {A : Nat} (h : RegT w N X) (hA : w.heap.size + 2 ≤ A) (h1 : ∀ k, k < X.heap.size → k ≠ A → Y.heap[k]? = X.heap[k]?) (h2 : Y.os = X.os) (h3 : Y.tape = X.tape) (h4 : Y.output = X.output) (h5 : X.heap.size ≤ Y.heap.size) : RegT w N Y :=
  ⟨⟨h2.trans h.below.os, h3.trans h.below.tape, h4.trans h.below.output, Nat.le_trans h.below.size h5, fun k hk => (h1 k (Nat.lt_of_lt_of_le hk h.below.size) (by omega)).trans (h.below.block k hk)⟩, (h1 _ (it_lt h.box) (by omega)).trans h.box, (h1 _ (it_lt h.res) (by omega)).trans h.res⟩
theorem RegT.begin (w : World) (N : Array Value) : RegT w N ((w.alloc (.cells N 27)).alloc (.cells #[.int .i64 0, .string ⟨#[]⟩, .string ⟨#[]⟩, .slice none 0 0, .slice none 0 0, .string ⟨#[]⟩] 27)) := by
  refine ⟨((Below.refl _ _).alloc (Nat.le_refl _) _).alloc (by simp) _, (Below.heap_alloc _ _ _ (by simp)).trans (heap_alloc_new w _), ?_⟩
  have := heap_alloc_new (w.alloc (.cells N 27)) (.cells #[.int .i64 0, .string ⟨#[]⟩, .string ⟨#[]⟩, .slice none 0 0, .slice none 0 0, .string ⟨#[]⟩] 27)
  rwa [World.size_alloc] at this
set_option maxRecDepth 100000 in
set_option maxHeartbeats 16000000 in
theorem twin_any (w0 : World) : ∀ (t : AT) (w : World) (pa : Option Addr) (ca : Nat) (pk : Option Addr) (ck : Nat), PartsAt w0 t pa ca pk ck → KidsAt w0 t → Below w0.heap.size w0 w → t.count ≤ 1048576 → t.Fits 1048576 →
    Calls Tryz.prog 8 #[nodeV t pa ca pk ck] w (TwinOut w t) := fun t => by
  induction t using AT.ind with
  | h t ih =>
    intro w pa ca pk ck h hk hb0 hc hF
    obtain ⟨ks, hks⟩ : ∃ ks, t.kids = ks := ⟨_, rfl⟩
    have hcnt := count_kids' t
    rw [hks] at hcnt
    have hkn : ks.length ≤ 1048576 := by
      have := (hF t t.self_mem).2.2.2.2.1
      rwa [hks] at this
    have han : t.attrs.length ≤ 1048576 := (hF t t.self_mem).2.2.2.1
    have HK := Lib.hid (fun (i : Nat) (hi : i < ks.length) => show (∃ kb ko pa' ca' pk' ck', pk = some ⟨kb, ko, none⟩ ∧ (w0.cell? ⟨kb, ko + i * 6, none⟩ = some (.int .i64 ks[i].kind) ∧ w0.cell? ⟨kb, ko + i * 6 + 1, none⟩ = some (.string ks[i].uri) ∧
        w0.cell? ⟨kb, ko + i * 6 + 2, none⟩ = some (.string ks[i].loc) ∧ w0.cell? ⟨kb, ko + i * 6 + 3, none⟩ = some (.slice pa' ks[i].attrs.length ca') ∧ w0.cell? ⟨kb, ko + i * 6 + 4, none⟩ = some (.slice pk' ks[i].kids.length ck') ∧
        w0.cell? ⟨kb, ko + i * 6 + 5, none⟩ = some (.string ks[i].text)) ∧ ∀ V, Below w0.heap.size w0 V → Calls Tryz.prog 8 #[nodeV ks[i] pa' ca' pk' ck'] V (TwinOut V ks[i])) from by
      subst hks
      obtain ⟨kb, ko, pa', ca', pk', ck', e, hP, hK, c0, c1, c2, c3, c4, c5⟩ := kid_at h hk i hi
      exact ⟨kb, ko, pa', ca', pk', ck', e, ⟨c0, c1, c2, c3, c4, c5⟩, fun V hV => ih _ (List.getElem_mem hi) V pa' ca' pk' ck' hP hK hV (by have := counted_le (List.getElem_mem hi); omega) (hF.kid (List.getElem_mem hi))⟩)
    have hkl := h.ksz
    have hkc := h.kcap
    rw [hks] at hkl hkc
    have HH := Lib.hid h
    have HB0 := Lib.hid hb0
    obtain ⟨kd, ekd⟩ : ∃ x, t.kind = x := ⟨_, rfl⟩
    obtain ⟨u, eu⟩ : ∃ x, t.uri = x := ⟨_, rfl⟩
    obtain ⟨l, el⟩ : ∃ x, t.loc = x := ⟨_, rfl⟩
    obtain ⟨s, es⟩ : ∃ x, t.text = x := ⟨_, rfl⟩
    obtain ⟨la, ela⟩ : ∃ x, t.attrs = x := ⟨_, rfl⟩
    have HE := Lib.hid (And.intro ekd (And.intro eu (And.intro el (And.intro es (And.intro ela hks)))))
    have HCP := Lib.hid (fun (X : World) (A : Nat) (hX : Below w0.heap.size w0 X) (hA : X.heap[A]? = some (.cells #[] 67 (0, 0))) (hB : w.heap.size + 2 ≤ A) => copyA (la := la) hA hB (ela ▸ h.attrs.stay (Stay.below hX)) h.anil (ela ▸ h.acap) (by rw [← ela]; omega))
    obtain ⟨na, ena⟩ : ∃ n, la.length = n := ⟨_, rfl⟩
    have HNA := Lib.hid ena
    unfold nodeV
    rw [ekd, eu, el, es, ela, hks, ena]
    rw [ena] at HCP
    clear h hk ih hb0 hc hcnt ekd eu el es ela hks ena hF han
    go_enter Tryz.func8, Tryz.ntmps8
    go_upto_region 1 with (fail)
    obtain ⟨W1, hW1⟩ : ∃ W1, (w.alloc (.cells #[.int .i64 kd, .string u, .string l, .slice pa na ca, .slice pk ks.length ck, .string s] 27)).alloc (.cells #[.int .i64 0, .string ⟨#[]⟩, .string ⟨#[]⟩, .slice none 0 0, .slice none 0 0, .string ⟨#[]⟩] 27) = W1 := ⟨_, rfl⟩
    have R1 : RegT w #[.int .i64 kd, .string u, .string l, .slice pa na ca, .slice pk ks.length ck, .string s] W1 := by rw [← hW1]; exact RegT.begin _ _
    have s1 : W1.heap.size = w.heap.size + 2 := by rw [← hW1]; simp
    rw [hW1]
    have HS := Lib.hid (fun (W : World) (hr : RegT w #[.int .i64 kd, .string u, .string l, .slice pa na ca, .slice pk ks.length ck, .string s] W) => (show W.cell? ⟨w.heap.size, 0, none⟩ = some (.int .i64 kd) ∧ W.cell? ⟨w.heap.size, 1, none⟩ = some (.string u) ∧ W.cell? ⟨w.heap.size, 2, none⟩ = some (.string l) ∧ W.cell? ⟨w.heap.size, 3, none⟩ = some (.slice pa na ca) ∧ W.cell? ⟨w.heap.size, 4, none⟩ = some (.slice pk ks.length ck) ∧ W.cell? ⟨w.heap.size, 5, none⟩ = some (.string s) from ⟨cell_of_row _ _ 0 _ _ _ hr.box, cell_of_row _ _ 1 _ _ _ hr.box, cell_of_row _ _ 2 _ _ _ hr.box, cell_of_row _ _ 3 _ _ _ hr.box, cell_of_row _ _ 4 _ _ _ hr.box, cell_of_row _ _ 5 _ _ _ hr.box⟩))
    have HR1 := Lib.hid (And.intro R1 s1)
    clear hW1 R1 s1
    go_cut [3] (fun v3 wx => ∃ O, v3 = .pointer (some ⟨O, 0, none⟩) ∧ wx.cell? ⟨w.heap.size, 4, none⟩ = some (.slice pk ks.length ck) ∧ Hid (∃ pa1 ca1, TSt w O kd u l s la pa1 ca1 none 0 [] wx))
    case first =>
      refine wp_region_held_drew (S := fun W => W.cell? ⟨w.heap.size, 0, none⟩ = some (.int .i64 kd) ∧ W.cell? ⟨w.heap.size, 1, none⟩ = some (.string u) ∧ W.cell? ⟨w.heap.size, 2, none⟩ = some (.string l) ∧ W.cell? ⟨w.heap.size, 3, none⟩ = some (.slice pa na ca) ∧ W.cell? ⟨w.heap.size, 4, none⟩ = some (.slice pk ks.length ck) ∧ W.cell? ⟨w.heap.size, 5, none⟩ = some (.string s)) (by kernel_rfl) (HS.out _ (HR1.out.1.far (Below.refl _ _).drew)) (fun hHeld => ?_)
      refine wpAnyH_take (i := 0) (oi := _) (v := ?vf0) rfl (by kernel_rfl) (by kernel_rfl) (by kernel_rfl) (fun _ _ _ h => h) (Or.inl ⟨by rfl, ?hyf0⟩) (by assumption) ?restf0
      case hyf0 =>
        intro W hSw
        clear hSw
        go_simp
        try (with_reducible rfl)
      try simp only [Act.put, List.getElem_toArray, List.getElem_cons_zero, List.getElem_cons_succ, List.setIfInBounds_toArray, List.set_cons_zero, List.set_cons_succ]
      refine wpAnyH_take (i := 1) (oi := _) (v := ?vf1) rfl (by kernel_rfl) (by kernel_rfl) (by kernel_rfl) (fun _ _ _ h => h) (Or.inl ⟨by rfl, ?hyf1⟩) (by assumption) ?restf1
      case hyf1 =>
        intro W hSw
        obtain ⟨e0, e1, e2, e3, e4, e5⟩ := hSw
        go_simp
        try (with_reducible rfl)
      try simp only [Act.put, List.getElem_toArray, List.getElem_cons_zero, List.getElem_cons_succ, List.setIfInBounds_toArray, List.set_cons_zero, List.set_cons_succ]
      refine wpAnyH_take (i := 2) (oi := _) (v := ?vf2) rfl (by kernel_rfl) (by kernel_rfl) (by kernel_rfl) (fun _ _ _ h => h) (Or.inl ⟨by rfl, ?hyf2⟩) (by assumption) ?restf2
      case hyf2 =>
        intro W hSw
        clear hSw
        go_simp
        try (with_reducible rfl)
      try simp only [Act.put, List.getElem_toArray, List.getElem_cons_zero, List.getElem_cons_succ, List.setIfInBounds_toArray, List.set_cons_zero, List.set_cons_succ]
      refine wpAnyH_take (i := 3) (oi := _) (v := ?vf3) rfl (by kernel_rfl) (by kernel_rfl) (by kernel_rfl) (fun _ _ _ h => h) (Or.inl ⟨by rfl, ?hyf3⟩) (by assumption) ?restf3
      case hyf3 =>
        intro W hSw
        obtain ⟨e0, e1, e2, e3, e4, e5⟩ := hSw
        go_simp
        try (with_reducible rfl)
      try simp only [Act.put, List.getElem_toArray, List.getElem_cons_zero, List.getElem_cons_succ, List.setIfInBounds_toArray, List.set_cons_zero, List.set_cons_succ]
      refine wpAnyH_take (i := 4) (oi := _) (v := ?vf4) rfl (by kernel_rfl) (by kernel_rfl) (by kernel_rfl) (fun _ _ _ h => h) (Or.inl ⟨by rfl, ?hyf4⟩) (by assumption) ?restf4
      case hyf4 =>
        intro W hSw
        clear hSw
        go_simp
        try (with_reducible rfl)
      try simp only [Act.put, List.getElem_toArray, List.getElem_cons_zero, List.getElem_cons_succ, List.setIfInBounds_toArray, List.set_cons_zero, List.set_cons_succ]
      refine wpAnyH_take (i := 5) (oi := _) (v := ?vf5) rfl (by kernel_rfl) (by kernel_rfl) (by kernel_rfl) (fun _ _ _ h => h) (Or.inl ⟨by rfl, ?hyf5⟩) (by assumption) ?restf5
      case hyf5 =>
        intro W hSw
        obtain ⟨e0, e1, e2, e3, e4, e5⟩ := hSw
        go_simp
        try (with_reducible rfl)
      try simp only [Act.put, List.getElem_toArray, List.getElem_cons_zero, List.getElem_cons_succ, List.setIfInBounds_toArray, List.set_cons_zero, List.set_cons_succ]
      refine wpAnyH_take (i := 7) (oi := _) (v := ?vf7) rfl (by kernel_rfl) (by kernel_rfl) (by kernel_rfl) (fun _ _ _ h => h) (Or.inl ⟨by rfl, ?hyf7⟩) (by assumption) ?restf7
      case hyf7 =>
        intro W hSw
        clear hSw
        go_simp
        try (with_reducible rfl)
      try simp only [Act.put, List.getElem_toArray, List.getElem_cons_zero, List.getElem_cons_succ, List.setIfInBounds_toArray, List.set_cons_zero, List.set_cons_succ]
      refine wpAnyH_take (i := 8) (oi := _) (v := ?vf8) rfl (by kernel_rfl) (by kernel_rfl) (by kernel_rfl) (fun _ _ _ h => h) (Or.inl ⟨by rfl, ?hyf8⟩) (by assumption) ?restf8
      case hyf8 =>
        intro W hSw
        obtain ⟨e0, e1, e2, e3, e4, e5⟩ := hSw
        go_simp
        try (with_reducible rfl)
      try simp only [Act.put, List.getElem_toArray, List.getElem_cons_zero, List.getElem_cons_succ, List.setIfInBounds_toArray, List.set_cons_zero, List.set_cons_succ]
      obtain ⟨X0, hX0⟩ : ∃ X, X = W1.drew := ⟨_, rfl⟩
      have r0 : RegT w #[.int .i64 kd, .string u, .string l, .slice pa na ca, .slice pk ks.length ck, .string s] X0 := by rw [hX0]; exact HR1.out.1.far (Below.refl _ _).drew
      have z0 : w.heap.size + 2 ≤ X0.heap.size := by rw [hX0]; show _ ≤ W1.heap.size; rw [HR1.out.2]; exact Nat.le_refl _
      have h0 := hHeld
      clear hHeld
      rw [← hX0] at h0 ⊢
      clear hX0
      refine wpAnyH_ready (rs := [6, 11]) (by kernel_rfl) (by simp) ?_
      refine AllReadyH.cons (o := _) rfl (fun K hK => ?_) (AllReadyH.cons (o := _) rfl (fun K hK => ?_) AllReadyH.nil)
      · skip
        go_simp
        obtain ⟨X1, hY1⟩ : ∃ Y, X0.alloc (.cells #[] 67) = Y := ⟨_, rfl⟩
        obtain ⟨A1, hn1⟩ : ∃ n, X0.heap.size = n := ⟨_, rfl⟩
        have b1 : Below X0.heap.size X0 X1 := by rw [← hY1]; exact (Below.refl _ _).alloc (Nat.le_refl _) _
        have fA1 : X1.heap[A1]? = some (.cells #[] 67 (0, 0)) := by rw [← hY1, ← hn1]; exact heap_alloc_new _ _
        have r1 := r0.far b1
        have lA1 : w.heap.size + 2 ≤ A1 := by rw [← hn1]; exact z0
        have z1 : w.heap.size + 2 ≤ X1.heap.size := Nat.le_trans z0 b1.size
        rw [hY1]
        rw [hn1]
        refine hK.out _ _ (HS.out _ r1) (fun h1 => ?_)
        clear hK K hY1 hn1
        try simp only [Act.put, List.getElem_toArray, List.getElem_cons_zero, List.getElem_cons_succ, List.setIfInBounds_toArray, List.set_cons_zero, List.set_cons_succ]
        refine wpAnyH_ready (rs := [9, 11]) (by kernel_rfl) (by simp) ?_
        refine AllReadyH.cons (o := _) rfl (fun K hK => ?_) (AllReadyH.cons (o := _) rfl (fun K hK => ?_) AllReadyH.nil)
        · skip
          obtain ⟨g2, c2, X2, hrun2, hat2, hcp2, hoth2, ho1, ho2, ho3, hsz2, hg2, lg2, _⟩ := HCP.out X1 A1 (below_cat5 HB0.out r1.below) fA1 lA1
          have r2 := r1.but lA1 hoth2 ho1 ho2 ho3 hsz2
          have z2 : w.heap.size + 2 ≤ X2.heap.size := Nat.le_trans z1 hsz2
          have gg2 : w.heap.size + 2 ≤ g2 := by rcases hg2 with e | e <;> (have := lA1; omega)
          have lv2 : ∀ W', W'.heap[g2]? = X2.heap[g2]? → AttrsAt W' (some ⟨g2, 0, none⟩) la := fun W' e h0 => by
            obtain ⟨b, off, e1, hc⟩ := hat2 h0
            injection e1 with e1
            injection e1 with e2 e3
            subst e2 e3
            exact ⟨g2, 0, rfl, fun j hj => ⟨(World.cell?_of_block (a := ⟨g2, 0 + j * 3, none⟩) e).trans (hc j hj).1, (World.cell?_of_block (a := ⟨g2, 0 + j * 3 + 1, none⟩) e).trans (hc j hj).2.1, (World.cell?_of_block (a := ⟨g2, 0 + j * 3 + 2, none⟩) e).trans (hc j hj).2.2⟩⟩
          refine step_of rfl (wp_append_eq (.tmp 12) (.tmp 14) 24 rfl (.slice (some ⟨A1, 0, none⟩) 0 0) (.slice pa na ca) (.slice (some ⟨g2, 0, none⟩) na c2) X2 (by rfl) (by rfl) hrun2 ?_)
          refine hK.out _ _ (HS.out _ r2) (fun h2 => ?_)
          clear hK K hrun2 hat2 hoth2 ho1 ho2 ho3 hg2
          try simp only [Act.put, List.getElem_toArray, List.getElem_cons_zero, List.getElem_cons_succ, List.setIfInBounds_toArray, List.set_cons_zero, List.set_cons_succ]
          refine wpAnyH_take (i := 10) (oi := _) (v := ?vg2_10) rfl (by kernel_rfl) (by kernel_rfl) (by kernel_rfl) (fun _ _ _ h => h) (Or.inl ⟨by rfl, ?hyg2_10⟩) h2 ?restg2_10
          case hyg2_10 =>
            intro W hSw
            clear hSw
            go_simp
            try (with_reducible rfl)
          try simp only [Act.put, List.getElem_toArray, List.getElem_cons_zero, List.getElem_cons_succ, List.setIfInBounds_toArray, List.set_cons_zero, List.set_cons_succ]
          refine wpAnyH_ready (rs := [11]) (by kernel_rfl) (by simp) ?_
          refine AllReadyH.cons (o := _) rfl (fun K hK => ?_) AllReadyH.nil
          go_simp
          obtain ⟨X3, hY3⟩ : ∃ Y, X2.alloc (.cells #[.int .i64 0, .string ⟨#[]⟩, .string ⟨#[]⟩, .slice none 0 0, .slice none 0 0, .string ⟨#[]⟩] 27) = Y := ⟨_, rfl⟩
          obtain ⟨O3, hn3⟩ : ∃ n, X2.heap.size = n := ⟨_, rfl⟩
          have b3 : Below X2.heap.size X2 X3 := by rw [← hY3]; exact (Below.refl _ _).alloc (Nat.le_refl _) _
          have fO3 : X3.heap[O3]? = some (.cells #[.int .i64 0, .string ⟨#[]⟩, .string ⟨#[]⟩, .slice none 0 0, .slice none 0 0, .string ⟨#[]⟩] 27 (0, 0)) := by rw [← hY3, ← hn3]; exact heap_alloc_new _ _
          have r3 := r2.far b3
          have lO3 : w.heap.size + 2 ≤ O3 := by rw [← hn3]; exact z2
          have z3 : w.heap.size + 2 ≤ X3.heap.size := Nat.le_trans z2 b3.size
          have lv3 : ∀ W', W'.heap[g2]? = X3.heap[g2]? → AttrsAt W' (some ⟨g2, 0, none⟩) la := fun W' e => lv2 W' (e.trans (b3.block _ lg2))
          have lg3 : g2 < X3.heap.size := Nat.lt_of_lt_of_le lg2 b3.size
          have nGO3 : g2 ≠ O3 := by have := lg2; omega
          rw [hY3]
          rw [hn3]
          refine hK.out _ _ (HS.out _ r3) (fun h3 => ?_)
          clear hK K hY3 hn3
          try simp only [Act.put, List.getElem_toArray, List.getElem_cons_zero, List.getElem_cons_succ, List.setIfInBounds_toArray, List.set_cons_zero, List.set_cons_succ]
          refine wpAnyH_ready (rs := [12]) (by kernel_rfl) (by simp) ?_
          refine AllReadyH.cons (o := _) rfl (fun K hK => ?_) AllReadyH.nil
          have ff0 : X3.frozen? ⟨O3, 0, none⟩ = false := frozen_of_row _ _ _ _ _ fO3
          have ff1 : X3.frozen? ⟨O3, 1, none⟩ = false := frozen_of_row _ _ _ _ _ fO3
          have ff2 : X3.frozen? ⟨O3, 2, none⟩ = false := frozen_of_row _ _ _ _ _ fO3
          have ff3 : X3.frozen? ⟨O3, 3, none⟩ = false := frozen_of_row _ _ _ _ _ fO3
          have ff4 : X3.frozen? ⟨O3, 4, none⟩ = false := frozen_of_row _ _ _ _ _ fO3
          have ff5 : X3.frozen? ⟨O3, 5, none⟩ = false := frozen_of_row _ _ _ _ _ fO3
          have cc0 : X3.cell? ⟨O3, 0, none⟩ = some (.int .i64 0) := cell_of_row _ _ 0 _ _ _ fO3
          have cc1 : X3.cell? ⟨O3, 1, none⟩ = some (.string ⟨#[]⟩) := cell_of_row _ _ 1 _ _ _ fO3
          have cc2 : X3.cell? ⟨O3, 2, none⟩ = some (.string ⟨#[]⟩) := cell_of_row _ _ 2 _ _ _ fO3
          have cc3 : X3.cell? ⟨O3, 3, none⟩ = some (.slice none 0 0) := cell_of_row _ _ 3 _ _ _ fO3
          have cc4 : X3.cell? ⟨O3, 4, none⟩ = some (.slice none 0 0) := cell_of_row _ _ 4 _ _ _ fO3
          have cc5 : X3.cell? ⟨O3, 5, none⟩ = some (.string ⟨#[]⟩) := cell_of_row _ _ 5 _ _ _ fO3
          go_simp
          obtain ⟨X4, hY4⟩ : ∃ Y, ((((((X3.setCell ⟨O3, 0, none⟩ (.int .i64 kd)).setCell ⟨O3, 1, none⟩ (.string u)).setCell ⟨O3, 2, none⟩ (.string l)).setCell ⟨O3, 3, none⟩ (.slice (some ⟨g2, 0, none⟩) na c2)).setCell ⟨O3, 4, none⟩ (.slice none 0 0)).setCell ⟨O3, 5, none⟩ (.string s)) = Y := ⟨_, rfl⟩
          rw [hY4]
          have rw4 : X4.heap[O3]? = some (.cells #[.int .i64 kd, .string u, .string l, .slice (some ⟨g2, 0, none⟩) na c2, .slice none 0 0, .string s] 27 (0, 0)) := by rw [← hY4]; exact set_row6 (k := 5) _ (set_row6 (k := 4) _ (set_row6 (k := 3) _ (set_row6 (k := 2) _ (set_row6 (k := 1) _ (set_row6 (k := 0) _ fO3)))))
          have oth4 : ∀ k, k ≠ O3 → X4.heap[k]? = X3.heap[k]? := fun k hne => by rw [← hY4]; exact ((set_oth6 hne).trans ((set_oth6 hne).trans ((set_oth6 hne).trans ((set_oth6 hne).trans ((set_oth6 hne).trans (set_oth6 hne))))))
          have sz4 : X4.heap.size = X3.heap.size := by rw [← hY4]; simp [World.setCell]
          have os4 : Below 0 X3 X4 := by rw [← hY4]; exact (((((((Below.refl 0 X3).setCell (p := ⟨O3, 0, none⟩) (Nat.zero_le _) _).setCell (p := ⟨O3, 1, none⟩) (Nat.zero_le _) _).setCell (p := ⟨O3, 2, none⟩) (Nat.zero_le _) _).setCell (p := ⟨O3, 3, none⟩) (Nat.zero_le _) _).setCell (p := ⟨O3, 4, none⟩) (Nat.zero_le _) _).setCell (p := ⟨O3, 5, none⟩) (Nat.zero_le _) _)
          have r4 := r3.but lO3 (fun k _ hne => oth4 k hne) os4.os os4.tape os4.output (Nat.le_of_eq sz4.symm)
          refine hK.out _ _ (HS.out _ r4) (fun _ => ?_)
          clear hK K hY4 ff0 ff1 ff2 ff3 ff4 ff5 cc0 cc1 cc2 cc3 cc4 cc5
          try simp only [Act.put, List.getElem_toArray, List.getElem_cons_zero, List.getElem_cons_succ, List.setIfInBounds_toArray, List.set_cons_zero, List.set_cons_succ]
          refine wpAnyH_done (by kernel_rfl) ?_ _
          go_wp2_with (fail)
          go_meet
          refine ⟨O3, rfl, cell_of_row _ _ 4 _ _ _ r4.box, Lib.hid ⟨some ⟨g2, 0, none⟩, c2, r4.below, r4.res, by rw [HNA.out]; exact rw4, lO3, OwnN.nil _ _, (fun e => by cases e), by rw [HNA.out]; exact hcp2, (fun e => by cases e), fun W' hW' => ⟨fun z hz => (by cases hz), lv3 W' ((hW' _ (by rw [sz4]; exact lg3) gg2 nGO3 (fun e => by cases e)).trans (oth4 _ nGO3))⟩⟩⟩
        · skip
          go_simp
          obtain ⟨X5, hY5⟩ : ∃ Y, X1.alloc (.cells #[.int .i64 0, .string ⟨#[]⟩, .string ⟨#[]⟩, .slice none 0 0, .slice none 0 0, .string ⟨#[]⟩] 27) = Y := ⟨_, rfl⟩
          obtain ⟨O5, hn5⟩ : ∃ n, X1.heap.size = n := ⟨_, rfl⟩
          have b5 : Below X1.heap.size X1 X5 := by rw [← hY5]; exact (Below.refl _ _).alloc (Nat.le_refl _) _
          have fO5 : X5.heap[O5]? = some (.cells #[.int .i64 0, .string ⟨#[]⟩, .string ⟨#[]⟩, .slice none 0 0, .slice none 0 0, .string ⟨#[]⟩] 27 (0, 0)) := by rw [← hY5, ← hn5]; exact heap_alloc_new _ _
          have r5 := r1.far b5
          have lO5 : w.heap.size + 2 ≤ O5 := by rw [← hn5]; exact z1
          have z5 : w.heap.size + 2 ≤ X5.heap.size := Nat.le_trans z1 b5.size
          have fA5 := (b5.block _ (it_lt fA1)).trans fA1
          have nAO5 : A1 ≠ O5 := by have := it_lt fA1; omega
          rw [hY5]
          rw [hn5]
          refine hK.out _ _ (HS.out _ r5) (fun h5 => ?_)
          clear hK K hY5 hn5
          try simp only [Act.put, List.getElem_toArray, List.getElem_cons_zero, List.getElem_cons_succ, List.setIfInBounds_toArray, List.set_cons_zero, List.set_cons_succ]
          refine wpAnyH_ready (rs := [9]) (by kernel_rfl) (by simp) ?_
          refine AllReadyH.cons (o := _) rfl (fun K hK => ?_) AllReadyH.nil
          obtain ⟨g6, c6, X6, hrun6, hat6, hcp6, hoth6, ho1, ho2, ho3, hsz6, hg6, lg6, _⟩ := HCP.out X5 A1 (below_cat5 HB0.out r5.below) fA5 lA1
          have r6 := r5.but lA1 hoth6 ho1 ho2 ho3 hsz6
          have z6 : w.heap.size + 2 ≤ X6.heap.size := Nat.le_trans z5 hsz6
          have gg6 : w.heap.size + 2 ≤ g6 := by rcases hg6 with e | e <;> (have := lA1; omega)
          have lv6 : ∀ W', W'.heap[g6]? = X6.heap[g6]? → AttrsAt W' (some ⟨g6, 0, none⟩) la := fun W' e h0 => by
            obtain ⟨b, off, e1, hc⟩ := hat6 h0
            injection e1 with e1
            injection e1 with e2 e3
            subst e2 e3
            exact ⟨g6, 0, rfl, fun j hj => ⟨(World.cell?_of_block (a := ⟨g6, 0 + j * 3, none⟩) e).trans (hc j hj).1, (World.cell?_of_block (a := ⟨g6, 0 + j * 3 + 1, none⟩) e).trans (hc j hj).2.1, (World.cell?_of_block (a := ⟨g6, 0 + j * 3 + 2, none⟩) e).trans (hc j hj).2.2⟩⟩
          have fO6 := (hoth6 _ (it_lt fO5) (fun e => nAO5 e.symm)).trans fO5
          have nGO6 : g6 ≠ O5 := by have := it_lt fO5; have h1 := nAO5; rcases hg6 with e | e <;> omega
          refine step_of rfl (wp_append_eq (.tmp 12) (.tmp 14) 24 rfl (.slice (some ⟨A1, 0, none⟩) 0 0) (.slice pa na ca) (.slice (some ⟨g6, 0, none⟩) na c6) X6 (by rfl) (by rfl) hrun6 ?_)
          refine hK.out _ _ (HS.out _ r6) (fun h6 => ?_)
          clear hK K hrun6 hat6 hoth6 ho1 ho2 ho3 hg6
          try simp only [Act.put, List.getElem_toArray, List.getElem_cons_zero, List.getElem_cons_succ, List.setIfInBounds_toArray, List.set_cons_zero, List.set_cons_succ]
          refine wpAnyH_take (i := 10) (oi := _) (v := ?vg6_10) rfl (by kernel_rfl) (by kernel_rfl) (by kernel_rfl) (fun _ _ _ h => h) (Or.inl ⟨by rfl, ?hyg6_10⟩) h6 ?restg6_10
          case hyg6_10 =>
            intro W hSw
            clear hSw
            go_simp
            try (with_reducible rfl)
          try simp only [Act.put, List.getElem_toArray, List.getElem_cons_zero, List.getElem_cons_succ, List.setIfInBounds_toArray, List.set_cons_zero, List.set_cons_succ]
          refine wpAnyH_ready (rs := [12]) (by kernel_rfl) (by simp) ?_
          refine AllReadyH.cons (o := _) rfl (fun K hK => ?_) AllReadyH.nil
          have ff0 : X6.frozen? ⟨O5, 0, none⟩ = false := frozen_of_row _ _ _ _ _ fO6
          have ff1 : X6.frozen? ⟨O5, 1, none⟩ = false := frozen_of_row _ _ _ _ _ fO6
          have ff2 : X6.frozen? ⟨O5, 2, none⟩ = false := frozen_of_row _ _ _ _ _ fO6
          have ff3 : X6.frozen? ⟨O5, 3, none⟩ = false := frozen_of_row _ _ _ _ _ fO6
          have ff4 : X6.frozen? ⟨O5, 4, none⟩ = false := frozen_of_row _ _ _ _ _ fO6
          have ff5 : X6.frozen? ⟨O5, 5, none⟩ = false := frozen_of_row _ _ _ _ _ fO6
          have cc0 : X6.cell? ⟨O5, 0, none⟩ = some (.int .i64 0) := cell_of_row _ _ 0 _ _ _ fO6
          have cc1 : X6.cell? ⟨O5, 1, none⟩ = some (.string ⟨#[]⟩) := cell_of_row _ _ 1 _ _ _ fO6
          have cc2 : X6.cell? ⟨O5, 2, none⟩ = some (.string ⟨#[]⟩) := cell_of_row _ _ 2 _ _ _ fO6
          have cc3 : X6.cell? ⟨O5, 3, none⟩ = some (.slice none 0 0) := cell_of_row _ _ 3 _ _ _ fO6
          have cc4 : X6.cell? ⟨O5, 4, none⟩ = some (.slice none 0 0) := cell_of_row _ _ 4 _ _ _ fO6
          have cc5 : X6.cell? ⟨O5, 5, none⟩ = some (.string ⟨#[]⟩) := cell_of_row _ _ 5 _ _ _ fO6
          go_simp
          obtain ⟨X7, hY7⟩ : ∃ Y, ((((((X6.setCell ⟨O5, 0, none⟩ (.int .i64 kd)).setCell ⟨O5, 1, none⟩ (.string u)).setCell ⟨O5, 2, none⟩ (.string l)).setCell ⟨O5, 3, none⟩ (.slice (some ⟨g6, 0, none⟩) na c6)).setCell ⟨O5, 4, none⟩ (.slice none 0 0)).setCell ⟨O5, 5, none⟩ (.string s)) = Y := ⟨_, rfl⟩
          rw [hY7]
          have rw7 : X7.heap[O5]? = some (.cells #[.int .i64 kd, .string u, .string l, .slice (some ⟨g6, 0, none⟩) na c6, .slice none 0 0, .string s] 27 (0, 0)) := by rw [← hY7]; exact set_row6 (k := 5) _ (set_row6 (k := 4) _ (set_row6 (k := 3) _ (set_row6 (k := 2) _ (set_row6 (k := 1) _ (set_row6 (k := 0) _ fO6)))))
          have oth7 : ∀ k, k ≠ O5 → X7.heap[k]? = X6.heap[k]? := fun k hne => by rw [← hY7]; exact ((set_oth6 hne).trans ((set_oth6 hne).trans ((set_oth6 hne).trans ((set_oth6 hne).trans ((set_oth6 hne).trans (set_oth6 hne))))))
          have sz7 : X7.heap.size = X6.heap.size := by rw [← hY7]; simp [World.setCell]
          have os7 : Below 0 X6 X7 := by rw [← hY7]; exact (((((((Below.refl 0 X6).setCell (p := ⟨O5, 0, none⟩) (Nat.zero_le _) _).setCell (p := ⟨O5, 1, none⟩) (Nat.zero_le _) _).setCell (p := ⟨O5, 2, none⟩) (Nat.zero_le _) _).setCell (p := ⟨O5, 3, none⟩) (Nat.zero_le _) _).setCell (p := ⟨O5, 4, none⟩) (Nat.zero_le _) _).setCell (p := ⟨O5, 5, none⟩) (Nat.zero_le _) _)
          have r7 := r6.but lO5 (fun k _ hne => oth7 k hne) os7.os os7.tape os7.output (Nat.le_of_eq sz7.symm)
          refine hK.out _ _ (HS.out _ r7) (fun _ => ?_)
          clear hK K hY7 ff0 ff1 ff2 ff3 ff4 ff5 cc0 cc1 cc2 cc3 cc4 cc5
          try simp only [Act.put, List.getElem_toArray, List.getElem_cons_zero, List.getElem_cons_succ, List.setIfInBounds_toArray, List.set_cons_zero, List.set_cons_succ]
          refine wpAnyH_done (by kernel_rfl) ?_ _
          go_wp2_with (fail)
          go_meet
          refine ⟨O5, rfl, cell_of_row _ _ 4 _ _ _ r7.box, Lib.hid ⟨some ⟨g6, 0, none⟩, c6, r7.below, r7.res, by rw [HNA.out]; exact rw7, lO5, OwnN.nil _ _, (fun e => by cases e), by rw [HNA.out]; exact hcp6, (fun e => by cases e), fun W' hW' => ⟨fun z hz => (by cases hz), lv6 W' ((hW' _ (by rw [sz7]; exact lg6) gg6 nGO6 (fun e => by cases e)).trans (oth7 _ nGO6))⟩⟩⟩
      · skip
        go_simp
        obtain ⟨X8, hY8⟩ : ∃ Y, X0.alloc (.cells #[.int .i64 0, .string ⟨#[]⟩, .string ⟨#[]⟩, .slice none 0 0, .slice none 0 0, .string ⟨#[]⟩] 27) = Y := ⟨_, rfl⟩
        obtain ⟨O8, hn8⟩ : ∃ n, X0.heap.size = n := ⟨_, rfl⟩
        have b8 : Below X0.heap.size X0 X8 := by rw [← hY8]; exact (Below.refl _ _).alloc (Nat.le_refl _) _
        have fO8 : X8.heap[O8]? = some (.cells #[.int .i64 0, .string ⟨#[]⟩, .string ⟨#[]⟩, .slice none 0 0, .slice none 0 0, .string ⟨#[]⟩] 27 (0, 0)) := by rw [← hY8, ← hn8]; exact heap_alloc_new _ _
        have r8 := r0.far b8
        have lO8 : w.heap.size + 2 ≤ O8 := by rw [← hn8]; exact z0
        have z8 : w.heap.size + 2 ≤ X8.heap.size := Nat.le_trans z0 b8.size
        rw [hY8]
        rw [hn8]
        refine hK.out _ _ (HS.out _ r8) (fun h8 => ?_)
        clear hK K hY8 hn8
        try simp only [Act.put, List.getElem_toArray, List.getElem_cons_zero, List.getElem_cons_succ, List.setIfInBounds_toArray, List.set_cons_zero, List.set_cons_succ]
        refine wpAnyH_ready (rs := [6]) (by kernel_rfl) (by simp) ?_
        refine AllReadyH.cons (o := _) rfl (fun K hK => ?_) AllReadyH.nil
        go_simp
        obtain ⟨X9, hY9⟩ : ∃ Y, X8.alloc (.cells #[] 67) = Y := ⟨_, rfl⟩
        obtain ⟨A9, hn9⟩ : ∃ n, X8.heap.size = n := ⟨_, rfl⟩
        have b9 : Below X8.heap.size X8 X9 := by rw [← hY9]; exact (Below.refl _ _).alloc (Nat.le_refl _) _
        have fA9 : X9.heap[A9]? = some (.cells #[] 67 (0, 0)) := by rw [← hY9, ← hn9]; exact heap_alloc_new _ _
        have r9 := r8.far b9
        have lA9 : w.heap.size + 2 ≤ A9 := by rw [← hn9]; exact z8
        have z9 : w.heap.size + 2 ≤ X9.heap.size := Nat.le_trans z8 b9.size
        have fO9 := (b9.block _ (it_lt fO8)).trans fO8
        have nAO9 : A9 ≠ O8 := by have := it_lt fO8; omega
        rw [hY9]
        rw [hn9]
        refine hK.out _ _ (HS.out _ r9) (fun h9 => ?_)
        clear hK K hY9 hn9
        try simp only [Act.put, List.getElem_toArray, List.getElem_cons_zero, List.getElem_cons_succ, List.setIfInBounds_toArray, List.set_cons_zero, List.set_cons_succ]
        refine wpAnyH_ready (rs := [9]) (by kernel_rfl) (by simp) ?_
        refine AllReadyH.cons (o := _) rfl (fun K hK => ?_) AllReadyH.nil
        obtain ⟨g10, c10, X10, hrun10, hat10, hcp10, hoth10, ho1, ho2, ho3, hsz10, hg10, lg10, _⟩ := HCP.out X9 A9 (below_cat5 HB0.out r9.below) fA9 lA9
        have r10 := r9.but lA9 hoth10 ho1 ho2 ho3 hsz10
        have z10 : w.heap.size + 2 ≤ X10.heap.size := Nat.le_trans z9 hsz10
        have gg10 : w.heap.size + 2 ≤ g10 := by rcases hg10 with e | e <;> (have := lA9; omega)
        have lv10 : ∀ W', W'.heap[g10]? = X10.heap[g10]? → AttrsAt W' (some ⟨g10, 0, none⟩) la := fun W' e h0 => by
          obtain ⟨b, off, e1, hc⟩ := hat10 h0
          injection e1 with e1
          injection e1 with e2 e3
          subst e2 e3
          exact ⟨g10, 0, rfl, fun j hj => ⟨(World.cell?_of_block (a := ⟨g10, 0 + j * 3, none⟩) e).trans (hc j hj).1, (World.cell?_of_block (a := ⟨g10, 0 + j * 3 + 1, none⟩) e).trans (hc j hj).2.1, (World.cell?_of_block (a := ⟨g10, 0 + j * 3 + 2, none⟩) e).trans (hc j hj).2.2⟩⟩
        have fO10 := (hoth10 _ (it_lt fO9) (fun e => nAO9 e.symm)).trans fO9
        have nGO10 : g10 ≠ O8 := by have := it_lt fO9; have h1 := nAO9; rcases hg10 with e | e <;> omega
        refine step_of rfl (wp_append_eq (.tmp 12) (.tmp 14) 24 rfl (.slice (some ⟨A9, 0, none⟩) 0 0) (.slice pa na ca) (.slice (some ⟨g10, 0, none⟩) na c10) X10 (by rfl) (by rfl) hrun10 ?_)
        refine hK.out _ _ (HS.out _ r10) (fun h10 => ?_)
        clear hK K hrun10 hat10 hoth10 ho1 ho2 ho3 hg10
        try simp only [Act.put, List.getElem_toArray, List.getElem_cons_zero, List.getElem_cons_succ, List.setIfInBounds_toArray, List.set_cons_zero, List.set_cons_succ]
        refine wpAnyH_take (i := 10) (oi := _) (v := ?vg10_10) rfl (by kernel_rfl) (by kernel_rfl) (by kernel_rfl) (fun _ _ _ h => h) (Or.inl ⟨by rfl, ?hyg10_10⟩) h10 ?restg10_10
        case hyg10_10 =>
          intro W hSw
          clear hSw
          go_simp
          try (with_reducible rfl)
        try simp only [Act.put, List.getElem_toArray, List.getElem_cons_zero, List.getElem_cons_succ, List.setIfInBounds_toArray, List.set_cons_zero, List.set_cons_succ]
        refine wpAnyH_ready (rs := [12]) (by kernel_rfl) (by simp) ?_
        refine AllReadyH.cons (o := _) rfl (fun K hK => ?_) AllReadyH.nil
        have ff0 : X10.frozen? ⟨O8, 0, none⟩ = false := frozen_of_row _ _ _ _ _ fO10
        have ff1 : X10.frozen? ⟨O8, 1, none⟩ = false := frozen_of_row _ _ _ _ _ fO10
        have ff2 : X10.frozen? ⟨O8, 2, none⟩ = false := frozen_of_row _ _ _ _ _ fO10
        have ff3 : X10.frozen? ⟨O8, 3, none⟩ = false := frozen_of_row _ _ _ _ _ fO10
        have ff4 : X10.frozen? ⟨O8, 4, none⟩ = false := frozen_of_row _ _ _ _ _ fO10
        have ff5 : X10.frozen? ⟨O8, 5, none⟩ = false := frozen_of_row _ _ _ _ _ fO10
        have cc0 : X10.cell? ⟨O8, 0, none⟩ = some (.int .i64 0) := cell_of_row _ _ 0 _ _ _ fO10
        have cc1 : X10.cell? ⟨O8, 1, none⟩ = some (.string ⟨#[]⟩) := cell_of_row _ _ 1 _ _ _ fO10
        have cc2 : X10.cell? ⟨O8, 2, none⟩ = some (.string ⟨#[]⟩) := cell_of_row _ _ 2 _ _ _ fO10
        have cc3 : X10.cell? ⟨O8, 3, none⟩ = some (.slice none 0 0) := cell_of_row _ _ 3 _ _ _ fO10
        have cc4 : X10.cell? ⟨O8, 4, none⟩ = some (.slice none 0 0) := cell_of_row _ _ 4 _ _ _ fO10
        have cc5 : X10.cell? ⟨O8, 5, none⟩ = some (.string ⟨#[]⟩) := cell_of_row _ _ 5 _ _ _ fO10
        go_simp
        obtain ⟨X11, hY11⟩ : ∃ Y, ((((((X10.setCell ⟨O8, 0, none⟩ (.int .i64 kd)).setCell ⟨O8, 1, none⟩ (.string u)).setCell ⟨O8, 2, none⟩ (.string l)).setCell ⟨O8, 3, none⟩ (.slice (some ⟨g10, 0, none⟩) na c10)).setCell ⟨O8, 4, none⟩ (.slice none 0 0)).setCell ⟨O8, 5, none⟩ (.string s)) = Y := ⟨_, rfl⟩
        rw [hY11]
        have rw11 : X11.heap[O8]? = some (.cells #[.int .i64 kd, .string u, .string l, .slice (some ⟨g10, 0, none⟩) na c10, .slice none 0 0, .string s] 27 (0, 0)) := by rw [← hY11]; exact set_row6 (k := 5) _ (set_row6 (k := 4) _ (set_row6 (k := 3) _ (set_row6 (k := 2) _ (set_row6 (k := 1) _ (set_row6 (k := 0) _ fO10)))))
        have oth11 : ∀ k, k ≠ O8 → X11.heap[k]? = X10.heap[k]? := fun k hne => by rw [← hY11]; exact ((set_oth6 hne).trans ((set_oth6 hne).trans ((set_oth6 hne).trans ((set_oth6 hne).trans ((set_oth6 hne).trans (set_oth6 hne))))))
        have sz11 : X11.heap.size = X10.heap.size := by rw [← hY11]; simp [World.setCell]
        have os11 : Below 0 X10 X11 := by rw [← hY11]; exact (((((((Below.refl 0 X10).setCell (p := ⟨O8, 0, none⟩) (Nat.zero_le _) _).setCell (p := ⟨O8, 1, none⟩) (Nat.zero_le _) _).setCell (p := ⟨O8, 2, none⟩) (Nat.zero_le _) _).setCell (p := ⟨O8, 3, none⟩) (Nat.zero_le _) _).setCell (p := ⟨O8, 4, none⟩) (Nat.zero_le _) _).setCell (p := ⟨O8, 5, none⟩) (Nat.zero_le _) _)
        have r11 := r10.but lO8 (fun k _ hne => oth11 k hne) os11.os os11.tape os11.output (Nat.le_of_eq sz11.symm)
        refine hK.out _ _ (HS.out _ r11) (fun _ => ?_)
        clear hK K hY11 ff0 ff1 ff2 ff3 ff4 ff5 cc0 cc1 cc2 cc3 cc4 cc5
        try simp only [Act.put, List.getElem_toArray, List.getElem_cons_zero, List.getElem_cons_succ, List.setIfInBounds_toArray, List.set_cons_zero, List.set_cons_succ]
        refine wpAnyH_done (by kernel_rfl) ?_ _
        go_wp2_with (fail)
        go_meet
        refine ⟨O8, rfl, cell_of_row _ _ 4 _ _ _ r11.box, Lib.hid ⟨some ⟨g10, 0, none⟩, c10, r11.below, r11.res, by rw [HNA.out]; exact rw11, lO8, OwnN.nil _ _, (fun e => by cases e), by rw [HNA.out]; exact hcp10, (fun e => by cases e), fun W' hW' => ⟨fun z hz => (by cases hz), lv10 W' ((hW' _ (by rw [sz11]; exact lg10) gg10 nGO10 (fun e => by cases e)).trans (oth11 _ nGO10))⟩⟩⟩
    case rest =>
      obtain ⟨O, rfl, hc4, HT⟩ := hcut
      obtain ⟨pa1, ca1, hT⟩ := HT.out
      have HT2 := Lib.hid hT
      clear hT HT HS HR1 HCP
      go_wp2_with (fail)
      go_loopw [20] (fun v wr => ∃ (i : Nat) (q : Option Addr) (c : Nat) (zs : List KN), v = .int .i64 (i : Int) ∧ i ≤ ks.length ∧ zs.length = i ∧ Hid' (TSt w O kd u l s la pa1 ca1 q c zs wr ∧ zs.map (fun z => z.t.plain) = (ks.take i).map AT.plain)) (fun v _ => ks.length - (intOf v).toNat)
      case atStart => exact ⟨0, none, 0, [], rfl, Nat.zero_le _, rfl, ⟨HT2.out, by rw [List.take_zero]; rfl⟩⟩
      case round =>
        obtain ⟨i, q, c, zs, rfl, hi, hzi, HI⟩ := hrel
        obtain ⟨V, rfl⟩ : ∃ V, V = wr := ⟨_, rfl⟩
        by_cases hlt : i < ks.length
        · have hi' : (i : Int) < (ks.length : Int) := by omega
          obtain ⟨kb, ko, pa', ca', pk', ck', rfl, ⟨c0, c1, c2, c3, c4, c5⟩, hcall⟩ := HK.out i hlt
          have bV : Below w0.heap.size w0 V := below_cat5 HB0.out HI.out.1.below
          have e0 := t_cell' bV c0
          have e1 := t_cell' bV c1
          have e2 := t_cell' bV c2
          have e3 := t_cell' bV c3
          have e4 := t_cell' bV c4
          have e5 := t_cell' bV c5
          have HP := Lib.hid (show (ks.take (i + 1)).map AT.plain = (ks.take i).map AT.plain ++ [ks[i].plain] from by rw [List.take_add_one, List.getElem?_eq_getElem hlt, List.map_append]; rfl)
          have CB := Lib.hid hcall
          unfold nodeV at CB
          unfold TwinOut at CB
          obtain ⟨kp, ekp⟩ : ∃ kp, ks[i].plain = kp := ⟨_, rfl⟩
          rw [ekp] at HP CB
          clear c0 c1 c2 c3 c4 c5 hcall bV ekp
          generalize ks[i].kind = y0 at *
          generalize ks[i].uri = y1 at *
          generalize ks[i].loc = y2 at *
          generalize ks[i].attrs.length = y3 at *
          generalize ks[i].kids.length = y4 at *
          generalize ks[i].text = y5 at *
          have hzl : zs.length ≤ 1048576 := by omega
          obtain ⟨n, hn⟩ : ∃ n, zs.length = n := ⟨_, rfl⟩
          go_upto_region 5 with (fail)
          obtain ⟨U, hU⟩ : ∃ U, V.alloc (.cells #[.int .i64 y0, .string y1, .string y2, .slice pa' y3 ca', .slice pk' y4 ck', .string y5] 27) = U := ⟨_, rfl⟩
          have bU : Below V.heap.size V U := by rw [← hU]; exact (Below.refl _ _).alloc (Nat.le_refl _) _
          have rU : U.heap[V.heap.size]? = some (.cells #[.int .i64 y0, .string y1, .string y2, .slice pa' y3 ca', .slice pk' y4 ck', .string y5] 27 (0, 0)) := by rw [← hU]; exact heap_alloc_new _ _
          have zU : U.heap.size = V.heap.size + 1 := by rw [← hU]; simp
          have HU := Lib.hid (And.intro bU (And.intro rU zU))
          have HS := Lib.hid (fun (W : World) (hr : W.heap[V.heap.size]? = some (.cells #[.int .i64 y0, .string y1, .string y2, .slice pa' y3 ca', .slice pk' y4 ck', .string y5] 27 (0, 0))) => (show W.cell? ⟨V.heap.size, 0, none⟩ = some (.int .i64 y0) ∧ W.cell? ⟨V.heap.size, 1, none⟩ = some (.string y1) ∧ W.cell? ⟨V.heap.size, 2, none⟩ = some (.string y2) ∧ W.cell? ⟨V.heap.size, 3, none⟩ = some (.slice pa' y3 ca') ∧ W.cell? ⟨V.heap.size, 4, none⟩ = some (.slice pk' y4 ck') ∧ W.cell? ⟨V.heap.size, 5, none⟩ = some (.string y5) from ⟨cell_of_row _ _ 0 _ _ _ hr, cell_of_row _ _ 1 _ _ _ hr, cell_of_row _ _ 2 _ _ _ hr, cell_of_row _ _ 3 _ _ _ hr, cell_of_row _ _ 4 _ _ _ hr, cell_of_row _ _ 5 _ _ _ hr⟩))
          have HQ := Lib.hid (fun (W : World) (y : Below V.heap.size V W) => (show W.cell? ⟨O, 4, none⟩ = some (.slice q n c) from by rw [← hn]; exact cell_of_row _ _ 4 _ _ _ (HI.out.1.far y).out))
          have HN := Lib.hid hn
          clear rU zU
          rw [hU]
          refine wp_region_held_drew (S := fun W => W.cell? ⟨V.heap.size, 0, none⟩ = some (.int .i64 y0) ∧ W.cell? ⟨V.heap.size, 1, none⟩ = some (.string y1) ∧ W.cell? ⟨V.heap.size, 2, none⟩ = some (.string y2) ∧ W.cell? ⟨V.heap.size, 3, none⟩ = some (.slice pa' y3 ca') ∧ W.cell? ⟨V.heap.size, 4, none⟩ = some (.slice pk' y4 ck') ∧ W.cell? ⟨V.heap.size, 5, none⟩ = some (.string y5)) (by kernel_rfl) (HS.out _ HU.out.2.1) (fun hHeld => ?_)
          have b0 : Below V.heap.size V U.drew := bU.drew
          have r0 := HU.out.2.1
          clear bU hU hn
          refine wpAnyH_take (i := 0) (oi := _) (v := ?vs0) rfl (by kernel_rfl) (by kernel_rfl) (by kernel_rfl) (fun _ _ _ h => h) (Or.inl ⟨by rfl, ?hys0⟩) (by assumption) ?rests0
          case hys0 =>
            intro W hSw
            clear hSw
            go_simp
            try (with_reducible rfl)
          try simp only [Act.put, List.getElem_toArray, List.getElem_cons_zero, List.getElem_cons_succ, List.setIfInBounds_toArray, List.set_cons_zero, List.set_cons_succ]
          refine wpAnyH_take (i := 2) (oi := _) (v := ?vs2) rfl (by kernel_rfl) (by kernel_rfl) (by kernel_rfl) (fun _ _ _ h => h) (Or.inl ⟨by rfl, ?hys2⟩) (by assumption) ?rests2
          case hys2 =>
            intro W hSw
            obtain ⟨e0, e1, e2, e3, e4, e5⟩ := hSw
            go_simp
            try (with_reducible rfl)
          try simp only [Act.put, List.getElem_toArray, List.getElem_cons_zero, List.getElem_cons_succ, List.setIfInBounds_toArray, List.set_cons_zero, List.set_cons_succ]
          have hHeld0 := hHeld
          clear hHeld
          obtain ⟨X0, hX0⟩ : ∃ X, X = U.drew := ⟨_, rfl⟩
          have z0 : X0.heap.size = V.heap.size + 1 := by rw [hX0]; exact HU.out.2.2
          have r0 : X0.heap[V.heap.size]? = some (.cells #[.int .i64 y0, .string y1, .string y2, .slice pa' y3 ca', .slice pk' y4 ck', .string y5] 27 (0, 0)) := by rw [hX0]; exact HU.out.2.1
          rw [← hX0] at b0 hHeld0 ⊢
          clear hX0
          refine wpAnyH_ready (rs := [1, 3]) (by kernel_rfl) (by simp) ?_
          refine AllReadyH.cons (o := _) rfl (fun K hK => ?_) (AllReadyH.cons (o := _) rfl (fun K hK => ?_) AllReadyH.nil)
          · skip
            have q12 := HQ.out X0 b0
            go_simp
            refine hK.out _ _ (HS.out _ r0) (fun _ => ?_)
            clear hK K q12
            try simp only [Act.put, List.getElem_toArray, List.getElem_cons_zero, List.getElem_cons_succ, List.setIfInBounds_toArray, List.set_cons_zero, List.set_cons_succ]
            refine wpAnyH_ready (rs := [3]) (by kernel_rfl) (by simp) ?_
            refine AllReadyH.cons (o := _) rfl (fun K hK => ?_) AllReadyH.nil
            go_simp
            refine (CB.out X0 (below_cat5 HB0.out (HI.out.1.below.trans (b0.mono HI.out.1.below.size)))).mono ?_
            rintro e X13 ⟨T, pa2, ca2, pk2, ck2, rfl, hpl, hbY, hliv⟩
            have b13 : Below V.heap.size V X13 := b0.trans (hbY.mono b0.size)
            have r13 := (hbY.block _ (it_lt r0)).trans r0
            have HLV := Lib.hid (And.intro hpl (show ∀ W', (∀ k, k < X13.heap.size → V.heap.size ≤ k → W'.heap[k]? = X13.heap[k]?) → PartsAt W' T pa2 ca2 pk2 ck2 ∧ KidsAt W' T from fun W' ho => hliv W' (fun j hj hs => ho j hj (by omega))))
            refine hK.out _ _ (HS.out _ r13) (fun _ => ?_)
            clear hK K hpl hliv hbY
            unfold nodeV
            try simp only [Act.put, List.getElem_toArray, List.getElem_cons_zero, List.getElem_cons_succ, List.setIfInBounds_toArray, List.set_cons_zero, List.set_cons_succ]
            refine wpAnyH_ready (rs := [4]) (by kernel_rfl) (by simp) ?_
            refine AllReadyH.cons (o := _) rfl (fun K hK => ?_) AllReadyH.nil
            go_simp
            obtain ⟨X14, hY14⟩ : ∃ Y, X13.alloc (.cells (KN.enc ⟨T, pa2, ca2, pk2, ck2⟩).toArray 27) = Y := ⟨_, rfl⟩
            have b14 : Below V.heap.size V X14 := by rw [← hY14]; exact b13.alloc b13.size _
            have r14 : X14.heap[V.heap.size]? = some (.cells #[.int .i64 y0, .string y1, .string y2, .slice pa' y3 ca', .slice pk' y4 ck', .string y5] 27 (0, 0)) := by rw [← hY14]; exact (Below.heap_alloc _ _ _ (it_lt r13)).trans r13
            unfold KN.enc at hY14
            simp only at hY14
            rw [hY14]
            refine hK.out _ _ (HS.out _ r14) (fun _ => ?_)
            clear hK K
            try simp only [Act.put, List.getElem_toArray, List.getElem_cons_zero, List.getElem_cons_succ, List.setIfInBounds_toArray, List.set_cons_zero, List.set_cons_succ]
            refine wpAnyH_ready (rs := [5]) (by kernel_rfl) (by simp) ?_
            refine AllReadyH.cons (o := _) rfl (fun K hK => ?_) AllReadyH.nil
            obtain ⟨q', c', X15, hrun, hbst, hoth, hbox3, _⟩ := TSt.more (z := ⟨T, pa2, ca2, pk2, ck2⟩) HI.out.1 HLV.out.2 b13 hY14 (by omega)
            rw [HN.out] at hrun hbst hbox3
            have r15 := (hoth _ (it_lt r14) (Nat.le_refl _)).trans r14
            have HBS := Lib.hid (And.intro hbst hbox3)
            refine step_of rfl (wp_append_eq (.tmp 25) (.tmp 28) 25 rfl (.slice q n c) (.slice (some ⟨X13.heap.size, 0, none⟩) 1 1) (.slice q' (n + 1) c') X15 (by rfl) (by rfl) hrun ?_)
            refine hK.out _ _ (HS.out _ r15) (fun hHeld15 => ?_)
            clear hK K hrun hbst hoth hbox3
            try simp only [Act.put, List.getElem_toArray, List.getElem_cons_zero, List.getElem_cons_succ, List.setIfInBounds_toArray, List.set_cons_zero, List.set_cons_succ]
            refine wpAnyH_take (i := 6) (oi := _) (v := ?vn15_6) rfl (by kernel_rfl) (by kernel_rfl) (by kernel_rfl) (fun _ _ _ h => h) (Or.inl ⟨by rfl, ?hyn15_6⟩) hHeld15 ?restn15_6
            case hyn15_6 =>
              intro W hSw
              clear hSw
              go_simp
              try (with_reducible rfl)
            try simp only [Act.put, List.getElem_toArray, List.getElem_cons_zero, List.getElem_cons_succ, List.setIfInBounds_toArray, List.set_cons_zero, List.set_cons_succ]
            clear hHeld15
            refine wpAnyH_ready (rs := [7]) (by kernel_rfl) (by simp) ?_
            refine AllReadyH.cons (o := _) rfl (fun K hK => ?_) AllReadyH.nil
            have ff : X15.frozen? ⟨O, 4, none⟩ = false := frozen_of_row _ _ _ _ _ HBS.out.2
            have cc : X15.cell? ⟨O, 4, none⟩ = some (.slice q n c) := cell_of_row _ _ 4 _ _ _ HBS.out.2
            go_simp
            have r16 : (X15.setCell ⟨O, 4, none⟩ (.slice q' (n + 1) c')).heap[V.heap.size]? = some (.cells #[.int .i64 y0, .string y1, .string y2, .slice pa' y3 ca', .slice pk' y4 ck', .string y5] 27 (0, 0)) := (set_oth6 (by have := it_lt HI.out.1.out; show V.heap.size ≠ O; omega)).trans r15
            refine hK.out _ _ (HS.out _ r16) (fun _ => ?_)
            clear hK K
            try simp only [Act.put, List.getElem_toArray, List.getElem_cons_zero, List.getElem_cons_succ, List.setIfInBounds_toArray, List.set_cons_zero, List.set_cons_succ]
            refine wpAnyH_done (by kernel_rfl) ?_ _
            go_wp2_with (fail)
            go_roundw
            case rel => exact ⟨i + 1, q', c', zs ++ [⟨T, pa2, ca2, pk2, ck2⟩], by go_num, hlt, by simp; omega, ⟨HBS.out.1, by rw [List.map_append, HP.out, HI.out.2]; simp [HLV.out.1]⟩⟩
            case measure => simp only [intOf]; omega
          · skip
            go_simp
            refine (CB.out X0 (below_cat5 HB0.out (HI.out.1.below.trans (b0.mono HI.out.1.below.size)))).mono ?_
            rintro e X17 ⟨T, pa2, ca2, pk2, ck2, rfl, hpl, hbY, hliv⟩
            have b17 : Below V.heap.size V X17 := b0.trans (hbY.mono b0.size)
            have r17 := (hbY.block _ (it_lt r0)).trans r0
            have HLV := Lib.hid (And.intro hpl (show ∀ W', (∀ k, k < X17.heap.size → V.heap.size ≤ k → W'.heap[k]? = X17.heap[k]?) → PartsAt W' T pa2 ca2 pk2 ck2 ∧ KidsAt W' T from fun W' ho => hliv W' (fun j hj hs => ho j hj (by omega))))
            refine hK.out _ _ (HS.out _ r17) (fun _ => ?_)
            clear hK K hpl hliv hbY
            unfold nodeV
            try simp only [Act.put, List.getElem_toArray, List.getElem_cons_zero, List.getElem_cons_succ, List.setIfInBounds_toArray, List.set_cons_zero, List.set_cons_succ]
            refine wpAnyH_ready (rs := [1, 4]) (by kernel_rfl) (by simp) ?_
            refine AllReadyH.cons (o := _) rfl (fun K hK => ?_) (AllReadyH.cons (o := _) rfl (fun K hK => ?_) AllReadyH.nil)
            · skip
              have q18 := HQ.out X17 b17
              go_simp
              refine hK.out _ _ (HS.out _ r17) (fun _ => ?_)
              clear hK K q18
              try simp only [Act.put, List.getElem_toArray, List.getElem_cons_zero, List.getElem_cons_succ, List.setIfInBounds_toArray, List.set_cons_zero, List.set_cons_succ]
              refine wpAnyH_ready (rs := [4]) (by kernel_rfl) (by simp) ?_
              refine AllReadyH.cons (o := _) rfl (fun K hK => ?_) AllReadyH.nil
              go_simp
              obtain ⟨X19, hY19⟩ : ∃ Y, X17.alloc (.cells (KN.enc ⟨T, pa2, ca2, pk2, ck2⟩).toArray 27) = Y := ⟨_, rfl⟩
              have b19 : Below V.heap.size V X19 := by rw [← hY19]; exact b17.alloc b17.size _
              have r19 : X19.heap[V.heap.size]? = some (.cells #[.int .i64 y0, .string y1, .string y2, .slice pa' y3 ca', .slice pk' y4 ck', .string y5] 27 (0, 0)) := by rw [← hY19]; exact (Below.heap_alloc _ _ _ (it_lt r17)).trans r17
              unfold KN.enc at hY19
              simp only at hY19
              rw [hY19]
              refine hK.out _ _ (HS.out _ r19) (fun _ => ?_)
              clear hK K
              try simp only [Act.put, List.getElem_toArray, List.getElem_cons_zero, List.getElem_cons_succ, List.setIfInBounds_toArray, List.set_cons_zero, List.set_cons_succ]
              refine wpAnyH_ready (rs := [5]) (by kernel_rfl) (by simp) ?_
              refine AllReadyH.cons (o := _) rfl (fun K hK => ?_) AllReadyH.nil
              obtain ⟨q', c', X20, hrun, hbst, hoth, hbox3, _⟩ := TSt.more (z := ⟨T, pa2, ca2, pk2, ck2⟩) HI.out.1 HLV.out.2 b17 hY19 (by omega)
              rw [HN.out] at hrun hbst hbox3
              have r20 := (hoth _ (it_lt r19) (Nat.le_refl _)).trans r19
              have HBS := Lib.hid (And.intro hbst hbox3)
              refine step_of rfl (wp_append_eq (.tmp 25) (.tmp 28) 25 rfl (.slice q n c) (.slice (some ⟨X17.heap.size, 0, none⟩) 1 1) (.slice q' (n + 1) c') X20 (by rfl) (by rfl) hrun ?_)
              refine hK.out _ _ (HS.out _ r20) (fun hHeld20 => ?_)
              clear hK K hrun hbst hoth hbox3
              try simp only [Act.put, List.getElem_toArray, List.getElem_cons_zero, List.getElem_cons_succ, List.setIfInBounds_toArray, List.set_cons_zero, List.set_cons_succ]
              refine wpAnyH_take (i := 6) (oi := _) (v := ?vn20_6) rfl (by kernel_rfl) (by kernel_rfl) (by kernel_rfl) (fun _ _ _ h => h) (Or.inl ⟨by rfl, ?hyn20_6⟩) hHeld20 ?restn20_6
              case hyn20_6 =>
                intro W hSw
                clear hSw
                go_simp
                try (with_reducible rfl)
              try simp only [Act.put, List.getElem_toArray, List.getElem_cons_zero, List.getElem_cons_succ, List.setIfInBounds_toArray, List.set_cons_zero, List.set_cons_succ]
              clear hHeld20
              refine wpAnyH_ready (rs := [7]) (by kernel_rfl) (by simp) ?_
              refine AllReadyH.cons (o := _) rfl (fun K hK => ?_) AllReadyH.nil
              have ff : X20.frozen? ⟨O, 4, none⟩ = false := frozen_of_row _ _ _ _ _ HBS.out.2
              have cc : X20.cell? ⟨O, 4, none⟩ = some (.slice q n c) := cell_of_row _ _ 4 _ _ _ HBS.out.2
              go_simp
              have r21 : (X20.setCell ⟨O, 4, none⟩ (.slice q' (n + 1) c')).heap[V.heap.size]? = some (.cells #[.int .i64 y0, .string y1, .string y2, .slice pa' y3 ca', .slice pk' y4 ck', .string y5] 27 (0, 0)) := (set_oth6 (by have := it_lt HI.out.1.out; show V.heap.size ≠ O; omega)).trans r20
              refine hK.out _ _ (HS.out _ r21) (fun _ => ?_)
              clear hK K
              try simp only [Act.put, List.getElem_toArray, List.getElem_cons_zero, List.getElem_cons_succ, List.setIfInBounds_toArray, List.set_cons_zero, List.set_cons_succ]
              refine wpAnyH_done (by kernel_rfl) ?_ _
              go_wp2_with (fail)
              go_roundw
              case rel => exact ⟨i + 1, q', c', zs ++ [⟨T, pa2, ca2, pk2, ck2⟩], by go_num, hlt, by simp; omega, ⟨HBS.out.1, by rw [List.map_append, HP.out, HI.out.2]; simp [HLV.out.1]⟩⟩
              case measure => simp only [intOf]; omega
            · skip
              go_simp
              obtain ⟨X22, hY22⟩ : ∃ Y, X17.alloc (.cells (KN.enc ⟨T, pa2, ca2, pk2, ck2⟩).toArray 27) = Y := ⟨_, rfl⟩
              have b22 : Below V.heap.size V X22 := by rw [← hY22]; exact b17.alloc b17.size _
              have r22 : X22.heap[V.heap.size]? = some (.cells #[.int .i64 y0, .string y1, .string y2, .slice pa' y3 ca', .slice pk' y4 ck', .string y5] 27 (0, 0)) := by rw [← hY22]; exact (Below.heap_alloc _ _ _ (it_lt r17)).trans r17
              unfold KN.enc at hY22
              simp only at hY22
              rw [hY22]
              refine hK.out _ _ (HS.out _ r22) (fun _ => ?_)
              clear hK K
              try simp only [Act.put, List.getElem_toArray, List.getElem_cons_zero, List.getElem_cons_succ, List.setIfInBounds_toArray, List.set_cons_zero, List.set_cons_succ]
              refine wpAnyH_ready (rs := [1]) (by kernel_rfl) (by simp) ?_
              refine AllReadyH.cons (o := _) rfl (fun K hK => ?_) AllReadyH.nil
              have q23 := HQ.out X22 b22
              go_simp
              refine hK.out _ _ (HS.out _ r22) (fun _ => ?_)
              clear hK K q23
              try simp only [Act.put, List.getElem_toArray, List.getElem_cons_zero, List.getElem_cons_succ, List.setIfInBounds_toArray, List.set_cons_zero, List.set_cons_succ]
              refine wpAnyH_ready (rs := [5]) (by kernel_rfl) (by simp) ?_
              refine AllReadyH.cons (o := _) rfl (fun K hK => ?_) AllReadyH.nil
              obtain ⟨q', c', X24, hrun, hbst, hoth, hbox3, _⟩ := TSt.more (z := ⟨T, pa2, ca2, pk2, ck2⟩) HI.out.1 HLV.out.2 b17 hY22 (by omega)
              rw [HN.out] at hrun hbst hbox3
              have r24 := (hoth _ (it_lt r22) (Nat.le_refl _)).trans r22
              have HBS := Lib.hid (And.intro hbst hbox3)
              refine step_of rfl (wp_append_eq (.tmp 25) (.tmp 28) 25 rfl (.slice q n c) (.slice (some ⟨X17.heap.size, 0, none⟩) 1 1) (.slice q' (n + 1) c') X24 (by rfl) (by rfl) hrun ?_)
              refine hK.out _ _ (HS.out _ r24) (fun hHeld24 => ?_)
              clear hK K hrun hbst hoth hbox3
              try simp only [Act.put, List.getElem_toArray, List.getElem_cons_zero, List.getElem_cons_succ, List.setIfInBounds_toArray, List.set_cons_zero, List.set_cons_succ]
              refine wpAnyH_take (i := 6) (oi := _) (v := ?vn24_6) rfl (by kernel_rfl) (by kernel_rfl) (by kernel_rfl) (fun _ _ _ h => h) (Or.inl ⟨by rfl, ?hyn24_6⟩) hHeld24 ?restn24_6
              case hyn24_6 =>
                intro W hSw
                clear hSw
                go_simp
                try (with_reducible rfl)
              try simp only [Act.put, List.getElem_toArray, List.getElem_cons_zero, List.getElem_cons_succ, List.setIfInBounds_toArray, List.set_cons_zero, List.set_cons_succ]
              clear hHeld24
              refine wpAnyH_ready (rs := [7]) (by kernel_rfl) (by simp) ?_
              refine AllReadyH.cons (o := _) rfl (fun K hK => ?_) AllReadyH.nil
              have ff : X24.frozen? ⟨O, 4, none⟩ = false := frozen_of_row _ _ _ _ _ HBS.out.2
              have cc : X24.cell? ⟨O, 4, none⟩ = some (.slice q n c) := cell_of_row _ _ 4 _ _ _ HBS.out.2
              go_simp
              have r25 : (X24.setCell ⟨O, 4, none⟩ (.slice q' (n + 1) c')).heap[V.heap.size]? = some (.cells #[.int .i64 y0, .string y1, .string y2, .slice pa' y3 ca', .slice pk' y4 ck', .string y5] 27 (0, 0)) := (set_oth6 (by have := it_lt HI.out.1.out; show V.heap.size ≠ O; omega)).trans r24
              refine hK.out _ _ (HS.out _ r25) (fun _ => ?_)
              clear hK K
              try simp only [Act.put, List.getElem_toArray, List.getElem_cons_zero, List.getElem_cons_succ, List.setIfInBounds_toArray, List.set_cons_zero, List.set_cons_succ]
              refine wpAnyH_done (by kernel_rfl) ?_ _
              go_wp2_with (fail)
              go_roundw
              case rel => exact ⟨i + 1, q', c', zs ++ [⟨T, pa2, ca2, pk2, ck2⟩], by go_num, hlt, by simp; omega, ⟨HBS.out.1, by rw [List.map_append, HP.out, HI.out.2]; simp [HLV.out.1]⟩⟩
              case measure => simp only [intOf]; omega
        · skip
          have hi' : ¬ (i : Int) < (ks.length : Int) := by omega
          have hall : (ks.take i) = ks := List.take_of_length_le (by omega)
          have HI2 := HI.out.2
          rw [hall] at HI2
          have HP2 := Lib.hid HI2
          have cb := HI.out.1.out
          have cr := HI.out.1.res
          rw [HNA.out] at cb
          have q0 := cell_of_row _ _ 0 _ _ _ cb
          have q1 := cell_of_row _ _ 1 _ _ _ cb
          have q2 := cell_of_row _ _ 2 _ _ _ cb
          have q3 := cell_of_row _ _ 3 _ _ _ cb
          have q4 := cell_of_row _ _ 4 _ _ _ cb
          have q5 := cell_of_row _ _ 5 _ _ _ cb
          have s0 := cell_of_row _ _ 0 _ _ _ cr
          have s1 := cell_of_row _ _ 1 _ _ _ cr
          have s2 := cell_of_row _ _ 2 _ _ _ cr
          have s3 := cell_of_row _ _ 3 _ _ _ cr
          have s4 := cell_of_row _ _ 4 _ _ _ cr
          have s5 := cell_of_row _ _ 5 _ _ _ cr
          have f0 : V.frozen? ⟨w.heap.size + 1, 0, none⟩ = false := frozen_of_row _ _ _ _ _ cr
          have f1 : V.frozen? ⟨w.heap.size + 1, 1, none⟩ = false := frozen_of_row _ _ _ _ _ cr
          have f2 : V.frozen? ⟨w.heap.size + 1, 2, none⟩ = false := frozen_of_row _ _ _ _ _ cr
          have f3 : V.frozen? ⟨w.heap.size + 1, 3, none⟩ = false := frozen_of_row _ _ _ _ _ cr
          have f4 : V.frozen? ⟨w.heap.size + 1, 4, none⟩ = false := frozen_of_row _ _ _ _ _ cr
          have f5 : V.frozen? ⟨w.heap.size + 1, 5, none⟩ = false := frozen_of_row _ _ _ _ _ cr
          obtain ⟨n, hn⟩ : ∃ n, zs.length = n := ⟨_, rfl⟩
          rw [hn] at q4
          have HN := Lib.hid hn
          have HCR := Lib.hid cr
          have hzl := Lib.hid hzi
          clear cb cr HI2 hall hn hzi
          go_wp2_with (fail)
          clear q0 q1 q2 q3 q4 q5 s0 s1 s2 s3 s4 s5 f0 f1 f2 f3 f4 f5
          obtain ⟨W4, hW4⟩ : ∃ W4, ((((((V.setCell ⟨w.heap.size + 1, 0, none⟩ (.int .i64 kd)).setCell ⟨w.heap.size + 1, 1, none⟩ (.string u)).setCell ⟨w.heap.size + 1, 2, none⟩ (.string l)).setCell ⟨w.heap.size + 1, 3, none⟩ (.slice pa1 na ca1)).setCell ⟨w.heap.size + 1, 4, none⟩ (.slice q n c)).setCell ⟨w.heap.size + 1, 5, none⟩ (.string s)) = W4 := ⟨_, rfl⟩
          rw [hW4]
          have r4 : W4.heap[w.heap.size + 1]? = some (.cells #[.int .i64 kd, .string u, .string l, .slice pa1 na ca1, .slice q n c, .string s] 27 (0, 0)) := by
            rw [← hW4]
            exact set_row6 (k := 5) _ (set_row6 (k := 4) _ (set_row6 (k := 3) _ (set_row6 (k := 2) _ (set_row6 (k := 1) _ (set_row6 (k := 0) _ HCR.out)))))
          have o4 : ∀ k, k ≠ w.heap.size + 1 → W4.heap[k]? = V.heap[k]? := fun k hne => by
            rw [← hW4]
            exact ((set_oth6 hne).trans ((set_oth6 hne).trans ((set_oth6 hne).trans ((set_oth6 hne).trans ((set_oth6 hne).trans (set_oth6 hne))))))
          have z4 : W4.heap.size = V.heap.size := by rw [← hW4]; simp [World.setCell]
          have b4 : Below w.heap.size w W4 := by
            rw [← hW4]
            exact ((((((HI.out.1.below.setCell (p := ⟨w.heap.size + 1, 0, none⟩) (Nat.le_succ _) _).setCell (p := ⟨w.heap.size + 1, 1, none⟩) (Nat.le_succ _) _).setCell (p := ⟨w.heap.size + 1, 2, none⟩) (Nat.le_succ _) _).setCell (p := ⟨w.heap.size + 1, 3, none⟩) (Nat.le_succ _) _).setCell (p := ⟨w.heap.size + 1, 4, none⟩) (Nat.le_succ _) _).setCell (p := ⟨w.heap.size + 1, 5, none⟩) (Nat.le_succ _) _)
          clear hW4
          have t0 := cell_of_row _ _ 0 _ _ _ r4
          have t1 := cell_of_row _ _ 1 _ _ _ r4
          have t2 := cell_of_row _ _ 2 _ _ _ r4
          have t3 := cell_of_row _ _ 3 _ _ _ r4
          have t4 := cell_of_row _ _ 4 _ _ _ r4
          have t5 := cell_of_row _ _ 5 _ _ _ r4
          simp at t0 t1 t2 t3 t4 t5
          refine bodyPost_ret (v := .agg #[.int .i64 kd, .string u, .string l, .slice pa1 na ca1, .slice q n c, .string s]) ?_ rfl ?_
          · simp [results, Tryz.f8, go_sem, t0, t1, t2, t3, t4, t5]
          · have en := HNA.out
            subst en
            obtain ⟨h1, h2, h3, h4, h5, h6⟩ := HE.out
            refine ⟨.node 0 0 kd u l la s (kidsOf q zs), pa1, ca1, q, c, ?_, ?_, b4, ?_⟩
            · show Ending.returned (.agg #[.int .i64 kd, .string u, .string l, .slice pa1 la.length ca1, .slice q n c, .string s]) = Ending.returned (.agg #[.int .i64 kd, .string u, .string l, .slice pa1 la.length ca1, .slice q (kidsOf q zs).length c, .string s])
              rw [kidsOf_len HI.out.1.own, HN.out]
            · refine AT.plain_same h1.symm h2.symm h3.symm h5.symm h4.symm ?_
              show (kidsOf q zs).map AT.plain = t.kids.map AT.plain
              rw [h6]
              exact (kidsOf_plain HI.out.1.own).trans HP2.out
            · exact HI.out.1.fin (by have := hzl.out; omega) (h1 ▸ HH.out.kind) (h2 ▸ HH.out.uri) (h3 ▸ HH.out.loc) (h4 ▸ HH.out.text) (h5 ▸ HH.out.asz) (h5 ▸ HH.out.each) (fun k hne _ => o4 k hne) z4
end Go.Proofs.YtfmlmdfehaajbaaGreatDoor
