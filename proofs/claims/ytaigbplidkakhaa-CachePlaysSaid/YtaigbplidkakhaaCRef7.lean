/- Proved here: the document's cache: Put of a key that is there. -/
import Derived.Test.YtaigbplidkakhaaCRef6
namespace Go.Proofs.Ytaigbplidkakhaa
open Go.RowKit Go.ChangeMaps

theorem RC.put2 {F : Nat → Prop} {W : World} {R g : Nat} {places : Int} {p q : List EntI} {e : EntI} {s : Option Addr} {c : Nat} (h1 : W.heap[R]? = some (.cells #[.int .i64 places, .slice s (p ++ e :: q).length c] 31 (0, 0))) (h2 : W.ownsRow 0 76 4 (.slice s (p ++ e :: q).length c) (p ++ e :: q).length (entVs (p ++ e :: q))) (h3 : F R)
    (h4 : ∀ k, (Value.slice s (p ++ e :: q).length c).ownBlock = some k → F k ∧ k ≠ R) (h5 : (p ++ e :: q).length ≤ c) (hs : s = some ⟨g, 0, none⟩) (v : Int) (d : Bool) :
    RC F ((W.setCell ⟨g, p.length * 4 + 1, none⟩ (.int .i64 v)).setCell ⟨g, p.length * 4 + 2, none⟩ (.bool d)) R places (p ++ ⟨e.k, v, d, e.p⟩ :: q) ∧ Tch F W ((W.setCell ⟨g, p.length * 4 + 1, none⟩ (.int .i64 v)).setCell ⟨g, p.length * 4 + 2, none⟩ (.bool d)) ∧
      (W.setCell ⟨g, p.length * 4 + 1, none⟩ (.int .i64 v)).cell? ⟨g, p.length * 4 + 2, none⟩ = some (.bool e.d) ∧ (W.setCell ⟨g, p.length * 4 + 1, none⟩ (.int .i64 v)).frozen? ⟨g, p.length * 4 + 2, none⟩ = false := by
  subst hs
  have hg := h4 g (by simp [Value.ownBlock])
  have o1 := (h2.stored (p.length * 4 + 1) (.int .i64 v)).1
  rw [entVs_set p q e ⟨e.k, v, e.d, e.p⟩ 1 (.int .i64 v) (by omega) rfl] at o1
  have o2 := (o1.stored (p.length * 4 + 2) (.bool d)).1
  rw [entVs_set p q ⟨e.k, v, e.d, e.p⟩ ⟨e.k, v, d, e.p⟩ 2 (.bool d) (by omega) rfl] at o2
  have hlen : (p ++ (⟨e.k, v, d, e.p⟩ : EntI) :: q).length = (p ++ e :: q).length := by simp
  have hlen1 : (p ++ e :: q).length = p.length + 1 + q.length := by simp; omega
  refine ⟨⟨some ⟨g, 0, none⟩, c, ?_, ?_, h3, ?_, ?_⟩, ((Tch.refl F W).set (p := ⟨g, p.length * 4 + 1, none⟩) hg.1 _).set (p := ⟨g, p.length * 4 + 2, none⟩) hg.1 _, ?_, o1.frozenAt _⟩
  · rw [hlen]
    exact (set_oth (fun e => hg.2 e.symm)).trans ((set_oth (fun e => hg.2 e.symm)).trans h1)
  · rw [hlen]; exact o2
  · rw [hlen]; exact h4
  · rw [hlen]; exact h5
  · rw [o1.cellAt _ (by omega)]
    exact entVs_get _ p.length 2 ⟨e.k, v, e.d, e.p⟩ (by simp) (by omega)
set_option maxHeartbeats 2000000 in
theorem refPutThere {F : Nat → Prop} {W : World} {R : Nat} {places : Int} {p q : List EntI} {e : EntI} (h : RC F W R places (p ++ e :: q)) (hF : ∀ k, F k → k < W.heap.size) (hl : (p ++ e :: q).length ≤ 65536) (k : Int) (he : e.k = k) (hn : ∀ y ∈ p, y.k ≠ k) (v : Int) (d : Bool) :
    Calls Try.prog 36 #[PV R, .int .i64 k, .int .i64 v, .bool d] W fun x W' => x = .returned (.int .i64 0) ∧ ∃ F', RC F' W' R places (p ++ q ++ [⟨k, v, e.d || d, e.p⟩]) ∧ Step F F' W W' := by
  have HF := Lib.hid (findSome h hl k he hn)
  have HH := Lib.hid (And.intro h (And.intro hF (And.intro hl he)))
  clear h hF hl hn he
  go_enter Try.func36, Try.ntmps36
  go_wp2_with (fail)
  refine HF.out.mono ?_
  rintro x W1 ⟨rfl, hb⟩
  have h1 := HH.out.1.below hb
  have hrc := h1
  obtain ⟨s, c, k1, k2, k3, k4, k5⟩ := hrc
  have r1 : W1.cell? ⟨R, 1, none⟩ = some (.slice s (p ++ e :: q).length c) := by rw [cell_of_row _ _ _ _ _ _ k1]; rfl
  have hpl : p.length < (p ++ e :: q).length := by simp
  obtain ⟨g, hs, hcl⟩ := RC.cells (F := F) (R := R) (places := places) k2 hpl
  obtain ⟨d0, d1, d2, d3⟩ := hcl e (by simp)
  have hgR : g ≠ R := (k4 g (by rw [hs]; simp [Value.ownBlock])).2
  obtain ⟨ed, hed⟩ : ∃ ed, e.d = ed := ⟨_, rfl⟩
  obtain ⟨P1, P2, P3, P4⟩ := RC.put2 k1 k2 k3 k4 k5 hs v (ed || d)
  rw [hed] at P3
  subst hs
  have hfz := k2.frozenAt (p.length * 4 + 1)
  have hlen2 : (p ++ (⟨e.k, v, ed || d, e.p⟩ : EntI) :: q).length ≤ 65536 := by have := HH.out.2.2.1; simp at this ⊢; omega
  have P1d := P1.below (Below.refl _ _).drew
  have HU := Lib.hid (refUsed P1d (fun k hk => by
    have h8 := HH.out.2.1 k hk
    have h9 := hb.size
    rw [World.size_drew, set_sz, set_sz]
    omega) hlen2)
  have HP := Lib.hid P2
  have HB := Lib.hid hb
  obtain ⟨N, hN⟩ : ∃ N, (p ++ e :: q).length = N := ⟨_, rfl⟩
  rw [hN] at r1 hpl k5
  have hpI : (p.length : Int) < (N : Int) := by omega
  have r2 : (W1.setCell ⟨g, p.length * 4 + 1, none⟩ (.int .i64 v)).cell? ⟨R, 1, none⟩ = some (.slice (some ⟨g, 0, none⟩) N c) := by
    rw [World.cell?_setCell_far _ _ _ _ hgR]; exact r1
  have r3 : ((W1.setCell ⟨g, p.length * 4 + 1, none⟩ (.int .i64 v)).setCell ⟨g, p.length * 4 + 2, none⟩ (.bool (ed || d))).cell? ⟨R, 1, none⟩ = some (.slice (some ⟨g, 0, none⟩) N c) := by
    rw [World.cell?_setCell_far _ _ _ _ hgR]; exact r2
  have HE := Lib.hid hed
  clear hb h1 hcl hN k1 k2 k3 k4 P1 P2 P1d hlen2 hed
  go_upto_region 4 with (fail)
  cases ed with
  | true =>
    refine wp_region_held_drew (S := fun W' => W'.cell? ⟨R, 1, none⟩ = some (.slice (some ⟨g, 0, none⟩) N c)) (by kernel_rfl) r2 (fun hHeld => ?_)
    refine wpAnyH_take (i := 0) (oi := _) (v := ?va0) rfl (by kernel_rfl) (by kernel_rfl) (by kernel_rfl) (fun _ _ _ h => h) (Or.inl ⟨by rfl, ?hya0⟩) (by assumption) ?resta0
    case hya0 =>
      intro W hSw
      clear hSw
      go_simp
      try (with_reducible rfl)
    try simp only [Act.put, List.getElem_toArray, List.getElem_cons_zero, List.getElem_cons_succ, List.setIfInBounds_toArray, List.set_cons_zero, List.set_cons_succ]
    refine wpAnyH_take (i := 1) (oi := _) (v := ?va1) rfl (by kernel_rfl) (by kernel_rfl) (by kernel_rfl) (fun _ _ _ h => h) (Or.inl ⟨by rfl, ?hya1⟩) (by assumption) ?resta1
    case hya1 =>
      intro W hSw
      clear hSw
      go_simp
      try (with_reducible rfl)
    try simp only [Act.put, List.getElem_toArray, List.getElem_cons_zero, List.getElem_cons_succ, List.setIfInBounds_toArray, List.set_cons_zero, List.set_cons_succ]
    refine wpAnyH_take (i := 2) (oi := _) (v := ?va2) rfl (by kernel_rfl) (by kernel_rfl) (by kernel_rfl) (fun _ _ _ h => h) (Or.inl ⟨by rfl, ?hya2⟩) (by assumption) ?resta2
    case hya2 =>
      intro W hSw
      clear hSw
      go_simp
      try (with_reducible rfl)
    try simp only [Act.put, List.getElem_toArray, List.getElem_cons_zero, List.getElem_cons_succ, List.setIfInBounds_toArray, List.set_cons_zero, List.set_cons_succ]
    refine wpAnyH_take (i := 3) (oi := _) (v := ?va3) rfl (by kernel_rfl) (by kernel_rfl) (by kernel_rfl) (fun _ _ _ h => h) (Or.inl ⟨by rfl, ?hya3⟩) (by assumption) ?resta3
    case hya3 =>
      intro W hSw
      skip
      go_simp
      try (with_reducible rfl)
    try simp only [Act.put, List.getElem_toArray, List.getElem_cons_zero, List.getElem_cons_succ, List.setIfInBounds_toArray, List.set_cons_zero, List.set_cons_succ]
    refine wpAnyH_take (i := 4) (oi := _) (v := ?va4) rfl (by kernel_rfl) (by kernel_rfl) (by kernel_rfl) (fun _ _ _ h => h) (Or.inl ⟨by rfl, ?hya4⟩) (by assumption) ?resta4
    case hya4 =>
      intro W hSw
      clear hSw
      go_simp
      try (with_reducible rfl)
    try simp only [Act.put, List.getElem_toArray, List.getElem_cons_zero, List.getElem_cons_succ, List.setIfInBounds_toArray, List.set_cons_zero, List.set_cons_succ]
    refine wpAnyH_take (i := 5) (oi := _) (v := ?va5) rfl (by kernel_rfl) (by kernel_rfl) (by kernel_rfl) (fun _ _ _ h => h) (Or.inl ⟨by rfl, ?hya5⟩) (by assumption) ?resta5
    case hya5 =>
      intro W hSw
      clear hSw
      go_simp
      try (with_reducible rfl)
    try simp only [Act.put, List.getElem_toArray, List.getElem_cons_zero, List.getElem_cons_succ, List.setIfInBounds_toArray, List.set_cons_zero, List.set_cons_succ]
    refine wpAnyH_take (i := 6) (oi := _) (v := ?va6) rfl (by kernel_rfl) (by kernel_rfl) (by kernel_rfl) (fun _ _ _ h => h) (Or.inl ⟨by rfl, ?hya6⟩) (by assumption) ?resta6
    case hya6 =>
      intro W hSw
      clear hSw
      go_simp
      try (with_reducible rfl)
    try simp only [Act.put, List.getElem_toArray, List.getElem_cons_zero, List.getElem_cons_succ, List.setIfInBounds_toArray, List.set_cons_zero, List.set_cons_succ]
    refine wpAnyH_take (i := 7) (oi := _) (v := ?va7) rfl (by kernel_rfl) (by kernel_rfl) (by kernel_rfl) (fun _ _ _ h => h) (Or.inl ⟨by rfl, ?hya7⟩) (by assumption) ?resta7
    case hya7 =>
      intro W hSw
      clear hSw
      go_simp
      try (with_reducible rfl)
    try simp only [Act.put, List.getElem_toArray, List.getElem_cons_zero, List.getElem_cons_succ, List.setIfInBounds_toArray, List.set_cons_zero, List.set_cons_succ]
    refine wpAnyH_take (i := 8) (oi := _) (v := ?va8) rfl (by kernel_rfl) (by kernel_rfl) (by kernel_rfl) (fun _ _ _ h => h) (Or.inl ⟨by rfl, ?hya8⟩) (by assumption) ?resta8
    case hya8 =>
      intro W hSw
      skip
      go_simp
      try (with_reducible rfl)
    try simp only [Act.put, List.getElem_toArray, List.getElem_cons_zero, List.getElem_cons_succ, List.setIfInBounds_toArray, List.set_cons_zero, List.set_cons_succ]
    refine wpAnyH_take (i := 9) (oi := _) (v := ?va9) rfl (by kernel_rfl) (by kernel_rfl) (by kernel_rfl) (fun _ _ _ h => h) (Or.inl ⟨by rfl, ?hya9⟩) (by assumption) ?resta9
    case hya9 =>
      intro W hSw
      clear hSw
      go_simp
      try (with_reducible rfl)
    try simp only [Act.put, List.getElem_toArray, List.getElem_cons_zero, List.getElem_cons_succ, List.setIfInBounds_toArray, List.set_cons_zero, List.set_cons_succ]
    refine wpAnyH_take (i := 10) (oi := _) (v := ?va10) rfl (by kernel_rfl) (by kernel_rfl) (by kernel_rfl) (fun _ _ _ h => h) (Or.inl ⟨by rfl, ?hya10⟩) (by assumption) ?resta10
    case hya10 =>
      intro W hSw
      clear hSw
      go_simp
      try (with_reducible rfl)
    try simp only [Act.put, List.getElem_toArray, List.getElem_cons_zero, List.getElem_cons_succ, List.setIfInBounds_toArray, List.set_cons_zero, List.set_cons_succ]
    refine wpAnyH_take (i := 11) (oi := _) (v := ?va11) rfl (by kernel_rfl) (by kernel_rfl) (by kernel_rfl) (fun _ _ _ h => h) (Or.inl ⟨by rfl, ?hya11⟩) (by assumption) ?resta11
    case hya11 =>
      intro W hSw
      clear hSw
      go_simp
      try (with_reducible rfl)
    try simp only [Act.put, List.getElem_toArray, List.getElem_cons_zero, List.getElem_cons_succ, List.setIfInBounds_toArray, List.set_cons_zero, List.set_cons_succ]
    refine wpAnyH_ready (rs := [12]) (by kernel_rfl) (by simp) ?_
    refine AllReadyH.cons (o := _) rfl (fun K hK => ?_) AllReadyH.nil
    go_simp
    refine hK.out _ _ hHeld (fun _ => ?_)
    clear hK K
    try simp only [Act.put, List.getElem_toArray, List.getElem_cons_zero, List.getElem_cons_succ, List.setIfInBounds_toArray, List.set_cons_zero, List.set_cons_succ]
    refine wpAnyH_take (i := 13) (oi := _) (v := ?va13) rfl (by kernel_rfl) (by kernel_rfl) (by kernel_rfl) (fun _ _ _ h => h) (Or.inl ⟨by rfl, ?hya13⟩) (by assumption) ?resta13
    case hya13 =>
      intro W hSw
      clear hSw
      go_simp
      try (with_reducible rfl)
    try simp only [Act.put, List.getElem_toArray, List.getElem_cons_zero, List.getElem_cons_succ, List.setIfInBounds_toArray, List.set_cons_zero, List.set_cons_succ]
    refine wpAnyH_take (i := 14) (oi := _) (v := _) rfl (by kernel_rfl) (by kernel_rfl) (by kernel_rfl) (fun _ _ _ h => h) (Or.inr ⟨by rfl, rfl⟩) (by assumption) ?resta14
    try simp only [Act.put, List.getElem_toArray, List.getElem_cons_zero, List.getElem_cons_succ, List.setIfInBounds_toArray, List.set_cons_zero, List.set_cons_succ]
    refine wpAnyH_take (i := 15) (oi := _) (v := .bool true) rfl (by kernel_rfl) (by kernel_rfl) (by kernel_rfl) (fun _ _ _ h => h) (Or.inl ⟨by rfl, ?hya15⟩) (by assumption) ?resta15
    case hya15 =>
      intro W hSw
      clear hSw
      go_simp
      try (with_reducible rfl)
    try simp only [Act.put, List.getElem_toArray, List.getElem_cons_zero, List.getElem_cons_succ, List.setIfInBounds_toArray, List.set_cons_zero, List.set_cons_succ]
    refine wpAnyH_take (i := 16) (oi := _) (v := ?va16) rfl (by kernel_rfl) (by kernel_rfl) (by kernel_rfl) (fun _ _ _ h => h) (Or.inl ⟨by rfl, ?hya16⟩) (by assumption) ?resta16
    case hya16 =>
      intro W hSw
      clear hSw
      go_simp
      try (with_reducible rfl)
    try simp only [Act.put, List.getElem_toArray, List.getElem_cons_zero, List.getElem_cons_succ, List.setIfInBounds_toArray, List.set_cons_zero, List.set_cons_succ]
    refine wpAnyH_take (i := 17) (oi := _) (v := ?va17) rfl (by kernel_rfl) (by kernel_rfl) (by kernel_rfl) (fun _ _ _ h => h) (Or.inl ⟨by rfl, ?hya17⟩) (by assumption) ?resta17
    case hya17 =>
      intro W hSw
      clear hSw
      go_simp
      try (with_reducible rfl)
    try simp only [Act.put, List.getElem_toArray, List.getElem_cons_zero, List.getElem_cons_succ, List.setIfInBounds_toArray, List.set_cons_zero, List.set_cons_succ]
    refine wpAnyH_ready (rs := [18]) (by kernel_rfl) (by simp) ?_
    refine AllReadyH.cons (o := _) rfl (fun K hK => ?_) AllReadyH.nil
    go_simp
    refine hK.out _ _ r3 (fun _ => ?_)
    clear hK K
    try simp only [Act.put, List.getElem_toArray, List.getElem_cons_zero, List.getElem_cons_succ, List.setIfInBounds_toArray, List.set_cons_zero, List.set_cons_succ]
    refine wpAnyH_done (by kernel_rfl) ?_ _
    clear hHeld r1 r2 r3 P3 P4 hfz d0 d1 d2 d3
    go_wp2_with (fail)
    refine HU.out.mono ?_
    rintro x W4 ⟨rfl, F4, h4, s4⟩
    have H4 := Lib.hid (And.intro h4 s4)
    clear h4 s4 HU
    go_wp2_with (fail)
    go_ret
    refine ⟨rfl, F4, ?_, (stay HB.out).cat (Step.cat ⟨HP.out.trans (Tch.of_below (Below.refl _ _).drew), fun k hk => .inl hk⟩ H4.out.2)⟩
    have e1 := HH.out.2.2.2
    have e2 := HE.out
    have e3 := H4.out.1
    rw [e1] at e3
    rw [e2]
    exact e3
  | false =>
    refine wp_region_held_drew (S := fun W' => W'.cell? ⟨R, 1, none⟩ = some (.slice (some ⟨g, 0, none⟩) N c)) (by kernel_rfl) r2 (fun hHeld => ?_)
    refine wpAnyH_take (i := 0) (oi := _) (v := ?vb0) rfl (by kernel_rfl) (by kernel_rfl) (by kernel_rfl) (fun _ _ _ h => h) (Or.inl ⟨by rfl, ?hyb0⟩) (by assumption) ?restb0
    case hyb0 =>
      intro W hSw
      clear hSw
      go_simp
      try (with_reducible rfl)
    try simp only [Act.put, List.getElem_toArray, List.getElem_cons_zero, List.getElem_cons_succ, List.setIfInBounds_toArray, List.set_cons_zero, List.set_cons_succ]
    refine wpAnyH_take (i := 1) (oi := _) (v := ?vb1) rfl (by kernel_rfl) (by kernel_rfl) (by kernel_rfl) (fun _ _ _ h => h) (Or.inl ⟨by rfl, ?hyb1⟩) (by assumption) ?restb1
    case hyb1 =>
      intro W hSw
      clear hSw
      go_simp
      try (with_reducible rfl)
    try simp only [Act.put, List.getElem_toArray, List.getElem_cons_zero, List.getElem_cons_succ, List.setIfInBounds_toArray, List.set_cons_zero, List.set_cons_succ]
    refine wpAnyH_take (i := 2) (oi := _) (v := ?vb2) rfl (by kernel_rfl) (by kernel_rfl) (by kernel_rfl) (fun _ _ _ h => h) (Or.inl ⟨by rfl, ?hyb2⟩) (by assumption) ?restb2
    case hyb2 =>
      intro W hSw
      clear hSw
      go_simp
      try (with_reducible rfl)
    try simp only [Act.put, List.getElem_toArray, List.getElem_cons_zero, List.getElem_cons_succ, List.setIfInBounds_toArray, List.set_cons_zero, List.set_cons_succ]
    refine wpAnyH_take (i := 3) (oi := _) (v := ?vb3) rfl (by kernel_rfl) (by kernel_rfl) (by kernel_rfl) (fun _ _ _ h => h) (Or.inl ⟨by rfl, ?hyb3⟩) (by assumption) ?restb3
    case hyb3 =>
      intro W hSw
      skip
      go_simp
      try (with_reducible rfl)
    try simp only [Act.put, List.getElem_toArray, List.getElem_cons_zero, List.getElem_cons_succ, List.setIfInBounds_toArray, List.set_cons_zero, List.set_cons_succ]
    refine wpAnyH_take (i := 4) (oi := _) (v := ?vb4) rfl (by kernel_rfl) (by kernel_rfl) (by kernel_rfl) (fun _ _ _ h => h) (Or.inl ⟨by rfl, ?hyb4⟩) (by assumption) ?restb4
    case hyb4 =>
      intro W hSw
      clear hSw
      go_simp
      try (with_reducible rfl)
    try simp only [Act.put, List.getElem_toArray, List.getElem_cons_zero, List.getElem_cons_succ, List.setIfInBounds_toArray, List.set_cons_zero, List.set_cons_succ]
    refine wpAnyH_take (i := 5) (oi := _) (v := ?vb5) rfl (by kernel_rfl) (by kernel_rfl) (by kernel_rfl) (fun _ _ _ h => h) (Or.inl ⟨by rfl, ?hyb5⟩) (by assumption) ?restb5
    case hyb5 =>
      intro W hSw
      clear hSw
      go_simp
      try (with_reducible rfl)
    try simp only [Act.put, List.getElem_toArray, List.getElem_cons_zero, List.getElem_cons_succ, List.setIfInBounds_toArray, List.set_cons_zero, List.set_cons_succ]
    refine wpAnyH_take (i := 6) (oi := _) (v := ?vb6) rfl (by kernel_rfl) (by kernel_rfl) (by kernel_rfl) (fun _ _ _ h => h) (Or.inl ⟨by rfl, ?hyb6⟩) (by assumption) ?restb6
    case hyb6 =>
      intro W hSw
      clear hSw
      go_simp
      try (with_reducible rfl)
    try simp only [Act.put, List.getElem_toArray, List.getElem_cons_zero, List.getElem_cons_succ, List.setIfInBounds_toArray, List.set_cons_zero, List.set_cons_succ]
    refine wpAnyH_take (i := 7) (oi := _) (v := ?vb7) rfl (by kernel_rfl) (by kernel_rfl) (by kernel_rfl) (fun _ _ _ h => h) (Or.inl ⟨by rfl, ?hyb7⟩) (by assumption) ?restb7
    case hyb7 =>
      intro W hSw
      clear hSw
      go_simp
      try (with_reducible rfl)
    try simp only [Act.put, List.getElem_toArray, List.getElem_cons_zero, List.getElem_cons_succ, List.setIfInBounds_toArray, List.set_cons_zero, List.set_cons_succ]
    refine wpAnyH_take (i := 8) (oi := _) (v := ?vb8) rfl (by kernel_rfl) (by kernel_rfl) (by kernel_rfl) (fun _ _ _ h => h) (Or.inl ⟨by rfl, ?hyb8⟩) (by assumption) ?restb8
    case hyb8 =>
      intro W hSw
      skip
      go_simp
      try (with_reducible rfl)
    try simp only [Act.put, List.getElem_toArray, List.getElem_cons_zero, List.getElem_cons_succ, List.setIfInBounds_toArray, List.set_cons_zero, List.set_cons_succ]
    refine wpAnyH_take (i := 9) (oi := _) (v := ?vb9) rfl (by kernel_rfl) (by kernel_rfl) (by kernel_rfl) (fun _ _ _ h => h) (Or.inl ⟨by rfl, ?hyb9⟩) (by assumption) ?restb9
    case hyb9 =>
      intro W hSw
      clear hSw
      go_simp
      try (with_reducible rfl)
    try simp only [Act.put, List.getElem_toArray, List.getElem_cons_zero, List.getElem_cons_succ, List.setIfInBounds_toArray, List.set_cons_zero, List.set_cons_succ]
    refine wpAnyH_take (i := 10) (oi := _) (v := ?vb10) rfl (by kernel_rfl) (by kernel_rfl) (by kernel_rfl) (fun _ _ _ h => h) (Or.inl ⟨by rfl, ?hyb10⟩) (by assumption) ?restb10
    case hyb10 =>
      intro W hSw
      clear hSw
      go_simp
      try (with_reducible rfl)
    try simp only [Act.put, List.getElem_toArray, List.getElem_cons_zero, List.getElem_cons_succ, List.setIfInBounds_toArray, List.set_cons_zero, List.set_cons_succ]
    refine wpAnyH_take (i := 11) (oi := _) (v := ?vb11) rfl (by kernel_rfl) (by kernel_rfl) (by kernel_rfl) (fun _ _ _ h => h) (Or.inl ⟨by rfl, ?hyb11⟩) (by assumption) ?restb11
    case hyb11 =>
      intro W hSw
      clear hSw
      go_simp
      try (with_reducible rfl)
    try simp only [Act.put, List.getElem_toArray, List.getElem_cons_zero, List.getElem_cons_succ, List.setIfInBounds_toArray, List.set_cons_zero, List.set_cons_succ]
    refine wpAnyH_ready (rs := [12]) (by kernel_rfl) (by simp) ?_
    refine AllReadyH.cons (o := _) rfl (fun K hK => ?_) AllReadyH.nil
    go_simp
    refine hK.out _ _ hHeld (fun _ => ?_)
    clear hK K
    try simp only [Act.put, List.getElem_toArray, List.getElem_cons_zero, List.getElem_cons_succ, List.setIfInBounds_toArray, List.set_cons_zero, List.set_cons_succ]
    refine wpAnyH_take (i := 13) (oi := _) (v := ?vb13) rfl (by kernel_rfl) (by kernel_rfl) (by kernel_rfl) (fun _ _ _ h => h) (Or.inl ⟨by rfl, ?hyb13⟩) (by assumption) ?restb13
    case hyb13 =>
      intro W hSw
      clear hSw
      go_simp
      try (with_reducible rfl)
    try simp only [Act.put, List.getElem_toArray, List.getElem_cons_zero, List.getElem_cons_succ, List.setIfInBounds_toArray, List.set_cons_zero, List.set_cons_succ]
    refine wpAnyH_take (i := 14) (oi := _) (v := ?vb14) rfl (by kernel_rfl) (by kernel_rfl) (by kernel_rfl) (fun _ _ _ h => h) (Or.inl ⟨by rfl, ?hyb14⟩) (by assumption) ?restb14
    case hyb14 =>
      intro W hSw
      clear hSw
      go_simp
      try (with_reducible rfl)
    try simp only [Act.put, List.getElem_toArray, List.getElem_cons_zero, List.getElem_cons_succ, List.setIfInBounds_toArray, List.set_cons_zero, List.set_cons_succ]
    refine wpAnyH_take (i := 15) (oi := _) (v := .bool d) rfl (by kernel_rfl) (by kernel_rfl) (by kernel_rfl) (fun _ _ _ h => h) (Or.inl ⟨by rfl, ?hyb15⟩) (by assumption) ?restb15
    case hyb15 =>
      intro W hSw
      clear hSw
      go_simp
      try (with_reducible rfl)
    try simp only [Act.put, List.getElem_toArray, List.getElem_cons_zero, List.getElem_cons_succ, List.setIfInBounds_toArray, List.set_cons_zero, List.set_cons_succ]
    refine wpAnyH_take (i := 16) (oi := _) (v := ?vb16) rfl (by kernel_rfl) (by kernel_rfl) (by kernel_rfl) (fun _ _ _ h => h) (Or.inl ⟨by rfl, ?hyb16⟩) (by assumption) ?restb16
    case hyb16 =>
      intro W hSw
      clear hSw
      go_simp
      try (with_reducible rfl)
    try simp only [Act.put, List.getElem_toArray, List.getElem_cons_zero, List.getElem_cons_succ, List.setIfInBounds_toArray, List.set_cons_zero, List.set_cons_succ]
    refine wpAnyH_take (i := 17) (oi := _) (v := ?vb17) rfl (by kernel_rfl) (by kernel_rfl) (by kernel_rfl) (fun _ _ _ h => h) (Or.inl ⟨by rfl, ?hyb17⟩) (by assumption) ?restb17
    case hyb17 =>
      intro W hSw
      clear hSw
      go_simp
      try (with_reducible rfl)
    try simp only [Act.put, List.getElem_toArray, List.getElem_cons_zero, List.getElem_cons_succ, List.setIfInBounds_toArray, List.set_cons_zero, List.set_cons_succ]
    refine wpAnyH_ready (rs := [18]) (by kernel_rfl) (by simp) ?_
    refine AllReadyH.cons (o := _) rfl (fun K hK => ?_) AllReadyH.nil
    go_simp
    refine hK.out _ _ r3 (fun _ => ?_)
    clear hK K
    try simp only [Act.put, List.getElem_toArray, List.getElem_cons_zero, List.getElem_cons_succ, List.setIfInBounds_toArray, List.set_cons_zero, List.set_cons_succ]
    refine wpAnyH_done (by kernel_rfl) ?_ _
    clear hHeld r1 r2 r3 P3 P4 hfz d0 d1 d2 d3
    go_wp2_with (fail)
    refine HU.out.mono ?_
    rintro x W4 ⟨rfl, F4, h4, s4⟩
    have H4 := Lib.hid (And.intro h4 s4)
    clear h4 s4 HU
    go_wp2_with (fail)
    go_ret
    refine ⟨rfl, F4, ?_, (stay HB.out).cat (Step.cat ⟨HP.out.trans (Tch.of_below (Below.refl _ _).drew), fun k hk => .inl hk⟩ H4.out.2)⟩
    have e1 := HH.out.2.2.2
    have e2 := HE.out
    have e3 := H4.out.1
    rw [e1] at e3
    rw [e2]
    exact e3
end Go.Proofs.Ytaigbplidkakhaa
