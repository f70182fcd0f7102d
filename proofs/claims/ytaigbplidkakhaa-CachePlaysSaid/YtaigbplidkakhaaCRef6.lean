/- Proved here: the document's cache: Pin, once more or once less. -/
import Derived.Test.YtaigbplidkakhaaCRef5
namespace Go.Proofs.Ytaigbplidkakhaa
open Go.RowKit Go.ChangeMaps

theorem wrapK (n : Int) (h1 : -9223372036854775808 ≤ n) (h2 : n ≤ 9223372036854775807) : IntKind.i64.wrap n = n := by
  show (if (true && decide (n % 18446744073709551616 ≥ 9223372036854775808)) = true then n % 18446744073709551616 - 18446744073709551616 else n % 18446744073709551616) = n
  by_cases h : n % 18446744073709551616 ≥ 9223372036854775808
  · rw [if_pos (by rw [decide_eq_true h]; rfl)]; omega
  · rw [if_neg (by rw [decide_eq_false h]; decide)]; omega
theorem refPinNone {F : Nat → Prop} {W : World} {R : Nat} {places : Int} {l : List EntI} (h : RC F W R places l) (hl : l.length ≤ 65536) (k b : Int) (hn : ∀ e ∈ l, e.k ≠ k) :
    Calls Try.prog 38 #[PV R, .int .i64 k, .int .i64 b] W fun x W' => x = .returned (.bool false) ∧ RC F W' R places l ∧ Step F F W W' := by
  have HF := Lib.hid (findNone h hl k hn)
  have HH := Lib.hid h
  clear h hl hn
  go_enter Try.func38, Try.ntmps38
  go_wp2_with (fail)
  refine HF.out.mono ?_
  rintro x W1 ⟨rfl, hb⟩
  have HB := Lib.hid hb
  clear hb
  go_wp2_with (fail)
  go_ret
  exact ⟨rfl, HH.out.below HB.out, stay HB.out⟩
set_option maxHeartbeats 1000000 in
theorem refPinDown0 {F : Nat → Prop} {W : World} {R : Nat} {places : Int} {p q : List EntI} {e : EntI} (h : RC F W R places (p ++ e :: q)) (hl : (p ++ e :: q).length ≤ 65536) (k : Int) (he : e.k = k) (hn : ∀ y ∈ p, y.k ≠ k) (hp : e.p = 0) :
    Calls Try.prog 38 #[PV R, .int .i64 k, .int .i64 (-1)] W fun x W' => x = .returned (.bool false) ∧ RC F W' R places (p ++ e :: q) ∧ Step F F W W' := by
  have HF := Lib.hid (findSome h hl k he hn)
  have HH := Lib.hid (And.intro h hl)
  clear h hl hn
  go_enter Try.func38, Try.ntmps38
  go_wp2_with (fail)
  refine HF.out.mono ?_
  rintro x W1 ⟨rfl, hb⟩
  have h1 := HH.out.1.below hb
  have hrc := h1
  obtain ⟨s, c, k1, k2, k3, k4, k5⟩ := hrc
  have r1 : W1.cell? ⟨R, 1, none⟩ = some (.slice s (p ++ e :: q).length c) := by rw [cell_of_row _ _ _ _ _ _ k1]; rfl
  have hpl : p.length < (p ++ e :: q).length := by simp
  obtain ⟨g, hs, hcl⟩ := RC.cells (F := F) (R := R) (places := places) k2 hpl
  obtain ⟨d0, d1, d2, d3⟩ := hcl e (by simp)
  have hgR : g ≠ R := (k4 g (by rw [hs]; simp [Value.ownBlock])).2
  subst hs
  have HB := Lib.hid (And.intro hb h1)
  obtain ⟨N, hN⟩ : ∃ N, (p ++ e :: q).length = N := ⟨_, rfl⟩
  rw [hN] at r1 hpl k5
  have hpI : (p.length : Int) < (N : Int) := by omega
  clear hb h1 hcl hN k1 k2 k3 k4
  rw [hp] at d3
  go_wp2_with (fail)
  go_ret
  exact ⟨rfl, HB.out.2, stay HB.out.1⟩
set_option maxHeartbeats 1000000 in
theorem refPinUp {F : Nat → Prop} {W : World} {R : Nat} {places : Int} {p q : List EntI} {e : EntI} (h : RC F W R places (p ++ e :: q)) (hl : (p ++ e :: q).length ≤ 65536) (k : Int) (he : e.k = k) (hn : ∀ y ∈ p, y.k ≠ k) (hb0 : e.p ≤ 1000000) :
    Calls Try.prog 38 #[PV R, .int .i64 k, .int .i64 1] W fun x W' => x = .returned (.bool true) ∧ RC F W' R places (p ++ ⟨e.k, e.v, e.d, e.p + 1⟩ :: q) ∧ Step F F W W' := by
  have HF := Lib.hid (findSome h hl k he hn)
  have HH := Lib.hid (And.intro h hl)
  clear h hl hn
  go_enter Try.func38, Try.ntmps38
  go_wp2_with (fail)
  refine HF.out.mono ?_
  rintro x W1 ⟨rfl, hb⟩
  have h1 := HH.out.1.below hb
  have hrc := h1
  obtain ⟨s, c, k1, k2, k3, k4, k5⟩ := hrc
  have r1 : W1.cell? ⟨R, 1, none⟩ = some (.slice s (p ++ e :: q).length c) := by rw [cell_of_row _ _ _ _ _ _ k1]; rfl
  have hpl : p.length < (p ++ e :: q).length := by simp
  obtain ⟨g, hs, hcl⟩ := RC.cells (F := F) (R := R) (places := places) k2 hpl
  obtain ⟨d0, d1, d2, d3⟩ := hcl e (by simp)
  have hgR : g ≠ R := (k4 g (by rw [hs]; simp [Value.ownBlock])).2
  have hput := RC.put (e' := ⟨e.k, e.v, e.d, e.p + 1⟩) k1 k2 k3 k4 k5 hs 3 (.int .i64 ((e.p + 1 : Nat) : Int)) (by omega) rfl rfl
  subst hs
  have hfz := k2.frozenAt (p.length * 4 + 3)
  have HP := Lib.hid hput
  have HB := Lib.hid (And.intro hb h1)
  obtain ⟨N, hN⟩ : ∃ N, (p ++ e :: q).length = N := ⟨_, rfl⟩
  rw [hN] at r1 hpl k5
  have hpI : (p.length : Int) < (N : Int) := by omega
  have r2 : (W1.setCell ⟨g, p.length * 4 + 3, none⟩ (.int .i64 ((e.p + 1 : Nat) : Int))).cell? ⟨R, 1, none⟩ = some (.slice (some ⟨g, 0, none⟩) N c) := by
    rw [World.cell?_setCell_far _ _ _ _ hgR]; exact r1
  clear hb h1 hcl hN k1 k2 k3 k4 hput
  have hadd : wrap64 ((e.p : Int) + 1) = ((e.p + 1 : Nat) : Int) := by unfold wrap64; omega
  have haddK : IntKind.i64.wrap ((e.p : Int) + 1) = (e.p : Int) + 1 := wrapK _ (by omega) (by omega)
  have hge : ¬ ((e.p + 1 : Nat) : Int) < 0 := by omega
  go_upto_region 4 with (fail)
  refine wp_region_held_drew (S := fun W' => W'.cell? ⟨R, 1, none⟩ = some (.slice (some ⟨g, 0, none⟩) N c)) (by kernel_rfl) r1 (fun hHeld => ?_)
  refine wpAnyH_take (i := 0) (oi := _) (v := ?v0) rfl (by kernel_rfl) (by kernel_rfl) (by kernel_rfl) (fun _ _ _ h => h) (Or.inl ⟨by rfl, ?hy0⟩) (by assumption) ?rest0
  case hy0 =>
    intro W hSw
    clear hSw
    go_simp
    try (with_reducible rfl)
  try simp only [Act.put, List.getElem_toArray, List.getElem_cons_zero, List.getElem_cons_succ, List.setIfInBounds_toArray, List.set_cons_zero, List.set_cons_succ]
  refine wpAnyH_take (i := 1) (oi := _) (v := ?v1) rfl (by kernel_rfl) (by kernel_rfl) (by kernel_rfl) (fun _ _ _ h => h) (Or.inl ⟨by rfl, ?hy1⟩) (by assumption) ?rest1
  case hy1 =>
    intro W hSw
    clear hSw
    go_simp
    try (with_reducible rfl)
  try simp only [Act.put, List.getElem_toArray, List.getElem_cons_zero, List.getElem_cons_succ, List.setIfInBounds_toArray, List.set_cons_zero, List.set_cons_succ]
  refine wpAnyH_take (i := 2) (oi := _) (v := ?v2) rfl (by kernel_rfl) (by kernel_rfl) (by kernel_rfl) (fun _ _ _ h => h) (Or.inl ⟨by rfl, ?hy2⟩) (by assumption) ?rest2
  case hy2 =>
    intro W hSw
    clear hSw
    go_simp
    try (with_reducible rfl)
  try simp only [Act.put, List.getElem_toArray, List.getElem_cons_zero, List.getElem_cons_succ, List.setIfInBounds_toArray, List.set_cons_zero, List.set_cons_succ]
  refine wpAnyH_take (i := 3) (oi := _) (v := ?v3) rfl (by kernel_rfl) (by kernel_rfl) (by kernel_rfl) (fun _ _ _ h => h) (Or.inl ⟨by rfl, ?hy3⟩) (by assumption) ?rest3
  case hy3 =>
    intro W hSw
    skip
    go_simp
    try (with_reducible rfl)
  try simp only [Act.put, List.getElem_toArray, List.getElem_cons_zero, List.getElem_cons_succ, List.setIfInBounds_toArray, List.set_cons_zero, List.set_cons_succ]
  refine wpAnyH_take (i := 4) (oi := _) (v := ?v4) rfl (by kernel_rfl) (by kernel_rfl) (by kernel_rfl) (fun _ _ _ h => h) (Or.inl ⟨by rfl, ?hy4⟩) (by assumption) ?rest4
  case hy4 =>
    intro W hSw
    clear hSw
    go_simp
    try (with_reducible rfl)
  try simp only [Act.put, List.getElem_toArray, List.getElem_cons_zero, List.getElem_cons_succ, List.setIfInBounds_toArray, List.set_cons_zero, List.set_cons_succ]
  refine wpAnyH_take (i := 5) (oi := _) (v := ?v5) rfl (by kernel_rfl) (by kernel_rfl) (by kernel_rfl) (fun _ _ _ h => h) (Or.inl ⟨by rfl, ?hy5⟩) (by assumption) ?rest5
  case hy5 =>
    intro W hSw
    clear hSw
    go_simp
    try (with_reducible rfl)
  try simp only [Act.put, List.getElem_toArray, List.getElem_cons_zero, List.getElem_cons_succ, List.setIfInBounds_toArray, List.set_cons_zero, List.set_cons_succ]
  refine wpAnyH_take (i := 6) (oi := _) (v := ?v6) rfl (by kernel_rfl) (by kernel_rfl) (by kernel_rfl) (fun _ _ _ h => h) (Or.inl ⟨by rfl, ?hy6⟩) (by assumption) ?rest6
  case hy6 =>
    intro W hSw
    clear hSw
    go_simp
    try (with_reducible rfl)
  try simp only [Act.put, List.getElem_toArray, List.getElem_cons_zero, List.getElem_cons_succ, List.setIfInBounds_toArray, List.set_cons_zero, List.set_cons_succ]
  refine wpAnyH_take (i := 7) (oi := _) (v := ?v7) rfl (by kernel_rfl) (by kernel_rfl) (by kernel_rfl) (fun _ _ _ h => h) (Or.inl ⟨by rfl, ?hy7⟩) (by assumption) ?rest7
  case hy7 =>
    intro W hSw
    clear hSw
    go_simp
    try (with_reducible rfl)
  try simp only [Act.put, List.getElem_toArray, List.getElem_cons_zero, List.getElem_cons_succ, List.setIfInBounds_toArray, List.set_cons_zero, List.set_cons_succ]
  refine wpAnyH_take (i := 8) (oi := _) (v := ?v8) rfl (by kernel_rfl) (by kernel_rfl) (by kernel_rfl) (fun _ _ _ h => h) (Or.inl ⟨by rfl, ?hy8⟩) (by assumption) ?rest8
  case hy8 =>
    intro W hSw
    skip
    go_simp
    try (with_reducible rfl)
  try simp only [Act.put, List.getElem_toArray, List.getElem_cons_zero, List.getElem_cons_succ, List.setIfInBounds_toArray, List.set_cons_zero, List.set_cons_succ]
  refine wpAnyH_take (i := 9) (oi := _) (v := ?v9) rfl (by kernel_rfl) (by kernel_rfl) (by kernel_rfl) (fun _ _ _ h => h) (Or.inl ⟨by rfl, ?hy9⟩) (by assumption) ?rest9
  case hy9 =>
    intro W hSw
    clear hSw
    go_simp
    try (with_reducible rfl)
  try simp only [Act.put, List.getElem_toArray, List.getElem_cons_zero, List.getElem_cons_succ, List.setIfInBounds_toArray, List.set_cons_zero, List.set_cons_succ]
  refine wpAnyH_take (i := 10) (oi := _) (v := ?v10) rfl (by kernel_rfl) (by kernel_rfl) (by kernel_rfl) (fun _ _ _ h => h) (Or.inl ⟨by rfl, ?hy10⟩) (by assumption) ?rest10
  case hy10 =>
    intro W hSw
    clear hSw
    go_simp
    try (with_reducible rfl)
  try simp only [Act.put, List.getElem_toArray, List.getElem_cons_zero, List.getElem_cons_succ, List.setIfInBounds_toArray, List.set_cons_zero, List.set_cons_succ]
  refine wpAnyH_take (i := 11) (oi := _) (v := ?v11) rfl (by kernel_rfl) (by kernel_rfl) (by kernel_rfl) (fun _ _ _ h => h) (Or.inl ⟨by rfl, ?hy11⟩) (by assumption) ?rest11
  case hy11 =>
    intro W hSw
    clear hSw
    go_simp
    try (with_reducible rfl)
  try simp only [Act.put, List.getElem_toArray, List.getElem_cons_zero, List.getElem_cons_succ, List.setIfInBounds_toArray, List.set_cons_zero, List.set_cons_succ]
  refine wpAnyH_take (i := 13) (oi := _) (v := ?v13) rfl (by kernel_rfl) (by kernel_rfl) (by kernel_rfl) (fun _ _ _ h => h) (Or.inl ⟨by rfl, ?hy13⟩) (by assumption) ?rest13
  case hy13 =>
    intro W hSw
    clear hSw
    go_simp
    try (with_reducible rfl)
  try simp only [Act.put, List.getElem_toArray, List.getElem_cons_zero, List.getElem_cons_succ, List.setIfInBounds_toArray, List.set_cons_zero, List.set_cons_succ]
  refine wpAnyH_ready (rs := [12]) (by kernel_rfl) (by simp) ?_
  refine AllReadyH.cons (o := _) rfl (fun K hK => ?_) AllReadyH.nil
  go_simp
  refine hK.out _ _ hHeld (fun _ => ?_)
  clear hK K
  try simp only [Act.put, List.getElem_toArray, List.getElem_cons_zero, List.getElem_cons_succ, List.setIfInBounds_toArray, List.set_cons_zero, List.set_cons_succ]
  refine wpAnyH_take (i := 14) (oi := _) (v := .int .i64 ((e.p + 1 : Nat) : Int)) rfl (by kernel_rfl) (by kernel_rfl) (by kernel_rfl) (fun _ _ _ h => h) (Or.inl ⟨by rfl, ?hy14⟩) (by assumption) ?rest14
  case hy14 =>
    intro W hSw
    clear hSw
    go_simp
    try (with_reducible rfl)
  try simp only [Act.put, List.getElem_toArray, List.getElem_cons_zero, List.getElem_cons_succ, List.setIfInBounds_toArray, List.set_cons_zero, List.set_cons_succ]
  refine wpAnyH_take (i := 15) (oi := _) (v := ?v15) rfl (by kernel_rfl) (by kernel_rfl) (by kernel_rfl) (fun _ _ _ h => h) (Or.inl ⟨by rfl, ?hy15⟩) (by assumption) ?rest15
  case hy15 =>
    intro W hSw
    clear hSw
    go_simp
    try (with_reducible rfl)
  try simp only [Act.put, List.getElem_toArray, List.getElem_cons_zero, List.getElem_cons_succ, List.setIfInBounds_toArray, List.set_cons_zero, List.set_cons_succ]
  refine wpAnyH_take (i := 16) (oi := _) (v := ?v16) rfl (by kernel_rfl) (by kernel_rfl) (by kernel_rfl) (fun _ _ _ h => h) (Or.inl ⟨by rfl, ?hy16⟩) (by assumption) ?rest16
  case hy16 =>
    intro W hSw
    clear hSw
    go_simp
    try (with_reducible rfl)
  try simp only [Act.put, List.getElem_toArray, List.getElem_cons_zero, List.getElem_cons_succ, List.setIfInBounds_toArray, List.set_cons_zero, List.set_cons_succ]
  refine wpAnyH_ready (rs := [17]) (by kernel_rfl) (by simp) ?_
  refine AllReadyH.cons (o := _) rfl (fun K hK => ?_) AllReadyH.nil
  go_simp
  refine hK.out _ _ r2 (fun _ => ?_)
  clear hK K
  try simp only [Act.put, List.getElem_toArray, List.getElem_cons_zero, List.getElem_cons_succ, List.setIfInBounds_toArray, List.set_cons_zero, List.set_cons_succ]
  refine wpAnyH_done (by kernel_rfl) ?_ _
  go_wp2_with (fail)
  go_ret
  exact ⟨rfl, HP.out.1.below (Below.refl _ _).drew, (stay HB.out.1).1.trans (HP.out.2.trans (Tch.of_below (Below.refl _ _).drew)), fun k hk => .inl hk⟩
set_option maxHeartbeats 1000000 in
theorem refPinDown1 {F : Nat → Prop} {W : World} {R : Nat} {places : Int} {p q : List EntI} {e : EntI} (h : RC F W R places (p ++ e :: q)) (hl : (p ++ e :: q).length ≤ 65536) (k : Int) (he : e.k = k) (hn : ∀ y ∈ p, y.k ≠ k) (n : Nat) (hp : e.p = n + 1) (hb0 : n ≤ 1000000) :
    Calls Try.prog 38 #[PV R, .int .i64 k, .int .i64 (-1)] W fun x W' => x = .returned (.bool true) ∧ RC F W' R places (p ++ ⟨e.k, e.v, e.d, n⟩ :: q) ∧ Step F F W W' := by
  have HF := Lib.hid (findSome h hl k he hn)
  have HH := Lib.hid (And.intro h hl)
  clear h hl hn
  go_enter Try.func38, Try.ntmps38
  go_wp2_with (fail)
  refine HF.out.mono ?_
  rintro x W1 ⟨rfl, hb⟩
  have h1 := HH.out.1.below hb
  have hrc := h1
  obtain ⟨s, c, k1, k2, k3, k4, k5⟩ := hrc
  have r1 : W1.cell? ⟨R, 1, none⟩ = some (.slice s (p ++ e :: q).length c) := by rw [cell_of_row _ _ _ _ _ _ k1]; rfl
  have hpl : p.length < (p ++ e :: q).length := by simp
  obtain ⟨g, hs, hcl⟩ := RC.cells (F := F) (R := R) (places := places) k2 hpl
  obtain ⟨d0, d1, d2, d3⟩ := hcl e (by simp)
  have hgR : g ≠ R := (k4 g (by rw [hs]; simp [Value.ownBlock])).2
  have hput := RC.put (e' := ⟨e.k, e.v, e.d, n⟩) k1 k2 k3 k4 k5 hs 3 (.int .i64 ((n : Nat) : Int)) (by omega) rfl rfl
  subst hs
  have hfz := k2.frozenAt (p.length * 4 + 3)
  have HP := Lib.hid hput
  have HB := Lib.hid (And.intro hb h1)
  obtain ⟨N, hN⟩ : ∃ N, (p ++ e :: q).length = N := ⟨_, rfl⟩
  rw [hN] at r1 hpl k5
  have hpI : (p.length : Int) < (N : Int) := by omega
  have r2 : (W1.setCell ⟨g, p.length * 4 + 3, none⟩ (.int .i64 ((n : Nat) : Int))).cell? ⟨R, 1, none⟩ = some (.slice (some ⟨g, 0, none⟩) N c) := by
    rw [World.cell?_setCell_far _ _ _ _ hgR]; exact r1
  clear hb h1 hcl hN k1 k2 k3 k4 hput
  rw [hp] at d3
  have hadd : wrap64 (((n + 1 : Nat) : Int) + -1) = (n : Int) := by unfold wrap64; omega
  have haddK : IntKind.i64.wrap ((n : Int) + 1 + -1) = (n : Int) := by rw [wrapK _ (by omega) (by omega)]; omega
  have hge : ¬ (n : Int) < 0 := by omega
  go_upto_region 4 with (fail)
  refine wp_region_held_drew (S := fun W' => W'.cell? ⟨R, 1, none⟩ = some (.slice (some ⟨g, 0, none⟩) N c)) (by kernel_rfl) r1 (fun hHeld => ?_)
  refine wpAnyH_take (i := 0) (oi := _) (v := ?v0) rfl (by kernel_rfl) (by kernel_rfl) (by kernel_rfl) (fun _ _ _ h => h) (Or.inl ⟨by rfl, ?hy0⟩) (by assumption) ?rest0
  case hy0 =>
    intro W hSw
    clear hSw
    go_simp
    try (with_reducible rfl)
  try simp only [Act.put, List.getElem_toArray, List.getElem_cons_zero, List.getElem_cons_succ, List.setIfInBounds_toArray, List.set_cons_zero, List.set_cons_succ]
  refine wpAnyH_take (i := 1) (oi := _) (v := ?v1) rfl (by kernel_rfl) (by kernel_rfl) (by kernel_rfl) (fun _ _ _ h => h) (Or.inl ⟨by rfl, ?hy1⟩) (by assumption) ?rest1
  case hy1 =>
    intro W hSw
    clear hSw
    go_simp
    try (with_reducible rfl)
  try simp only [Act.put, List.getElem_toArray, List.getElem_cons_zero, List.getElem_cons_succ, List.setIfInBounds_toArray, List.set_cons_zero, List.set_cons_succ]
  refine wpAnyH_take (i := 2) (oi := _) (v := ?v2) rfl (by kernel_rfl) (by kernel_rfl) (by kernel_rfl) (fun _ _ _ h => h) (Or.inl ⟨by rfl, ?hy2⟩) (by assumption) ?rest2
  case hy2 =>
    intro W hSw
    clear hSw
    go_simp
    try (with_reducible rfl)
  try simp only [Act.put, List.getElem_toArray, List.getElem_cons_zero, List.getElem_cons_succ, List.setIfInBounds_toArray, List.set_cons_zero, List.set_cons_succ]
  refine wpAnyH_take (i := 3) (oi := _) (v := ?v3) rfl (by kernel_rfl) (by kernel_rfl) (by kernel_rfl) (fun _ _ _ h => h) (Or.inl ⟨by rfl, ?hy3⟩) (by assumption) ?rest3
  case hy3 =>
    intro W hSw
    skip
    go_simp
    try (with_reducible rfl)
  try simp only [Act.put, List.getElem_toArray, List.getElem_cons_zero, List.getElem_cons_succ, List.setIfInBounds_toArray, List.set_cons_zero, List.set_cons_succ]
  refine wpAnyH_take (i := 4) (oi := _) (v := ?v4) rfl (by kernel_rfl) (by kernel_rfl) (by kernel_rfl) (fun _ _ _ h => h) (Or.inl ⟨by rfl, ?hy4⟩) (by assumption) ?rest4
  case hy4 =>
    intro W hSw
    clear hSw
    go_simp
    try (with_reducible rfl)
  try simp only [Act.put, List.getElem_toArray, List.getElem_cons_zero, List.getElem_cons_succ, List.setIfInBounds_toArray, List.set_cons_zero, List.set_cons_succ]
  refine wpAnyH_take (i := 5) (oi := _) (v := ?v5) rfl (by kernel_rfl) (by kernel_rfl) (by kernel_rfl) (fun _ _ _ h => h) (Or.inl ⟨by rfl, ?hy5⟩) (by assumption) ?rest5
  case hy5 =>
    intro W hSw
    clear hSw
    go_simp
    try (with_reducible rfl)
  try simp only [Act.put, List.getElem_toArray, List.getElem_cons_zero, List.getElem_cons_succ, List.setIfInBounds_toArray, List.set_cons_zero, List.set_cons_succ]
  refine wpAnyH_take (i := 6) (oi := _) (v := ?v6) rfl (by kernel_rfl) (by kernel_rfl) (by kernel_rfl) (fun _ _ _ h => h) (Or.inl ⟨by rfl, ?hy6⟩) (by assumption) ?rest6
  case hy6 =>
    intro W hSw
    clear hSw
    go_simp
    try (with_reducible rfl)
  try simp only [Act.put, List.getElem_toArray, List.getElem_cons_zero, List.getElem_cons_succ, List.setIfInBounds_toArray, List.set_cons_zero, List.set_cons_succ]
  refine wpAnyH_take (i := 7) (oi := _) (v := ?v7) rfl (by kernel_rfl) (by kernel_rfl) (by kernel_rfl) (fun _ _ _ h => h) (Or.inl ⟨by rfl, ?hy7⟩) (by assumption) ?rest7
  case hy7 =>
    intro W hSw
    clear hSw
    go_simp
    try (with_reducible rfl)
  try simp only [Act.put, List.getElem_toArray, List.getElem_cons_zero, List.getElem_cons_succ, List.setIfInBounds_toArray, List.set_cons_zero, List.set_cons_succ]
  refine wpAnyH_take (i := 8) (oi := _) (v := ?v8) rfl (by kernel_rfl) (by kernel_rfl) (by kernel_rfl) (fun _ _ _ h => h) (Or.inl ⟨by rfl, ?hy8⟩) (by assumption) ?rest8
  case hy8 =>
    intro W hSw
    skip
    go_simp
    try (with_reducible rfl)
  try simp only [Act.put, List.getElem_toArray, List.getElem_cons_zero, List.getElem_cons_succ, List.setIfInBounds_toArray, List.set_cons_zero, List.set_cons_succ]
  refine wpAnyH_take (i := 9) (oi := _) (v := ?v9) rfl (by kernel_rfl) (by kernel_rfl) (by kernel_rfl) (fun _ _ _ h => h) (Or.inl ⟨by rfl, ?hy9⟩) (by assumption) ?rest9
  case hy9 =>
    intro W hSw
    clear hSw
    go_simp
    try (with_reducible rfl)
  try simp only [Act.put, List.getElem_toArray, List.getElem_cons_zero, List.getElem_cons_succ, List.setIfInBounds_toArray, List.set_cons_zero, List.set_cons_succ]
  refine wpAnyH_take (i := 10) (oi := _) (v := ?v10) rfl (by kernel_rfl) (by kernel_rfl) (by kernel_rfl) (fun _ _ _ h => h) (Or.inl ⟨by rfl, ?hy10⟩) (by assumption) ?rest10
  case hy10 =>
    intro W hSw
    clear hSw
    go_simp
    try (with_reducible rfl)
  try simp only [Act.put, List.getElem_toArray, List.getElem_cons_zero, List.getElem_cons_succ, List.setIfInBounds_toArray, List.set_cons_zero, List.set_cons_succ]
  refine wpAnyH_take (i := 11) (oi := _) (v := ?v11) rfl (by kernel_rfl) (by kernel_rfl) (by kernel_rfl) (fun _ _ _ h => h) (Or.inl ⟨by rfl, ?hy11⟩) (by assumption) ?rest11
  case hy11 =>
    intro W hSw
    clear hSw
    go_simp
    try (with_reducible rfl)
  try simp only [Act.put, List.getElem_toArray, List.getElem_cons_zero, List.getElem_cons_succ, List.setIfInBounds_toArray, List.set_cons_zero, List.set_cons_succ]
  refine wpAnyH_take (i := 13) (oi := _) (v := ?v13) rfl (by kernel_rfl) (by kernel_rfl) (by kernel_rfl) (fun _ _ _ h => h) (Or.inl ⟨by rfl, ?hy13⟩) (by assumption) ?rest13
  case hy13 =>
    intro W hSw
    clear hSw
    go_simp
    try (with_reducible rfl)
  try simp only [Act.put, List.getElem_toArray, List.getElem_cons_zero, List.getElem_cons_succ, List.setIfInBounds_toArray, List.set_cons_zero, List.set_cons_succ]
  refine wpAnyH_ready (rs := [12]) (by kernel_rfl) (by simp) ?_
  refine AllReadyH.cons (o := _) rfl (fun K hK => ?_) AllReadyH.nil
  go_simp
  refine hK.out _ _ hHeld (fun _ => ?_)
  clear hK K
  try simp only [Act.put, List.getElem_toArray, List.getElem_cons_zero, List.getElem_cons_succ, List.setIfInBounds_toArray, List.set_cons_zero, List.set_cons_succ]
  refine wpAnyH_take (i := 14) (oi := _) (v := .int .i64 ((n : Nat) : Int)) rfl (by kernel_rfl) (by kernel_rfl) (by kernel_rfl) (fun _ _ _ h => h) (Or.inl ⟨by rfl, ?hy14⟩) (by assumption) ?rest14
  case hy14 =>
    intro W hSw
    clear hSw
    go_simp
    try (with_reducible rfl)
  try simp only [Act.put, List.getElem_toArray, List.getElem_cons_zero, List.getElem_cons_succ, List.setIfInBounds_toArray, List.set_cons_zero, List.set_cons_succ]
  refine wpAnyH_take (i := 15) (oi := _) (v := ?v15) rfl (by kernel_rfl) (by kernel_rfl) (by kernel_rfl) (fun _ _ _ h => h) (Or.inl ⟨by rfl, ?hy15⟩) (by assumption) ?rest15
  case hy15 =>
    intro W hSw
    clear hSw
    go_simp
    try (with_reducible rfl)
  try simp only [Act.put, List.getElem_toArray, List.getElem_cons_zero, List.getElem_cons_succ, List.setIfInBounds_toArray, List.set_cons_zero, List.set_cons_succ]
  refine wpAnyH_take (i := 16) (oi := _) (v := ?v16) rfl (by kernel_rfl) (by kernel_rfl) (by kernel_rfl) (fun _ _ _ h => h) (Or.inl ⟨by rfl, ?hy16⟩) (by assumption) ?rest16
  case hy16 =>
    intro W hSw
    clear hSw
    go_simp
    try (with_reducible rfl)
  try simp only [Act.put, List.getElem_toArray, List.getElem_cons_zero, List.getElem_cons_succ, List.setIfInBounds_toArray, List.set_cons_zero, List.set_cons_succ]
  refine wpAnyH_ready (rs := [17]) (by kernel_rfl) (by simp) ?_
  refine AllReadyH.cons (o := _) rfl (fun K hK => ?_) AllReadyH.nil
  go_simp
  refine hK.out _ _ r2 (fun _ => ?_)
  clear hK K
  try simp only [Act.put, List.getElem_toArray, List.getElem_cons_zero, List.getElem_cons_succ, List.setIfInBounds_toArray, List.set_cons_zero, List.set_cons_succ]
  refine wpAnyH_done (by kernel_rfl) ?_ _
  go_wp2_with (fail)
  go_ret
  exact ⟨rfl, HP.out.1.below (Below.refl _ _).drew, (stay HB.out.1).1.trans (HP.out.2.trans (Tch.of_below (Below.refl _ _).drew)), fun k hk => .inl hk⟩
end Go.Proofs.Ytaigbplidkakhaa
