/- Proved here: a step of a script, played by the program's cache and by the document's: they answer the same, and stay alike. -/
import Derived.Test.YtaigbplidkakhaaCBoth
import Derived.Deep.RegionHeld3
namespace Go.Proofs.Ytaigbplidkakhaa
open Go.RowKit Go.ChangeMaps
theorem PR.len {B : Nat} {W : World} {M F : Nat → Prop} {C R : Nat} {places : Int} {i : Nat} {lc lr : List EntI} (h : PR B W M F C R places i lc lr) : lc.length ≤ 65536 := by
  obtain ⟨nb, _, _, _, _, _, _, _, _, _, _, _, h4⟩ := h.cs
  exact h4
theorem Away.out {M F M' F' : Nat → Prop} {W W' : World} (h : Away M F M' F' W W') {x : Nat} (hx : x < W.heap.size) (hm : ¬ M x) (hf : ¬ F x) : ¬ M' x ∧ ¬ F' x := (h x hx hm hf).2
theorem Away.cat {M F M' F' M'' F'' : Nat → Prop} {A B C : World} (h : Away M F M' F' A B) (hs : A.heap.size ≤ B.heap.size) (k : Away M' F' M'' F'' B C) : Away M F M'' F'' A C := fun j hj hm hf => by
  obtain ⟨e1, e2, e3⟩ := h j hj hm hf
  obtain ⟨f1, f2, f3⟩ := k j (by omega) e2 e3
  exact ⟨f1.trans e1, f2, f3⟩
theorem Away.of_below {M F : Nat → Prop} {A B : World} (h : Below A.heap.size A B) : Away M F M F A B := fun j hj hm hf => ⟨h.block j hj, hm, hf⟩
theorem ret_b' {a b : Bool} (h : a = b) : Ending.returned (.bool a) = .returned (.bool b) := by rw [h]
set_option maxRecDepth 100000 in
set_option maxHeartbeats 4000000 in
theorem plays_get (B : Nat) (W : World) (M F : Nat → Prop) (C R : Nat) (places : Int) (i : Nat) (l : List EntI) (h : PR B W M F C R places i l l) (hi : i ≤ 99999) (hp : places ≤ 65536) (hpin : ∀ e ∈ l, e.p ≤ i) (k v : Int) (d : Bool) (hk : -9223372036854775808 ≤ k ∧ k ≤ 9223372036854775807) :
    Calls Try.prog 8 #[PV C, PV R, .agg #[.int .i64 0, .int .i64 k, .int .i64 v, .bool d]] W fun x W' => x = .returned (.bool true) ∧ ∃ M' F' l', PR B W' M' F' C R places (i + 1) l' l' ∧ Below B W W' ∧ Away M F M' F' W W' ∧ ∀ e ∈ l', e.p ≤ i + 1 := by
  obtain ⟨v0, ok, l', hP, hR, hpi⟩ := both_get places hp l h.len (fun e he => by have := hpin e he; omega) k hk
  have hM : ¬ M W.heap.size := fun e => by have := (h.mb _ e).2; omega
  have hF : ¬ F W.heap.size := fun e => by have := (h.fb _ e).2; omega
  have hb0 : Below W.heap.size W (W.alloc (.cells #[.int .i64 0, .int .i64 k, .int .i64 v, .bool d] 33)) := (Below.refl _ _).alloc (Nat.le_refl _) _
  have P1 := h.below hb0
  have P1d := P1.below (Below.refl _ _).drew
  have hbx := heap_alloc_new W (.cells #[.int .i64 0, .int .i64 k, .int .i64 v, .bool d] 33)
  have c1 : (W.alloc (.cells #[.int .i64 0, .int .i64 k, .int .i64 v, .bool d] 33)).cell? ⟨W.heap.size, 1, none⟩ = some (.int .i64 k) := by rw [cell_of_row _ _ _ _ _ _ hbx]; rfl
  have c2 : (W.alloc (.cells #[.int .i64 0, .int .i64 k, .int .i64 v, .bool d] 33)).cell? ⟨W.heap.size, 2, none⟩ = some (.int .i64 v) := by rw [cell_of_row _ _ _ _ _ _ hbx]; rfl
  have c3 : (W.alloc (.cells #[.int .i64 0, .int .i64 k, .int .i64 v, .bool d] 33)).cell? ⟨W.heap.size, 3, none⟩ = some (.bool d) := by rw [cell_of_row _ _ _ _ _ _ hbx]; rfl
  have HP := Lib.hid hP
  have HR := Lib.hid hR
  have HH := Lib.hid (And.intro P1 (And.intro P1d (And.intro hM (And.intro hF (And.intro (hpi i hpin) (And.intro (hb0.mono h.le) hi))))))
  have HC := Lib.hid (And.intro c1 (And.intro c2 c3))
  clear hP hR P1 P1d hM hF hpi hb0 h hpin hbx c1 c2 c3 hk hp hi
  go_enter Try.func8, Try.ntmps8
  go_wp2_with (fail)
  refine (HH.out.1.prog HH.out.2.2.2.2.2.2 HP.out).mono ?_
  rintro e w1 ⟨rfl, M1, h1, b1, a1⟩
  have c1 : w1.cell? ⟨W.heap.size, 1, none⟩ = some (.int .i64 k) := a1.cell HH.out.2.2.1 HH.out.2.2.2.1 HC.out.1
  have H1 := Lib.hid (And.intro h1 (And.intro b1 a1))
  clear h1 b1 a1
  go_wp2_with (fail)
  refine (H1.out.1.refd HR.out).mono ?_
  rintro e w2 ⟨rfl, F2, h2, b2, a2⟩
  have H2 := Lib.hid (And.intro h2 (And.intro b2 a2))
  clear h2 b2 a2
  go_wp2_with (fail)
  go_ret
  exact ⟨ret_b' (by simp), M1, F2, l', H2.out.1, (HH.out.2.2.2.2.2.1.trans H1.out.2.1).trans H2.out.2.1, ((Away.of_below ((Below.refl _ _).alloc (Nat.le_refl _) _)).cat (by simp) H1.out.2.2).cat (Nat.le_trans (by simp) H1.out.2.1.size) H2.out.2.2, HH.out.2.2.2.2.1⟩
set_option maxRecDepth 100000 in
set_option maxHeartbeats 4000000 in
theorem plays_put (B : Nat) (W : World) (M F : Nat → Prop) (C R : Nat) (places : Int) (i : Nat) (l : List EntI) (h : PR B W M F C R places i l l) (hi : i ≤ 99999) (hp : places ≤ 65536) (hpin : ∀ e ∈ l, e.p ≤ i) (k v : Int) (d : Bool) (hk : -9223372036854775808 ≤ k ∧ k ≤ 9223372036854775807) :
    Calls Try.prog 8 #[PV C, PV R, .agg #[.int .i64 1, .int .i64 k, .int .i64 v, .bool d]] W fun x W' => x = .returned (.bool true) ∧ ∃ M' F' l', PR B W' M' F' C R places (i + 1) l' l' ∧ Below B W W' ∧ Away M F M' F' W W' ∧ ∀ e ∈ l', e.p ≤ i + 1 := by
  obtain ⟨r, l', hP, hR, hpi⟩ := both_put places hp l h.len (fun e he => by have := hpin e he; omega) k hk v d
  have hM : ¬ M W.heap.size := fun e => by have := (h.mb _ e).2; omega
  have hF : ¬ F W.heap.size := fun e => by have := (h.fb _ e).2; omega
  have hb0 : Below W.heap.size W (W.alloc (.cells #[.int .i64 1, .int .i64 k, .int .i64 v, .bool d] 33)) := (Below.refl _ _).alloc (Nat.le_refl _) _
  have P1 := h.below hb0
  have P1d := P1.below (Below.refl _ _).drew
  have hbx := heap_alloc_new W (.cells #[.int .i64 1, .int .i64 k, .int .i64 v, .bool d] 33)
  have c1 : (W.alloc (.cells #[.int .i64 1, .int .i64 k, .int .i64 v, .bool d] 33)).cell? ⟨W.heap.size, 1, none⟩ = some (.int .i64 k) := by rw [cell_of_row _ _ _ _ _ _ hbx]; rfl
  have c2 : (W.alloc (.cells #[.int .i64 1, .int .i64 k, .int .i64 v, .bool d] 33)).cell? ⟨W.heap.size, 2, none⟩ = some (.int .i64 v) := by rw [cell_of_row _ _ _ _ _ _ hbx]; rfl
  have c3 : (W.alloc (.cells #[.int .i64 1, .int .i64 k, .int .i64 v, .bool d] 33)).cell? ⟨W.heap.size, 3, none⟩ = some (.bool d) := by rw [cell_of_row _ _ _ _ _ _ hbx]; rfl
  have HP := Lib.hid hP
  have HR := Lib.hid hR
  have HH := Lib.hid (And.intro P1 (And.intro P1d (And.intro hM (And.intro hF (And.intro (hpi i hpin) (And.intro (hb0.mono h.le) hi))))))
  have HC := Lib.hid (And.intro c1 (And.intro c2 c3))
  clear hP hR P1 P1d hM hF hpi hb0 h hpin hbx c1 c2 c3 hk hp hi
  go_enter Try.func8, Try.ntmps8
  have KT := Lib.hid (fun (M1 F1 M2 F2 : Nat → Prop) (x y : World) (hm : ¬ M1 W.heap.size) (hf : ¬ F1 W.heap.size) (hs : x.cell? ⟨W.heap.size, 1, none⟩ = some (.int .i64 k) ∧ x.cell? ⟨W.heap.size, 2, none⟩ = some (.int .i64 v) ∧ x.cell? ⟨W.heap.size, 3, none⟩ = some (.bool d)) (a : Away M1 F1 M2 F2 x y) => show y.cell? ⟨W.heap.size, 1, none⟩ = some (.int .i64 k) ∧ y.cell? ⟨W.heap.size, 2, none⟩ = some (.int .i64 v) ∧ y.cell? ⟨W.heap.size, 3, none⟩ = some (.bool d) from ⟨a.cell hm hf hs.1, a.cell hm hf hs.2.1, a.cell hm hf hs.2.2⟩)
  have HI := Lib.hid HH.out.2.2.2.2.2.2
  obtain ⟨c1, c2, c3⟩ := HC.out
  go_wp2_with (fail)
  go_region_held3 (fun w' => w'.cell? ⟨W.heap.size, 1, none⟩ = some (.int .i64 k) ∧ w'.cell? ⟨W.heap.size, 2, none⟩ = some (.int .i64 v) ∧ w'.cell? ⟨W.heap.size, 3, none⟩ = some (.bool d)) (first | assumption | exact KT.out _ _ _ _ _ _ HH.out.2.2.1 HH.out.2.2.2.1 (by assumption) a6 | exact KT.out _ _ _ _ _ _ n7.1 n7.2 (by assumption) a6 | exact KT.out _ _ _ _ _ _ HH.out.2.2.1 HH.out.2.2.2.1 (by assumption) a7 | exact KT.out _ _ _ _ _ _ n6.1 n6.2 (by assumption) a7) (first | (go_at_call 15; (first | (with_reducible refine (HH.out.2.1.prog HI.out HP.out).mono ?_; rintro e w6 ⟨rfl, M6, h6, b6, a6⟩; have n6 := a6.out (by simp) HH.out.2.2.1 HH.out.2.2.2.1) | (with_reducible refine (h7.prog HI.out HP.out).mono ?_; rintro e w6 ⟨rfl, M6, h6, b6, a6⟩))) | (go_at_call 36; (first | (with_reducible refine (HH.out.2.1.refd HR.out).mono ?_; rintro e w7 ⟨rfl, F7, h7, b7, a7⟩; have n7 := a7.out (by simp) HH.out.2.2.1 HH.out.2.2.2.1) | (with_reducible refine (h6.refd HR.out).mono ?_; rintro e w7 ⟨rfl, F7, h7, b7, a7⟩))))
  all_goals
    go_wp2_with (fail)
    go_ret
    first
    | exact ⟨ret_b' (by simp), M6, F7, l', h7, (HH.out.2.2.2.2.2.1.drew.trans b6).trans b7, ((Away.of_below ((Below.refl _ _).alloc (Nat.le_refl _) _).drew).cat (by simp) a6).cat (Nat.le_trans (by simp) b6.size) a7, HH.out.2.2.2.2.1⟩
    | exact ⟨ret_b' (by simp), M6, F7, l', h6, (HH.out.2.2.2.2.2.1.drew.trans b7).trans b6, ((Away.of_below ((Below.refl _ _).alloc (Nat.le_refl _) _).drew).cat (by simp) a7).cat (Nat.le_trans (by simp) b7.size) a6, HH.out.2.2.2.2.1⟩
set_option maxRecDepth 100000 in
set_option maxHeartbeats 4000000 in
theorem plays_drop (B : Nat) (W : World) (M F : Nat → Prop) (C R : Nat) (places : Int) (i : Nat) (l : List EntI) (h : PR B W M F C R places i l l) (hi : i ≤ 99999) (hp : places ≤ 65536) (hpin : ∀ e ∈ l, e.p ≤ i) (k v : Int) (d : Bool) (hk : -9223372036854775808 ≤ k ∧ k ≤ 9223372036854775807) :
    Calls Try.prog 8 #[PV C, PV R, .agg #[.int .i64 2, .int .i64 k, .int .i64 v, .bool d]] W fun x W' => x = .returned (.bool true) ∧ ∃ M' F' l', PR B W' M' F' C R places (i + 1) l' l' ∧ Below B W W' ∧ Away M F M' F' W W' ∧ ∀ e ∈ l', e.p ≤ i + 1 := by
  obtain ⟨ok, l', hP, hR, hpi⟩ := both_drop places hp l h.len (fun e he => by have := hpin e he; omega) k hk
  have hM : ¬ M W.heap.size := fun e => by have := (h.mb _ e).2; omega
  have hF : ¬ F W.heap.size := fun e => by have := (h.fb _ e).2; omega
  have hb0 : Below W.heap.size W (W.alloc (.cells #[.int .i64 2, .int .i64 k, .int .i64 v, .bool d] 33)) := (Below.refl _ _).alloc (Nat.le_refl _) _
  have P1 := h.below hb0
  have P1d := P1.below (Below.refl _ _).drew
  have hbx := heap_alloc_new W (.cells #[.int .i64 2, .int .i64 k, .int .i64 v, .bool d] 33)
  have c1 : (W.alloc (.cells #[.int .i64 2, .int .i64 k, .int .i64 v, .bool d] 33)).cell? ⟨W.heap.size, 1, none⟩ = some (.int .i64 k) := by rw [cell_of_row _ _ _ _ _ _ hbx]; rfl
  have c2 : (W.alloc (.cells #[.int .i64 2, .int .i64 k, .int .i64 v, .bool d] 33)).cell? ⟨W.heap.size, 2, none⟩ = some (.int .i64 v) := by rw [cell_of_row _ _ _ _ _ _ hbx]; rfl
  have c3 : (W.alloc (.cells #[.int .i64 2, .int .i64 k, .int .i64 v, .bool d] 33)).cell? ⟨W.heap.size, 3, none⟩ = some (.bool d) := by rw [cell_of_row _ _ _ _ _ _ hbx]; rfl
  have HP := Lib.hid hP
  have HR := Lib.hid hR
  have HH := Lib.hid (And.intro P1 (And.intro P1d (And.intro hM (And.intro hF (And.intro (hpi i hpin) (And.intro (hb0.mono h.le) hi))))))
  have HC := Lib.hid (And.intro c1 (And.intro c2 c3))
  clear hP hR P1 P1d hM hF hpi hb0 h hpin hbx c1 c2 c3 hk hp hi
  go_enter Try.func8, Try.ntmps8
  have KT := Lib.hid (fun (M1 F1 M2 F2 : Nat → Prop) (x y : World) (hm : ¬ M1 W.heap.size) (hf : ¬ F1 W.heap.size) (hs : x.cell? ⟨W.heap.size, 1, none⟩ = some (.int .i64 k) ∧ x.cell? ⟨W.heap.size, 2, none⟩ = some (.int .i64 v) ∧ x.cell? ⟨W.heap.size, 3, none⟩ = some (.bool d)) (a : Away M1 F1 M2 F2 x y) => show y.cell? ⟨W.heap.size, 1, none⟩ = some (.int .i64 k) ∧ y.cell? ⟨W.heap.size, 2, none⟩ = some (.int .i64 v) ∧ y.cell? ⟨W.heap.size, 3, none⟩ = some (.bool d) from ⟨a.cell hm hf hs.1, a.cell hm hf hs.2.1, a.cell hm hf hs.2.2⟩)
  have HI := Lib.hid HH.out.2.2.2.2.2.2
  obtain ⟨c1, c2, c3⟩ := HC.out
  go_wp2_with (fail)
  go_region_held3 (fun w' => w'.cell? ⟨W.heap.size, 1, none⟩ = some (.int .i64 k) ∧ w'.cell? ⟨W.heap.size, 2, none⟩ = some (.int .i64 v) ∧ w'.cell? ⟨W.heap.size, 3, none⟩ = some (.bool d)) (first | assumption | exact KT.out _ _ _ _ _ _ HH.out.2.2.1 HH.out.2.2.2.1 (by assumption) a6 | exact KT.out _ _ _ _ _ _ n7.1 n7.2 (by assumption) a6 | exact KT.out _ _ _ _ _ _ HH.out.2.2.1 HH.out.2.2.2.1 (by assumption) a7 | exact KT.out _ _ _ _ _ _ n6.1 n6.2 (by assumption) a7) (first | (go_at_call 22; (first | (with_reducible refine (HH.out.2.1.prog HI.out HP.out).mono ?_; rintro e w6 ⟨rfl, M6, h6, b6, a6⟩; have n6 := a6.out (by simp) HH.out.2.2.1 HH.out.2.2.2.1) | (with_reducible refine (h7.prog HI.out HP.out).mono ?_; rintro e w6 ⟨rfl, M6, h6, b6, a6⟩))) | (go_at_call 37; (first | (with_reducible refine (HH.out.2.1.refd HR.out).mono ?_; rintro e w7 ⟨rfl, F7, h7, b7, a7⟩; have n7 := a7.out (by simp) HH.out.2.2.1 HH.out.2.2.2.1) | (with_reducible refine (h6.refd HR.out).mono ?_; rintro e w7 ⟨rfl, F7, h7, b7, a7⟩))))
  all_goals
    go_wp2_with (fail)
    go_ret
    first
    | exact ⟨ret_b' (by simp), M6, F7, l', h7, (HH.out.2.2.2.2.2.1.drew.trans b6).trans b7, ((Away.of_below ((Below.refl _ _).alloc (Nat.le_refl _) _).drew).cat (by simp) a6).cat (Nat.le_trans (by simp) b6.size) a7, HH.out.2.2.2.2.1⟩
    | exact ⟨ret_b' (by simp), M6, F7, l', h6, (HH.out.2.2.2.2.2.1.drew.trans b7).trans b6, ((Away.of_below ((Below.refl _ _).alloc (Nat.le_refl _) _).drew).cat (by simp) a7).cat (Nat.le_trans (by simp) b7.size) a6, HH.out.2.2.2.2.1⟩
set_option maxRecDepth 100000 in
set_option maxHeartbeats 4000000 in
theorem plays_pin (B : Nat) (W : World) (M F : Nat → Prop) (C R : Nat) (places : Int) (i : Nat) (l : List EntI) (h : PR B W M F C R places i l l) (hi : i ≤ 99999) (hp : places ≤ 65536) (hpin : ∀ e ∈ l, e.p ≤ i) (k v : Int) (d : Bool) (hk : -9223372036854775808 ≤ k ∧ k ≤ 9223372036854775807) :
    Calls Try.prog 8 #[PV C, PV R, .agg #[.int .i64 3, .int .i64 k, .int .i64 v, .bool d]] W fun x W' => x = .returned (.bool true) ∧ ∃ M' F' l', PR B W' M' F' C R places (i + 1) l' l' ∧ Below B W W' ∧ Away M F M' F' W W' ∧ ∀ e ∈ l', e.p ≤ i + 1 := by
  obtain ⟨ok, l', hP, hR, hpi⟩ := both_pin places hp l h.len (fun e he => by have := hpin e he; omega) k hk
  have hM : ¬ M W.heap.size := fun e => by have := (h.mb _ e).2; omega
  have hF : ¬ F W.heap.size := fun e => by have := (h.fb _ e).2; omega
  have hb0 : Below W.heap.size W (W.alloc (.cells #[.int .i64 3, .int .i64 k, .int .i64 v, .bool d] 33)) := (Below.refl _ _).alloc (Nat.le_refl _) _
  have P1 := h.below hb0
  have P1d := P1.below (Below.refl _ _).drew
  have hbx := heap_alloc_new W (.cells #[.int .i64 3, .int .i64 k, .int .i64 v, .bool d] 33)
  have c1 : (W.alloc (.cells #[.int .i64 3, .int .i64 k, .int .i64 v, .bool d] 33)).cell? ⟨W.heap.size, 1, none⟩ = some (.int .i64 k) := by rw [cell_of_row _ _ _ _ _ _ hbx]; rfl
  have c2 : (W.alloc (.cells #[.int .i64 3, .int .i64 k, .int .i64 v, .bool d] 33)).cell? ⟨W.heap.size, 2, none⟩ = some (.int .i64 v) := by rw [cell_of_row _ _ _ _ _ _ hbx]; rfl
  have c3 : (W.alloc (.cells #[.int .i64 3, .int .i64 k, .int .i64 v, .bool d] 33)).cell? ⟨W.heap.size, 3, none⟩ = some (.bool d) := by rw [cell_of_row _ _ _ _ _ _ hbx]; rfl
  have HP := Lib.hid hP
  have HR := Lib.hid hR
  have HH := Lib.hid (And.intro P1 (And.intro P1d (And.intro hM (And.intro hF (And.intro (hpi i hpin) (And.intro (hb0.mono h.le) hi))))))
  have HC := Lib.hid (And.intro c1 (And.intro c2 c3))
  clear hP hR P1 P1d hM hF hpi hb0 h hpin hbx c1 c2 c3 hk hp hi
  go_enter Try.func8, Try.ntmps8
  have KT := Lib.hid (fun (M1 F1 M2 F2 : Nat → Prop) (x y : World) (hm : ¬ M1 W.heap.size) (hf : ¬ F1 W.heap.size) (hs : x.cell? ⟨W.heap.size, 1, none⟩ = some (.int .i64 k) ∧ x.cell? ⟨W.heap.size, 2, none⟩ = some (.int .i64 v) ∧ x.cell? ⟨W.heap.size, 3, none⟩ = some (.bool d)) (a : Away M1 F1 M2 F2 x y) => show y.cell? ⟨W.heap.size, 1, none⟩ = some (.int .i64 k) ∧ y.cell? ⟨W.heap.size, 2, none⟩ = some (.int .i64 v) ∧ y.cell? ⟨W.heap.size, 3, none⟩ = some (.bool d) from ⟨a.cell hm hf hs.1, a.cell hm hf hs.2.1, a.cell hm hf hs.2.2⟩)
  have HI := Lib.hid HH.out.2.2.2.2.2.2
  obtain ⟨c1, c2, c3⟩ := HC.out
  go_wp2_with (fail)
  go_region_held3 (fun w' => w'.cell? ⟨W.heap.size, 1, none⟩ = some (.int .i64 k) ∧ w'.cell? ⟨W.heap.size, 2, none⟩ = some (.int .i64 v) ∧ w'.cell? ⟨W.heap.size, 3, none⟩ = some (.bool d)) (first | assumption | exact KT.out _ _ _ _ _ _ HH.out.2.2.1 HH.out.2.2.2.1 (by assumption) a6 | exact KT.out _ _ _ _ _ _ n7.1 n7.2 (by assumption) a6 | exact KT.out _ _ _ _ _ _ HH.out.2.2.1 HH.out.2.2.2.1 (by assumption) a7 | exact KT.out _ _ _ _ _ _ n6.1 n6.2 (by assumption) a7) (first | (go_at_call 16; (first | (with_reducible refine (HH.out.2.1.prog HI.out HP.out).mono ?_; rintro e w6 ⟨rfl, M6, h6, b6, a6⟩; have n6 := a6.out (by simp) HH.out.2.2.1 HH.out.2.2.2.1) | (with_reducible refine (h7.prog HI.out HP.out).mono ?_; rintro e w6 ⟨rfl, M6, h6, b6, a6⟩))) | (go_at_call 38; (first | (with_reducible refine (HH.out.2.1.refd HR.out).mono ?_; rintro e w7 ⟨rfl, F7, h7, b7, a7⟩; have n7 := a7.out (by simp) HH.out.2.2.1 HH.out.2.2.2.1) | (with_reducible refine (h6.refd HR.out).mono ?_; rintro e w7 ⟨rfl, F7, h7, b7, a7⟩))))
  all_goals
    go_wp2_with (fail)
    go_ret
    first
    | exact ⟨ret_b' (by simp), M6, F7, l', h7, (HH.out.2.2.2.2.2.1.drew.trans b6).trans b7, ((Away.of_below ((Below.refl _ _).alloc (Nat.le_refl _) _).drew).cat (by simp) a6).cat (Nat.le_trans (by simp) b6.size) a7, HH.out.2.2.2.2.1⟩
    | exact ⟨ret_b' (by simp), M6, F7, l', h6, (HH.out.2.2.2.2.2.1.drew.trans b7).trans b6, ((Away.of_below ((Below.refl _ _).alloc (Nat.le_refl _) _).drew).cat (by simp) a7).cat (Nat.le_trans (by simp) b7.size) a6, HH.out.2.2.2.2.1⟩
set_option maxRecDepth 100000 in
set_option maxHeartbeats 4000000 in
theorem plays_unpin (B : Nat) (W : World) (M F : Nat → Prop) (C R : Nat) (places : Int) (i : Nat) (l : List EntI) (h : PR B W M F C R places i l l) (hi : i ≤ 99999) (hp : places ≤ 65536) (hpin : ∀ e ∈ l, e.p ≤ i) (k v : Int) (d : Bool) (hk : -9223372036854775808 ≤ k ∧ k ≤ 9223372036854775807) :
    Calls Try.prog 8 #[PV C, PV R, .agg #[.int .i64 4, .int .i64 k, .int .i64 v, .bool d]] W fun x W' => x = .returned (.bool true) ∧ ∃ M' F' l', PR B W' M' F' C R places (i + 1) l' l' ∧ Below B W W' ∧ Away M F M' F' W W' ∧ ∀ e ∈ l', e.p ≤ i + 1 := by
  obtain ⟨ok, l', hP, hR, hpi⟩ := both_unpin places hp l h.len (fun e he => by have := hpin e he; omega) k hk
  have hM : ¬ M W.heap.size := fun e => by have := (h.mb _ e).2; omega
  have hF : ¬ F W.heap.size := fun e => by have := (h.fb _ e).2; omega
  have hb0 : Below W.heap.size W (W.alloc (.cells #[.int .i64 4, .int .i64 k, .int .i64 v, .bool d] 33)) := (Below.refl _ _).alloc (Nat.le_refl _) _
  have P1 := h.below hb0
  have P1d := P1.below (Below.refl _ _).drew
  have hbx := heap_alloc_new W (.cells #[.int .i64 4, .int .i64 k, .int .i64 v, .bool d] 33)
  have c1 : (W.alloc (.cells #[.int .i64 4, .int .i64 k, .int .i64 v, .bool d] 33)).cell? ⟨W.heap.size, 1, none⟩ = some (.int .i64 k) := by rw [cell_of_row _ _ _ _ _ _ hbx]; rfl
  have c2 : (W.alloc (.cells #[.int .i64 4, .int .i64 k, .int .i64 v, .bool d] 33)).cell? ⟨W.heap.size, 2, none⟩ = some (.int .i64 v) := by rw [cell_of_row _ _ _ _ _ _ hbx]; rfl
  have c3 : (W.alloc (.cells #[.int .i64 4, .int .i64 k, .int .i64 v, .bool d] 33)).cell? ⟨W.heap.size, 3, none⟩ = some (.bool d) := by rw [cell_of_row _ _ _ _ _ _ hbx]; rfl
  have HP := Lib.hid hP
  have HR := Lib.hid hR
  have HH := Lib.hid (And.intro P1 (And.intro P1d (And.intro hM (And.intro hF (And.intro (hpi i hpin) (And.intro (hb0.mono h.le) hi))))))
  have HC := Lib.hid (And.intro c1 (And.intro c2 c3))
  clear hP hR P1 P1d hM hF hpi hb0 h hpin hbx c1 c2 c3 hk hp hi
  go_enter Try.func8, Try.ntmps8
  have KT := Lib.hid (fun (M1 F1 M2 F2 : Nat → Prop) (x y : World) (hm : ¬ M1 W.heap.size) (hf : ¬ F1 W.heap.size) (hs : x.cell? ⟨W.heap.size, 1, none⟩ = some (.int .i64 k) ∧ x.cell? ⟨W.heap.size, 2, none⟩ = some (.int .i64 v) ∧ x.cell? ⟨W.heap.size, 3, none⟩ = some (.bool d)) (a : Away M1 F1 M2 F2 x y) => show y.cell? ⟨W.heap.size, 1, none⟩ = some (.int .i64 k) ∧ y.cell? ⟨W.heap.size, 2, none⟩ = some (.int .i64 v) ∧ y.cell? ⟨W.heap.size, 3, none⟩ = some (.bool d) from ⟨a.cell hm hf hs.1, a.cell hm hf hs.2.1, a.cell hm hf hs.2.2⟩)
  have HI := Lib.hid HH.out.2.2.2.2.2.2
  obtain ⟨c1, c2, c3⟩ := HC.out
  go_wp2_with (fail)
  go_region_held3 (fun w' => w'.cell? ⟨W.heap.size, 1, none⟩ = some (.int .i64 k) ∧ w'.cell? ⟨W.heap.size, 2, none⟩ = some (.int .i64 v) ∧ w'.cell? ⟨W.heap.size, 3, none⟩ = some (.bool d)) (first | assumption | exact KT.out _ _ _ _ _ _ HH.out.2.2.1 HH.out.2.2.2.1 (by assumption) a6 | exact KT.out _ _ _ _ _ _ n7.1 n7.2 (by assumption) a6 | exact KT.out _ _ _ _ _ _ HH.out.2.2.1 HH.out.2.2.2.1 (by assumption) a7 | exact KT.out _ _ _ _ _ _ n6.1 n6.2 (by assumption) a7) (first | (go_at_call 17; (first | (with_reducible refine (HH.out.2.1.prog HI.out HP.out).mono ?_; rintro e w6 ⟨rfl, M6, h6, b6, a6⟩; have n6 := a6.out (by simp) HH.out.2.2.1 HH.out.2.2.2.1) | (with_reducible refine (h7.prog HI.out HP.out).mono ?_; rintro e w6 ⟨rfl, M6, h6, b6, a6⟩))) | (go_at_call 38; (first | (with_reducible refine (HH.out.2.1.refd HR.out).mono ?_; rintro e w7 ⟨rfl, F7, h7, b7, a7⟩; have n7 := a7.out (by simp) HH.out.2.2.1 HH.out.2.2.2.1) | (with_reducible refine (h6.refd HR.out).mono ?_; rintro e w7 ⟨rfl, F7, h7, b7, a7⟩))))
  all_goals
    go_wp2_with (fail)
    go_ret
    first
    | exact ⟨ret_b' (by simp), M6, F7, l', h7, (HH.out.2.2.2.2.2.1.drew.trans b6).trans b7, ((Away.of_below ((Below.refl _ _).alloc (Nat.le_refl _) _).drew).cat (by simp) a6).cat (Nat.le_trans (by simp) b6.size) a7, HH.out.2.2.2.2.1⟩
    | exact ⟨ret_b' (by simp), M6, F7, l', h6, (HH.out.2.2.2.2.2.1.drew.trans b7).trans b6, ((Away.of_below ((Below.refl _ _).alloc (Nat.le_refl _) _).drew).cat (by simp) a7).cat (Nat.le_trans (by simp) b7.size) a6, HH.out.2.2.2.2.1⟩
set_option maxRecDepth 100000 in
set_option maxHeartbeats 4000000 in
theorem plays_clean (B : Nat) (W : World) (M F : Nat → Prop) (C R : Nat) (places : Int) (i : Nat) (l : List EntI) (h : PR B W M F C R places i l l) (hi : i ≤ 99999) (hp : places ≤ 65536) (hpin : ∀ e ∈ l, e.p ≤ i) (k v : Int) (d : Bool) (hk : -9223372036854775808 ≤ k ∧ k ≤ 9223372036854775807) :
    Calls Try.prog 8 #[PV C, PV R, .agg #[.int .i64 5, .int .i64 k, .int .i64 v, .bool d]] W fun x W' => x = .returned (.bool true) ∧ ∃ M' F' l', PR B W' M' F' C R places (i + 1) l' l' ∧ Below B W W' ∧ Away M F M' F' W W' ∧ ∀ e ∈ l', e.p ≤ i + 1 := by
  obtain ⟨ok, l', hP, hR, hpi⟩ := both_clean places hp l h.len (fun e he => by have := hpin e he; omega) k hk
  have hM : ¬ M W.heap.size := fun e => by have := (h.mb _ e).2; omega
  have hF : ¬ F W.heap.size := fun e => by have := (h.fb _ e).2; omega
  have hb0 : Below W.heap.size W (W.alloc (.cells #[.int .i64 5, .int .i64 k, .int .i64 v, .bool d] 33)) := (Below.refl _ _).alloc (Nat.le_refl _) _
  have P1 := h.below hb0
  have P1d := P1.below (Below.refl _ _).drew
  have hbx := heap_alloc_new W (.cells #[.int .i64 5, .int .i64 k, .int .i64 v, .bool d] 33)
  have c1 : (W.alloc (.cells #[.int .i64 5, .int .i64 k, .int .i64 v, .bool d] 33)).cell? ⟨W.heap.size, 1, none⟩ = some (.int .i64 k) := by rw [cell_of_row _ _ _ _ _ _ hbx]; rfl
  have c2 : (W.alloc (.cells #[.int .i64 5, .int .i64 k, .int .i64 v, .bool d] 33)).cell? ⟨W.heap.size, 2, none⟩ = some (.int .i64 v) := by rw [cell_of_row _ _ _ _ _ _ hbx]; rfl
  have c3 : (W.alloc (.cells #[.int .i64 5, .int .i64 k, .int .i64 v, .bool d] 33)).cell? ⟨W.heap.size, 3, none⟩ = some (.bool d) := by rw [cell_of_row _ _ _ _ _ _ hbx]; rfl
  have HP := Lib.hid hP
  have HR := Lib.hid hR
  have HH := Lib.hid (And.intro P1 (And.intro P1d (And.intro hM (And.intro hF (And.intro (hpi i hpin) (And.intro (hb0.mono h.le) hi))))))
  have HC := Lib.hid (And.intro c1 (And.intro c2 c3))
  clear hP hR P1 P1d hM hF hpi hb0 h hpin hbx c1 c2 c3 hk hp hi
  go_enter Try.func8, Try.ntmps8
  have KT := Lib.hid (fun (M1 F1 M2 F2 : Nat → Prop) (x y : World) (hm : ¬ M1 W.heap.size) (hf : ¬ F1 W.heap.size) (hs : x.cell? ⟨W.heap.size, 1, none⟩ = some (.int .i64 k) ∧ x.cell? ⟨W.heap.size, 2, none⟩ = some (.int .i64 v) ∧ x.cell? ⟨W.heap.size, 3, none⟩ = some (.bool d)) (a : Away M1 F1 M2 F2 x y) => show y.cell? ⟨W.heap.size, 1, none⟩ = some (.int .i64 k) ∧ y.cell? ⟨W.heap.size, 2, none⟩ = some (.int .i64 v) ∧ y.cell? ⟨W.heap.size, 3, none⟩ = some (.bool d) from ⟨a.cell hm hf hs.1, a.cell hm hf hs.2.1, a.cell hm hf hs.2.2⟩)
  have HI := Lib.hid HH.out.2.2.2.2.2.2
  obtain ⟨c1, c2, c3⟩ := HC.out
  go_wp2_with (fail)
  go_region_held3 (fun w' => w'.cell? ⟨W.heap.size, 1, none⟩ = some (.int .i64 k) ∧ w'.cell? ⟨W.heap.size, 2, none⟩ = some (.int .i64 v) ∧ w'.cell? ⟨W.heap.size, 3, none⟩ = some (.bool d)) (first | assumption | exact KT.out _ _ _ _ _ _ HH.out.2.2.1 HH.out.2.2.2.1 (by assumption) a6 | exact KT.out _ _ _ _ _ _ n7.1 n7.2 (by assumption) a6 | exact KT.out _ _ _ _ _ _ HH.out.2.2.1 HH.out.2.2.2.1 (by assumption) a7 | exact KT.out _ _ _ _ _ _ n6.1 n6.2 (by assumption) a7) (first | (go_at_call 18; (first | (with_reducible refine (HH.out.2.1.prog HI.out HP.out).mono ?_; rintro e w6 ⟨rfl, M6, h6, b6, a6⟩; have n6 := a6.out (by simp) HH.out.2.2.1 HH.out.2.2.2.1) | (with_reducible refine (h7.prog HI.out HP.out).mono ?_; rintro e w6 ⟨rfl, M6, h6, b6, a6⟩))) | (go_at_call 39; (first | (with_reducible refine (HH.out.2.1.refd HR.out).mono ?_; rintro e w7 ⟨rfl, F7, h7, b7, a7⟩; have n7 := a7.out (by simp) HH.out.2.2.1 HH.out.2.2.2.1) | (with_reducible refine (h6.refd HR.out).mono ?_; rintro e w7 ⟨rfl, F7, h7, b7, a7⟩))))
  all_goals
    go_wp2_with (fail)
    go_ret
    first
    | exact ⟨ret_b' (by simp), M6, F7, l', h7, (HH.out.2.2.2.2.2.1.drew.trans b6).trans b7, ((Away.of_below ((Below.refl _ _).alloc (Nat.le_refl _) _).drew).cat (by simp) a6).cat (Nat.le_trans (by simp) b6.size) a7, HH.out.2.2.2.2.1⟩
    | exact ⟨ret_b' (by simp), M6, F7, l', h6, (HH.out.2.2.2.2.2.1.drew.trans b7).trans b6, ((Away.of_below ((Below.refl _ _).alloc (Nat.le_refl _) _).drew).cat (by simp) a7).cat (Nat.le_trans (by simp) b7.size) a6, HH.out.2.2.2.2.1⟩
set_option maxRecDepth 100000 in
set_option maxHeartbeats 4000000 in
theorem plays_none (B : Nat) (W : World) (M F : Nat → Prop) (C R : Nat) (places : Int) (i : Nat) (l : List EntI) (h : PR B W M F C R places i l l) (hi : i ≤ 99999) (hp : places ≤ 65536) (hpin : ∀ e ∈ l, e.p ≤ i) (kind k v : Int) (d : Bool) (h0 : kind ≠ 0) (h1 : kind ≠ 1) (h2 : kind ≠ 2) (h3 : kind ≠ 3) (h4 : kind ≠ 4) (h5 : kind ≠ 5) :
    Calls Try.prog 8 #[PV C, PV R, .agg #[.int .i64 kind, .int .i64 k, .int .i64 v, .bool d]] W fun x W' => x = .returned (.bool true) ∧ ∃ M' F' l', PR B W' M' F' C R places (i + 1) l' l' ∧ Below B W W' ∧ Away M F M' F' W W' ∧ ∀ e ∈ l', e.p ≤ i + 1 := by
  have P1 := h.below ((Below.refl _ _).alloc (Nat.le_refl _) (.cells #[.int .i64 kind, .int .i64 k, .int .i64 v, .bool d] 33))
  have hb0 : Below B W (W.alloc (.cells #[.int .i64 kind, .int .i64 k, .int .i64 v, .bool d] 33)) := (Below.refl _ _).alloc h.le _
  have HH := Lib.hid (And.intro (P1.mono (Nat.le_succ i)) (And.intro hb0 (fun e he => Nat.le_succ_of_le (hpin e he))))
  have k0 : (kind == 0) = false := by rw [beq_eq_false_iff_ne]; exact h0
  have k1 : (kind == 1) = false := by rw [beq_eq_false_iff_ne]; exact h1
  have k2 : (kind == 2) = false := by rw [beq_eq_false_iff_ne]; exact h2
  have k3 : (kind == 3) = false := by rw [beq_eq_false_iff_ne]; exact h3
  have k4 : (kind == 4) = false := by rw [beq_eq_false_iff_ne]; exact h4
  have k5 : (kind == 5) = false := by rw [beq_eq_false_iff_ne]; exact h5
  clear h hi hp hpin P1 hb0 h0 h1 h2 h3 h4 h5
  go_enter Try.func8, Try.ntmps8
  go_wp2_with (fail)
  go_ret
  exact ⟨rfl, M, F, l, HH.out.1, HH.out.2.1, Away.of_below ((Below.refl _ _).alloc (Nat.le_refl _) _), HH.out.2.2⟩
theorem plays_any (B : Nat) (W : World) (M F : Nat → Prop) (C R : Nat) (places : Int) (i : Nat) (l : List EntI) (h : PR B W M F C R places i l l) (hi : i ≤ 99999) (hp : places ≤ 65536) (hpin : ∀ e ∈ l, e.p ≤ i) (kind k v : Int) (d : Bool) (hk : -9223372036854775808 ≤ k ∧ k ≤ 9223372036854775807) :
    Calls Try.prog 8 #[PV C, PV R, .agg #[.int .i64 kind, .int .i64 k, .int .i64 v, .bool d]] W fun x W' => x = .returned (.bool true) ∧ ∃ M' F' l', PR B W' M' F' C R places (i + 1) l' l' ∧ Below B W W' ∧ Away M F M' F' W W' ∧ ∀ e ∈ l', e.p ≤ i + 1 := by
  by_cases h0 : kind = 0
  · subst h0; exact plays_get B W M F C R places i l h hi hp hpin k v d hk
  by_cases h1 : kind = 1
  · subst h1; exact plays_put B W M F C R places i l h hi hp hpin k v d hk
  by_cases h2 : kind = 2
  · subst h2; exact plays_drop B W M F C R places i l h hi hp hpin k v d hk
  by_cases h3 : kind = 3
  · subst h3; exact plays_pin B W M F C R places i l h hi hp hpin k v d hk
  by_cases h4 : kind = 4
  · subst h4; exact plays_unpin B W M F C R places i l h hi hp hpin k v d hk
  by_cases h5 : kind = 5
  · subst h5; exact plays_clean B W M F C R places i l h hi hp hpin k v d hk
  exact plays_none B W M F C R places i l h hi hp hpin kind k v d h0 h1 h2 h3 h4 h5
end Go.Proofs.Ytaigbplidkakhaa
