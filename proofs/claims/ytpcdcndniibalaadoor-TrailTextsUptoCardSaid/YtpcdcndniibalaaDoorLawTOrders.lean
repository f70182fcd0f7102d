/- Proved here: the statement TrailOrders, walked: it answers true of every three trails, in every world that holds what trail leans on. -/
import Derived.Test.YtpcdcndniibalaaDoorTrailAwake
import Derived.Deep.RegionHeld3
namespace Go.Proofs.YtpcdcndniibalaaDoor
open Go.RowKit

/-- The cells of a trail laid at block G. -/
def BoxT (W : World) (G : Nat) (p : Option Addr) (n c : Nat) (t : Tr) : Prop := W.cell? ⟨G, 0, none⟩ = some (.slice p n c) ∧ W.cell? ⟨G, 1, none⟩ = some (.bool t.attr) ∧ W.cell? ⟨G, 2, none⟩ = some (.string t.uri) ∧ W.cell? ⟨G, 3, none⟩ = some (.string t.loc)
theorem BoxT.below {W W' : World} {G : Nat} {p : Option Addr} {n c : Nat} {t : Tr} (h : BoxT W G p n c t) (hb : Below W.heap.size W W') : BoxT W' G p n c t := ⟨t_cell hb h.1, t_cell hb h.2.1, t_cell hb h.2.2.1, t_cell hb h.2.2.2⟩
theorem BoxT.of {W : World} {G : Nat} {p : Option Addr} {n c : Nat} {t : Tr} {T : TypeId} (h : W.heap[G]? = some (.cells #[.slice p n c, .bool t.attr, .string t.uri, .string t.loc] T)) : BoxT W G p n c t := (t_cells h).1
theorem t_three (w : World) (o p q : Obj) : (((w.alloc o).alloc p).alloc q).heap[w.heap.size]? = some o ∧ (((w.alloc o).alloc p).alloc q).heap[w.heap.size + 1]? = some p ∧ (((w.alloc o).alloc p).alloc q).heap[w.heap.size + 2]? = some q := by
  have h1 : (w.alloc o).heap.size = w.heap.size + 1 := by simp
  have h2 : ((w.alloc o).alloc p).heap.size = w.heap.size + 2 := by simp
  refine ⟨?_, ?_, ?_⟩
  · exact (((Below.refl _ _).alloc (Nat.le_refl _) _).block _ (by simp; omega)).trans (t_first w o p)
  · exact (((Below.refl _ _).alloc (Nat.le_refl _) _).block _ (by simp)).trans (t_two w o p)
  · rw [← h2]; exact t_one _ _
structure Box3 (w1 W : World) (G : Nat) (p q r : Option Addr) (c d e : Nat) (a b k : Tr) : Prop where
  below : Below w1.heap.size w1 W
  one : BoxT W G p a.steps.length c a
  two : BoxT W (G + 1) q b.steps.length d b
  three : BoxT W (G + 2) r k.steps.length e k
theorem Box3.far {w1 W W' : World} {G : Nat} {p q r : Option Addr} {c d e : Nat} {a b k : Tr} (h : Box3 w1 W G p q r c d e a b k) (hb : Below W.heap.size W W') : Box3 w1 W' G p q r c d e a b k :=
  ⟨t_cat h.below hb, h.one.below hb, h.two.below hb, h.three.below hb⟩
/-- What is so of any three. -/
theorem orders_plain (a b c : Tr) : (cmpT a b = -1 ∨ cmpT a b = 0 ∨ cmpT a b = 1) ∧ (cmpT b c = -1 ∨ cmpT b c = 0 ∨ cmpT b c = 1) ∧ (cmpT a c = -1 ∨ cmpT a c = 0 ∨ cmpT a c = 1) ∧ cmpT b a = - cmpT a b ∧ ¬ (cmpT a b ≤ 0 ∧ cmpT b c ≤ 0 ∧ 0 < cmpT a c) ∧ ¬ (0 ≤ cmpT a b ∧ 0 ≤ cmpT b c ∧ cmpT a c < 0) ∧ ¬ (cmpT a b = 0 ∧ cmpT b c ≠ cmpT a c) ∧
    (underT a b = true → cmpT a b ≤ 0) ∧ (underT a b = true → underT b a = true → cmpT a b = 0) ∧ (underT a b = true → cmpT a c < 0 → underT a c = false → cmpT b c < 0) := by
  have h := cmpT_ord.three a b c
  exact ⟨cmpT_ord.rng a b, cmpT_ord.rng b c, cmpT_ord.rng a c, cmpT_ord.anti a b, h.2.1, h.2.2.1, h.2.2.2, under_cmp, under_both, under_ahead⟩

set_option maxRecDepth 100000 in
set_option maxHeartbeats 64000000 in
theorem orders_walk (p q r : Option Addr) (c d e : Nat) (a b k : Tr) (w : World) (hL : TLeans w) (h1 : TrAt w p c a) (h2 : TrAt w q d b) (h3 : TrAt w r e k) :
    Calls Tryd.prog 5 #[TrV p c a, TrV q d b, TrV r e k] w fun e w' => e = .returned (.bool true) ∧ Below w.heap.size w w' := by
  have HPL := Lib.hid (orders_plain a b k)
  have AW := Lib.hid (fun W (y : Below w.heap.size w W) => awake8_any W (hL.below y))
  have CAB := Lib.hid (fun W (y : Below w.heap.size w W) => cmpT_any p q c d a b W (h1.below y) (h2.below y))
  have CBK := Lib.hid (fun W (y : Below w.heap.size w W) => cmpT_any q r d e b k W (h2.below y) (h3.below y))
  have CAK := Lib.hid (fun W (y : Below w.heap.size w W) => cmpT_any p r c e a k W (h1.below y) (h3.below y))
  have CBA := Lib.hid (fun W (y : Below w.heap.size w W) => cmpT_any q p d c b a W (h2.below y) (h1.below y))
  have UAB := Lib.hid (fun W (y : Below w.heap.size w W) => under_any p q c d a b W (h1.below y) (h2.below y))
  have UBA := Lib.hid (fun W (y : Below w.heap.size w W) => under_any q p d c b a W (h2.below y) (h1.below y))
  have UAK := Lib.hid (fun W (y : Below w.heap.size w W) => under_any p r c e a k W (h1.below y) (h3.below y))
  clear hL h1 h2 h3
  unfold TrV at *
  generalize cmpT a b = x at *
  generalize cmpT b k = y at *
  generalize cmpT a k = z at *
  generalize cmpT b a = x2 at *
  generalize underT a b = u1 at *
  generalize underT b a = u2 at *
  generalize underT a k = u3 at *
  have hbx := t_three w (.cells #[.slice p a.steps.length c, .bool a.attr, .string a.uri, .string a.loc] 26) (.cells #[.slice q b.steps.length d, .bool b.attr, .string b.uri, .string b.loc] 26) (.cells #[.slice r k.steps.length e, .bool k.attr, .string k.uri, .string k.loc] 26)
  have hb0 : Below w.heap.size w (((w.alloc (.cells #[.slice p a.steps.length c, .bool a.attr, .string a.uri, .string a.loc] 26)).alloc (.cells #[.slice q b.steps.length d, .bool b.attr, .string b.uri, .string b.loc] 26)).alloc (.cells #[.slice r k.steps.length e, .bool k.attr, .string k.uri, .string k.loc] 26)) := (((Below.refl _ _).alloc (Nat.le_refl _) _).alloc (by simp) _).alloc (by simp; omega) _
  have HBX := Lib.hid (And.intro hb0 hbx)
  clear hb0 hbx
  go_enter Tryd.func5, Tryd.ntmps5
  go_wp2_with (fail)
  refine (AW.out _ HBX.out.1).mono ?_
  rintro e1 w1 ⟨rfl, hb1⟩
  have hB1 := t_cat HBX.out.1 hb1
  have hbx1 : Box3 w1 w1 w.heap.size p q r c d e a b k := ⟨Below.refl _ _, (BoxT.of HBX.out.2.1).below hb1, (BoxT.of HBX.out.2.2.1).below hb1, (BoxT.of HBX.out.2.2.2).below hb1⟩
  obtain ⟨a0, a1, a2, a3⟩ := hbx1.one
  obtain ⟨b0, b1, b2, b3⟩ := hbx1.two
  obtain ⟨k0, k1, k2, k3⟩ := hbx1.three
  have HB1 := Lib.hid hB1
  clear hb1 hB1 hbx1 HBX
  go_upto_region 3 with fail
  go_region_held3 (fun W => W.cell? ⟨w.heap.size, 0, none⟩ = some (.slice p a.steps.length c) ∧ W.cell? ⟨w.heap.size, 1, none⟩ = some (.bool a.attr) ∧ W.cell? ⟨w.heap.size, 2, none⟩ = some (.string a.uri) ∧ W.cell? ⟨w.heap.size, 3, none⟩ = some (.string a.loc) ∧
      W.cell? ⟨w.heap.size + 1, 0, none⟩ = some (.slice q b.steps.length d) ∧ W.cell? ⟨w.heap.size + 1, 1, none⟩ = some (.bool b.attr) ∧ W.cell? ⟨w.heap.size + 1, 2, none⟩ = some (.string b.uri) ∧ W.cell? ⟨w.heap.size + 1, 3, none⟩ = some (.string b.loc) ∧
      W.cell? ⟨w.heap.size + 2, 0, none⟩ = some (.slice r k.steps.length e) ∧ W.cell? ⟨w.heap.size + 2, 1, none⟩ = some (.bool k.attr) ∧ W.cell? ⟨w.heap.size + 2, 2, none⟩ = some (.string k.uri) ∧ W.cell? ⟨w.heap.size + 2, 3, none⟩ = some (.string k.loc) ∧ Below w1.heap.size w1 W)
    (first
      | exact ⟨a0, a1, a2, a3, b0, b1, b2, b3, k0, k1, k2, k3, (Below.refl _ _).drew⟩
      | (go_split_ands
         exact ⟨t_cell hbe (by assumption), t_cell hbe (by assumption), t_cell hbe (by assumption), t_cell hbe (by assumption), t_cell hbe (by assumption), t_cell hbe (by assumption), t_cell hbe (by assumption), t_cell hbe (by assumption), t_cell hbe (by assumption), t_cell hbe (by assumption), t_cell hbe (by assumption), t_cell hbe (by assumption), t_cat (by assumption) hbe⟩))
    (first
      | (go_at_call 15
         go_split_ands
         first
           | (with_reducible (refine (CAB.out _ (t_cat HB1.out (by assumption))).mono ?_); rintro e w' ⟨rfl, hbe⟩)
           | (with_reducible (refine (CBK.out _ (t_cat HB1.out (by assumption))).mono ?_); rintro e w' ⟨rfl, hbe⟩)
           | (with_reducible (refine (CAK.out _ (t_cat HB1.out (by assumption))).mono ?_); rintro e w' ⟨rfl, hbe⟩)))
  clear a0 a1 a2 a3 b0 b1 b2 b3 k0 k1 k2 k3
  go_split_ands
  rename_i x0 x1 x2 x3 x4 x5 x6 x7 x8 x9 x10 x11 x12 wA hA y0 y1 y2 y3 y4 y5 y6 y7 y8 y9 y10 y11 y12 wB hB z0 z1 z2 z3 z4 z5 z6 z7 z8 z9 z10 z11 z12 v0 v1 v2 v3 v4 v5 v6 v7 v8 v9 v10 v11 v12
  have BX : Hid (Box3 w1 w' w.heap.size p q r c d e a b k) := Lib.hid ⟨v12, ⟨v0, v1, v2, v3⟩, ⟨v4, v5, v6, v7⟩, ⟨v8, v9, v10, v11⟩⟩
  clear v0 v1 v2 v3 v4 v5 v6 v7 v8 v9 v10 v11 v12 hbe z0 z1 z2 z3 z4 z5 z6 z7 z8 z9 z10 z11 z12 hB y0 y1 y2 y3 y4 y5 y6 y7 y8 y9 y10 y11 y12 hA x0 x1 x2 x3 x4 x5 x6 x7 x8 x9 x10 x11 x12
  obtain ⟨rx, ry, rz, hx2, f1, f2, f3, f4, f5, f6⟩ := HPL.out
  have r2 : x2 = -1 ∨ x2 = 0 ∨ x2 = 1 := by omega
  clear HPL AW CAB CBK CAK
  obtain ⟨a0, a1, a2, a3⟩ := BX.out.one
  obtain ⟨b0, b1, b2, b3⟩ := BX.out.two
  obtain ⟨k0, k1, k2, k3⟩ := BX.out.three
  rcases rx with rfl | rfl | rfl <;> rcases r2 with rfl | rfl | rfl <;> (try (exfalso; omega)) <;> rcases ry with rfl | rfl | rfl <;> rcases rz with rfl | rfl | rfl <;> (try (exfalso; omega))
  all_goals clear hx2 f1 f2 f3
  all_goals rcases Bool.eq_false_or_eq_true u1 with rfl | rfl
  all_goals try (exfalso; have := f4 rfl; omega)
  all_goals first
    | (have hu1 : Hid (true = true) := Lib.hid (f4 rfl |> fun _ => rfl)
       rcases Bool.eq_false_or_eq_true u2 with rfl | rfl <;> rcases Bool.eq_false_or_eq_true u3 with rfl | rfl)
    | skip
  all_goals try (exfalso; first | (have := f5 rfl rfl; omega) | (have := f6 rfl (by omega) rfl; omega))
  all_goals clear f4 f5 f6
  all_goals
    repeat
      go_wp2_with (fail)
      first
        | (with_reducible (refine (CBA.out _ (t_cat HB1.out BX.out.below)).mono ?_)
           rintro e5 w5 ⟨rfl, hb5⟩
           have BY := Lib.hid (BX.out.far hb5)
           clear hb5 a0 a1 a2 a3 b0 b1 b2 b3 k0 k1 k2 k3 BX
           have BX := BY
           clear BY
           obtain ⟨a0, a1, a2, a3⟩ := BX.out.one
           obtain ⟨b0, b1, b2, b3⟩ := BX.out.two
           obtain ⟨k0, k1, k2, k3⟩ := BX.out.three)
        | (with_reducible (refine (UAB.out _ (t_cat HB1.out BX.out.below)).mono ?_)
           rintro e5 w5 ⟨rfl, hb5⟩
           have BY := Lib.hid (BX.out.far hb5)
           clear hb5 a0 a1 a2 a3 b0 b1 b2 b3 k0 k1 k2 k3 BX
           have BX := BY
           clear BY
           obtain ⟨a0, a1, a2, a3⟩ := BX.out.one
           obtain ⟨b0, b1, b2, b3⟩ := BX.out.two
           obtain ⟨k0, k1, k2, k3⟩ := BX.out.three)
        | (with_reducible (refine (UBA.out _ (t_cat HB1.out BX.out.below)).mono ?_)
           rintro e5 w5 ⟨rfl, hb5⟩
           have BY := Lib.hid (BX.out.far hb5)
           clear hb5 a0 a1 a2 a3 b0 b1 b2 b3 k0 k1 k2 k3 BX
           have BX := BY
           clear BY
           obtain ⟨a0, a1, a2, a3⟩ := BX.out.one
           obtain ⟨b0, b1, b2, b3⟩ := BX.out.two
           obtain ⟨k0, k1, k2, k3⟩ := BX.out.three)
        | (with_reducible (refine (UAK.out _ (t_cat HB1.out BX.out.below)).mono ?_)
           rintro e5 w5 ⟨rfl, hb5⟩
           have BY := Lib.hid (BX.out.far hb5)
           clear hb5 a0 a1 a2 a3 b0 b1 b2 b3 k0 k1 k2 k3 BX
           have BX := BY
           clear BY
           obtain ⟨a0, a1, a2, a3⟩ := BX.out.one
           obtain ⟨b0, b1, b2, b3⟩ := BX.out.two
           obtain ⟨k0, k1, k2, k3⟩ := BX.out.three)
    go_wp2_with (fail)
    go_ret
    exact ⟨rfl, t_cat HB1.out BX.out.below⟩
end Go.Proofs.YtpcdcndniibalaaDoor
