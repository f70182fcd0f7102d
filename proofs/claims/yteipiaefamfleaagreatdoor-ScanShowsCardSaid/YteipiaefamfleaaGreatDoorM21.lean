/- Proved here: the document's Same answers true of two tokens that are the same but for their places. -/
import Derived.Test.YteipiaefamfleaaGreatDoorM10
import Derived.Deep.QuietTactic
import Derived.BigQuiet
namespace Go.Proofs.YteipiaefamfleaaGreatDoor
open Go.RowKit

theorem PCells.below {w W : World} {v : Value} {l : List (ByteArray × ByteArray)} (h : PCells w v l) (hb : Below w.heap.size w W) : PCells W v l := by
  refine ⟨h.1, fun i x hx => ?_⟩
  obtain ⟨g, c, e, hg, h0, h1⟩ := h.2 i x hx
  exact ⟨g, c, e, Nat.lt_of_lt_of_le hg hb.size, hb_cell hb h0, hb_cell hb h1⟩
theorem RPairsAt.cells {w : World} {B : Nat} {v : Value} {l : List (ByteArray × ByteArray)} (h : RPairsAt w B v l) : PCells w v l := by
  refine ⟨h.form, fun i x hx => ?_⟩
  have hil : i < l.length := (List.getElem?_eq_some_iff.1 hx).1
  have hcells := fun g (hv : v.ownBlock = some g) => World.ownsRow.cells h hv
  rcases h.2 with ⟨_, h0⟩ | ⟨g, c, cur, rfl, hb, hg, hlc, hcm, _, _⟩
  · omega
  have go : ∀ k u, k < 2 → ([.string x.1, .string x.2] : List Value)[k]? = some u → w.cell? ⟨g, i * 2 + k, none⟩ = some u := by
    intro k u hk hu
    have hc := hcells g rfl (2 * i + k) u (by
      unfold pairsV
      have fa : ∀ (l : List (ByteArray × ByteArray)) (i : Nat), (l.flatMap fun p => ([.string p.1, .string p.2] : List Value))[2 * i + k]? = (l[i]?).bind fun z => ([.string z.1, .string z.2] : List Value)[k]? := by
        intro l
        induction l with
        | nil => intro i; simp
        | cons z l ih =>
          intro i
          cases i with
          | zero =>
            rw [List.flatMap_cons, Nat.mul_zero, Nat.zero_add, List.getElem?_append_left (by simpa using hk)]
            rfl
          | succ i =>
            rw [List.flatMap_cons, List.getElem?_append_right (by simp; omega), List.length_cons, List.length_cons, List.length_nil, show 2 * (i + 1) + k - (0 + 1 + 1) = 2 * i + k by omega, ih i]
            rfl
      rw [fa, hx]
      exact hu)
    have ha : (⟨g, 0, none⟩ : Addr).add (2 * i + k) = ⟨g, 2 * i + k, none⟩ := by unfold Addr.add; split <;> simp_all
    rw [ha, Nat.mul_comm] at hc
    exact hc
  exact ⟨g, c, rfl, (Array.getElem?_eq_some_iff.1 hg).1, go 0 _ (by omega) rfl, go 1 _ (by omega) rfl⟩
set_option maxHeartbeats 4000000 in
set_option maxRecDepth 100000 in
theorem refSame_yes (k a1 a2 r : Int) (n t : ByteArray) (v1 v2 : Value) (ps : List (ByteArray × ByteArray)) (w : World) (h1 : PCells w v1 ps) (h2 : PCells w v2 ps) (hl : ps.length ≤ 4194304) :
    Calls Tryz.prog 9 #[.agg #[.int .i64 k, .int .i64 a1, .string n, v1, .string t, .int .i64 r], .agg #[.int .i64 k, .int .i64 a2, .string n, v2, .string t, .int .i64 r]] w fun e w' => e = .returned (.bool true) ∧ Below w.heap.size w w' := by
  obtain ⟨⟨q1, c1, rfl⟩, hc1⟩ := h1
  obtain ⟨⟨q2, c2, rfl⟩, hc2⟩ := h2
  have HC := Lib.hid (And.intro hc1 hc2)
  have HL := Lib.hid hl
  clear hc1 hc2 hl
  go_enter Tryz.func9, Tryz.ntmps9
  go_wp2_with (fail)
  obtain ⟨W0, hW0⟩ : ∃ W, (w.alloc (.cells #[.int .i64 k, .int .i64 a1, .string n, .slice q1 ps.length c1, .string t, .int .i64 r] 36)).alloc (.cells #[.int .i64 k, .int .i64 a2, .string n, .slice q2 ps.length c2, .string t, .int .i64 r] 36) = W := ⟨_, rfl⟩
  have z1 : (w.alloc (.cells #[.int .i64 k, .int .i64 a1, .string n, .slice q1 ps.length c1, .string t, .int .i64 r] 36)).heap.size = w.heap.size + 1 := by simp
  have n1 := heap_alloc_new w (.cells #[.int .i64 k, .int .i64 a1, .string n, .slice q1 ps.length c1, .string t, .int .i64 r] 36)
  have n2 := heap_alloc_new (w.alloc (.cells #[.int .i64 k, .int .i64 a1, .string n, .slice q1 ps.length c1, .string t, .int .i64 r] 36)) (.cells #[.int .i64 k, .int .i64 a2, .string n, .slice q2 ps.length c2, .string t, .int .i64 r] 36)
  rw [z1] at n2
  have n1' := (heap_alloc_old _ (.cells #[.int .i64 k, .int .i64 a2, .string n, .slice q2 ps.length c2, .string t, .int .i64 r] 36) (Array.getElem?_eq_some_iff.1 n1).1).trans n1
  have hb0 : Below w.heap.size w W0 := by
    rw [← hW0]
    exact ((Below.refl _ _).alloc (Nat.le_refl _) _).alloc (by simp) _
  rw [hW0] at n2 n1' ⊢
  have b1 := (six_cells n1').1.2.2.2.1
  have b2 := (six_cells n2).1.2.2.2.1
  have H0 := Lib.hid (And.intro hb0 (And.intro b1 b2))
  clear hW0 z1 n1 n2 n1' hb0 b1 b2
  go_loopg [5, 44] ps.length (fun g v5 v44 wr => ∃ i : Nat, v44 = .int .i64 (i : Int) ∧ i + g = ps.length ∧ Below W0.heap.size W0 wr)
  case atStart => exact ⟨0, rfl, by omega, Below.refl _ _⟩
  case round =>
    obtain ⟨i, rfl, hig, hbr⟩ := hrel
    have HIG := Lib.hid hig
    have HBR := Lib.hid hbr
    clear hig hbr
    by_cases hlt : i < ps.length
    · obtain ⟨gn, rfl⟩ : ∃ gn, gk = gn + 1 := ⟨gk - 1, by have := HIG.out; omega⟩
      obtain ⟨x, hx⟩ : ∃ x, ps[i]? = some x := ⟨_, List.getElem?_eq_getElem hlt⟩
      obtain ⟨g1, d1, hq1, hg1, x0, x1⟩ := HC.out.1 i x hx
      obtain ⟨g2, d2, hq2, hg2, y0, y1⟩ := HC.out.2 i x hx
      obtain ⟨rfl, rfl⟩ : q1 = some ⟨g1, 0, none⟩ ∧ c1 = d1 := by
        injection hq1 with h1 _ h3
        exact ⟨h1, h3⟩
      obtain ⟨rfl, rfl⟩ : q2 = some ⟨g2, 0, none⟩ ∧ c2 = d2 := by
        injection hq2 with h1 _ h3
        exact ⟨h1, h3⟩
      have HB2 := below_cat H0.out.1 HBR.out
      have e0 := hb_cell HB2 x0
      have e1 := hb_cell HB2 x1
      have f0 := hb_cell HB2 y0
      have f1 := hb_cell HB2 y1
      have p1 := hb_cell HBR.out H0.out.2.1
      have p2 := hb_cell HBR.out H0.out.2.2
      have hlt2 : (i : Int) < (ps.length : Int) := by omega
      have hi0 : (0 : Int) ≤ (i : Int) := by omega
      clear hx hq1 hq2 hg1 hg2 x0 x1 y0 y1 HB2
      go_upto_region 6 with fail
      go_quiet (fail)
      go_wp2_with (fail)
      all_goals
        go_roundg gn
        case measure => omega
        case rel =>
          go_light
          exact ⟨i + 1, by have := HL.out; rw [show wrap64 ((i : Int) + 1) = ((i + 1 : Nat) : Int) by unfold wrap64; omega], by have := HIG.out; omega, HBR.out.trans ⟨rfl, rfl, rfl, Nat.le_refl _, fun _ _ => rfl⟩⟩
    · go_wp2_with (fail)
      go_ret
      exact ⟨rfl, below_cat H0.out.1 HBR.out⟩
end Go.Proofs.YteipiaefamfleaaGreatDoor
