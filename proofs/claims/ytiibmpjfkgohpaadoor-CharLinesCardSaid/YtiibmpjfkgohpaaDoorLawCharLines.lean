/- Proved here: the law CharLines answers true at every slice of bytes of less than 2^47 bytes, in every world that holds the library's two tables; what was there stays. -/
import Derived.Test.YtiibmpjfkgohpaaDoorAwake
import Derived.Test.YtiibmpjfkgohpaaDoorSame
import Derived.BigGuardPart
namespace Go.Proofs.YtiibmpjfkgohpaaDoor
open Go.RowKit

theorem Owns.kept' {w w' : World} {B g g' cap : Nat} {s : ByteArray} (h : Owns w B g cap s) (hg : w.grownBy w' (some g')) (hne : g ≠ g') : Owns w' B g cap s :=
  ⟨h.1.kept hg (.inr (by simp [Value.ownBlock]; exact hne)), h.2.1, Nat.lt_of_lt_of_le h.2.2.1 hg.size, h.2.2.2⟩
theorem grown_store {a w : World} {g k : Nat} (h : a.grownBy w (some g)) (u : Value) : a.grownBy (w.setCell ⟨g, k, none⟩ u) (some g) :=
  ⟨h.os, h.tape, h.output, by simpa [World.setCell] using h.size, fun i hi hne => (Below.heap_setCell w ⟨g, k, none⟩ u i (fun e => hne (by rw [e]))).trans (h.block i hi hne)⟩
/-- The row g of the call's own may be stored into, cell by cell. -/
def RowOf (w : World) (B g cap n : Nat) : Prop := ∃ xs, w.ownsRow B 5 1 (.slice (some ⟨g, 0, none⟩) n cap) n xs
theorem RowOf.cell {w : World} {B g cap n : Nat} (h : RowOf w B g cap n) {k : Nat} (hk : k < n) : (∃ u, w.cell? ⟨g, k, none⟩ = some u) ∧ w.frozen? ⟨g, k, none⟩ = false := by
  obtain ⟨xs, hx⟩ := h
  have hl := hx.1
  refine ⟨⟨xs[k]'(by omega), ?_⟩, hx.frozenAt k⟩
  rw [hx.cellAt k (by omega), List.getElem?_eq_getElem (by omega)]
theorem RowOf.store {w : World} {B g cap n : Nat} (h : RowOf w B g cap n) (k : Nat) (u : Value) : RowOf (w.setCell ⟨g, k, none⟩ u) B g cap n := by
  obtain ⟨xs, hx⟩ := h
  exact ⟨_, (hx.stored k u).1⟩

def StoreRel (w4 : World) (B g cap n : Nat) (i : Value) (wr : World) : Prop := ∃ k : Nat, i = .int .i64 k ∧ k ≤ n ∧ RowOf wr B g cap n ∧ w4.grownBy wr (some g)

set_option maxHeartbeats 8000000 in
set_option maxRecDepth 100000 in
theorem charLines_walk (p : Option Addr) (s : ByteArray) (c : Nat) (w : World) (hT : Tabs w) (hs : s.size ≤ 140737488355000) (hp : HoldsB w p s) (hnil : p = none → c = 0) :
    Calls Tryd.prog 7 #[.slice p s.size c] w fun e w' => e = .returned (.bool true) ∧ Below w.heap.size w w' := by
  have A := Lib.hid (awake_any w hT)
  have HP := Lib.hid hp
  have HN := Lib.hid hnil
  have hls := linesB_size s
  clear hT hp hnil
  go_enter Tryd.func7, Tryd.ntmps7
  go_wp2_with (fail)
  refine A.out.mono ?_
  rintro e w0 ⟨rfl, hB0⟩
  go_wp2_with (fail)
  refine (spare_any p s c w0 hs (HP.out.below hB0) HN.out).mono ?_
  rintro e w1 ⟨gi, ci, rfl, hoi, hb1⟩
  have hB1 := below_cat hB0 hb1
  have OI := Lib.hid hoi
  go_wp2_with (fail)
  refine (lines_any (some ⟨gi, 0, none⟩) s ci w1 hs (owns_front hoi)).mono ?_
  rintro e w2 ⟨gl, cl, rfl, hol, hb2⟩
  have hB2 := below_cat hB1 hb2
  have OL := Lib.hid hol
  have OI2 := Lib.hid (OI.out.far hb2)
  go_wp2_with (fail)
  refine (lines_any (some ⟨gi, 0, none⟩) s ci w2 hs (owns_front OI2.out)).mono ?_
  rintro e w3 ⟨gm, cm, rfl, hom, hb3⟩
  have hB3 := below_cat hB2 hb3
  have OM := Lib.hid hom
  have OL3 := Lib.hid (OL.out.far hb3)
  have OI3 := Lib.hid (OI2.out.far hb3)
  go_wp2_with (fail)
  refine (refLines_any p s c w3 hs (HP.out.below hB3)).mono ?_
  rintro e w4 ⟨gr, cr, rfl, hor, hb4⟩
  have hB4 := below_cat hB3 hb4
  have OM4 := Lib.hid (OM.out.far hb4)
  have OL4 := Lib.hid (OL3.out.far hb4)
  have OI4 := Lib.hid (OI3.out.far hb4)
  have d1 : gi < gl := Nat.lt_of_lt_of_le OI.out.2.2.1 OL.out.2.1
  have d2 : gl < gm := Nat.lt_of_lt_of_le OL.out.2.2.1 OM.out.2.1
  have d3 : w.heap.size ≤ gl := Nat.le_trans hB1.size OL.out.2.1
  have S1 := Lib.hid (same_yes (some ⟨gl, 0, none⟩) (some ⟨gr, 0, none⟩) (linesB s) cl cr w4 OL4.out.holds hor.holds)
  have K1 := Lib.hid (kept_yes w0.heap.size gi ci p s c w4 hs OI4.out (HP.out.below hB4))
  clear hoi hol hom hor hb1 hb2 hb3 hb4 hB0 hB1 hB2 hB3
  go_wp2_with (fail)
  refine S1.out.mono ?_
  rintro e w5 ⟨rfl, rfl⟩
  go_wp2_with (fail)
  refine K1.out.mono ?_
  rintro e w5 ⟨rfl, rfl⟩
  go_wp2_with (fail)
  obtain ⟨n, hn⟩ : ∃ n, (linesB s).size = n := ⟨_, rfl⟩
  have hrow : RowOf w4 w1.heap.size gl cl n := by rw [← hn]; exact ⟨_, OL4.out.1⟩
  have HNN := Lib.hid hn
  have HROW := Lib.hid hrow
  rw [hn] at hls
  simp only [hn]
  clear hrow hn S1 K1
  go_loopw [28] (fun i wr => StoreRel w4 w1.heap.size gl cl n i wr) (fun i _ => n - (intOf i).toNat)
  case atStart => exact ⟨0, rfl, Nat.zero_le _, HROW.out, World.grownBy.refl w4 _⟩
  case round =>
    obtain ⟨k, rfl, hk, hrow, hgr⟩ := hrel
    by_cases hlt : k < n
    · have hlz : (k : Int) < (n : Int) := by omega
      obtain ⟨⟨u, hcell⟩, hfz⟩ := hrow.cell hlt
      have HR := Lib.hid (hrow.store k (.int .u8 7))
      have HG := Lib.hid (grown_store (k := k) hgr (.int .u8 7))
      clear hrow hgr
      go_wp2_with (fail)
      go_roundw
      case rel =>
        go_light
        exact ⟨k + 1, by go_num, by omega, HR.out, HG.out⟩
      case measure => simp [intOf]; omega
    · have hB5 : Below w.heap.size w wr := hB4.grown hgr hB4.size (fun k e => by injection e with e; omega)
      have K2 := Lib.hid (kept_yes w0.heap.size gi ci p s c wr hs (OI4.out.kept' hgr (by omega)) (HP.out.below hB5))
      have L2 := Lib.hid (refLines_any p s c wr hs (HP.out.below hB5))
      have OM5 := Lib.hid (OM4.out.kept' hgr (by omega))
      clear hrow hgr
      go_wp2_with (fail)
      refine K2.out.mono ?_
      rintro e w6 ⟨rfl, rfl⟩
      go_wp2_with (fail)
      refine L2.out.mono ?_
      rintro e w7 ⟨g7, c7, rfl, ho7, hb7⟩
      have S2 := Lib.hid (same_yes (some ⟨gm, 0, none⟩) (some ⟨g7, 0, none⟩) (linesB s) cm c7 w7 (OM5.out.far hb7).holds ho7.holds)
      have hB7 := below_cat hB5 hb7
      rw [HNN.out] at S2
      simp only [HNN.out]
      clear ho7 hb7
      go_wp2_with (fail)
      refine S2.out.mono ?_
      rintro e w8 ⟨rfl, rfl⟩
      go_wp2_with (fail)
      all_goals (go_ret; exact ⟨ret_bool (by simp), hB7⟩)
end Go.Proofs.YtiibmpjfkgohpaaDoor
