/- Proved here: the statement ScanShows, walked: of bytes with a fault; what the walk needs. -/
import Derived.Test.YteipiaefamfleaaGreatDoorM27
import Derived.Test.YteipiaefamfleaaGreatDoorM32
import Derived.Test.YteipiaefamfleaaGreatDoorM33
import Derived.Test.YteipiaefamfleaaGreatDoorM29
import Derived.BigGuardPart
import Derived.Laws.DeepStrings4
import Derived.Deep.LoopGhost
import Derived.Deep.CutRange
import Derived.Deep.RegionWith
import Derived.Deep.RegionHeld3
namespace Go.Proofs.YteipiaefamfleaaGreatDoor
open Go.RowKit

set_option maxRecDepth 100000 in
set_option maxHeartbeats 2000000 in
theorem shows_fault (p : Option Addr) (s : ByteArray) (c : Nat) (b : Bool) (w : World) (hs : s.size ≤ 140737488355000) (hc : s.size ≤ c) (hp : HoldsB w p s) (hL : Leans w) (h : eOf (allF s) ≠ 0) :
    Calls Tryz.prog 3 #[.slice p s.size c, .bool b] w fun e w' => e = .returned (.bool true) ∧ Below w.heap.size w w' := by
  have AW := Lib.hid (awake3_any w hL)
  have A1 := Lib.hid (fun W (y : Below w.heap.size w W) (q : Option Addr) (k : Nat) (t : ByteArray) (ht : t.size ≤ 140737488355328) (hk : t.size ≤ k) (h : HoldsB W q t) => (all_any q t k W ht hk h (hL.below y).tabs (hL.below y).named (hL.below y).max (hL.below y).fold).mono (fun e w' z => And.intro (all_form z.1) z.2))
  obtain ⟨r, hr⟩ : ∃ r, allF s = r := ⟨_, rfl⟩
  have AS := Lib.hid (fun W (y : Below w.heap.size w W) => A1.out W y p c s (by omega) hc (hp.below y))
  rw [hr] at AS h
  clear hp hL hc hs hr
  obtain ⟨k0, hk0⟩ : ∃ k, kOf r = k := ⟨_, rfl⟩
  obtain ⟨e0, he0⟩ : ∃ k, eOf r = k := ⟨_, rfl⟩
  rw [hk0, he0] at AS
  have z0 : ((e0 : Int) != 0) = true := by rw [he0] at h; simp; omega
  clear h hk0 he0
  go_enter Tryz.func3, Tryz.ntmps3
  go_wp2_with (fail)
  refine AW.out.mono ?_
  rintro e w0 ⟨rfl, hB0⟩
  go_wp2_with (fail)
  refine (AS.out w0 hB0).mono ?_
  rintro e w1 ⟨⟨q1, c1, rfl, -⟩, hb1⟩
  have HB1 := Lib.hid (below_cat hB0 hb1)
  clear hB0 hb1
  go_wp2_with (fail)
  all_goals
    go_ret
    exact ⟨rfl, HB1.out⟩
def ShwRel (s : Bool) (l : List (Nat × Tok)) (w1 : World) (v9 v10 v32 : Value) (wr : World) : Prop :=
  ∃ (i : Nat) (o : ByteArray) (q : Option Addr) (c : Nat), v9 = .string o ∧ v10 = .slice q (atsL s l i).length c ∧ v32 = .int .i64 (i : Int) ∧ i ≤ l.length ∧ o.size ≤ 200000000000 * i ∧ Hid (o.data.toList = shownAll s (l.take i) ∧ OwnI wr w1.heap.size q c (atsL s l i) ∧ Below w1.heap.size w1 wr)
theorem tok_box {w : World} {k a r : Int} {n t : ByteArray} {pv : Value} {g : Nat} (h : w.heap[g]? = some (.cells #[.int .i64 k, .int .i64 a, .string n, pv, .string t, .int .i64 r] 31)) :
    w.cell? ⟨g, 0, none⟩ = some (.int .i64 k) ∧ w.cell? ⟨g, 1, none⟩ = some (.int .i64 a) ∧ w.cell? ⟨g, 2, none⟩ = some (.string n) ∧ w.cell? ⟨g, 3, none⟩ = some pv ∧ w.cell? ⟨g, 4, none⟩ = some (.string t) ∧ w.cell? ⟨g, 5, none⟩ = some (.int .i64 r) := by
  refine ⟨?_, ?_, ?_, ?_, ?_, ?_⟩
  · rw [cell_of_row _ _ 0 _ 31 (0, 0) h]; rfl
  · rw [cell_of_row _ _ 1 _ 31 (0, 0) h]; rfl
  · rw [cell_of_row _ _ 2 _ 31 (0, 0) h]; rfl
  · rw [cell_of_row _ _ 3 _ 31 (0, 0) h]; rfl
  · rw [cell_of_row _ _ 4 _ 31 (0, 0) h]; rfl
  · rw [cell_of_row _ _ 5 _ 31 (0, 0) h]; rfl
theorem below_alloc {w W : World} {o : Obj} (h : Below w.heap.size w W) : Below w.heap.size w (W.alloc o) := h.alloc h.size _
def zTok : Obj := .cells #[.int .i64 0, .int .i64 0, .string ⟨#[]⟩, .slice none 0 0, .string ⟨#[]⟩, .int .i64 0] 36
/-- What stands behind the statement that makes the document's tokens of both: each in a block of its own. -/
def TwoToks (wr : World) (kd xa ya rf rf2 : Int) (nm tx : ByteArray) (ps : List (ByteArray × ByteArray)) (v17 v18 : Value) (wx : World) : Prop :=
  ∃ (g17 g18 : Nat) (qa : Option Addr) (ca : Nat) (qb : Option Addr) (cb : Nat), v17 = .pointer (some ⟨g17, 0, none⟩) ∧ v18 = .pointer (some ⟨g18, 0, none⟩) ∧
    Hid (g17 ≠ g18 ∧ wr.heap.size ≤ g17 ∧ wr.heap.size ≤ g18 ∧ wx.heap[g17]? = some (.cells #[.int .i64 kd, .int .i64 xa, .string nm, .slice qa ps.length ca, .string tx, .int .i64 rf] 36) ∧
      wx.heap[g18]? = some (.cells #[.int .i64 kd, .int .i64 ya, .string nm, .slice qb ps.length cb, .string tx, .int .i64 rf2] 36) ∧ PCells wx (.slice qa ps.length ca) ps ∧ PCells wx (.slice qb ps.length cb) ps ∧ (Value.slice qa ps.length ca).ownBlock ≠ some g17 ∧ (Value.slice qa ps.length ca).ownBlock ≠ some g18 ∧ (Value.slice qb ps.length cb).ownBlock ≠ some g17 ∧ (Value.slice qb ps.length cb).ownBlock ≠ some g18 ∧ Below wr.heap.size wr wx)
theorem PCells.moved {w W : World} {G : Nat} {v : Value} {l : List (ByteArray × ByteArray)} (h : PCells w v l) (hm : w.grownBy W (some G)) (hG : v.ownBlock ≠ some G) : PCells W v l := by
  refine ⟨h.1, fun i x hx => ?_⟩
  obtain ⟨g, c, e, hg, h0, h1⟩ := h.2 i x hx
  have hne : some g ≠ some G := fun q => hG (by rw [e]; exact q)
  have hb : W.heap[g]? = w.heap[g]? := hm.block g hg hne
  exact ⟨g, c, e, Nat.lt_of_lt_of_le hg hm.size, by rw [World.cell?_of_block (w := w) (a := ⟨g, i * 2, none⟩) hb]; exact h0, by rw [World.cell?_of_block (w := w) (a := ⟨g, i * 2 + 1, none⟩) hb]; exact h1⟩
end Go.Proofs.YteipiaefamfleaaGreatDoor
