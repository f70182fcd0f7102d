/- Proved here: the statement ScanCuts, walked: of a text with a fault, and of places that are not in it. -/
import Derived.Test.YtpcdcndniibalaaGreatDoorM27
import Derived.BigGuardPart
import Derived.Laws.DeepStrings4
namespace Go.Proofs.YtpcdcndniibalaaGreatDoor
open Go.RowKit

set_option maxRecDepth 100000 in
set_option maxHeartbeats 2000000 in
theorem cuts_fault (p : Option Addr) (s : ByteArray) (c : Nat) (n : Int) (w : World) (hs : s.size ≤ 140737488355000) (hc : s.size ≤ c) (hp : HoldsB w p s) (hL : Leans w) (h : eOf (allF s) ≠ 0) :
    Calls Tryz.prog 3 #[.slice p s.size c, .int .i64 n] w fun e w' => e = .returned (.bool true) ∧ Below w.heap.size w w' := by
  have AW := Lib.hid (awake3_any w hL)
  have A1 := Lib.hid (fun W (y : Below w.heap.size w W) (q : Option Addr) (k : Nat) (t : ByteArray) (ht : t.size ≤ 140737488355328) (hk : t.size ≤ k) (h : HoldsB W q t) => (all_any q t k W ht hk h (hL.below y).tabs (hL.below y).named (hL.below y).max (hL.below y).fold).mono (fun e w' z => And.intro (all_form z.1) z.2))
  have HP := Lib.hid (fun W (y : Below w.heap.size w W) => hp.below y)
  have TX := Lib.hid (fun W (y : Below w.heap.size w W) => refText_any p s c W hs hc (hp.below y))
  have HS := Lib.hid (And.intro hs hc)
  obtain ⟨r, hr⟩ : ∃ r, allF s = r := ⟨_, rfl⟩
  have AS := Lib.hid (fun W (y : Below w.heap.size w W) => A1.out W y p c s (by omega) hc (hp.below y))
  rw [hr] at AS h
  clear hp hL hc hs hr
  obtain ⟨k0, hk0⟩ : ∃ k, kOf r = k := ⟨_, rfl⟩
  obtain ⟨e0, he0⟩ : ∃ k, eOf r = k := ⟨_, rfl⟩
  rw [hk0, he0] at AS
  generalize textF s = t at *
  have z0 : ((e0 : Int) != 0) = true := by rw [he0] at h; simp; omega
  clear h hk0 he0
  go_enter Tryz.func3, Tryz.ntmps3
  go_wp2_with (fail)
  refine AW.out.mono ?_
  rintro e w0 ⟨rfl, hB0⟩
  go_wp2_with (fail)
  refine (AS.out w0 hB0).mono ?_
  rintro e w1 ⟨⟨q1, c1, rfl, -⟩, hb1⟩
  have hB1 := below_cat hB0 hb1
  go_wp2_with (fail)
  refine (TX.out w1 hB1).mono ?_
  rintro e w2 ⟨rfl, hb2⟩
  have HB2 := Lib.hid (below_cat hB1 hb2)
  clear hB0 hB1 hb1 hb2
  go_wp2_with (fail)
  all_goals
    go_ret
    exact ⟨rfl, HB2.out⟩
set_option maxRecDepth 100000 in
set_option maxHeartbeats 2000000 in
theorem cuts_low (p : Option Addr) (s : ByteArray) (c : Nat) (n : Int) (w : World) (hs : s.size ≤ 140737488355000) (hc : s.size ≤ c) (hp : HoldsB w p s) (hL : Leans w) (h : n < 0) :
    Calls Tryz.prog 3 #[.slice p s.size c, .int .i64 n] w fun e w' => e = .returned (.bool true) ∧ Below w.heap.size w w' := by
  have AW := Lib.hid (awake3_any w hL)
  have A1 := Lib.hid (fun W (y : Below w.heap.size w W) (q : Option Addr) (k : Nat) (t : ByteArray) (ht : t.size ≤ 140737488355328) (hk : t.size ≤ k) (h : HoldsB W q t) => (all_any q t k W ht hk h (hL.below y).tabs (hL.below y).named (hL.below y).max (hL.below y).fold).mono (fun e w' z => And.intro (all_form z.1) z.2))
  have HP := Lib.hid (fun W (y : Below w.heap.size w W) => hp.below y)
  have TX := Lib.hid (fun W (y : Below w.heap.size w W) => refText_any p s c W hs hc (hp.below y))
  have HS := Lib.hid (And.intro hs hc)
  obtain ⟨r, hr⟩ : ∃ r, allF s = r := ⟨_, rfl⟩
  have AS := Lib.hid (fun W (y : Below w.heap.size w W) => A1.out W y p c s (by omega) hc (hp.below y))
  rw [hr] at AS
  clear hp hL hc hs hr
  obtain ⟨k0, hk0⟩ : ∃ k, kOf r = k := ⟨_, rfl⟩
  obtain ⟨e0, he0⟩ : ∃ k, eOf r = k := ⟨_, rfl⟩
  rw [hk0, he0] at AS
  generalize textF s = t at *
  have z1 : decide (n < 0) = true := decide_eq_true h
  clear hk0 he0
  go_enter Tryz.func3, Tryz.ntmps3
  go_wp2_with (fail)
  refine AW.out.mono ?_
  rintro e w0 ⟨rfl, hB0⟩
  go_wp2_with (fail)
  refine (AS.out w0 hB0).mono ?_
  rintro e w1 ⟨⟨q1, c1, rfl, -⟩, hb1⟩
  have hB1 := below_cat hB0 hb1
  go_wp2_with (fail)
  refine (TX.out w1 hB1).mono ?_
  rintro e w2 ⟨rfl, hb2⟩
  have HB2 := Lib.hid (below_cat hB1 hb2)
  clear hB0 hB1 hb1 hb2
  go_wp2_with (fail)
  all_goals
    go_ret
    exact ⟨rfl, HB2.out⟩
set_option maxRecDepth 100000 in
set_option maxHeartbeats 2000000 in
theorem cuts_high (p : Option Addr) (s : ByteArray) (c : Nat) (n : Int) (w : World) (hs : s.size ≤ 140737488355000) (hc : s.size ≤ c) (hp : HoldsB w p s) (hL : Leans w) (h : ((textF s).size : Int) < n) :
    Calls Tryz.prog 3 #[.slice p s.size c, .int .i64 n] w fun e w' => e = .returned (.bool true) ∧ Below w.heap.size w w' := by
  have AW := Lib.hid (awake3_any w hL)
  have A1 := Lib.hid (fun W (y : Below w.heap.size w W) (q : Option Addr) (k : Nat) (t : ByteArray) (ht : t.size ≤ 140737488355328) (hk : t.size ≤ k) (h : HoldsB W q t) => (all_any q t k W ht hk h (hL.below y).tabs (hL.below y).named (hL.below y).max (hL.below y).fold).mono (fun e w' z => And.intro (all_form z.1) z.2))
  have HP := Lib.hid (fun W (y : Below w.heap.size w W) => hp.below y)
  have TX := Lib.hid (fun W (y : Below w.heap.size w W) => refText_any p s c W hs hc (hp.below y))
  have HS := Lib.hid (And.intro hs hc)
  obtain ⟨r, hr⟩ : ∃ r, allF s = r := ⟨_, rfl⟩
  have AS := Lib.hid (fun W (y : Below w.heap.size w W) => A1.out W y p c s (by omega) hc (hp.below y))
  rw [hr] at AS
  clear hp hL hc hs hr
  obtain ⟨k0, hk0⟩ : ∃ k, kOf r = k := ⟨_, rfl⟩
  obtain ⟨e0, he0⟩ : ∃ k, eOf r = k := ⟨_, rfl⟩
  rw [hk0, he0] at AS
  generalize textF s = t at *
  have z1 : decide (n < 0) = false := decide_eq_false (by omega)
  have z2 : decide ((t.size : Int) < n) = true := decide_eq_true h
  clear hk0 he0
  go_enter Tryz.func3, Tryz.ntmps3
  go_wp2_with (fail)
  refine AW.out.mono ?_
  rintro e w0 ⟨rfl, hB0⟩
  go_wp2_with (fail)
  refine (AS.out w0 hB0).mono ?_
  rintro e w1 ⟨⟨q1, c1, rfl, -⟩, hb1⟩
  have hB1 := below_cat hB0 hb1
  go_wp2_with (fail)
  refine (TX.out w1 hB1).mono ?_
  rintro e w2 ⟨rfl, hb2⟩
  have HB2 := Lib.hid (below_cat hB1 hb2)
  clear hB0 hB1 hb1 hb2
  go_wp2_with (fail)
  all_goals
    go_ret
    exact ⟨rfl, HB2.out⟩
end Go.Proofs.YtpcdcndniibalaaGreatDoor
