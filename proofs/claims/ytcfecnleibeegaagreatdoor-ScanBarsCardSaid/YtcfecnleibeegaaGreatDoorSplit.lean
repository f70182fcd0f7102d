/- Proved here: strings.Cut at the colon, strings.Clone and char.Split: Split answers splitF (the parts of a qualified name) of every string; what was there stays. -/
import Derived.Test.YtcfecnleibeegaaGreatDoorName
import Derived.Test.YtcfecnleibeegaaGreatDoorM0
import Derived.RegionTactic
import Derived.Lib.IndexLaws
namespace Go.Proofs.YtcfecnleibeegaaGreatDoor
open Go.RowKit

theorem name_any (s : ByteArray) (w : World) (hT : Tabs w) (hs : s.size ≤ 140737488355328) :
    Calls Tryz.prog 77 #[.string s] w fun e w' => e = .returned (.bool (nameB s)) ∧ Below w.heap.size w w' := by
  by_cases h : s.size = 0 ∨ 100 < s.size
  · rw [show nameB s = false by unfold nameB; rw [if_pos h]]
    exact name_head s w hT hs (by omega)
  · rw [show nameB s = nameGo s s.size 0 by unfold nameB; rw [if_neg h]]
    cases hv : Lib.validD s.data.toList
    · rw [name_false_of_invalid s hv s.size (Nat.le_refl _)]
      exact name_head s w hT hs (.inr (.inr hv))
    · exact name_loop s w hT (by omega) (by omega) hv


set_option maxHeartbeats 1000000 in
theorem cutlite_miss (s : ByteArray) (w : World) (h : Lib.indexByte s.data.toList 58 = -1) :
    Calls Tryz.prog 123 #[.string s, .string ⟨#[58]⟩] w fun e w' => e = .returned (.tuple #[.string s, .string ⟨#[]⟩, .bool false]) ∧ Below w.heap.size w w' := by
  have cI := Tryz.index_one s 58 w
  rw [h] at cI
  have CI := Lib.hid cI
  clear h cI
  go_enter Tryz.func123, Tryz.ntmps123
  go_wp2_with (go_at_call 130; refine (CI.out).mono ?_; rintro e w' ⟨rfl, rfl⟩)
  go_ret3
  exact ⟨rfl, Below.refl _ _⟩

set_option maxHeartbeats 1000000 in
theorem cutlite_hit (s : ByteArray) (i : Nat) (w : World) (h : Lib.indexByte s.data.toList 58 = i) (hi : i < s.size) (hs : s.size ≤ 140737488355328) :
    Calls Tryz.prog 123 #[.string s, .string ⟨#[58]⟩] w fun e w' => e = .returned (.tuple #[.string (s.extract 0 i), .string (s.extract (i + 1) s.size), .bool true]) ∧ Below w.heap.size w w' := by
  have cI := Tryz.index_one s 58 w
  rw [h] at cI
  have CI := Lib.hid cI
  have c1 : (0 : Int) ≤ (i : Int) := by omega
  have c2 : (i : Int) ≤ (s.size : Int) := by omega
  have c3 : (0 : Int) ≤ (i : Int) + 1 := by omega
  have c4 : (i : Int) + 1 ≤ (s.size : Int) := by omega
  have hw : IntKind.i64.wrap ((i : Int) + 1) = (i : Int) + 1 := IntWalk.i64_in _ (by omega)
  have hw2 : ((i : Int) + 1).toNat = i + 1 := by omega
  clear h cI
  go_enter Tryz.func123, Tryz.ntmps123
  go_wp2_with (go_at_call 130; refine (CI.out).mono ?_; rintro e w' ⟨rfl, rfl⟩)
  go_region
  go_wp2
  go_ret3
  exact ⟨rfl, (Below.refl _ _).drew⟩

set_option maxHeartbeats 1000000 in
theorem cut_miss (s : ByteArray) (w : World) (h : Lib.indexByte s.data.toList 58 = -1) :
    Calls Tryz.prog 111 #[.string s, .string ⟨#[58]⟩] w fun e w' => e = .returned (.tuple #[.string s, .string ⟨#[]⟩, .bool false]) ∧ Below w.heap.size w w' := by
  have C := Lib.hid (cutlite_miss s w h)
  clear h
  go_enter Tryz.func111, Tryz.ntmps111
  go_wp2_with (go_at_call 123; refine (C.out).mono ?_; rintro e w' ⟨rfl, hb⟩)
  go_ret3
  exact ⟨rfl, hb⟩
set_option maxHeartbeats 1000000 in
theorem cut_hit (s : ByteArray) (i : Nat) (w : World) (h : Lib.indexByte s.data.toList 58 = i) (hi : i < s.size) (hs : s.size ≤ 140737488355328) :
    Calls Tryz.prog 111 #[.string s, .string ⟨#[58]⟩] w fun e w' => e = .returned (.tuple #[.string (s.extract 0 i), .string (s.extract (i + 1) s.size), .bool true]) ∧ Below w.heap.size w w' := by
  have C := Lib.hid (cutlite_hit s i w h hi hs)
  clear h
  generalize s.extract 0 i = p at C ⊢
  generalize s.extract (i + 1) s.size = l at C ⊢
  go_enter Tryz.func111, Tryz.ntmps111
  go_wp2_with (go_at_call 123; refine (C.out).mono ?_; rintro e w' ⟨rfl, hb⟩)
  go_ret3
  exact ⟨rfl, hb⟩
set_option maxHeartbeats 1000000 in
theorem clone_any (s : ByteArray) (w : World) (hs : s.size ≤ 140737488355328) :
    Calls Tryz.prog 112 #[.string s] w fun e w' => e = .returned (.string s) ∧ Below w.heap.size w w' := by
  have C := Lib.hid (Tryz.clone s w (by omega))
  go_enter Tryz.func112, Tryz.ntmps112
  go_wp2_with (go_at_call 124; refine (C.out).mono ?_; rintro e w' ⟨rfl, hb⟩)
  go_ret
  exact ⟨rfl, hb⟩


set_option maxHeartbeats 1000000 in
theorem split_walk (q p l : ByteArray) (np nl : Bool) (w : World) (hT : Tabs w) (hp : p.size ≤ 140737488355328) (hl : l.size ≤ 140737488355328)
    (cC : Calls Tryz.prog 111 #[.string q, .string ⟨#[58]⟩] w fun e w' => e = .returned (.tuple #[.string p, .string l, .bool true]) ∧ Below w.heap.size w w')
    (h1 : nameB p = np) (h2 : nameB l = nl) :
    Calls Tryz.prog 99 #[.string q] w fun e w' => e = .returned (if np && nl then .tuple #[.string p, .string l, .bool true] else .tuple #[.string sEmpty, .string sEmpty, .bool false]) ∧ Below w.heap.size w w' := by
  have C := Lib.hid cC
  have N1 := Lib.hid (fun W (h : Tabs W) => name_any p W h hp)
  have N2 := Lib.hid (fun W (h : Tabs W) => name_any l W h hl)
  have K1 := Lib.hid (fun W => clone_any p W hp)
  have K2 := Lib.hid (fun W => clone_any l W hl)
  rw [h1] at N1
  rw [h2] at N2
  have HT := Lib.hid hT
  clear cC h1 h2 hT
  cases np
  · go_enter Tryz.func99, Tryz.ntmps99
    go_wp2_with (fail)
    refine C.out.mono ?_
    rintro e w1 ⟨rfl, hb1⟩
    go_wp2_with (fail)
    refine (N1.out _ (HT.out.below hb1)).mono ?_
    rintro e w2 ⟨rfl, hb2⟩
    go_wp2_with (fail)
    go_ret3
    exact ⟨rfl, below_cat hb1 hb2⟩
  · cases nl
    · go_enter Tryz.func99, Tryz.ntmps99
      go_wp2_with (fail)
      refine C.out.mono ?_
      rintro e w1 ⟨rfl, hb1⟩
      go_wp2_with (fail)
      refine (N1.out _ (HT.out.below hb1)).mono ?_
      rintro e w2 ⟨rfl, hb2⟩
      go_wp2_with (fail)
      refine (N2.out _ ((HT.out.below hb1).below hb2)).mono ?_
      rintro e w3 ⟨rfl, hb3⟩
      go_wp2_with (fail)
      go_ret3
      exact ⟨rfl, below_cat (below_cat hb1 hb2) hb3⟩
    · go_enter Tryz.func99, Tryz.ntmps99
      go_wp2_with (fail)
      refine C.out.mono ?_
      rintro e w1 ⟨rfl, hb1⟩
      go_wp2_with (fail)
      refine (N1.out _ (HT.out.below hb1)).mono ?_
      rintro e w2 ⟨rfl, hb2⟩
      go_wp2_with (fail)
      refine (N2.out _ ((HT.out.below hb1).below hb2)).mono ?_
      rintro e w3 ⟨rfl, hb3⟩
      go_wp2_with (fail)
      refine (K1.out _).mono ?_
      rintro e w4 ⟨rfl, hb4⟩
      go_wp2_with (fail)
      refine (K2.out _).mono ?_
      rintro e w5 ⟨rfl, hb5⟩
      go_wp2_with (fail)
      go_ret3
      exact ⟨rfl, below_cat (below_cat (below_cat (below_cat hb1 hb2) hb3) hb4) hb5⟩

set_option maxHeartbeats 1000000 in
theorem split_none (q : ByteArray) (nl : Bool) (w : World) (hT : Tabs w) (hq : q.size ≤ 140737488355328) (h : Lib.indexByte q.data.toList 58 = -1) (h2 : nameB q = nl) :
    Calls Tryz.prog 99 #[.string q] w fun e w' => e = .returned (if nl then .tuple #[.string sEmpty, .string q, .bool true] else .tuple #[.string sEmpty, .string sEmpty, .bool false]) ∧ Below w.heap.size w w' := by
  have C := Lib.hid (cut_miss q w h)
  have N2 := Lib.hid (fun W (h : Tabs W) => name_any q W h hq)
  have K1 := Lib.hid (fun W => clone_any sEmpty W (by decide))
  have K2 := Lib.hid (fun W => clone_any q W hq)
  rw [h2] at N2
  have HT := Lib.hid hT
  clear h h2 hT
  cases nl
  · go_enter Tryz.func99, Tryz.ntmps99
    go_wp2_with (fail)
    refine C.out.mono ?_
    rintro e w1 ⟨rfl, hb1⟩
    go_wp2_with (fail)
    refine (N2.out _ (HT.out.below hb1)).mono ?_
    rintro e w2 ⟨rfl, hb2⟩
    go_wp2_with (fail)
    go_ret3
    exact ⟨rfl, below_cat hb1 hb2⟩
  · go_enter Tryz.func99, Tryz.ntmps99
    go_wp2_with (fail)
    refine C.out.mono ?_
    rintro e w1 ⟨rfl, hb1⟩
    go_wp2_with (fail)
    refine (N2.out _ (HT.out.below hb1)).mono ?_
    rintro e w2 ⟨rfl, hb2⟩
    go_wp2_with (fail)
    refine (K1.out _).mono ?_
    rintro e w4 ⟨rfl, hb4⟩
    go_wp2_with (fail)
    refine (K2.out _).mono ?_
    rintro e w5 ⟨rfl, hb5⟩
    go_wp2_with (fail)
    go_ret3
    exact ⟨rfl, below_cat (below_cat (below_cat hb1 hb2) hb4) hb5⟩
end Go.Proofs.YtcfecnleibeegaaGreatDoor
