/- Proved here: what trail's isRight answers of an attribute's trail, and of any. -/
import Derived.Test.YtpcdcndniibalaaDoorTrailIs
import Derived.Test.YtpcdcndniibalaaDoorTrailUp2
namespace Go.Proofs.YtpcdcndniibalaaDoor
open Go.RowKit

theorem t_one (w : World) (o : Obj) : (w.alloc o).heap[w.heap.size]? = some o := by
  show (w.heap.push o)[w.heap.size]? = _
  exact Array.getElem?_push_size
set_option maxRecDepth 100000 in
set_option maxHeartbeats 2000000 in
theorem isRight_noname (p : Option Addr) (c : Nat) (l : List Int) (u n : ByteArray) (w : World) (hat : TrAt w p c ⟨l, true, u, n⟩) (hT : Tabs w) (hu : u.size ≤ 140737488355328) (hn : n.size ≤ 140737488355328) (h : ¬ 64 < l.length) (hb : l.all stepOk = true) (hm : nameB n = false) :
    Calls Tryd.prog 18 #[.agg #[.slice p l.length c, .bool true, .string u, .string n]] w fun e w' => e = .returned (.bool false) ∧ Below w.heap.size w w' := by
  have l0 : ¬ (64 : Int) < (l.length : Int) := by omega
  have C := Lib.hid (fun W (y : Below w.heap.size w W) => hasBad_any p l c W hat.2.2 hat.2.1 (hat.1.below y))
  rw [hb] at C
  clear h hat hb
  obtain ⟨cap, W3, hcv, hcap, hb3, -, hp3⟩ := bytes_of (w.alloc (.cells #[.slice p l.length c, .bool true, .string u, .string n] 26)) u
  have hz : (w.alloc (.cells #[.slice p l.length c, .bool true, .string u, .string n] 26)).heap.size = w.heap.size + 1 := by simp
  have hB3 := t_cat ((Below.refl _ w).alloc (Nat.le_refl _) _) hb3
  rw [hz] at hcv hp3
  have F := Lib.hid (fault_any (some ⟨w.heap.size + 1, 0, none⟩) u cap W3 (hT.below hB3) hu hcap (fun _ => ⟨_, _, rfl, hp3⟩))
  have NM := Lib.hid (fun W (y : Below w.heap.size w W) => nameAll_any n W (hT.below y) hn)
  obtain ⟨⟨d0, d1, d2, d3⟩, -⟩ := t_cells (t_one w (.cells #[.slice p l.length c, .bool true, .string u, .string n] 26))
  have b1 := t_cell hb3 d0
  have b2 := t_cell hb3 d2
  have b3 := t_cell hb3 d3
  have HB3 := Lib.hid hB3
  clear hcap hb3 hp3 hB3 hT d0 d1 d2 d3 b1 hz
  rw [hm] at NM
  clear hm hu
  go_enter Tryd.func18, Tryd.ntmps18
  go_wp2_with (fail)
  refine (C.out _ ((Below.refl _ _).alloc (Nat.le_refl _) _)).mono ?_
  rintro e w' ⟨rfl, rfl⟩
  go_wp2_with (fail)
  refine F.out.mono ?_
  rintro e w4 ⟨rfl, hb4⟩
  have HB4 := Lib.hid (t_cat HB3.out hb4)
  have c2 := t_cell hb4 b2
  have c3 := t_cell hb4 b3
  clear hb4 b2 b3 hcv
  go_wp2_with (fail)
  refine (NM.out _ HB4.out).mono ?_
  rintro e w5 ⟨rfl, hb5⟩
  have HB5 := Lib.hid (t_cat HB4.out hb5)
  have d2 := t_cell hb5 c2
  have d3 := t_cell hb5 c3
  clear hb5 c2 c3
  go_wp2_with (fail)
  go_ret
  exact ⟨rfl, HB5.out⟩
set_option maxRecDepth 100000 in
set_option maxHeartbeats 2000000 in
theorem isRight_long2 (p : Option Addr) (c : Nat) (l : List Int) (u n : ByteArray) (w : World) (hat : TrAt w p c ⟨l, true, u, n⟩) (hT : Tabs w) (hu : u.size ≤ 140737488355328) (hn : n.size ≤ 140737488355328) (h : ¬ 64 < l.length) (hb : l.all stepOk = true) (hm : nameB n = true) (hs : ¬ u.size ≤ 100) :
    Calls Tryd.prog 18 #[.agg #[.slice p l.length c, .bool true, .string u, .string n]] w fun e w' => e = .returned (.bool false) ∧ Below w.heap.size w w' := by
  have l0 : ¬ (64 : Int) < (l.length : Int) := by omega
  have C := Lib.hid (fun W (y : Below w.heap.size w W) => hasBad_any p l c W hat.2.2 hat.2.1 (hat.1.below y))
  rw [hb] at C
  clear h hat hb
  obtain ⟨cap, W3, hcv, hcap, hb3, -, hp3⟩ := bytes_of (w.alloc (.cells #[.slice p l.length c, .bool true, .string u, .string n] 26)) u
  have hz : (w.alloc (.cells #[.slice p l.length c, .bool true, .string u, .string n] 26)).heap.size = w.heap.size + 1 := by simp
  have hB3 := t_cat ((Below.refl _ w).alloc (Nat.le_refl _) _) hb3
  rw [hz] at hcv hp3
  have F := Lib.hid (fault_any (some ⟨w.heap.size + 1, 0, none⟩) u cap W3 (hT.below hB3) hu hcap (fun _ => ⟨_, _, rfl, hp3⟩))
  have NM := Lib.hid (fun W (y : Below w.heap.size w W) => nameAll_any n W (hT.below y) hn)
  obtain ⟨⟨d0, d1, d2, d3⟩, -⟩ := t_cells (t_one w (.cells #[.slice p l.length c, .bool true, .string u, .string n] 26))
  have b1 := t_cell hb3 d0
  have b2 := t_cell hb3 d2
  have b3 := t_cell hb3 d3
  have HB3 := Lib.hid hB3
  clear hcap hb3 hp3 hB3 hT d0 d1 d2 d3 b1 hz
  rw [hm] at NM
  have g2 : decide ((u.size : Int) ≤ 100) = false := decide_eq_false (by omega)
  have g3 : ¬ (u.size : Int) ≤ 100 := by omega
  clear hm hs hu
  go_enter Tryd.func18, Tryd.ntmps18
  go_wp2_with (fail)
  refine (C.out _ ((Below.refl _ _).alloc (Nat.le_refl _) _)).mono ?_
  rintro e w' ⟨rfl, rfl⟩
  go_wp2_with (fail)
  refine F.out.mono ?_
  rintro e w4 ⟨rfl, hb4⟩
  have HB4 := Lib.hid (t_cat HB3.out hb4)
  have c2 := t_cell hb4 b2
  have c3 := t_cell hb4 b3
  clear hb4 b2 b3 hcv
  go_wp2_with (fail)
  refine (NM.out _ HB4.out).mono ?_
  rintro e w5 ⟨rfl, hb5⟩
  have HB5 := Lib.hid (t_cat HB4.out hb5)
  have d2 := t_cell hb5 c2
  have d3 := t_cell hb5 c3
  clear hb5 c2 c3
  go_wp2_with (fail)
  go_ret
  exact ⟨rfl, HB5.out⟩
set_option maxRecDepth 100000 in
set_option maxHeartbeats 2000000 in
theorem isRight_fault (p : Option Addr) (c : Nat) (l : List Int) (u n : ByteArray) (w : World) (hat : TrAt w p c ⟨l, true, u, n⟩) (hT : Tabs w) (hu : u.size ≤ 140737488355328) (hn : n.size ≤ 140737488355328) (h : ¬ 64 < l.length) (hb : l.all stepOk = true) (hm : nameB n = true) (hs : u.size ≤ 100) (hf : (faultF u).2 ≠ 0) :
    Calls Tryd.prog 18 #[.agg #[.slice p l.length c, .bool true, .string u, .string n]] w fun e w' => e = .returned (.bool false) ∧ Below w.heap.size w w' := by
  have l0 : ¬ (64 : Int) < (l.length : Int) := by omega
  have C := Lib.hid (fun W (y : Below w.heap.size w W) => hasBad_any p l c W hat.2.2 hat.2.1 (hat.1.below y))
  rw [hb] at C
  clear h hat hb
  obtain ⟨cap, W3, hcv, hcap, hb3, -, hp3⟩ := bytes_of (w.alloc (.cells #[.slice p l.length c, .bool true, .string u, .string n] 26)) u
  have hz : (w.alloc (.cells #[.slice p l.length c, .bool true, .string u, .string n] 26)).heap.size = w.heap.size + 1 := by simp
  have hB3 := t_cat ((Below.refl _ w).alloc (Nat.le_refl _) _) hb3
  rw [hz] at hcv hp3
  have F := Lib.hid (fault_any (some ⟨w.heap.size + 1, 0, none⟩) u cap W3 (hT.below hB3) hu hcap (fun _ => ⟨_, _, rfl, hp3⟩))
  have NM := Lib.hid (fun W (y : Below w.heap.size w W) => nameAll_any n W (hT.below y) hn)
  obtain ⟨⟨d0, d1, d2, d3⟩, -⟩ := t_cells (t_one w (.cells #[.slice p l.length c, .bool true, .string u, .string n] 26))
  have b1 := t_cell hb3 d0
  have b2 := t_cell hb3 d2
  have b3 := t_cell hb3 d3
  have HB3 := Lib.hid hB3
  clear hcap hb3 hp3 hB3 hT d0 d1 d2 d3 b1 hz
  rw [hm] at NM
  have g2 : (u.size : Int) ≤ 100 := by omega
  generalize faultF u = f at *
  have g4 : ((f.2 : Int) == 0) = false := by rw [beq_eq_false_iff_ne]; omega
  clear hm hs hu hf
  go_enter Tryd.func18, Tryd.ntmps18
  go_wp2_with (fail)
  refine (C.out _ ((Below.refl _ _).alloc (Nat.le_refl _) _)).mono ?_
  rintro e w' ⟨rfl, rfl⟩
  go_wp2_with (fail)
  refine F.out.mono ?_
  rintro e w4 ⟨rfl, hb4⟩
  have HB4 := Lib.hid (t_cat HB3.out hb4)
  have c2 := t_cell hb4 b2
  have c3 := t_cell hb4 b3
  clear hb4 b2 b3 hcv
  go_wp2_with (fail)
  refine (NM.out _ HB4.out).mono ?_
  rintro e w5 ⟨rfl, hb5⟩
  have HB5 := Lib.hid (t_cat HB4.out hb5)
  have d2 := t_cell hb5 c2
  have d3 := t_cell hb5 c3
  clear hb5 c2 c3
  go_wp2_with (fail)
  go_ret
  exact ⟨rfl, HB5.out⟩
set_option maxRecDepth 100000 in
set_option maxHeartbeats 2000000 in
theorem isRight_good (p : Option Addr) (c : Nat) (l : List Int) (u n : ByteArray) (w : World) (hat : TrAt w p c ⟨l, true, u, n⟩) (hT : Tabs w) (hu : u.size ≤ 140737488355328) (hn : n.size ≤ 140737488355328) (h : ¬ 64 < l.length) (hb : l.all stepOk = true) (hm : nameB n = true) (hs : u.size ≤ 100) (hf : (faultF u).2 = 0) :
    Calls Tryd.prog 18 #[.agg #[.slice p l.length c, .bool true, .string u, .string n]] w fun e w' => e = .returned (.bool true) ∧ Below w.heap.size w w' := by
  have l0 : ¬ (64 : Int) < (l.length : Int) := by omega
  have C := Lib.hid (fun W (y : Below w.heap.size w W) => hasBad_any p l c W hat.2.2 hat.2.1 (hat.1.below y))
  rw [hb] at C
  clear h hat hb
  obtain ⟨cap, W3, hcv, hcap, hb3, -, hp3⟩ := bytes_of (w.alloc (.cells #[.slice p l.length c, .bool true, .string u, .string n] 26)) u
  have hz : (w.alloc (.cells #[.slice p l.length c, .bool true, .string u, .string n] 26)).heap.size = w.heap.size + 1 := by simp
  have hB3 := t_cat ((Below.refl _ w).alloc (Nat.le_refl _) _) hb3
  rw [hz] at hcv hp3
  have F := Lib.hid (fault_any (some ⟨w.heap.size + 1, 0, none⟩) u cap W3 (hT.below hB3) hu hcap (fun _ => ⟨_, _, rfl, hp3⟩))
  have NM := Lib.hid (fun W (y : Below w.heap.size w W) => nameAll_any n W (hT.below y) hn)
  obtain ⟨⟨d0, d1, d2, d3⟩, -⟩ := t_cells (t_one w (.cells #[.slice p l.length c, .bool true, .string u, .string n] 26))
  have b1 := t_cell hb3 d0
  have b2 := t_cell hb3 d2
  have b3 := t_cell hb3 d3
  have HB3 := Lib.hid hB3
  clear hcap hb3 hp3 hB3 hT d0 d1 d2 d3 b1 hz
  rw [hm] at NM
  have g2 : (u.size : Int) ≤ 100 := by omega
  rw [hf] at F
  generalize faultF u = f at *
  clear hm hs hu hf
  go_enter Tryd.func18, Tryd.ntmps18
  go_wp2_with (fail)
  refine (C.out _ ((Below.refl _ _).alloc (Nat.le_refl _) _)).mono ?_
  rintro e w' ⟨rfl, rfl⟩
  go_wp2_with (fail)
  refine F.out.mono ?_
  rintro e w4 ⟨rfl, hb4⟩
  have HB4 := Lib.hid (t_cat HB3.out hb4)
  have c2 := t_cell hb4 b2
  have c3 := t_cell hb4 b3
  clear hb4 b2 b3 hcv
  go_wp2_with (fail)
  refine (NM.out _ HB4.out).mono ?_
  rintro e w5 ⟨rfl, hb5⟩
  have HB5 := Lib.hid (t_cat HB4.out hb5)
  have d2 := t_cell hb5 c2
  have d3 := t_cell hb5 c3
  clear hb5 c2 c3
  go_wp2_with (fail)
  go_ret
  exact ⟨rfl, HB5.out⟩
theorem isRight_any (p : Option Addr) (c : Nat) (t : Tr) (w : World) (hat : TrAt w p c t) (hT : Tabs w) (hu : t.uri.size ≤ 140737488355328) (hn : t.loc.size ≤ 140737488355328) :
    Calls Tryd.prog 18 #[TrV p c t] w fun e w' => e = .returned (.bool (rightT t)) ∧ Below w.heap.size w w' := by
  unfold rightT
  by_cases h : 64 < t.steps.length
  · rw [decide_eq_false (show ¬ t.steps.length ≤ 64 by omega)]
    exact isRight_long p c t w h
  · rw [decide_eq_true (show t.steps.length ≤ 64 by omega)]
    cases hb : t.steps.all stepOk
    · exact isRight_bad p c t w hat h hb
    · cases ha : t.attr
      · exact isRight_bare p c t w hat h hb ha
      · obtain ⟨l, a, u, n⟩ := t
        simp only at *
        subst ha
        unfold nameOk
        simp only [Bool.true_and, if_true]
        cases hm : nameB n
        · exact isRight_noname p c l u n w hat hT hu hn h hb hm
        · by_cases hs : u.size ≤ 100
          · rw [decide_eq_true hs]
            by_cases hf : (faultF u).2 = 0
            · rw [decide_eq_true hf]
              exact isRight_good p c l u n w hat hT hu hn h hb hm hs hf
            · rw [decide_eq_false hf]
              exact isRight_fault p c l u n w hat hT hu hn h hb hm hs hf
          · rw [decide_eq_false hs]
            exact isRight_long2 p c l u n w hat hT hu hn h hb hm hs
end Go.Proofs.YtpcdcndniibalaaDoor
