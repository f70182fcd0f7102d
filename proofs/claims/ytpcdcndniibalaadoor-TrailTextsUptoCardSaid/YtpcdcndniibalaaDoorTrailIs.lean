/- Proved here: what trail's isRight answers. -/
import Derived.Test.YtpcdcndniibalaaDoorTrailRight
import Derived.Test.YtpcdcndniibalaaDoorFault
import Derived.Test.YtpcdcndniibalaaDoorName
import Derived.Test.YtpcdcndniibalaaDoorBytesOf
namespace Go.Proofs.YtpcdcndniibalaaDoor
open Go.RowKit

theorem nameAll_any (s : ByteArray) (w : World) (hT : Tabs w) (hs : s.size ≤ 140737488355328) :
    Calls Tryd.prog 34 #[.string s] w fun e w' => e = .returned (.bool (nameB s)) ∧ Below w.heap.size w w' := by
  by_cases h : s.size = 0 ∨ 100 < s.size
  · rw [show nameB s = false by unfold nameB; rw [if_pos h]]
    exact name_head s w hT hs (by omega)
  · rw [show nameB s = nameGo s s.size 0 by unfold nameB; rw [if_neg h]]
    cases hv : Lib.validD s.data.toList
    · rw [name_false_of_invalid s hv s.size (Nat.le_refl _)]
      exact name_head s w hT hs (.inr (.inr hv))
    · exact name_loop s w hT (by omega) (by omega) hv
set_option maxRecDepth 100000 in
set_option maxHeartbeats 2000000 in
theorem isRight_long (p : Option Addr) (c : Nat) (t : Tr) (w : World) (h : 64 < t.steps.length) :
    Calls Tryd.prog 18 #[TrV p c t] w fun e w' => e = .returned (.bool false) ∧ Below w.heap.size w w' := by
  have l0 : (64 : Int) < (t.steps.length : Int) := by omega
  unfold TrV
  clear h
  go_enter Tryd.func18, Tryd.ntmps18
  go_wp2_with (fail)
  go_ret
  exact ⟨rfl, (Below.refl _ _).alloc (Nat.le_refl _) _⟩
set_option maxRecDepth 100000 in
set_option maxHeartbeats 2000000 in
theorem isRight_bad (p : Option Addr) (c : Nat) (t : Tr) (w : World) (hat : TrAt w p c t) (h : ¬ 64 < t.steps.length) (hb : t.steps.all stepOk = false) :
    Calls Tryd.prog 18 #[TrV p c t] w fun e w' => e = .returned (.bool false) ∧ Below w.heap.size w w' := by
  have l0 : ¬ (64 : Int) < (t.steps.length : Int) := by omega
  have C := Lib.hid (fun W (y : Below w.heap.size w W) => hasBad_any p t.steps c W hat.2.2 hat.2.1 (hat.1.below y))
  rw [hb] at C
  unfold TrV
  clear h hat hb
  go_enter Tryd.func18, Tryd.ntmps18
  go_wp2_with (go_at_call 31; refine (C.out _ ((Below.refl _ _).alloc (Nat.le_refl _) _)).mono ?_; rintro e w' ⟨rfl, rfl⟩)
  go_ret
  exact ⟨rfl, (Below.refl _ _).alloc (Nat.le_refl _) _⟩
set_option maxRecDepth 100000 in
set_option maxHeartbeats 2000000 in
theorem isRight_bare (p : Option Addr) (c : Nat) (t : Tr) (w : World) (hat : TrAt w p c t) (h : ¬ 64 < t.steps.length) (hb : t.steps.all stepOk = true) (ha : t.attr = false) :
    Calls Tryd.prog 18 #[TrV p c t] w fun e w' => e = .returned (.bool (decide (t.uri.size = 0) && decide (t.loc.size = 0))) ∧ Below w.heap.size w w' := by
  have l0 : ¬ (64 : Int) < (t.steps.length : Int) := by omega
  have C := Lib.hid (fun W (y : Below w.heap.size w W) => hasBad_any p t.steps c W hat.2.2 hat.2.1 (hat.1.below y))
  rw [hb] at C
  unfold TrV
  rw [ha]
  clear h hat hb ha
  obtain ⟨l, b, u, n⟩ := t
  simp only at *
  by_cases hu : u.size = 0
  · rw [decide_eq_true hu]
    obtain rfl := ba_empty hu
    by_cases hn : n.size = 0
    · rw [decide_eq_true hn]
      obtain rfl := ba_empty hn
      clear hu hn
      go_enter Tryd.func18, Tryd.ntmps18
      go_wp2_with (go_at_call 31; refine (C.out _ ((Below.refl _ _).alloc (Nat.le_refl _) _)).mono ?_; rintro e w' ⟨rfl, rfl⟩)
      go_ret
      exact ⟨rfl, (Below.refl _ _).alloc (Nat.le_refl _) _⟩
    · rw [decide_eq_false hn]
      have n0 := str_ne (s := n) (by omega)
      have n1 : ¬ n.toList = [] := fun e => by rw [e] at n0; cases n0
      clear hu hn
      go_enter Tryd.func18, Tryd.ntmps18
      go_wp2_with (go_at_call 31; refine (C.out _ ((Below.refl _ _).alloc (Nat.le_refl _) _)).mono ?_; rintro e w' ⟨rfl, rfl⟩)
      go_ret
      exact ⟨rfl, (Below.refl _ _).alloc (Nat.le_refl _) _⟩
  · rw [decide_eq_false hu]
    have n0 := str_ne (s := u) (by omega)
    have n1 : ¬ u.toList = [] := fun e => by rw [e] at n0; cases n0
    clear hu
    go_enter Tryd.func18, Tryd.ntmps18
    go_wp2_with (go_at_call 31; refine (C.out _ ((Below.refl _ _).alloc (Nat.le_refl _) _)).mono ?_; rintro e w' ⟨rfl, rfl⟩)
    all_goals
      go_ret
      exact ⟨rfl, (Below.refl _ _).alloc (Nat.le_refl _) _⟩
end Go.Proofs.YtpcdcndniibalaaDoor
