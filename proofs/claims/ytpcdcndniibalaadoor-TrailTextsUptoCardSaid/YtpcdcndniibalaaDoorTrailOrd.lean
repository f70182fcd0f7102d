/- Proved here: what tree.Order and trail.Compare answer. -/
import Derived.Test.YtpcdcndniibalaaDoorTrailOr
import Derived.Test.YtpcdcndniibalaaDoorShelfT
import Derived.Deep.RegionWith
import Derived.StillTailTactics
import Derived.Deep.QuietTactic
import Derived.BigQuiet
namespace Go.Proofs.YtpcdcndniibalaaDoor
open Go.RowKit

theorem drew_is (W : World) : ({ W with drawn := W.drawn + 1 } : World) = W.drew := rfl
set_option maxRecDepth 100000 in
set_option maxHeartbeats 2000000 in
theorem order_any (u1 l1 u2 l2 : ByteArray) (w : World) :
    Calls Tryd.prog 28 #[.agg #[.string u1, .string l1], .agg #[.string u2, .string l2]] w fun e w' => e = .returned (.int .i64 (lexI (Lib.compareBytes u1.data.toList u2.data.toList) (Lib.compareBytes l1.data.toList l2.data.toList))) ∧ Below w.heap.size w w' := by
  have C1 := Lib.hid (fun W => Tryd.strings_Compare u1 u2 W)
  have C2 := Lib.hid (fun W => Tryd.strings_Compare l1 l2 W)
  generalize Lib.compareBytes u1.data.toList u2.data.toList = x at *
  generalize Lib.compareBytes l1.data.toList l2.data.toList = y at *
  go_enter Tryd.func28, Tryd.ntmps28
  go_wp2_with (fail)
  refine wp_region_still_tail 10 (by kernel_rfl) (by kernel_rfl) ?_
  simp only [List.take_succ_cons, List.take_zero, List.drop_succ_cons, List.drop_zero, drew_is]
  still_step
  still_step
  still_step
  still_step
  still_call (C1.out _)
  still_step
  still_step
  still_step
  still_step
  still_call (C2.out _)
  refine wpStill_nil ?_
  go_wp2_with (go_at_call 47; refine (cmpOr_any _ x y _ (by go_simp) (by go_simp)).mono ?_; rintro e w' ⟨rfl, rfl⟩)
  go_ret
  exact ⟨rfl, by first | exact ((((Below.refl _ _).alloc (Nat.le_refl _) _).alloc (by simp) _).drew).alloc (by simp; omega) _ | exact ((((Below.refl _ _).alloc (Nat.le_refl _) _).alloc (by simp) _).alloc (by simp; omega) _).drew⟩

/-- A trail as a value: its steps behind p, the spare room told by c. -/
def TrV (p : Option Addr) (c : Nat) (t : Tr) : Value := .agg #[.slice p t.steps.length c, .bool t.attr, .string t.uri, .string t.loc]
/-- What a trail's steps ask of memory. -/
def TrAt (w : World) (p : Option Addr) (c : Nat) (t : Tr) : Prop := HoldsI w p t.steps ∧ t.steps.length ≤ c ∧ t.steps.length ≤ 140737488355328
theorem TrAt.below {w W : World} {p : Option Addr} {c : Nat} {t : Tr} (h : TrAt w p c t) (hb : Below w.heap.size w W) : TrAt W p c t := ⟨h.1.below hb, h.2⟩
theorem cmpT_steps {a b : Tr} (h : cmpN a.steps b.steps ≠ 0) : cmpT a b = cmpN a.steps b.steps := by unfold cmpT lexI; rw [if_neg h]
theorem cmpT_tail {a b : Tr} (h : cmpN a.steps b.steps = 0) : cmpT a b = cmpTail a b := by unfold cmpT lexI; rw [if_pos h]

set_option maxRecDepth 100000 in
set_option maxHeartbeats 2000000 in
theorem cmpT_any (p q : Option Addr) (c d : Nat) (a b : Tr) (w : World) (h1 : TrAt w p c a) (h2 : TrAt w q d b) :
    Calls Tryd.prog 15 #[TrV p c a, TrV q d b] w fun e w' => e = .returned (.int .i64 (cmpT a b)) ∧ Below w.heap.size w w' := by
  have C := Lib.hid (fun W (y : Below w.heap.size w W) => cmpList_any p q a.steps b.steps c d W h1.2.2 h2.2.2 h1.2.1 h2.2.1 (h1.1.below y) (h2.1.below y))
  have O := Lib.hid (fun W => order_any a.uri a.loc b.uri b.loc W)
  unfold TrV
  by_cases h0 : cmpN a.steps b.steps = 0
  · rw [h0] at C
    rw [cmpT_tail h0]
    unfold cmpTail cmpName
    clear h0 h1 h2
    generalize lexI (Lib.compareBytes a.uri.data.toList b.uri.data.toList) (Lib.compareBytes a.loc.data.toList b.loc.data.toList) = z at *
    cases ha : a.attr <;> cases hb : b.attr
    all_goals
      clear ha hb
      go_enter Tryd.func15, Tryd.ntmps15
      go_wp2_with (first
        | (go_at_call 27; refine (C.out _ (by first | exact ((Below.refl _ _).alloc (Nat.le_refl _) _).alloc (by simp) _)).mono ?_; rintro e w' ⟨rfl, rfl⟩)
        | (go_at_call 28; refine (O.out _).mono ?_; rintro e w' ⟨rfl, hbo⟩))
      go_ret
    · exact ⟨rfl, ((Below.refl _ _).alloc (Nat.le_refl _) _).alloc (by simp) _⟩
    · exact ⟨rfl, ((Below.refl _ _).alloc (Nat.le_refl _) _).alloc (by simp) _⟩
    · exact ⟨rfl, ((Below.refl _ _).alloc (Nat.le_refl _) _).alloc (by simp) _⟩
    · exact ⟨rfl, (((Below.refl _ _).alloc (Nat.le_refl _) _).alloc (by simp) _).trans (hbo.mono (by simp; omega))⟩
  · rw [cmpT_steps h0]
    have z0 : (cmpN a.steps b.steps == 0) = false := by rw [beq_eq_false_iff_ne]; exact h0
    have z1 : (cmpN a.steps b.steps != 0) = true := by rw [bne_iff_ne]; exact h0
    clear h0 h1 h2
    generalize cmpN a.steps b.steps = z at *
    go_enter Tryd.func15, Tryd.ntmps15
    go_wp2_with (first
      | (go_at_call 27; refine (C.out _ (by first | exact ((Below.refl _ _).alloc (Nat.le_refl _) _).alloc (by simp) _)).mono ?_; rintro e w' ⟨rfl, rfl⟩))
    go_ret
    exact ⟨rfl, ((Below.refl _ _).alloc (Nat.le_refl _) _).alloc (by simp) _⟩
end Go.Proofs.YtpcdcndniibalaaDoor
