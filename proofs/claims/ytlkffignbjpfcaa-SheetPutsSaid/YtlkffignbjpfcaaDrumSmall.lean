/- Proved here: what a drum's small calls answer: has, Sectors, Loose, Steps, Down, Fuse. -/
import Derived.Test.YtlkffignbjpfcaaDrumStep
import Derived.RegionTactic
import Derived.ChangeAlike
import Derived.BigGuardPart
namespace Go.Proofs.Ytlkffignbjpfcaa
open Go.RowKit

theorem has_yes (W : World) (F : Nat → Prop) (G N : Nat) (M : DM) (h : Drum W F G N M) (n : Nat) (hn : n < N) :
    Calls Try.prog 53 #[.pointer (some ⟨G, 0, none⟩), .int .i64 (n : Int)] W fun e W' => e = .returned (.bool true) ∧ W = W' := by
  obtain ⟨gn, gs, cn, cs, q, c, hd⟩ := h
  have c0 := hd.cells.1
  have t0 : (0 : Int) ≤ (n : Int) := by omega
  clear hd
  go_enter Try.func53, Try.ntmps53
  go_wp2_with (fail)
  all_goals first | (exfalso; omega) | (go_ret; exact ⟨ret_bool (by first | rfl | simp; done | (simp; omega)), rfl⟩)
theorem has_no (W : World) (F : Nat → Prop) (G N : Nat) (M : DM) (h : Drum W F G N M) (n : Int) (hn : n < 0 ∨ (N : Int) ≤ n) :
    Calls Try.prog 53 #[.pointer (some ⟨G, 0, none⟩), .int .i64 n] W fun e W' => e = .returned (.bool false) ∧ W = W' := by
  obtain ⟨gn, gs, cn, cs, q, c, hd⟩ := h
  have c0 := hd.cells.1
  clear hd
  rcases hn with hn | hn
  · have t0 : ¬ (0 : Int) ≤ n := by omega
    go_enter Try.func53, Try.ntmps53
    go_wp2_with (fail)
    all_goals first | (exfalso; omega) | (go_ret; exact ⟨ret_bool (by first | rfl | simp; done | (simp; omega)), rfl⟩)
  · have t0 : (0 : Int) ≤ n := by omega
    go_enter Try.func53, Try.ntmps53
    go_wp2_with (fail)
    all_goals first | (exfalso; omega) | (go_ret; exact ⟨ret_bool (by first | rfl | simp; done | (simp; omega)), rfl⟩)
theorem sectors_any (W : World) (F : Nat → Prop) (G N : Nat) (M : DM) (h : Drum W F G N M) :
    Calls Try.prog 37 #[.pointer (some ⟨G, 0, none⟩)] W fun e W' => e = .returned (.int .i64 (N : Int)) ∧ W = W' := by
  obtain ⟨gn, gs, cn, cs, q, c, hd⟩ := h
  have c0 := hd.cells.1
  clear hd
  go_enter Try.func37, Try.ntmps37
  go_wp2_with (fail)
  go_ret
  exact ⟨rfl, rfl⟩
theorem loose_any (W : World) (F : Nat → Prop) (G N : Nat) (M : DM) (h : Drum W F G N M) :
    Calls Try.prog 35 #[.pointer (some ⟨G, 0, none⟩)] W fun e W' => e = .returned (.int .i64 (M.loose.length : Int)) ∧ W = W' := by
  obtain ⟨gn, gs, cn, cs, q, c, hd⟩ := h
  have c0 := hd.cells.2.2.1
  clear hd
  go_enter Try.func35, Try.ntmps35
  go_wp2_with (fail)
  go_ret
  exact ⟨rfl, rfl⟩
theorem steps_any (W : World) (F : Nat → Prop) (G N : Nat) (M : DM) (h : Drum W F G N M) :
    Calls Try.prog 26 #[.pointer (some ⟨G, 0, none⟩)] W fun e W' => e = .returned (.int .i64 (M.steps : Int)) ∧ W = W' := by
  obtain ⟨gn, gs, cn, cs, q, c, hd⟩ := h
  have c0 := hd.cells.2.2.2.1
  clear hd
  go_enter Try.func26, Try.ntmps26
  go_wp2_with (fail)
  go_ret
  exact ⟨rfl, rfl⟩
def DM.fused (M : DM) (k : Nat) : DM := { M with fuse := some k }
theorem fuse_ok (W : World) (F : Nat → Prop) (G N : Nat) (M : DM) (h : Drum W F G N M) (k : Nat) :
    Calls Try.prog 33 #[.pointer (some ⟨G, 0, none⟩), .int .i64 (k : Int)] W fun e W' => e = .returned (.int .i64 0) ∧ Drum W' F G N (M.fused k) ∧ Touch (Only G) W W' ∧ W'.heap.size = W.heap.size := by
  obtain ⟨gn, gs, cn, cs, q, c, hd⟩ := h
  obtain ⟨_, _, _, _, c4, c5, _, fr⟩ := hd.cells
  have f4 := fr 4
  have f5 := fr 5
  have t0 : (0 : Int) ≤ (k : Int) := by omega
  have HD := Lib.hid hd
  clear hd fr
  go_enter Try.func33, Try.ntmps33
  go_wp2_with (fail)
  all_goals
    go_wp2_with (fail)
    go_ret
    refine ⟨rfl, ?_, ?_, ?_⟩
    rotate_left
    · first | exact ((Touch.refl _ _).set1 _).set1 _ | exact (((Touch.refl _ _).set1 _).set1 _).drew
    · first | exact set_size.trans set_size
    · refine ⟨gn, gs, cn, cs, q, c, HD.out.after rfl rfl (fun k hk => (set_other k hk).trans (set_other k hk)) (set_size.trans set_size) ?_⟩
      have hb := HD.out.blk
      first | exact u_row (k := 5) (.int .i64 (k : Int)) (u_row (k := 4) (.bool true) hb) | exact u_row (k := 4) (.bool true) (u_row (k := 5) (.int .i64 (k : Int)) hb)
theorem fuse_arg (W : World) (G : Nat) (k : Int) (hk : k < 0) :
    Calls Try.prog 33 #[.pointer (some ⟨G, 0, none⟩), .int .i64 k] W fun e W' => e = .returned (.int .i64 1) ∧ W = W' := by
  go_enter Try.func33, Try.ntmps33
  go_wp2_with (fail)
  go_ret
  exact ⟨rfl, rfl⟩
end Go.Proofs.Ytlkffignbjpfcaa
