/- Proved here: what the statements' doc makes of a trail; that the document's Same is true of a trail and itself. -/
import Derived.Test.YtpcdcndniibalaaDoorLawTUpsKit
import Derived.Laws.Rows
namespace Go.Proofs.YtpcdcndniibalaaDoor
open Go.RowKit

set_option maxHeartbeats 1000000 in
theorem sameInts_yes (p q : Option Addr) (l : List Int) (c d : Nat) (w : World) (hl : l.length ≤ 140737488355328) (hlc : l.length ≤ c) (hmd : l.length ≤ d) (h1 : HoldsI w p l) (h2 : HoldsI w q l) :
    Calls Tryd.prog 26 #[.slice p l.length c, .slice q l.length d] w fun e w' => e = .returned (.bool true) ∧ ∃ n, w' = w.drewN n := by
  have H1 := Lib.hid h1
  have H2 := Lib.hid h2
  have hn0 : ((l.length : Int) == (l.length : Int)) = true := by simp
  have hn1 : ((l.length : Int) != (l.length : Int)) = false := by simp
  have h0 : (l.length : Int) ≤ 140737488355328 := by omega
  clear h1 h2
  go_enter Tryd.func26, Tryd.ntmps26
  go_wp2_with (fail)
  go_loopw [13] (fun v wr => ∃ k : Nat, v = .int .i64 (k : Int) ∧ k ≤ l.length ∧ ∃ n, wr = w.drewN n) (fun v _ => l.length - (intOf v).toNat)
  case atStart => exact ⟨0, rfl, Nat.zero_le _, 0, rfl⟩
  case round =>
    obtain ⟨k, rfl, hk1, n, rfl⟩ := hrel
    by_cases hlt : k < l.length
    · obtain ⟨b, off, rfl, hc⟩ := H1.out (by omega)
      have c1 := hc k hlt
      clear hc
      obtain ⟨b2, off2, rfl, hc⟩ := H2.out (by omega)
      have c2 := hc k hlt
      clear hc
      have g1 : (k : Int) < (l.length : Int) := by omega
      generalize l.getD k 0 = x at *
      have e1 : (x != x) = false := by simp
      go_wp2_with (fail)
      go_quiet (fail)
      go_wp2_with (fail)
      go_roundw
      case rel => exact ⟨k + 1, by go_num, by omega, _, rfl⟩
      case measure => simp [intOf]; omega
    · obtain rfl : k = l.length := by omega
      go_wp2_with (fail)
      go_ret
      exact ⟨rfl, _, rfl⟩
set_option maxRecDepth 100000 in
set_option maxHeartbeats 2000000 in
theorem docT_any (p : Option Addr) (c : Nat) (t : Tr) (w : World) : Calls Tryd.prog 11 #[TrV p c t] w fun e w' => e = .returned (TrV p c t) ∧ Below w.heap.size w w' := by
  have A1 := t_first w (.cells #[.slice p t.steps.length c, .bool t.attr, .string t.uri, .string t.loc] 26) (.cells #[.slice none 0 0, .bool false, .string ⟨#[]⟩, .string ⟨#[]⟩] 34)
  have A2 := t_two w (.cells #[.slice p t.steps.length c, .bool t.attr, .string t.uri, .string t.loc] 26) (.cells #[.slice none 0 0, .bool false, .string ⟨#[]⟩, .string ⟨#[]⟩] 34)
  obtain ⟨⟨a0, a1, a2, a3⟩, -⟩ := t_cells A1
  obtain ⟨⟨b0, b1, b2, b3⟩, ⟨f0, f1, f2, f3⟩⟩ := t_cells A2
  have A3 := t_two w (.cells #[.slice p t.steps.length c, .bool t.attr, .string t.uri, .string t.loc] 26) (.cells #[.slice p t.steps.length c, .bool t.attr, .string t.uri, .string t.loc] 34)
  have HR := Lib.hid (And.intro A3 (((Below.refl w.heap.size w).alloc (Nat.le_refl _) (.cells #[.slice p t.steps.length c, .bool t.attr, .string t.uri, .string t.loc] 26)).alloc (by simp) (.cells #[.slice p t.steps.length c, .bool t.attr, .string t.uri, .string t.loc] 34)))
  clear A1 A2 A3
  unfold TrV
  go_enter Tryd.func11, Tryd.ntmps11
  go_wp2_with (fail)
  refine bodyPost_ret (v := .agg #[.slice p t.steps.length c, .bool t.attr, .string t.uri, .string t.loc]) ?_ rfl ?_
  · exact results_cell_row rfl _ _ (w.heap.size + 1) _ _ _ _ (by go_simp) HR.out.1 Tryd.underlying34 rfl (by kernel_rfl)
  · exact ⟨rfl, HR.out.2⟩
set_option maxRecDepth 100000 in
set_option maxHeartbeats 2000000 in
theorem sameT_yes (p q : Option Addr) (c d : Nat) (t : Tr) (w : World) (h1 : TrAt w p c t) (h2 : TrAt w q d t) :
    Calls Tryd.prog 14 #[TrV p c t, TrV q d t] w fun e w' => e = .returned (.bool true) ∧ Below w.heap.size w w' := by
  have S := Lib.hid (fun W (y : Below w.heap.size w W) => sameInts_yes p q t.steps c d W h1.2.2 h1.2.1 h2.2.1 (h1.1.below y) (h2.1.below y))
  have g1 : (t.attr == t.attr) = true := by simp
  have g2 : (t.uri.toList == t.uri.toList) = true := by simp
  have g3 : (t.loc.toList == t.loc.toList) = true := by simp
  clear h1 h2
  unfold TrV
  go_enter Tryd.func14, Tryd.ntmps14
  go_wp2_with (fail)
  refine (S.out _ (((Below.refl _ _).alloc (Nat.le_refl _) _).alloc (by simp) _)).mono ?_
  rintro e w5 ⟨rfl, n, rfl⟩
  go_wp2_with (fail)
  go_ret
  exact ⟨rfl, t_cat (((Below.refl _ _).alloc (Nat.le_refl _) _).alloc (by simp) _) (t_drewN _ _)⟩
theorem showL_size {t : Tr} (h : rightT t = true) : (showL t).length ≤ 900 := by
  unfold rightT at h
  simp only [Bool.and_eq_true, decide_eq_true_eq] at h
  have h1 := stepsL_len t.steps h.1.2
  have h3 : (if t.attr = true then nameL t else []).length ≤ 250 := by
    cases ha : t.attr
    · simp
    · rw [ha] at h
      simp only [if_true, nameOk, Bool.and_eq_true, decide_eq_true_eq] at h
      have h4 := name_small h.2.1.1
      have h5 := h.2.1.2
      rw [if_pos rfl]
      unfold nameL spaceL
      split
      · simp only [List.length_cons, List.length_append, List.length_nil]; rw [ba_size]; omega
      · simp only [List.length_cons, List.length_append, List.length_nil]; rw [ba_size, ba_size]; omega
  unfold showL
  split
  · simp
  · rw [List.length_append]; omega
end Go.Proofs.YtpcdcndniibalaaDoor
