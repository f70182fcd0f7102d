/- Proved here: how lists of numbers and trails lie in memory; what two trails' steps say of their order. -/
import Derived.Test.YtaiiigknlnhdgaaOrdPlain
import Derived.Test.YtaiiigknlnhdgaaProg
import Derived.WalkKit
import Derived.BigGuardPart
import Derived.Below
import Derived.Lib.Hide
namespace Go.Proofs.Ytaiiigknlnhdgaa
open Go.RowKit

theorem t_cat {a b c : World} (h : Below a.heap.size a b) (k : Below b.heap.size b c) : Below a.heap.size a c := h.trans (k.mono h.size)
theorem t_cell {w W : World} {a : Addr} {v : Value} (h : Below w.heap.size w W) (hc : w.cell? a = some v) : W.cell? a = some v := by
  exact (h.cell (World.block_lt_of_cell? _ _ hc)).trans hc
/-- These numbers stand behind this address (nothing is asked of none). -/
def HoldsI (w : World) (p : Option Addr) (l : List Int) : Prop := 0 < l.length → ∃ b off, p = some ⟨b, off, none⟩ ∧ ∀ j, j < l.length → w.cell? ⟨b, off + j, none⟩ = some (.int .i64 (l.getD j 0))
theorem HoldsI.below {w W : World} {p : Option Addr} {l : List Int} (h : HoldsI w p l) (hb : Below w.heap.size w W) : HoldsI W p l := fun h0 => by
  obtain ⟨b, off, e, hc⟩ := h h0
  exact ⟨b, off, e, fun j hj => t_cell hb (hc j hj)⟩
theorem HoldsI.take {w : World} {p : Option Addr} {l : List Int} (h : HoldsI w p l) (n : Nat) : HoldsI w p (l.take n) := fun h0 => by
  rw [List.length_take] at h0
  obtain ⟨b, off, e, hc⟩ := h (by omega)
  refine ⟨b, off, e, fun j hj => ?_⟩
  rw [List.length_take] at hj
  rw [hc j (by omega)]
  simp [show j < n by omega]
theorem ret_i {k : IntKind} {a b : Int} (h : a = b) : Ending.returned (.int k a) = .returned (.int k b) := by rw [h]
theorem ret_b {a b : Bool} (h : a = b) : Ending.returned (.bool a) = .returned (.bool b) := by rw [h]

theorem drop_getD {l : List Int} {k : Nat} (h : k < l.length) : l.drop k = l.getD k 0 :: l.drop (k + 1) := by
  rw [List.drop_eq_getElem_cons h]
  simp [List.getD, List.getElem?_eq_getElem h]
theorem cmpN_step (a b : Int) (l m : List Int) : cmpN (a :: l) (b :: m) = lexI (cmpI a b) (cmpN l m) := rfl
theorem cmpN_at {l m : List Int} {k : Nat} (h1 : k < l.length) (h2 : k < m.length) : cmpN (l.drop k) (m.drop k) = lexI (cmpI (l.getD k 0) (m.getD k 0)) (cmpN (l.drop (k + 1)) (m.drop (k + 1))) := by
  rw [drop_getD h1, drop_getD h2, cmpN_step]
theorem cmpN_end {l m : List Int} {k : Nat} (h1 : ¬ k < l.length) : cmpN (l.drop k) (m.drop k) = if k < m.length then -1 else 0 := by
  rw [List.drop_eq_nil_of_le (by omega)]
  by_cases h : k < m.length
  · rw [drop_getD h, if_pos h]; rfl
  · rw [List.drop_eq_nil_of_le (by omega), if_neg h]; rfl
theorem cmpN_over {l m : List Int} {k : Nat} (h1 : k < l.length) (h2 : ¬ k < m.length) : cmpN (l.drop k) (m.drop k) = 1 := by
  have e : m.drop k = [] := List.drop_eq_nil_of_le (by omega)
  rw [drop_getD h1, e]; rfl

theorem isNaN_any (x : Int) (w : World) : Calls Try.prog 66 #[.int .i64 x] w fun e w' => e = .returned (.bool false) ∧ w = w' := by
  go_enter Try.func66, Try.ntmps66
  go_wp2_with (fail)
  go_ret
  exact ⟨ret_b (by simp), rfl⟩
theorem cmpInt_any (x y : Int) (w : World) : Calls Try.prog 58 #[.int .i64 x, .int .i64 y] w fun e w' => e = .returned (.int .i64 (cmpI x y)) ∧ w = w' := by
  by_cases h1 : x < y
  · go_enter Try.func58, Try.ntmps58
    go_wp2_with (go_at_call 66; refine (isNaN_any _ _).mono ?_; rintro e w' ⟨rfl, rfl⟩)
    go_ret
    exact ⟨ret_i (by unfold cmpI; rw [if_pos (by omega)]), rfl⟩
  · by_cases h2 : y < x
    · go_enter Try.func58, Try.ntmps58
      go_wp2_with (go_at_call 66; refine (isNaN_any _ _).mono ?_; rintro e w' ⟨rfl, rfl⟩)
      go_ret
      exact ⟨ret_i (by unfold cmpI; rw [if_neg (by omega), if_pos (by omega)]), rfl⟩
    · go_enter Try.func58, Try.ntmps58
      go_wp2_with (go_at_call 66; refine (isNaN_any _ _).mono ?_; rintro e w' ⟨rfl, rfl⟩)
      go_ret
      exact ⟨ret_i (by unfold cmpI; rw [if_neg (by omega), if_neg (by omega)]), rfl⟩

set_option maxHeartbeats 1000000 in
theorem cmpList_any (p q : Option Addr) (l m : List Int) (c d : Nat) (w : World) (hl : l.length ≤ 140737488355328) (hm : m.length ≤ 140737488355328) (_hlc : l.length ≤ c) (_hmd : m.length ≤ d) (h1 : HoldsI w p l) (h2 : HoldsI w q m) :
    Calls Try.prog 41 #[.slice p l.length c, .slice q m.length d] w fun e w' => e = .returned (.int .i64 (cmpN l m)) ∧ w = w' := by
  obtain ⟨ANS, hA⟩ : ∃ ANS, cmpN l m = ANS := ⟨_, rfl⟩
  rw [hA]
  have HA := Lib.hid hA
  have H1 := Lib.hid h1
  have H2 := Lib.hid h2
  clear hA h1 h2
  go_enter Try.func41, Try.ntmps41
  go_wp2_with (fail)
  go_loop [11] (fun v => ∃ k : Nat, v = .int .i64 (k : Int) ∧ k ≤ l.length ∧ k ≤ m.length ∧ Hid (cmpN (l.drop k) (m.drop k) = ANS)) (fun v => l.length - (intOf v).toNat)
  case atStart => exact ⟨0, rfl, Nat.zero_le _, Nat.zero_le _, HA⟩
  case round =>
    obtain ⟨k, rfl, hk1, hk2, HK⟩ := hrel
    by_cases hlt : k < l.length
    · obtain ⟨b, off, rfl, hc⟩ := H1.out (by omega)
      have c1 := hc k hlt
      clear hc
      by_cases hmt : k < m.length
      · obtain ⟨b2, off2, rfl, hc⟩ := H2.out (by omega)
        have c2 := hc k hmt
        clear hc
        rw [cmpN_at hlt hmt] at HK
        generalize l.getD k 0 = x at *
        generalize m.getD k 0 = y at *
        have HC := Lib.hid (fun W => cmpInt_any x y W)
        by_cases h0 : cmpI x y = 0
        · have H0 : (cmpI x y == 0) = true := by rw [h0]; rfl
          unfold lexI at HK
          rw [if_pos h0] at HK
          clear h0
          generalize cmpI x y = z at *
          go_wp2_with (go_at_call 58; refine (HC.out _).mono ?_; rintro e w' ⟨rfl, rfl⟩)
          go_round
          case rel => exact ⟨k + 1, by go_num, by omega, by omega, HK⟩
          case measure => simp [intOf]; omega
        · have H0 : (cmpI x y == 0) = false := by rw [beq_eq_false_iff_ne]; exact h0
          have H00 : (cmpI x y != 0) = true := by rw [bne_iff_ne]; exact h0
          unfold lexI at HK
          rw [if_neg h0] at HK
          clear h0
          generalize cmpI x y = z at *
          go_wp2_with (go_at_call 58; refine (HC.out _).mono ?_; rintro e w' ⟨rfl, rfl⟩)
          go_ret
          exact ⟨ret_i HK.out, rfl⟩
      · rw [cmpN_over hlt hmt] at HK
        go_wp2_with (fail)
        go_ret
        exact ⟨ret_i HK.out, rfl⟩
    · rw [cmpN_end hlt] at HK
      obtain rfl : k = l.length := by omega
      by_cases hmt : l.length < m.length
      · rw [if_pos hmt] at HK
        go_wp2_with (fail)
        go_ret
        exact ⟨ret_i HK.out, rfl⟩
      · rw [if_neg hmt] at HK
        go_wp2_with (fail)
        go_ret
        exact ⟨ret_i HK.out, rfl⟩
end Go.Proofs.Ytaiiigknlnhdgaa
