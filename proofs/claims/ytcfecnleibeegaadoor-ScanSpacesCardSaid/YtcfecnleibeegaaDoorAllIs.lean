/- Proved here: what scan.All answers of any bytes, in one form; of too many bytes, too. -/
import Derived.Test.YtcfecnleibeegaaDoorAwake3
import Derived.Test.YtcfecnleibeegaaDoorStandsKit
namespace Go.Proofs.YtcfecnleibeegaaDoor
open Go.RowKit

theorem bcell {W w1 : World} (hb : Below W.heap.size W w1) : (∀ b o, b < W.heap.size → w1.cell? ⟨b, o, none⟩ = W.cell? ⟨b, o, none⟩) ∧ (∀ b o, b < W.heap.size → w1.frozen? ⟨b, o, none⟩ = W.frozen? ⟨b, o, none⟩) :=
  ⟨fun b o h => hb.cell (p := ⟨b, o, none⟩) h, fun b o h => hb.frozen (p := ⟨b, o, none⟩) h⟩
set_option maxHeartbeats 1000000 in
/-- Of more bytes than may be the scanner tells that. -/
theorem all_long (p : Option Addr) (s : ByteArray) (c : Nat) (w : World) (hs : 65536 < s.size) (hz : s.size ≤ 1000000000000000) :
    Calls Tryd.prog 6 #[.slice p s.size c] w fun e w' => e = .returned (.tuple #[.slice none 0 0, .int .i64 0, .int .i64 6]) ∧ w = w' := by
  have g : (65536 : Int) < (s.size : Int) := by omega
  go_enter Tryd.func6, Tryd.ntmps6
  go_wp2_with (fail)
  go_ret3
  exact ⟨rfl, rfl⟩
/-- What All answers of any bytes, in one form: what stands in the slice, and how it ends. -/
def AllIs (w : World) (s : ByteArray) (q : Option Addr) (n c : Nat) (_k e0 : Int) (w' : World) : Prop := (∃ l, allF s = .ok l ∧ e0 = 0 ∧ n = l.length ∧ TokL w' w.heap.size (.slice q n c) l) ∨ (e0 ≠ 0 ∧ ∃ k' e', allF s = .error (k', e'))
theorem all_is (p : Option Addr) (s : ByteArray) (c : Nat) (w : World) (hs : s.size ≤ 1000000000000000) (hc : s.size ≤ c) (hp : HoldsB w p s) (hL : Leans w) :
    Calls Tryd.prog 6 #[.slice p s.size c] w fun e w' => ∃ q n c k e0, e = .returned (.tuple #[.slice q n c, .int .i64 k, .int .i64 e0]) ∧ AllIs w s q n c k e0 w' ∧ Below w.heap.size w w' := by
  by_cases hb : s.size ≤ 140737488355328
  · refine (all_any p s c w hb hc hp hL.tabs hL.named hL.max hL.fold).mono ?_
    rintro e w' ⟨h, hbe⟩
    cases hr : allF s with
    | error ke =>
      obtain ⟨k, e0⟩ := ke
      rw [hr] at h
      have := (all_err hr).1
      exact ⟨none, 0, 0, k, e0, h, .inr ⟨by omega, k, e0, hr⟩, hbe⟩
    | ok l =>
      rw [hr] at h
      obtain ⟨v, h1, h2⟩ := h
      obtain ⟨q, c2, hv⟩ := h2.form2
      subst hv
      exact ⟨q, _, c2, 0, 0, h1, .inl ⟨l, hr, rfl, rfl, h2⟩, hbe⟩
  · refine (all_long p s c w (by omega) hs).mono ?_
    rintro e w' ⟨h, hw⟩
    subst hw
    exact ⟨none, 0, 0, 0, 6, h, .inr ⟨by omega, 0, 6, by unfold allF; rw [if_pos (by omega)]⟩, Below.refl _ _⟩
end Go.Proofs.YtcfecnleibeegaaDoor
