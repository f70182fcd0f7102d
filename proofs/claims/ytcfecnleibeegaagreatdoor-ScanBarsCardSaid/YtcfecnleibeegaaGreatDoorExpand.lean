/- Proved here: what refer's Expand answers at every number and any bytes: a fault of the argument, or just expF; what was there stays. -/
import Derived.Test.YtcfecnleibeegaaGreatDoorExpandA
import Derived.Test.YtcfecnleibeegaaGreatDoorExpandB
namespace Go.Proofs.YtcfecnleibeegaaGreatDoor
open Go.RowKit

set_option maxHeartbeats 1000000 in
theorem expand_out (p : Option Addr) (n cap : Nat) (at_ : Int) (w : World) (h : at_ < 0 ∨ (n : Int) ≤ at_) :
    Calls Tryz.prog 129 #[.slice p n cap, .int .i64 at_] w fun e w' => e = .returned (.tuple #[.int .i32 0, .int .i64 0, .int .i64 1]) ∧ w = w' := by
  go_enter Tryz.func129, Tryz.ntmps129
  rcases h with h | h
  · go_wp2_with (fail)
    all_goals first | (exfalso; omega) | (go_ret3; exact ⟨rfl, rfl⟩)
  · go_wp2_with (fail)
    all_goals first | (exfalso; omega) | (go_ret3; exact ⟨rfl, rfl⟩)
set_option maxHeartbeats 1000000 in
theorem expand_other (n b off cap at_ : Nat) (c : Int) (w : World) (hat : at_ < n) (hcell : w.cell? ⟨b, off + at_, none⟩ = some (.int .u8 c)) (hc : c ≠ 38) :
    Calls Tryz.prog 129 #[.slice (some ⟨b, off, none⟩) n cap, .int .i64 at_] w fun e w' => e = .returned (.tuple #[.int .i32 0, .int .i64 0, .int .i64 1]) ∧ w = w' := by
  have hz : (at_ : Int) < (n : Int) := by omega
  have hc' : (c == 38) = false := by rw [beq_eq_false_iff_ne]; exact hc
  go_enter Tryz.func129, Tryz.ntmps129
  go_wp2_with (fail)
  all_goals first | (exfalso; omega) | (go_ret3; exact ⟨rfl, rfl⟩)
set_option maxHeartbeats 1000000 in
theorem expand_num (s : ByteArray) (b off cap at_ : Nat) (w : World) (hs : s.size ≤ 140737488355000) (h38 : by_ s at_ = 38) (hlt : at_ + 1 < s.size) (h35 : by_ s (at_ + 1) = 35) (hp : ∀ j, j < s.size → w.cell? ⟨b, off + j, none⟩ = some (.int .u8 (by_ s j))) :
    Calls Tryz.prog 129 #[.slice (some ⟨b, off, none⟩) s.size cap, .int .i64 at_] w fun e w' => e = .returned (.tuple #[.int .i32 (numF s (at_ + 2)).1, .int .i64 (numF s (at_ + 2)).2.1, .int .i64 (numF s (at_ + 2)).2.2]) ∧ w = w' := by
  have hz : (at_ : Int) < (s.size : Int) := by omega
  have hz1 : (at_ : Int) + 1 < (s.size : Int) := by omega
  have c0 := hp at_ (by omega)
  have c1 := hp (at_ + 1) hlt
  rw [h38] at c0
  rw [h35] at c1
  have N := Lib.hid (numbered_any s b off cap (at_ + 2) w (by omega) (by omega) hp)
  clear hp h38 h35
  go_enter Tryz.func129, Tryz.ntmps129
  go_wp2_with (fail)
  refine N.out.mono ?_
  rintro e w' ⟨rfl, rfl⟩
  go_wp2_with (fail)
  go_ret3
  exact ⟨rfl, rfl⟩
theorem expand_in (s : ByteArray) (b off cap at_ : Nat) (w : World) (hs : s.size ≤ 140737488355000) (hcap : s.size ≤ cap) (hat : at_ < s.size) (h38 : by_ s at_ = 38) (hN : NamedAt w) (hp : ∀ j, j < s.size → w.cell? ⟨b, off + j, none⟩ = some (.int .u8 (by_ s j))) :
    Calls Tryz.prog 129 #[.slice (some ⟨b, off, none⟩) s.size cap, .int .i64 at_] w fun e w' => e = .returned (.tuple #[.int .i32 (expF s at_).1, .int .i64 (expF s at_).2.1, .int .i64 (expF s at_).2.2]) ∧ Below w.heap.size w w' := by
  by_cases hlt : at_ + 1 < s.size
  · by_cases h35 : by_ s (at_ + 1) = 35
    · have e : expF s at_ = numF s (at_ + 2) := by unfold expF; rw [if_pos ⟨hlt, h35⟩]
      rw [e]
      refine (expand_num s b off cap at_ w hs h38 hlt h35 hp).mono ?_
      rintro e w' ⟨rfl, rfl⟩
      exact ⟨rfl, Below.refl _ _⟩
    · have e : expF s at_ = namedGo s at_ 5 := by unfold expF; rw [if_neg (by rintro ⟨_, g⟩; exact h35 g)]
      rw [e]
      exact expand_a s b off cap at_ w hs hcap hat h38 _ hlt rfl h35 hN hp
  · have e : expF s at_ = namedGo s at_ 5 := by unfold expF; rw [if_neg (by rintro ⟨g, _⟩; exact hlt g)]
    rw [e]
    exact expand_b s b off cap at_ w hs hcap hat h38 hlt hN hp
end Go.Proofs.YtcfecnleibeegaaGreatDoor
