/- Proved here: plain steps of the document's Expand: its number is held at another bound than refer's, and comes to the same; and what it answers where a word stands, or no number sign. -/
import Derived.Test.YtgfnfblekilheaaDoorWord
import Derived.Test.YtgfnfblekilheaaDoorNumbered
import Derived.BigGuardPart
namespace Go.Proofs.YtgfnfblekilheaaDoor
open Go.RowKit

theorem ret_tri64 {A : Int × Int × Int} {x y z : Int} (h : A = (x, y, z)) : Ending.returned (.tuple #[.int .i64 x, .int .i64 y, .int .i64 z]) = .returned (.tuple #[.int .i64 A.1, .int .i64 A.2.1, .int .i64 A.2.2]) := by rw [h]
theorem charB_min (r : Nat) : charB ((min r 1114112 : Nat) : Int) = charB (r : Int) := by
  unfold charB
  rw [Bool.eq_iff_iff, decide_eq_true_eq, decide_eq_true_eq]
  omega
/-- Where the document's loop stands. -/
def RefNumRel (s : ByteArray) (base first : Nat) (ANS : Nat × Nat) (a i c : Value) : Prop := ∃ k pos r : Nat, a = .int .i64 pos ∧ i = .int .i64 r ∧ c = .int .i64 ((pos : Int) - (first : Int)) ∧ numGo s base k pos (min r 1114112) = ANS ∧ s.size ≤ pos + k ∧ first ≤ pos ∧ pos ≤ s.size ∧ r ≤ 33554447
theorem out_min (s : ByteArray) (first r pos : Nat) (h1 : ¬ pos = first) (h2 : ¬ pos = s.size) (h3 : by_ s pos = 59) (hc : charB (r : Int) = true) : numOut s first (min r 1114112, pos) = ((r : Int), (pos : Int) + 1, 0) := by
  have hm : min r 1114112 = r := by
    have : charB (r : Int) = true := hc
    unfold charB at this
    have := of_decide_eq_true this
    omega
  rw [hm]
  exact numOut_ok s first r pos h1 h2 h3 hc
theorem out_min21 (s : ByteArray) (first r pos : Nat) (h1 : ¬ pos = first) (h2 : ¬ pos = s.size) (h3 : by_ s pos = 59) (hc : charB (r : Int) = false) : numOut s first (min r 1114112, pos) = (0, 0, 21) :=
  numOut_21 s first _ pos h1 h2 h3 (by rw [charB_min]; exact hc)
set_option maxHeartbeats 1000000 in
theorem refexp_word (s : ByteArray) (b off cap at_ : Nat) (c n : Int) (w : World) (hs : s.size ≤ 140737488355000) (hcap : s.size ≤ cap) (hat : at_ < s.size) (hw : wordGo s (at_ + 1) 5 = (c, n)) (hn : 0 < n) (hp : ∀ j, j < s.size → w.cell? ⟨b, off + j, none⟩ = some (.int .u8 (by_ s j))) :
    Calls Tryd.prog 12 #[.slice (some ⟨b, off, none⟩) s.size cap, .int .i64 at_] w fun e w' => e = .returned (.tuple #[.int .i64 c, .int .i64 n, .int .i64 0]) ∧ w = w' := by
  have hz : (at_ : Int) < (s.size : Int) := by omega
  have W := Lib.hid (word_some s b off cap (at_ + 1) w hs hcap (by omega) hp)
  rw [hw] at W
  clear hw hp
  go_enter Tryd.func12, Tryd.ntmps12
  go_wp2_with (fail)
  refine W.out.mono ?_
  rintro e w' ⟨rfl, rfl⟩
  go_wp2_with (fail)
  go_ret3
  exact ⟨rfl, rfl⟩
set_option maxHeartbeats 1000000 in
theorem refexp_none (s : ByteArray) (b off cap at_ : Nat) (w : World) (hs : s.size ≤ 140737488355000) (hcap : s.size ≤ cap) (hat : at_ < s.size) (hw : wordGo s (at_ + 1) 5 = (0, 0)) (h35 : ¬ (at_ + 1 < s.size ∧ by_ s (at_ + 1) = 35)) (hp : ∀ j, j < s.size → w.cell? ⟨b, off + j, none⟩ = some (.int .u8 (by_ s j))) :
    Calls Tryd.prog 12 #[.slice (some ⟨b, off, none⟩) s.size cap, .int .i64 at_] w fun e w' => e = .returned (.tuple #[.int .i64 0, .int .i64 0, .int .i64 22]) ∧ w = w' := by
  have hz : (at_ : Int) < (s.size : Int) := by omega
  have W := Lib.hid (word_some s b off cap (at_ + 1) w hs hcap (by omega) hp)
  rw [hw] at W
  by_cases hlt : at_ + 1 < s.size
  · have hz1 : (at_ : Int) + 1 < (s.size : Int) := by omega
    have c1 := hp (at_ + 1) hlt
    obtain ⟨c, hc⟩ : ∃ c, by_ s (at_ + 1) = c := ⟨_, rfl⟩
    rw [hc] at c1 h35
    have f35 : (c == 35) = false := by rw [beq_eq_false_iff_ne]; exact fun e => h35 ⟨hlt, e⟩
    clear hw hp hc h35
    go_enter Tryd.func12, Tryd.ntmps12
    go_wp2_with (fail)
    refine W.out.mono ?_
    rintro e w' ⟨rfl, rfl⟩
    go_wp2_with (fail)
    all_goals try (exfalso; omega)
    go_ret3
    exact ⟨rfl, rfl⟩
  · have hz1 : ¬ (at_ : Int) + 1 < (s.size : Int) := by omega
    clear hw hp h35 hlt
    go_enter Tryd.func12, Tryd.ntmps12
    go_wp2_with (fail)
    refine W.out.mono ?_
    rintro e w' ⟨rfl, rfl⟩
    go_wp2_with (fail)
    all_goals try (exfalso; omega)
    go_ret3
    exact ⟨rfl, rfl⟩
end Go.Proofs.YtgfnfblekilheaaDoor
