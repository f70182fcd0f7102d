/- Proved here: what the document's Expand answers where nothing stands behind a number sign: just expF; the world stays as it was. -/
import Derived.Test.YtgfnfblekilheaaDoorRefExpKit
namespace Go.Proofs.YtgfnfblekilheaaDoor
open Go.RowKit

set_option maxHeartbeats 8000000 in
set_option maxRecDepth 100000 in
theorem refnum_end (s : ByteArray) (b off cap at_ : Nat) (w : World) (hs : s.size ≤ 140737488355000) (hcap : s.size ≤ cap) (hlt1 : at_ + 1 < s.size) (hw : wordGo s (at_ + 1) 5 = (0, 0)) (h35 : by_ s (at_ + 1) = 35) (hlt0 : ¬ at_ + 2 < s.size) (hp : ∀ j, j < s.size → w.cell? ⟨b, off + j, none⟩ = some (.int .u8 (by_ s j))) :
    Calls Tryd.prog 12 #[.slice (some ⟨b, off, none⟩) s.size cap, .int .i64 at_] w fun e w' => e = .returned (.tuple #[.int .i64 (numOut s (at_ + 2) (numGo s 10 s.size (at_ + 2) 0)).1, .int .i64 (numOut s (at_ + 2) (numGo s 10 s.size (at_ + 2) 0)).2.1, .int .i64 (numOut s (at_ + 2) (numGo s 10 s.size (at_ + 2) 0)).2.2]) ∧ w = w' := by
  obtain ⟨ANS, hA⟩ : ∃ A, numGo s 10 s.size (at_ + 2) 0 = A := ⟨_, rfl⟩
  rw [hA]
  have HA := Lib.hid hA
  have HP := Lib.hid hp
  have hz : (at_ : Int) < (s.size : Int) := by omega
  have hz1 : (at_ : Int) + 1 < (s.size : Int) := by omega
  have c1 := hp (at_ + 1) hlt1
  rw [h35] at c1
  have W := Lib.hid (word_some s b off cap (at_ + 1) w hs hcap (by omega) hp)
  rw [hw] at W
  have hlz0 : ¬ (at_ : Int) + 2 < (s.size : Int) := by omega
  clear hA hp hw h35
  go_enter Tryd.func12, Tryd.ntmps12
  go_wp2_with (fail)
  refine W.out.mono ?_
  rintro e w' ⟨rfl, rfl⟩
  go_wp2_with (fail)
  all_goals try (exfalso; omega)
  go_loop [9, 11, 12] (fun a i c => RefNumRel s 10 ((at_ + 2)) ANS a i c) (fun a _ _ => s.size - (intOf a).toNat)
  case atStart => exact ⟨s.size, (at_ + 2), 0, by go_num, rfl, by go_num, HA.out, by omega, Nat.le_refl _, by omega, by omega⟩
  case round =>
    obtain ⟨k, pos, r, rfl, rfl, rfl, hgo, hk, hfirst, hpos, hr⟩ := hrel
    have G := Lib.hid hgo
    clear hgo
    by_cases hlt : pos < s.size
    · exfalso; omega
    · have hans := Lib.hid ((numGo_end s 10 k pos (min r 1114112) (by rintro ⟨h, _⟩; exact hlt h)).symm.trans G.out)
      have hO := Lib.hid (numOut_22 s ((at_ + 2)) (min r 1114112) pos (.inr (.inl (by omega))))
      have hz2 : ¬ (pos : Int) < (s.size : Int) := by omega
      clear G hlt
      go_wp2_with (fail)
      all_goals try (exfalso; omega)
      all_goals (go_ret3; exact ⟨ret_tri64 (by rw [← hans.out]; exact hO.out), rfl⟩)
end Go.Proofs.YtgfnfblekilheaaDoor
