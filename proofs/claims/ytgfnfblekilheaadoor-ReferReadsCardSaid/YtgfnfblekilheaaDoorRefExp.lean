/- Proved here: what the document's Expand answers within any bytes where an ampersand stands: just expF, as refer's does; the world stays as it was. -/
import Derived.Test.YtgfnfblekilheaaDoorRefNumX
import Derived.Test.YtgfnfblekilheaaDoorRefNumTen
import Derived.Test.YtgfnfblekilheaaDoorRefNumEnd
namespace Go.Proofs.YtgfnfblekilheaaDoor
open Go.RowKit

/-- No word begins with a number sign. -/
theorem hash_none (s : ByteArray) (a : Nat) (h : a < s.size) (h35 : by_ s a = 35) : ∀ m, wordGo s a m = (0, 0)
  | 0 => rfl
  | m + 1 => by
    have hb : wB s a (4 - m) = false := by
      rw [wB_eq]
      unfold Lib.hasPrefix
      rw [drop_at s a h, get_of_by (n := 35) (by decide) h35]
      match 4 - m with
      | 0 => rfl
      | 1 => rfl
      | 2 => rfl
      | 3 => rfl
      | _ + 4 => rfl
    rw [wordGo_no s a m hb]
    exact hash_none s a h h35 m
theorem refexp_in (s : ByteArray) (b off cap at_ : Nat) (w : World) (hs : s.size ≤ 140737488355000) (hcap : s.size ≤ cap) (hat : at_ < s.size) (h38 : by_ s at_ = 38) (hp : ∀ j, j < s.size → w.cell? ⟨b, off + j, none⟩ = some (.int .u8 (by_ s j))) :
    Calls Tryd.prog 12 #[.slice (some ⟨b, off, none⟩) s.size cap, .int .i64 at_] w fun e w' => e = .returned (.tuple #[.int .i64 (expF s at_).1, .int .i64 (expF s at_).2.1, .int .i64 (expF s at_).2.2]) ∧ w = w' := by
  by_cases h35 : at_ + 1 < s.size ∧ by_ s (at_ + 1) = 35
  · have hw : wordGo s (at_ + 1) 5 = (0, 0) := hash_none s (at_ + 1) h35.1 h35.2 5
    have e : expF s at_ = numF s (at_ + 2) := by unfold expF; rw [if_pos h35]
    rw [e]
    by_cases hlt : at_ + 2 < s.size
    · by_cases hx : by_ s (at_ + 2) = 120
      · have e2 : numF s (at_ + 2) = numOut s (at_ + 2 + 1) (numGo s 16 s.size (at_ + 2 + 1) 0) := by unfold numF; rw [if_pos ⟨hlt, hx⟩]
        rw [e2]
        exact refnum_x s b off cap at_ w hs hcap h35.1 hw h35.2 hlt hx hp
      · have e2 : numF s (at_ + 2) = numOut s (at_ + 2) (numGo s 10 s.size (at_ + 2) 0) := by unfold numF; rw [if_neg (by rintro ⟨_, g⟩; exact hx g)]
        rw [e2]
        exact refnum_ten s b off cap at_ w hs hcap h35.1 hw h35.2 hlt hx hp
    · have e2 : numF s (at_ + 2) = numOut s (at_ + 2) (numGo s 10 s.size (at_ + 2) 0) := by unfold numF; rw [if_neg (by rintro ⟨g, _⟩; exact hlt g)]
      rw [e2]
      exact refnum_end s b off cap at_ w hs hcap h35.1 hw h35.2 hlt hp
  · have e : expF s at_ = namedGo s at_ 5 := by unfold expF; rw [if_neg h35]
    rw [e]
    rcases word_named s at_ hat h38 5 with ⟨h1, h2⟩ | ⟨h1, h2⟩
    · rw [h2]
      exact refexp_none s b off cap at_ w hs hcap hat h1 h35 hp
    · rw [h2]
      exact refexp_word s b off cap at_ _ _ w hs hcap hat rfl h1 hp
end Go.Proofs.YtgfnfblekilheaaDoor
