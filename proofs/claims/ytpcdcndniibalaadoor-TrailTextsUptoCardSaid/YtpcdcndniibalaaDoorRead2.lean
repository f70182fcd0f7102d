/- Proved here: what the document's Read answers at a place where one byte, two bytes or nothing begins, in numbers. -/
import Derived.Test.YtpcdcndniibalaaDoorProg
import Derived.Test.YtpcdcndniibalaaDoorReadPlain
import Derived.WalkKit
import Derived.BigGuardPart
import Derived.Lib.Hide
import Derived.Deep.Light
namespace Go.Proofs.YtpcdcndniibalaaDoor
open Go.RowKit

theorem ret_ii2 {k l : IntKind} {a b c d : Int} (h : a = c ∧ b = d) : Ending.returned (.tuple #[.int k a, .int l b]) = .returned (.tuple #[.int k c, .int l d]) := by rw [h.1, h.2]
set_option maxHeartbeats 2000000 in
set_option maxRecDepth 100000 in
theorem read_zero (n b off cap at_ : Nat) (y0 r k : Int) (w : World) (hat : at_ < n) (c0 : w.cell? ⟨b, off + at_, none⟩ = some (.int .u8 y0)) (b0 : 0 ≤ y0) (b1 : y0 < 256)
    (h : (y0 < 128 ∧ r = y0 ∧ k = 1) ∨ (((128 ≤ y0 ∧ y0 < 192) ∨ 248 ≤ y0) ∧ r = 0 ∧ k = 0)) :
    Calls Tryd.prog 42 #[.slice (some ⟨b, off, none⟩) n cap, .int .i64 (at_ : Int)] w fun e w' => e = .returned (.tuple #[.int .i64 r, .int .i64 k]) ∧ w = w' := by
  rcases h with ⟨h1, h2⟩ | ⟨h1 | h1, h2⟩
  · have H := Lib.hid h2
    clear h2
    go_enter Tryd.func42, Tryd.ntmps42
    go_wp2
    all_goals first | (exfalso; omega) | (go_ret2; exact ⟨ret_ii2 (by have := H.out; omega), rfl⟩)
  · have H := Lib.hid h2
    clear h2
    obtain ⟨h1, h1'⟩ := h1
    go_enter Tryd.func42, Tryd.ntmps42
    go_wp2
    all_goals first | (exfalso; omega) | (go_ret2; exact ⟨ret_ii2 (by have := H.out; omega), rfl⟩)
  · have H := Lib.hid h2
    clear h2
    go_enter Tryd.func42, Tryd.ntmps42
    go_wp2
    all_goals first | (exfalso; omega) | (go_ret2; exact ⟨ret_ii2 (by have := H.out; omega), rfl⟩)

def Res2 (n at_ : Nat) (y0 y1 r k : Int) : Prop := ((n < at_ + 2 ∨ y1 < 128 ∨ 191 < y1 ∨ (64 * (y0 - 192) + y1 - 128) < 128) ∧ r = 0 ∧ k = 0) ∨ (¬ (n < at_ + 2 ∨ y1 < 128 ∨ 191 < y1 ∨ (64 * (y0 - 192) + y1 - 128) < 128) ∧ r = (64 * (y0 - 192) + y1 - 128) ∧ k = 2)
def Rel2 (y0 y1 : Int) (q i : Value) : Prop := (i = .int .i64 1 ∧ q = .int .i64 (y0 - 192)) ∨ (i = .int .i64 2 ∧ q = .int .i64 (64 * (y0 - 192) + y1 - 128) ∧ 128 ≤ y1 ∧ y1 ≤ 191)
set_option maxHeartbeats 2000000 in
set_option maxRecDepth 100000 in
theorem read_2 (n b off cap at_ : Nat) (y0 y1 r k : Int) (w : World) (hn : n ≤ 140737488355328) (hat : at_ < n) (c0 : w.cell? ⟨b, off + at_, none⟩ = some (.int .u8 y0)) (b0 : 192 ≤ y0) (b1 : y0 < 224) (c1 : at_ + 1 < n → w.cell? ⟨b, off + (at_ + 1), none⟩ = some (.int .u8 y1)) (p1 : 0 ≤ y1) (q1 : y1 < 256) (h : Res2 n at_ y0 y1 r k) :
    Calls Tryd.prog 42 #[.slice (some ⟨b, off, none⟩) n cap, .int .i64 (at_ : Int)] w fun e w' => e = .returned (.tuple #[.int .i64 r, .int .i64 k]) ∧ w = w' := by
  have H := Lib.hid h
  clear h
  by_cases hs : n < at_ + 2
  · have hs' : (n : Int) < (at_ : Int) + 2 := by omega
    clear c1
    go_enter Tryd.func42, Tryd.ntmps42
    go_wp2
    all_goals first | (exfalso; omega) | (go_ret2; exact ⟨ret_ii2 (by have := H.out; unfold Res2 at this; omega), rfl⟩)
  · have hs' : (at_ : Int) + 2 ≤ (n : Int) := by omega
    have d1 := c1 (by omega)
    clear c1
    go_enter Tryd.func42, Tryd.ntmps42
    go_wp2
    go_loop [8, 10] (Rel2 y0 y1) (fun _ i => (2 - intOf i).toNat)
    case atStart => exact Or.inl ⟨rfl, rfl⟩
    case round =>
      rcases hrel with ⟨rfl, rfl⟩ | ⟨rfl, rfl, k1, l1⟩
      · by_cases g1 : 128 ≤ y1
        · by_cases g2 : y1 ≤ 191
          · go_wp2
            go_round
            case rel =>
              go_light
              unfold Rel2
              exact Or.inr (⟨rfl, rfl, g1, g2⟩)
            case measure => simp [intOf]
          · go_wp2
            all_goals first | (exfalso; omega) | (go_ret2; exact ⟨ret_ii2 (by have := H.out; unfold Res2 at this; omega), rfl⟩)
        · go_wp2
          all_goals first | (exfalso; omega) | (go_ret2; exact ⟨ret_ii2 (by have := H.out; unfold Res2 at this; omega), rfl⟩)
      · go_wp2
        all_goals first | (exfalso; omega) | (go_ret2; exact ⟨ret_ii2 (by have := H.out; unfold Res2 at this; omega), rfl⟩)

end Go.Proofs.YtpcdcndniibalaaDoor
