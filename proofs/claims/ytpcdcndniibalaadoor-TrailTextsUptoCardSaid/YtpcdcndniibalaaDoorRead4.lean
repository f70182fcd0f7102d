/- Proved here: what the document's Read answers at a place where a character of four bytes begins, in numbers. -/
import Derived.Test.YtpcdcndniibalaaDoorProg
import Derived.Test.YtpcdcndniibalaaDoorReadPlain
import Derived.WalkKit
import Derived.BigGuardPart
import Derived.Lib.Hide
import Derived.Deep.Light
namespace Go.Proofs.YtpcdcndniibalaaDoor
open Go.RowKit

theorem ret_ii4 {k l : IntKind} {a b c d : Int} (h : a = c ∧ b = d) : Ending.returned (.tuple #[.int k a, .int l b]) = .returned (.tuple #[.int k c, .int l d]) := by rw [h.1, h.2]

def Res4 (n at_ : Nat) (y0 y1 y2 y3 r k : Int) : Prop := ((n < at_ + 4 ∨ y1 < 128 ∨ 191 < y1 ∨ y2 < 128 ∨ 191 < y2 ∨ y3 < 128 ∨ 191 < y3 ∨ (64 * (64 * (64 * (y0 - 240) + y1 - 128) + y2 - 128) + y3 - 128) < 65536 ∨ 1114111 < (64 * (64 * (64 * (y0 - 240) + y1 - 128) + y2 - 128) + y3 - 128) ∨ (55296 ≤ (64 * (64 * (64 * (y0 - 240) + y1 - 128) + y2 - 128) + y3 - 128) ∧ (64 * (64 * (64 * (y0 - 240) + y1 - 128) + y2 - 128) + y3 - 128) ≤ 57343)) ∧ r = 0 ∧ k = 0) ∨ (¬ (n < at_ + 4 ∨ y1 < 128 ∨ 191 < y1 ∨ y2 < 128 ∨ 191 < y2 ∨ y3 < 128 ∨ 191 < y3 ∨ (64 * (64 * (64 * (y0 - 240) + y1 - 128) + y2 - 128) + y3 - 128) < 65536 ∨ 1114111 < (64 * (64 * (64 * (y0 - 240) + y1 - 128) + y2 - 128) + y3 - 128) ∨ (55296 ≤ (64 * (64 * (64 * (y0 - 240) + y1 - 128) + y2 - 128) + y3 - 128) ∧ (64 * (64 * (64 * (y0 - 240) + y1 - 128) + y2 - 128) + y3 - 128) ≤ 57343)) ∧ r = (64 * (64 * (64 * (y0 - 240) + y1 - 128) + y2 - 128) + y3 - 128) ∧ k = 4)
def Rel4 (y0 y1 y2 y3 : Int) (q i : Value) : Prop := (i = .int .i64 1 ∧ q = .int .i64 (y0 - 240)) ∨ (i = .int .i64 2 ∧ q = .int .i64 (64 * (y0 - 240) + y1 - 128) ∧ 128 ≤ y1 ∧ y1 ≤ 191) ∨ (i = .int .i64 3 ∧ q = .int .i64 (64 * (64 * (y0 - 240) + y1 - 128) + y2 - 128) ∧ 128 ≤ y1 ∧ y1 ≤ 191 ∧ 128 ≤ y2 ∧ y2 ≤ 191) ∨ (i = .int .i64 4 ∧ q = .int .i64 (64 * (64 * (64 * (y0 - 240) + y1 - 128) + y2 - 128) + y3 - 128) ∧ 128 ≤ y1 ∧ y1 ≤ 191 ∧ 128 ≤ y2 ∧ y2 ≤ 191 ∧ 128 ≤ y3 ∧ y3 ≤ 191)
set_option maxHeartbeats 2000000 in
set_option maxRecDepth 100000 in
theorem read_4 (n b off cap at_ : Nat) (y0 y1 y2 y3 r k : Int) (w : World) (hn : n ≤ 140737488355328) (hat : at_ < n) (c0 : w.cell? ⟨b, off + at_, none⟩ = some (.int .u8 y0)) (b0 : 240 ≤ y0) (b1 : y0 < 248) (c1 : at_ + 1 < n → w.cell? ⟨b, off + (at_ + 1), none⟩ = some (.int .u8 y1)) (c2 : at_ + 2 < n → w.cell? ⟨b, off + (at_ + 2), none⟩ = some (.int .u8 y2)) (c3 : at_ + 3 < n → w.cell? ⟨b, off + (at_ + 3), none⟩ = some (.int .u8 y3)) (p1 : 0 ≤ y1) (q1 : y1 < 256) (p2 : 0 ≤ y2) (q2 : y2 < 256) (p3 : 0 ≤ y3) (q3 : y3 < 256) (h : Res4 n at_ y0 y1 y2 y3 r k) :
    Calls Tryd.prog 42 #[.slice (some ⟨b, off, none⟩) n cap, .int .i64 (at_ : Int)] w fun e w' => e = .returned (.tuple #[.int .i64 r, .int .i64 k]) ∧ w = w' := by
  have H := Lib.hid h
  clear h
  by_cases hs : n < at_ + 4
  · have hs' : (n : Int) < (at_ : Int) + 4 := by omega
    clear c1 c2 c3
    go_enter Tryd.func42, Tryd.ntmps42
    go_wp2
    all_goals first | (exfalso; omega) | (go_ret2; exact ⟨ret_ii4 (by have := H.out; unfold Res4 at this; omega), rfl⟩)
  · have hs' : (at_ : Int) + 4 ≤ (n : Int) := by omega
    have d1 := c1 (by omega)
    have d2 := c2 (by omega)
    have d3 := c3 (by omega)
    clear c1 c2 c3
    go_enter Tryd.func42, Tryd.ntmps42
    go_wp2
    go_loop [8, 10] (Rel4 y0 y1 y2 y3) (fun _ i => (4 - intOf i).toNat)
    case atStart => exact Or.inl ⟨rfl, rfl⟩
    case round =>
      rcases hrel with ⟨rfl, rfl⟩ | ⟨rfl, rfl, k1, l1⟩ | ⟨rfl, rfl, k1, l1, k2, l2⟩ | ⟨rfl, rfl, k1, l1, k2, l2, k3, l3⟩
      · by_cases g1 : 128 ≤ y1
        · by_cases g2 : y1 ≤ 191
          · go_wp2
            go_round
            case rel =>
              go_light
              unfold Rel4
              exact Or.inr (Or.inl ⟨rfl, rfl, g1, g2⟩)
            case measure => simp [intOf]
          · go_wp2
            all_goals first | (exfalso; omega) | (go_ret2; exact ⟨ret_ii4 (by have := H.out; unfold Res4 at this; omega), rfl⟩)
        · go_wp2
          all_goals first | (exfalso; omega) | (go_ret2; exact ⟨ret_ii4 (by have := H.out; unfold Res4 at this; omega), rfl⟩)
      · by_cases g1 : 128 ≤ y2
        · by_cases g2 : y2 ≤ 191
          · go_wp2
            go_round
            case rel =>
              go_light
              unfold Rel4
              exact Or.inr (Or.inr (Or.inl ⟨rfl, rfl, k1, l1, g1, g2⟩))
            case measure => simp [intOf]
          · go_wp2
            all_goals first | (exfalso; omega) | (go_ret2; exact ⟨ret_ii4 (by have := H.out; unfold Res4 at this; omega), rfl⟩)
        · go_wp2
          all_goals first | (exfalso; omega) | (go_ret2; exact ⟨ret_ii4 (by have := H.out; unfold Res4 at this; omega), rfl⟩)
      · by_cases g1 : 128 ≤ y3
        · by_cases g2 : y3 ≤ 191
          · go_wp2
            go_round
            case rel =>
              go_light
              unfold Rel4
              exact Or.inr (Or.inr (Or.inr (⟨rfl, rfl, k1, l1, k2, l2, g1, g2⟩)))
            case measure => simp [intOf]
          · go_wp2
            all_goals first | (exfalso; omega) | (go_ret2; exact ⟨ret_ii4 (by have := H.out; unfold Res4 at this; omega), rfl⟩)
        · go_wp2
          all_goals first | (exfalso; omega) | (go_ret2; exact ⟨ret_ii4 (by have := H.out; unfold Res4 at this; omega), rfl⟩)
      · go_wp2
        all_goals first | (exfalso; omega) | (go_ret2; exact ⟨ret_ii4 (by have := H.out; unfold Res4 at this; omega), rfl⟩)

end Go.Proofs.YtpcdcndniibalaaDoor
