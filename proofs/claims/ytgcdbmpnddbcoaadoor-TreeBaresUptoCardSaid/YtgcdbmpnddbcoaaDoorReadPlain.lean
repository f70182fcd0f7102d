/- Proved here: plain facts on the document's reading of one character's UTF-8 (rdN: the number and how many bytes; 0, 0: none begins here); no program is named. -/
import Derived.Test.YtgcdbmpnddbcoaaDoorSetsPlain
import Derived.Lib.DecodeN
namespace Go.Proofs.YtgcdbmpnddbcoaaDoor
open Go.RowKit

/-- The character at a place with n bytes from it on, which begin x0, x1, x2, x3, and how many bytes it has; (0, 0): none. -/
def rdN (n x0 x1 x2 x3 : Nat) : Nat × Nat := if x0 < 128 then (x0, 1) else if (Lib.decodeN n x0 x1 x2 x3).2 = 1 then (0, 0) else Lib.decodeN n x0 x1 x2 x3
def cont (x : Nat) : Prop := 128 ≤ x ∧ x ≤ 191

theorem rd_ascii {n x0 x1 x2 x3 : Nat} (h : x0 < 128) : rdN n x0 x1 x2 x3 = (x0, 1) := by unfold rdN; rw [if_pos h]
theorem rd_none {n x0 x1 x2 x3 : Nat} (h : (128 ≤ x0 ∧ x0 < 192) ∨ 248 ≤ x0) (hx : x0 < 256) : rdN n x0 x1 x2 x3 = (0, 0) := by
  unfold rdN Lib.decodeN
  repeat' split
  all_goals first | rfl | omega
theorem rd2_no {n x0 x1 x2 x3 : Nat} (h : 192 ≤ x0 ∧ x0 < 224) (hb : n < 2 ∨ x1 < 128 ∨ 191 < x1 ∨ 64 * (x0 - 192) + (x1 - 128) < 128) : rdN n x0 x1 x2 x3 = (0, 0) := by
  unfold rdN Lib.decodeN
  repeat' split
  all_goals first | rfl | omega
theorem rd2_yes {n x0 x1 x2 x3 : Nat} (h : 192 ≤ x0 ∧ x0 < 224) (hn : 2 ≤ n) (h1 : 128 ≤ x1) (h2 : x1 ≤ 191) (hb : 128 ≤ 64 * (x0 - 192) + (x1 - 128)) : rdN n x0 x1 x2 x3 = (64 * (x0 - 192) + (x1 - 128), 2) := by
  have hd : Lib.decodeN n x0 x1 x2 x3 = (64 * (x0 - 192) + (x1 - 128), 2) := by
    unfold Lib.decodeN
    repeat' split
    all_goals first | (exfalso; omega) | (apply Prod.ext <;> simp only <;> omega)
  unfold rdN
  rw [if_neg (by omega), hd, if_neg (by simp)]
def v3 (x0 x1 x2 : Nat) : Nat := 64 * (64 * (x0 - 224) + (x1 - 128)) + (x2 - 128)
theorem rd3_no {n x0 x1 x2 x3 : Nat} (h : 224 ≤ x0 ∧ x0 < 240) (hb : n < 3 ∨ x1 < 128 ∨ 191 < x1 ∨ x2 < 128 ∨ 191 < x2 ∨ v3 x0 x1 x2 < 2048 ∨ (55296 ≤ v3 x0 x1 x2 ∧ v3 x0 x1 x2 ≤ 57343)) : rdN n x0 x1 x2 x3 = (0, 0) := by
  unfold v3 at hb
  unfold rdN Lib.decodeN
  repeat' split
  all_goals first | rfl | omega
theorem rd3_yes {n x0 x1 x2 x3 : Nat} (h : 224 ≤ x0 ∧ x0 < 240) (hn : 3 ≤ n) (h1 : 128 ≤ x1) (h2 : x1 ≤ 191) (h3 : 128 ≤ x2) (h4 : x2 ≤ 191) (hb : 2048 ≤ v3 x0 x1 x2) (hc : v3 x0 x1 x2 < 55296 ∨ 57343 < v3 x0 x1 x2) :
    rdN n x0 x1 x2 x3 = (v3 x0 x1 x2, 3) := by
  have hd : Lib.decodeN n x0 x1 x2 x3 = (v3 x0 x1 x2, 3) := by
    unfold v3 at hb hc ⊢
    unfold Lib.decodeN
    repeat' split
    all_goals first | (exfalso; omega) | (apply Prod.ext <;> simp only <;> omega)
  unfold rdN
  rw [if_neg (by omega), hd, if_neg (by simp)]
def v4 (x0 x1 x2 x3 : Nat) : Nat := 64 * (64 * (64 * (x0 - 240) + (x1 - 128)) + (x2 - 128)) + (x3 - 128)
theorem rd4_no {n x0 x1 x2 x3 : Nat} (h : 240 ≤ x0 ∧ x0 < 248) (hb : n < 4 ∨ x1 < 128 ∨ 191 < x1 ∨ x2 < 128 ∨ 191 < x2 ∨ x3 < 128 ∨ 191 < x3 ∨ v4 x0 x1 x2 x3 < 65536 ∨ 1114111 < v4 x0 x1 x2 x3) : rdN n x0 x1 x2 x3 = (0, 0) := by
  unfold v4 at hb
  unfold rdN Lib.decodeN
  repeat' split
  all_goals first | rfl | omega
theorem rd4_yes {n x0 x1 x2 x3 : Nat} (h : 240 ≤ x0 ∧ x0 < 248) (hn : 4 ≤ n) (h1 : 128 ≤ x1) (h2 : x1 ≤ 191) (h3 : 128 ≤ x2) (h4 : x2 ≤ 191) (h5 : 128 ≤ x3) (h6 : x3 ≤ 191) (hb : 65536 ≤ v4 x0 x1 x2 x3) (hc : v4 x0 x1 x2 x3 ≤ 1114111) :
    rdN n x0 x1 x2 x3 = (v4 x0 x1 x2 x3, 4) := by
  have hd : Lib.decodeN n x0 x1 x2 x3 = (v4 x0 x1 x2 x3, 4) := by
    unfold v4 at hb hc ⊢
    unfold Lib.decodeN
    repeat' split
    all_goals first | (exfalso; omega) | (apply Prod.ext <;> simp only <;> omega)
  unfold rdN
  rw [if_neg (by omega), hd, if_neg (by simp)]
theorem ret_ii {k l : IntKind} {a b c d : Int} (h : a = c) (h' : b = d) : Ending.returned (.tuple #[.int k a, .int l b]) = .returned (.tuple #[.int k c, .int l d]) := by rw [h, h']
end Go.Proofs.YtgcdbmpnddbcoaaDoor
