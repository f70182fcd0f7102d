/- Proved here: what the little tree is, in plain words (all of Check). -/
import Derived.Test.YtgcdbmpnddbcoaaDoorLittle
import Derived.Test.YtgcdbmpnddbcoaaDoorChecks
import Derived.Test.YtgcdbmpnddbcoaaDoorDepth
namespace Go.Proofs.YtgcdbmpnddbcoaaDoor
open Go.RowKit Go.Shelf

theorem lit_count (B : Nat) : (litD B).count = 4 := rfl
theorem lit_uris (B : Nat) : (litD B).all.flatMap AT.uris = [e0, bx 117, e0, e0, e0] := rfl
theorem lit_small (B K : Nat) : ∀ x ∈ ((litD B).put K 0).all, x.text.size < 4294967281 := by
  have e : ((litD B).put K 0).all = [(litD B).put K 0, litA B, litT B, litC B] := rfl
  rw [e]
  intro x hx
  simp at hx
  rcases hx with rfl | rfl | rfl | rfl
  · show (0 : Nat) < _; decide
  · show (0 : Nat) < _; decide
  · show (1 : Nat) < _; decide
  · show (0 : Nat) < _; decide
theorem lit_names : nameB (bx 97) = true ∧ nameB (bx 98) = true ∧ nameB (bx 99) = true := by decide
theorem lit_faults : faultB e0 = false ∧ faultB (bx 117) = false ∧ faultB (bx 49) = false ∧ faultB (bx 120) = false := by decide
set_option maxRecDepth 100000 in
theorem lit_check (B K : Nat) : ((litD B).put K 0).checkA = 0 := rfl
theorem lit_deep (B K : Nat) : ((litD B).put K 0).deep = 3 := rfl
def bare (B : Nat) : AT := .node 0 0 1 e0 e0 [] e0 []
theorem bare_count (B : Nat) : (bare B).count = 1 := rfl
theorem bare_check (B K : Nat) : ((bare B).put K 0).checkA = 30 := rfl
theorem bare_small (B K : Nat) : ∀ x ∈ ((bare B).put K 0).all, x.text.size < 4294967281 := by
  have e : ((bare B).put K 0).all = [(bare B).put K 0] := rfl
  rw [e]
  intro x hx
  simp at hx
  subst hx
  show (0 : Nat) < _
  decide
theorem one_of {l : List ByteArray} {x : ByteArray} (hn : l.Nodup) (h : ∀ s, s ∈ l ↔ s = x) : l = [x] := by
  match l, hn, h with
  | [], _, h => exact absurd ((h x).2 rfl) (by simp)
  | [a], _, h => rw [(h a).1 (by simp)]
  | a :: b :: r, hn, h =>
    have ha := (h a).1 (by simp)
    have hb := (h b).1 (by simp)
    rw [ha, hb] at hn
    exact absurd hn (by simp)
end Go.Proofs.YtgcdbmpnddbcoaaDoor
