/- Proved here: what the scanner answers, in one form, and where its tokens' cells lie. -/
import Derived.Test.YteipiaefamfleaaGreatDoorM21
import Derived.Test.YteipiaefamfleaaGreatDoorM19
import Derived.Test.YteipiaefamfleaaGreatDoorM10
namespace Go.Proofs.YteipiaefamfleaaGreatDoor
open Go.RowKit

theorem PairsAt.pcells {w : World} {B : Nat} {v : Value} {l : List (ByteArray × ByteArray)} (h : PairsAt w B v l) : PCells w v l := by
  refine ⟨by obtain ⟨q, c, hv, _⟩ := h.form2; exact ⟨q, c, hv⟩, fun i x hx => ?_⟩
  have hl : 0 < l.length := by have := (List.getElem?_eq_some_iff.1 hx).1; omega
  obtain ⟨g, c, hv, _, _, hg, _, hc⟩ := h.cell hl
  obtain ⟨h0, h1⟩ := hc i x hx
  rw [Nat.mul_comm] at h0 h1
  exact ⟨g, c, hv, hg, h0, h1⟩
def lOf : Except (Nat × Nat) (List (Nat × Tok)) → List (Nat × Tok)
  | .ok l => l
  | .error _ => []
def kOf : Except (Nat × Nat) (List (Nat × Tok)) → Nat
  | .ok _ => 0
  | .error (k, _) => k
def eOf : Except (Nat × Nat) (List (Nat × Tok)) → Nat
  | .ok _ => 0
  | .error (_, e) => e
theorem all_form {w w' : World} {r : Except (Nat × Nat) (List (Nat × Tok))} {e : Ending} (h : AllPost w r e w') : ∃ q c, e = .returned (.tuple #[.slice q (lOf r).length c, .int .i64 (kOf r : Int), .int .i64 (eOf r : Int)]) ∧ TokL w' w.heap.size (.slice q (lOf r).length c) (lOf r) := by
  cases r with
  | ok l =>
    obtain ⟨v, he, hl⟩ := h
    obtain ⟨q, c, hv⟩ := hl.form2
    subst hv
    exact ⟨q, c, he, hl⟩
  | error ke =>
    obtain ⟨k, e0⟩ := ke
    exact ⟨none, 0, h, TokL.nil _ _⟩
theorem lof_len (s : ByteArray) : (lOf (allF s)).length ≤ 65536 ∧ ∀ (i : Nat) (x : Nat × Tok), (lOf (allF s))[i]? = some x → x.2.pairs.length ≤ 65539 := by
  cases hr : allF s with
  | ok l =>
    obtain ⟨h1, h2⟩ := all_len hr
    exact ⟨h1, fun i x hx => h2 x (List.mem_of_getElem? hx)⟩
  | error ke => exact ⟨Nat.zero_le _, fun i x hx => by cases hx⟩
theorem below_grownC {B : Nat} {w W : World} (h : Below B w W) (hB : B = w.heap.size) : w.grownBy W none := ⟨h.os, h.tape, h.output, h.size, fun k hk _ => h.block k (by omega)⟩
theorem TokL.below {w W : World} {B : Nat} {v : Value} {l : List (Nat × Tok)} (h : TokL w B v l) (hb : Below w.heap.size w W) : TokL W B v l :=
  h.keep (row := none) (below_grownC hb rfl) (fun k e => by cases e)
end Go.Proofs.YteipiaefamfleaaGreatDoor
