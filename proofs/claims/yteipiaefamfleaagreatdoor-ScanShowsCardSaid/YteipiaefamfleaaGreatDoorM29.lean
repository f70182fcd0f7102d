/- Proved here: what the walks of ScanCuts lean on. -/
import Derived.Test.YteipiaefamfleaaGreatDoorM22
import Derived.Test.YteipiaefamfleaaGreatDoorM28
import Derived.Laws.BitsAllLaws
namespace Go.Proofs.YteipiaefamfleaaGreatDoor
open Go.RowKit

/-- What the scanner answers of a text without faults. -/
theorem all_okform {w w' : World} {r : Except (Nat × Nat) (List (Nat × Tok))} {l : List (Nat × Tok)} {n : Nat} {e : Ending} (h : AllPost w r e w') (hr : r = .ok l) (hn : l.length = n) : ∃ q c, e = .returned (.tuple #[.slice q n c, .int .i64 0, .int .i64 0]) ∧ TokL w' w.heap.size (.slice q n c) l := by
  subst hr hn
  obtain ⟨v, he, hl⟩ := h
  obtain ⟨q, c, hv⟩ := hl.form2
  subst hv
  exact ⟨q, c, he, hl⟩
theorem all_badform {w w' : World} {r : Except (Nat × Nat) (List (Nat × Tok))} {k e0 : Nat} {e : Ending} (h : AllPost w r e w') (hr : r = .error (k, e0)) : e = .returned (.tuple #[.slice none 0 0, .int .i64 (k : Int), .int .i64 (e0 : Int)]) := by
  subst hr
  exact h
set_option maxRecDepth 10000 in
theorem and_192 : ∀ n : Fin 256, decide (n.val &&& 192 = 128) = decide (128 ≤ n.val ∧ n.val ≤ 191) := by decide
theorem bit_is {t : ByteArray} {m : Nat} (hm : m < t.size) : bits .and .u8 ((t[m].toNat : Nat) : Int) 192 = ((t[m].toNat &&& 192 : Nat) : Int) := u8_and_nat t[m].toNat 192 (UInt8.toNat_lt _) (by decide)
theorem bit_yes {t : ByteArray} {m : Nat} (hm : m < t.size) (h : laterB (t.get! m)) : (bits .and .u8 ((t[m].toNat : Nat) : Int) 192 == 128) = true := by
  rw [idx_get t m hm] at h
  have e := and_192 ⟨t[m].toNat, UInt8.toNat_lt _⟩
  rw [decide_eq_true (show 128 ≤ t[m].toNat ∧ t[m].toNat ≤ 191 from h)] at e
  have e2 : t[m].toNat &&& 192 = 128 := of_decide_eq_true e
  rw [bit_is hm, e2]
  rfl
theorem bit_no {t : ByteArray} {m : Nat} (hm : m < t.size) (h : ¬ laterB (t.get! m)) : (bits .and .u8 ((t[m].toNat : Nat) : Int) 192 == 128) = false := by
  rw [idx_get t m hm] at h
  have e := and_192 ⟨t[m].toNat, UInt8.toNat_lt _⟩
  rw [decide_eq_false (show ¬ (128 ≤ t[m].toNat ∧ t[m].toNat ≤ 191) from h)] at e
  have e2 : ¬ t[m].toNat &&& 192 = 128 := of_decide_eq_false e
  rw [bit_is hm, beq_eq_false_iff_ne]
  intro q
  exact e2 (by omega)
end Go.Proofs.YteipiaefamfleaaGreatDoor
