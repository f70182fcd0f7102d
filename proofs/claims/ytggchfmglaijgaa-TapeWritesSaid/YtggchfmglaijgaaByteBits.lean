/- Proved here: a byte laid over another one, and what is stored into bytes of one's own. -/
import Derived.Test.YtggchfmglaijgaaOctet
namespace Go.Proofs.Ytggchfmglaijgaa
open Go.RowKit

theorem xor_u8 (x y : UInt8) : bits .xor .u8 (x.toNat : Int) (y.toNat : Int) = ((x ^^^ y).toNat : Int) := by
  have hx := UInt8.toNat_lt x
  have hy := UInt8.toNat_lt y
  have h1 : (BitVec.ofInt 8 (x.toNat : Int)).toNat = x.toNat := by
    rw [BitVec.ofInt_natCast, BitVec.toNat_ofNat]; exact Nat.mod_eq_of_lt (by omega)
  have h2 : (BitVec.ofInt 8 (y.toNat : Int)).toNat = y.toNat := by
    rw [BitVec.ofInt_natCast, BitVec.toNat_ofNat]; exact Nat.mod_eq_of_lt (by omega)
  have h3 : x.toNat ^^^ y.toNat < 2 ^ 8 := Nat.xor_lt_two_pow (by omega) (by omega)
  show IntKind.u8.wrap ((BitVec.ofInt 8 (x.toNat : Int) ^^^ BitVec.ofInt 8 (y.toNat : Int)).toNat : Int) = _
  rw [BitVec.toNat_xor, h1, h2, UInt8.toNat_xor]
  simp [IntKind.wrap, IntKind.bits, IntKind.signed]
  omega
theorem xor_other (x y : UInt8) (h : y ≠ 0) : x ^^^ y ≠ x := fun e => by
  apply h
  have h1 : x ^^^ (x ^^^ y) = x ^^^ x := by rw [e]
  rw [← UInt8.xor_assoc, UInt8.xor_self, UInt8.zero_xor] at h1
  exact h1
/-- What a byte of one's own holds, and that it may be stored. -/
theorem Owns.byte {w : World} {B g cap : Nat} {l : List UInt8} (h : Owns w B g cap (ofL l)) (k : Nat) (hk : k < l.length) : w.cell? ⟨g, k, none⟩ = some (.int .u8 ((l[k]'hk).toNat : Int)) ∧ w.frozen? ⟨g, k, none⟩ = false := by
  obtain ⟨b, off, e, hc⟩ := h.holds (by rw [ofL_size]; omega)
  cases e
  have h1 := hc k (by rw [ofL_size]; exact hk)
  have h2 := bl_get (ofL l) k (by rw [ofL_size]; exact hk)
  rw [bl_ofL, List.getElem?_eq_getElem hk] at h2
  rw [Nat.zero_add, ← Option.some.inj h2] at h1
  exact ⟨h1, World.ownsRow.frozenAt h.1 k⟩
theorem Owns.other {w : World} {B g cap : Nat} {s : ByteArray} (h : Owns w B g cap s) {g1 : Nat} (hg : g1 ≠ g) (k : Nat) (v : Value) : Owns (w.setCell ⟨g1, k, none⟩ v) B g cap s := by
  obtain ⟨⟨h1, h2⟩, h3, h4, h5⟩ := h
  refine ⟨⟨h1, ?_⟩, h3, by show g < (w.heap.modify _ _).size; simpa using h4, h5⟩
  rcases h2 with h2 | ⟨g', cap', cur, e, hb, hh, hr⟩
  · exact .inl h2
  · refine .inr ⟨g', cap', cur, e, hb, ?_, hr⟩
    have : g' = g := by injection e with e1 _ _; injection e1 with e1; injection e1 with e1; exact e1.symm
    rw [Below.heap_setCell w _ v g' (by show g' ≠ g1; omega)]
    exact hh
end Go.Proofs.Ytggchfmglaijgaa
