/- Proved here: how arguments of bytes are opened; a world for the witness. -/
import Derived.Test.YtlkffignbjpfcaaRowKit
import Derived.Test.YtlkffignbjpfcaaByteKit
import Derived.Below
import Derived.Stop.Joined
import Derived.Deep.Grids
namespace Go.Proofs.Ytlkffignbjpfcaa
open Go.ChangeShapes Go.WideShapes Go.ChangeAt Go.RowKit
open Go.Lib Go.Deep

noncomputable def plainWorld (os : Os) : World := World.holding Try.prog os ⟨#[], #[], []⟩
theorem open_bytes {H : Type} {enc : TypeId × Value → H} {W : World} {a0 : Option Addr} {len cap : Nat} {d0 : DataW H} {p : List MemPlace} {ts : List TypeId} {ds : List (DataW H)} {j : Nat}
    (hsz : (DataW.weightsEach Try.prog ts ds).all (· ≤ reachBytes) = true) (ht : ts[j]? = some 33) (hd : ds[j]? = some d0)
    (h0 : DataW.Trod enc Try.prog W 0 (fun _ => true) true 33 (.slice a0 len cap) d0 p) :
    ∃ s : ByteArray, s.size = len ∧ len ≤ cap ∧ len ≤ 140737488351232 ∧ HoldsB W a0 s ∧ (a0 = none → cap = 0) ∧ len ≤ Rows.uptoBulk d0 := by
  obtain ⟨fuel, hf⟩ := h0
  rcases open_ints Try.underlying33 Try.underlying5 cellsByte hf with ⟨hcs, hx⟩ | ⟨a, len', cap', zs, hcs, _, hl, hm, hz, hx, hcell, hwz⟩
  · simp [Value.cells] at hcs
    obtain ⟨rfl, rfl, rfl⟩ := hcs
    exact ⟨⟨#[]⟩, rfl, Nat.le_refl _, by omega, fun h => absurd h (by decide), fun _ => rfl, Nat.zero_le _⟩
  · simp [Value.cells] at hcs
    obtain ⟨rfl, rfl, rfl⟩ := hcs
    simp only [Prod.mk.injEq] at hx
    obtain ⟨rfl, rfl⟩ := hx
    simp only [if_true] at hz
    have hb : Try.prog.bytesOf 5 = 1 := by kernel_rfl
    have hw := sized_slice hsz ht hd Try.underlying33
    have hr : reachBytes = 140737488351232 := rfl
    rw [hb, hr] at hw
    simp only [lits, List.length_map, List.length_take, List.length_drop] at hw
    have byte : ∀ j, j < zs.length → 0 ≤ zs.getD j 0 ∧ zs.getD j 0 < 256 := fun j hj => by
      have h1 := hwz (zs.getD j 0) (by simp [List.getD, hj])
      have h2 : IntKind.u8.min = 0 := rfl
      have h3 : IntKind.u8.max = 255 := rfl
      simp only [Lit.wf, Bool.and_eq_true, decide_eq_true_eq] at h1
      omega
    refine ⟨⟨((zs.take len).map fun n => UInt8.ofNat n.toNat).toArray⟩, by simp [ByteArray.size]; omega, by omega, by omega, fun h => ?_, (fun h => by cases h), ?_⟩
    rotate_left
    · have h1 := bulk_length (lits (H := H) .u8 (zs.take len))
      have h2 : (lits (H := H) .u8 (zs.take len)).length = len := by simp [lits]; omega
      simp only [Rows.uptoBulk]
      omega
    have hlen : 0 < len := by simp [ByteArray.size] at h; omega
    obtain ⟨b, off, rfl, hc⟩ := ints_at hcell (by omega)
    refine ⟨b, off, rfl, fun j hj => ?_⟩
    have hj' : j < len := by simp [ByteArray.size] at hj; omega
    rw [hc j (by omega)]
    have e : (ByteArray.mk ((zs.take len).map fun n => UInt8.ofNat n.toNat).toArray).get! j = UInt8.ofNat (zs.getD j 0).toNat := by
      show (((zs.take len).map fun n => UInt8.ofNat n.toNat).toArray)[j]! = _
      rw [getElem!_pos _ _ (by simp; omega)]
      simp [List.getD, show j < zs.length by omega]
    have := byte j (by omega)
    have e3 : ((UInt8.ofNat (zs.getD j 0).toNat).toNat : Int) = zs.getD j 0 := by
      rw [UInt8.toNat_ofNat']
      omega
    rw [e, e3]
end Go.Proofs.Ytlkffignbjpfcaa
