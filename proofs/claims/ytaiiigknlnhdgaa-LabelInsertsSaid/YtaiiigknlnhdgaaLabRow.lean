/- Proved here: how an argument of numbers and one of bytes are opened; a world for the witness. -/
import Derived.Test.YtaiiigknlnhdgaaRowKit
import Derived.Test.YtaiiigknlnhdgaaLabAwake
import Derived.Below
import Derived.Stop.Joined
namespace Go.Proofs.Ytaiiigknlnhdgaa
open Go.ChangeShapes Go.WideShapes Go.ChangeAt Go.RowKit
open Go.Lib

theorem cells_int : Try.prog.cellsOf 3 = 1 := by kernel_rfl
theorem cells_u8 : Try.prog.cellsOf 5 = 1 := by kernel_rfl
noncomputable def plainWorld (os : Os) : World := World.holding Try.prog os ⟨#[], #[], []⟩
/-- AN ARGUMENT OF NUMBERS. -/
theorem open_nums {H : Type} {enc : TypeId × Value → H} {W : World} {a0 : Option Addr} {len cap : Nat} {d0 : DataW H} {p : List MemPlace} {ts : List TypeId} {ds : List (DataW H)} {j : Nat}
    (hsz : (DataW.weightsEach Try.prog ts ds).all (· ≤ reachBytes) = true) (ht : ts[j]? = some 22) (hd : ds[j]? = some d0)
    (h0 : DataW.Trod enc Try.prog W 0 (fun _ => true) true 22 (.slice a0 len cap) d0 p) :
    ∃ l : List Int, l.length = len ∧ len ≤ cap ∧ len * 8 ≤ 140737488351232 ∧ HoldsI W a0 l ∧ (a0 = none → cap = 0) ∧ len ≤ Rows.uptoBulk d0 ∧ (∀ v ∈ l, -9223372036854775808 ≤ v ∧ v ≤ 9223372036854775807) := by
  obtain ⟨fuel, hf⟩ := h0
  rcases open_ints Try.underlying22 Try.underlying3 cells_int hf with ⟨hcs, hx⟩ | ⟨a, len', cap', zs, hcs, _, hl, hm, hz, hx, hcell, hwz⟩
  · simp [Value.cells] at hcs
    obtain ⟨rfl, rfl, rfl⟩ := hcs
    exact ⟨[], rfl, Nat.le_refl _, by omega, fun h => absurd h (by decide), fun _ => rfl, Nat.zero_le _, fun v hv => by simp at hv⟩
  · simp [Value.cells] at hcs
    obtain ⟨rfl, rfl, rfl⟩ := hcs
    simp only [Prod.mk.injEq] at hx
    obtain ⟨rfl, rfl⟩ := hx
    simp only [if_true] at hz
    have hb : Try.prog.bytesOf 3 = 8 := by kernel_rfl
    have hw := sized_slice hsz ht hd Try.underlying22
    have hr : reachBytes = 140737488351232 := rfl
    rw [hb, hr] at hw
    simp only [lits, List.length_map, List.length_take, List.length_drop] at hw
    have htl : (zs.take len).length = len := by rw [List.length_take]; omega
    refine ⟨zs.take len, htl, by omega, by omega, fun h => ?_, (fun h => by cases h), ?_, fun v hv => ?_⟩
    · rw [htl] at h
      obtain ⟨b, off, rfl, hc⟩ := ints_at hcell (by omega)
      refine ⟨b, off, rfl, fun j hj => ?_⟩
      rw [htl] at hj
      rw [hc j (by omega)]
      simp [List.getD_eq_getElem?_getD, hj]
    · have h1 := bulk_length (lits (H := H) .i64 (zs.take len))
      have h2 : (lits (H := H) .i64 (zs.take len)).length = len := by simp [lits]; omega
      simp only [Rows.uptoBulk]
      omega
    · have h1 := hwz v (List.mem_of_mem_take hv)
      have h2 : IntKind.i64.min = -9223372036854775808 := rfl
      have h3 : IntKind.i64.max = 9223372036854775807 := rfl
      simp only [Lit.wf, Bool.and_eq_true, decide_eq_true_eq] at h1
      omega
/-- AN ARGUMENT OF BYTES. -/
theorem open_bytesU {H : Type} {enc : TypeId × Value → H} {W : World} {a0 : Option Addr} {len cap : Nat} {d0 : DataW H} {p : List MemPlace} {ts : List TypeId} {ds : List (DataW H)} {j : Nat}
    (hsz : (DataW.weightsEach Try.prog ts ds).all (· ≤ reachBytes) = true) (ht : ts[j]? = some 23) (hd : ds[j]? = some d0)
    (h0 : DataW.Trod enc Try.prog W 0 (fun _ => true) true 23 (.slice a0 len cap) d0 p) :
    ∃ l : List Nat, l.length = len ∧ len ≤ cap ∧ len ≤ 140737488351232 ∧ HoldsU W a0 l ∧ (a0 = none → cap = 0) ∧ len ≤ Rows.uptoBulk d0 ∧ (∀ v ∈ l, v < 256) := by
  obtain ⟨fuel, hf⟩ := h0
  rcases open_ints Try.underlying23 Try.underlying5 cells_u8 hf with ⟨hcs, hx⟩ | ⟨a, len', cap', zs, hcs, _, hl, hm, hz, hx, hcell, hwz⟩
  · simp [Value.cells] at hcs
    obtain ⟨rfl, rfl, rfl⟩ := hcs
    exact ⟨[], rfl, Nat.le_refl _, by omega, fun h => absurd h (by decide), fun _ => rfl, Nat.zero_le _, fun v hv => by simp at hv⟩
  · simp [Value.cells] at hcs
    obtain ⟨rfl, rfl, rfl⟩ := hcs
    simp only [Prod.mk.injEq] at hx
    obtain ⟨rfl, rfl⟩ := hx
    simp only [if_true] at hz
    have hb : Try.prog.bytesOf 5 = 1 := by kernel_rfl
    have hw := sized_slice hsz ht hd Try.underlying23
    have hr : reachBytes = 140737488351232 := rfl
    rw [hb, hr] at hw
    simp only [lits, List.length_map, List.length_take, List.length_drop] at hw
    have htl : (zs.take len).length = len := by rw [List.length_take]; omega
    have byte : ∀ v ∈ zs, 0 ≤ v ∧ v < 256 := fun v hv => by
      have h1 := hwz v hv
      have h2 : IntKind.u8.min = 0 := rfl
      have h3 : IntKind.u8.max = 255 := rfl
      simp only [Lit.wf, Bool.and_eq_true, decide_eq_true_eq] at h1
      omega
    refine ⟨(zs.take len).map Int.toNat, by rw [List.length_map]; exact htl, by omega, by omega, fun h => ?_, (fun h => by cases h), ?_, fun v hv => ?_⟩
    · rw [List.length_map, htl] at h
      obtain ⟨b, off, rfl, hc⟩ := ints_at hcell (by omega)
      refine ⟨b, off, rfl, fun j hj => ?_⟩
      rw [List.length_map, htl] at hj
      rw [hc j (by omega)]
      have e : (((zs.take len).map Int.toNat).getD j 0 : Nat) = (zs.getD j 0).toNat := by
        simp [List.getD_eq_getElem?_getD, hj, List.getElem?_eq_getElem (show j < zs.length by omega)]
      rw [e]
      have hm := byte (zs.getD j 0) (getD_mem (by omega))
      rw [Int.toNat_of_nonneg hm.1]
    · have h1 := bulk_length (lits (H := H) .u8 (zs.take len))
      have h2 : (lits (H := H) .u8 (zs.take len)).length = len := by simp [lits]; omega
      simp only [Rows.uptoBulk]
      omega
    · simp only [List.mem_map] at hv
      obtain ⟨z, hz, rfl⟩ := hv
      have := byte z (List.mem_of_mem_take hz)
      omega
end Go.Proofs.Ytaiiigknlnhdgaa
