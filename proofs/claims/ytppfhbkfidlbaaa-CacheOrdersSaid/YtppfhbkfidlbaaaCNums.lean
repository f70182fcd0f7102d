/- Proved here: how an argument of numbers is opened (the cache's seat). -/
import Derived.Test.YtppfhbkfidlbaaaCRow
import Derived.Test.YtppfhbkfidlbaaaCInts

namespace Go.Proofs.Ytppfhbkfidlbaaa
open Go.ChangeShapes Go.WideShapes Go.ChangeAt Go.RowKit
open Go.Lib Go.Deep

theorem cells_int15 : Try.prog.cellsOf 3 = 1 := by kernel_rfl
/-- AN ARGUMENT OF NUMBERS. -/
theorem open_nums {H : Type} {enc : TypeId × Value → H} {W : World} {a0 : Option Addr} {len cap : Nat} {d0 : DataW H} {p : List MemPlace} {ts : List TypeId} {ds : List (DataW H)} {j : Nat}
    (hsz : (DataW.weightsEach Try.prog ts ds).all (· ≤ reachBytes) = true) (ht : ts[j]? = some 36) (hd : ds[j]? = some d0)
    (h0 : DataW.Trod enc Try.prog W 0 (fun _ => true) true 36 (.slice a0 len cap) d0 p) :
    ∃ l : List Int, l.length = len ∧ len ≤ cap ∧ len * 8 ≤ 140737488351232 ∧ HoldsI W a0 l ∧ (a0 = none → cap = 0) ∧ (∀ v ∈ l, -9223372036854775808 ≤ v ∧ v ≤ 9223372036854775807) := by
  obtain ⟨fuel, hf⟩ := h0
  rcases open_ints Try.underlying36 Try.underlying3 cells_int15 hf with ⟨hcs, hx⟩ | ⟨a, len', cap', zs, hcs, _, hl, hm, hz, hx, hcell, hwz⟩
  · simp [Value.cells] at hcs
    obtain ⟨rfl, rfl, rfl⟩ := hcs
    exact ⟨[], rfl, Nat.le_refl _, by omega, fun h => absurd h (by decide), fun _ => rfl, fun v hv => by simp at hv⟩
  · simp [Value.cells] at hcs
    obtain ⟨rfl, rfl, rfl⟩ := hcs
    simp only [Prod.mk.injEq] at hx
    obtain ⟨rfl, rfl⟩ := hx
    simp only [if_true] at hz
    have hb : Try.prog.bytesOf 3 = 8 := by kernel_rfl
    have hw := sized_slice hsz ht hd Try.underlying36
    have hr : reachBytes = 140737488351232 := rfl
    rw [hb, hr] at hw
    simp only [lits, List.length_map, List.length_take, List.length_drop] at hw
    have htl : (zs.take len).length = len := by rw [List.length_take]; omega
    refine ⟨zs.take len, htl, by omega, by omega, fun h => ?_, (fun h => by cases h), fun v hv => ?_⟩
    · rw [htl] at h
      obtain ⟨b, off, rfl, hc⟩ := ints_at hcell (by omega)
      refine ⟨b, off, rfl, fun j hj => ?_⟩
      rw [htl] at hj
      rw [hc j (by omega)]
      simp [List.getD_eq_getElem?_getD, hj]
    · have h1 := hwz v (List.mem_of_mem_take hv)
      have h2 : IntKind.i64.min = -9223372036854775808 := rfl
      have h3 : IntKind.i64.max = 9223372036854775807 := rfl
      simp only [Lit.wf, Bool.and_eq_true, decide_eq_true_eq] at h1
      omega
end Go.Proofs.Ytppfhbkfidlbaaa
