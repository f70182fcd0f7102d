/- Proved here: how arguments of bools are opened. -/
import Derived.Test.YtlkffignbjpfcaaByteRow
import Derived.Test.YtlkffignbjpfcaaDrumCrash
namespace Go.Proofs.Ytlkffignbjpfcaa
open Go.ChangeShapes Go.WideShapes Go.ChangeAt Go.RowKit
open Go.Lib Go.Deep

theorem cellsBool : Try.prog.cellsOf 4 = 1 := by kernel_rfl
/-- AN ARGUMENT OF BOOLS. -/
theorem open_boolsU {H : Type} {enc : TypeId × Value → H} {W : World} {a0 : Option Addr} {len cap : Nat} {d0 : DataW H} {p : List MemPlace} {ts : List TypeId} {ds : List (DataW H)} {j : Nat}
    (hsz : (DataW.weightsEach Try.prog ts ds).all (· ≤ reachBytes) = true) (ht : ts[j]? = some 34) (hd : ds[j]? = some d0)
    (h0 : DataW.Trod enc Try.prog W 0 (fun _ => true) true 34 (.slice a0 len cap) d0 p) :
    ∃ l : List Bool, l.length = len ∧ len ≤ cap ∧ len ≤ 140737488351232 ∧ HoldsT W a0 l ∧ (a0 = none → cap = 0) := by
  obtain ⟨fuel, hf⟩ := h0
  rcases open_bools Try.underlying34 Try.underlying4 cellsBool hf with ⟨hcs, hx⟩ | ⟨a, len', cap', B, hcs, _, hl, hm, hx, hcell⟩
  · simp [Value.cells] at hcs
    obtain ⟨rfl, rfl, rfl⟩ := hcs
    exact ⟨[], rfl, Nat.le_refl _, by omega, fun h => absurd h (by decide), fun _ => rfl⟩
  · simp [Value.cells] at hcs
    obtain ⟨rfl, rfl, rfl⟩ := hcs
    simp only [Prod.mk.injEq] at hx
    obtain ⟨rfl, rfl⟩ := hx
    have hb : Try.prog.bytesOf 4 = 1 := by kernel_rfl
    have hw := sized_slice hsz ht hd Try.underlying34
    have hr : reachBytes = 140737488351232 := rfl
    rw [hb, hr] at hw
    simp only [List.length_map, List.length_range] at hw
    refine ⟨(List.range len).map B, by simp, hl, by omega, fun h => ?_, fun h => by cases h⟩
    simp only [List.length_map, List.length_range] at h
    have hc0 := hcell 0 (by omega)
    obtain ⟨b, off, sp⟩ := a
    have hspot : sp = none := by simpa [Addr.add] using World.cell?_spot hc0
    subst hspot
    refine ⟨b, off, rfl, fun j hj => ?_⟩
    simp only [List.length_map, List.length_range] at hj
    have := hcell j (by omega)
    rw [Addr.add_mid] at this
    rw [this]
    simp [List.getD_eq_getElem?_getD, hj]
end Go.Proofs.Ytlkffignbjpfcaa
