/- Proved here: where the cells of tokens, and of pairs, lie. -/
import Derived.Test.YtcfecnleibeegaaGreatDoorTokens
namespace Go.Proofs.YtcfecnleibeegaaGreatDoor
open Go.RowKit

theorem flat_at {α : Type} (m : Nat) (f : α → List Value) (hf : ∀ z, (f z).length = m) : ∀ (l : List α) (i k : Nat), k < m → (l.flatMap f)[m * i + k]? = (l[i]?).bind fun z => (f z)[k]?
  | [], i, k, _ => by simp
  | z :: l, 0, k, h => by
    rw [List.flatMap_cons, Nat.mul_zero, Nat.zero_add, List.getElem?_append_left (by rw [hf]; exact h)]
    rfl
  | z :: l, i + 1, k, h => by
    rw [List.flatMap_cons, Nat.mul_add, Nat.mul_one, List.getElem?_append_right (by rw [hf]; omega), hf, show m * i + m + k - m = m * i + k by omega, flat_at m f hf l i k h]
    rfl
/-- Where the cells of tokens lie. -/
theorem TokL.cell {w : World} {B : Nat} {v : Value} {l : List (Nat × Tok)} (h : TokL w B v l) (hl : 0 < l.length) : ∃ g c, v = .slice (some ⟨g, 0, none⟩) l.length c ∧ l.length ≤ c ∧ c ≤ maxLen ∧ g < w.heap.size ∧ B ≤ g ∧ ∃ pv : Nat → Value, ∀ i x, l[i]? = some x →
    PairsAt w B (pv i) x.2.pairs ∧ (w.cell? ⟨g, 6 * i, none⟩ = some (.int .i64 (x.2.kind : Int)) ∧ w.cell? ⟨g, 6 * i + 1, none⟩ = some (.int .i64 (x.1 : Int)) ∧ w.cell? ⟨g, 6 * i + 2, none⟩ = some (.string x.2.name) ∧ w.cell? ⟨g, 6 * i + 3, none⟩ = some (pv i) ∧ w.cell? ⟨g, 6 * i + 4, none⟩ = some (.string x.2.text) ∧ w.cell? ⟨g, 6 * i + 5, none⟩ = some (.int .i64 (x.2.refs : Int))) := by
  obtain ⟨pvs, h1, h2, h3⟩ := h
  have hcells := fun g (hv : v.ownBlock = some g) => World.ownsRow.cells h2 hv
  rcases h2.2 with ⟨_, h0⟩ | ⟨g, c, cur, rfl, hb, hg, hlc, hcm, _, _⟩
  · omega
  refine ⟨g, c, rfl, hlc, hcm, (Array.getElem?_eq_some_iff.1 hg).1, hb, fun i => pvs.getD i (.bool false), fun i x hx => ?_⟩
  have hil : i < l.length := (List.getElem?_eq_some_iff.1 hx).1
  have hpi : pvs[i]? = some (pvs.getD i (.bool false)) := by
    rw [List.getElem?_eq_getElem (by omega)]
    simp [List.getD, List.getElem?_eq_getElem (show i < pvs.length by omega)]
  have hz : (l.zip pvs)[i]? = some (x, pvs.getD i (.bool false)) := by
    rw [List.getElem?_zip_eq_some]
    exact ⟨hx, hpi⟩
  refine ⟨h3 _ (List.mem_of_getElem? hz), ?_⟩
  have go : ∀ k u, k < 6 → (tokC x (pvs.getD i (.bool false)))[k]? = some u → w.cell? ⟨g, 6 * i + k, none⟩ = some u := by
    intro k u hk hu
    have hc := hcells g rfl (6 * i + k) u (by
      unfold tokCs
      rw [flat_at 6 (fun z : (Nat × Tok) × Value => tokC z.1 z.2) (fun _ => rfl) _ i k hk, hz]
      exact hu)
    have ha : (⟨g, 0, none⟩ : Addr).add (6 * i + k) = ⟨g, 6 * i + k, none⟩ := by unfold Addr.add; split <;> simp_all
    rw [ha] at hc
    exact hc
  exact ⟨go 0 _ (by omega) rfl, go 1 _ (by omega) rfl, go 2 _ (by omega) rfl, go 3 _ (by omega) rfl, go 4 _ (by omega) rfl, go 5 _ (by omega) rfl⟩
theorem PairsAt.cell {w : World} {B : Nat} {v : Value} {l : List (ByteArray × ByteArray)} (h : PairsAt w B v l) (hl : 0 < l.length) : ∃ g c, v = .slice (some ⟨g, 0, none⟩) l.length c ∧ l.length ≤ c ∧ c ≤ maxLen ∧ g < w.heap.size ∧ B ≤ g ∧ ∀ i x, l[i]? = some x → w.cell? ⟨g, 2 * i, none⟩ = some (.string x.1) ∧ w.cell? ⟨g, 2 * i + 1, none⟩ = some (.string x.2) := by
  have hcells := fun g (hv : v.ownBlock = some g) => World.ownsRow.cells h hv
  rcases h.2 with ⟨_, h0⟩ | ⟨g, c, cur, rfl, hb, hg, hlc, hcm, _, _⟩
  · omega
  refine ⟨g, c, rfl, hlc, hcm, (Array.getElem?_eq_some_iff.1 hg).1, hb, fun i x hx => ?_⟩
  have go : ∀ k u, k < 2 → ([.string x.1, .string x.2] : List Value)[k]? = some u → w.cell? ⟨g, 2 * i + k, none⟩ = some u := by
    intro k u hk hu
    have hc := hcells g rfl (2 * i + k) u (by
      unfold pairsV
      rw [flat_at 2 (fun p : ByteArray × ByteArray => [.string p.1, .string p.2]) (fun _ => rfl) _ i k hk, hx]
      exact hu)
    have ha : (⟨g, 0, none⟩ : Addr).add (2 * i + k) = ⟨g, 2 * i + k, none⟩ := by unfold Addr.add; split <;> simp_all
    rw [ha] at hc
    exact hc
  exact ⟨go 0 _ (by omega) rfl, go 1 _ (by omega) rfl⟩
end Go.Proofs.YtcfecnleibeegaaGreatDoor
