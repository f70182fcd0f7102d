/- Proved here: a kid of a tree that is told by its value: its cells, its own lists. -/
import Derived.Test.YtgcdbmpnddbcoaaDoorSize
namespace Go.Proofs.YtgcdbmpnddbcoaaDoor
open Go.RowKit Go.Shelf

theorem kid_at {W : World} {t : AT} {pa : Option Addr} {ca : Nat} {pk : Option Addr} {ck : Nat} (h : PartsAt W t pa ca pk ck) (hk : KidsAt W t) (i : Nat) (hi : i < t.kids.length) :
    ∃ kb ko pa' ca' pk' ck', pk = some ⟨kb, ko, none⟩ ∧ PartsAt W t.kids[i] pa' ca' pk' ck' ∧ KidsAt W t.kids[i] ∧ W.cell? ⟨kb, ko + i * 6, none⟩ = some (.int .i64 t.kids[i].kind) ∧ W.cell? ⟨kb, ko + i * 6 + 1, none⟩ = some (.string t.kids[i].uri) ∧
      W.cell? ⟨kb, ko + i * 6 + 2, none⟩ = some (.string t.kids[i].loc) ∧ W.cell? ⟨kb, ko + i * 6 + 3, none⟩ = some (.slice pa' t.kids[i].attrs.length ca') ∧ W.cell? ⟨kb, ko + i * 6 + 4, none⟩ = some (.slice pk' t.kids[i].kids.length ck') ∧
      W.cell? ⟨kb, ko + i * 6 + 5, none⟩ = some (.string t.kids[i].text) := by
  obtain ⟨kb, ko, e, hc⟩ := h.kids (by omega)
  have hT := hk _ (List.getElem_mem hi)
  obtain ⟨pa', ca', pk', ck', h0, c0, c1, c2, c3, c4, c5⟩ := hT.top
  obtain ⟨e1, e2⟩ := hc i hi
  rw [e1, e2] at c0 c1 c2 c3 c4 c5
  exact ⟨kb, ko, pa', ca', pk', ck', e, h0, hT.kids, c0, c1, c2, c3, c4, c5⟩
/-- The first cell of a tree's kids is there: where a list is not empty its block is. -/
theorem kid_block {W : World} {t : AT} {kb ko : Nat} {ca ck : Nat} {pa : Option Addr} (h : PartsAt W t pa ca (some ⟨kb, ko, none⟩) ck) (hk : KidsAt W t) (h0 : 0 < t.kids.length) : kb < W.heap.size := by
  obtain ⟨kb', ko', _, _, _, _, e, _, _, c0, _⟩ := kid_at h hk 0 h0
  cases e
  exact World.block_lt_of_cell? _ _ c0
end Go.Proofs.YtgcdbmpnddbcoaaDoor
