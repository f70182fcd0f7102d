/- Proved here: what a string made bytes is: a new row that holds them. -/
import Derived.Test.YtgcdbmpnddbcoaaDoorKit
import Derived.Lib.ConvBytes
import Derived.Lib.SmallJoins
import Derived.Laws.AppendOwn
namespace Go.Proofs.YtgcdbmpnddbcoaaDoor
open Go.RowKit

/-- '[]byte(s)': a new row that holds the bytes. -/
theorem bytes_of (w : World) (s : ByteArray) : ∃ (cap : Nat) (W : World), (convert 9 88 (.string s)).run Tryd.prog w = .ok (.slice (some ⟨w.heap.size, 0, none⟩) s.size cap) W ∧ s.size ≤ cap ∧ Below w.heap.size w W ∧ W.heap.size = w.heap.size + 1 ∧
    ∀ j, j < s.size → W.cell? ⟨w.heap.size, 0 + j, none⟩ = some (.int .u8 (s.get! j).toNat) := by
  refine ⟨_, _, Lib.run_convert_string_bytes w 9 88 5 s Tryd.underlying9 Tryd.underlying88 Tryd.underlying5, grownCap_ge _ _ _ _, Joins.below_bytesWorld _ w _ s (Nat.le_refl _), Lib.bytesWorld_size w _ s, fun j hj => ?_⟩
  rw [Nat.zero_add, Lib.bytesWorld_cell w _ s j hj]
  have e : s.data.toList.getD j 0 = s.get! j := by
    show _ = s.data[j]!
    rw [getElem!_pos s.data j hj]
    simp [List.getD, Array.getElem?_eq_getElem (show j < s.data.size from hj)]
  rw [e]

end Go.Proofs.YtgcdbmpnddbcoaaDoor
