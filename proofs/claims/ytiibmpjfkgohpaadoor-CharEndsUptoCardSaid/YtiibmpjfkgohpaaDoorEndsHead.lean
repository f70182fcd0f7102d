/- Proved here: what the walks of the law CharEnds ask: rows of the own beside one that grew, and their cells. -/
import Derived.Test.YtiibmpjfkgohpaaDoorAwake
import Derived.Test.YtiibmpjfkgohpaaDoorSame
import Derived.Test.YtiibmpjfkgohpaaDoorEndsPlain
import Derived.BigGuardPart
namespace Go.Proofs.YtiibmpjfkgohpaaDoor
open Go.RowKit

theorem Owns.besides {w w' : World} {B g g' cap : Nat} {s : ByteArray} (h : Owns w B g cap s) (hg : w.grownBy w' (some g')) (hne : g ≠ g') : Owns w' B g cap s :=
  ⟨h.1.kept hg (.inr (by simp [Value.ownBlock]; exact hne)), h.2.1, Nat.lt_of_lt_of_le h.2.2.1 hg.size, h.2.2.2⟩
theorem owns_cell {w : World} {B g cap : Nat} {s : ByteArray} (h : Owns w B g cap s) (k : Nat) (hk : k < s.size) : w.cell? ⟨g, k, none⟩ = some (.int .u8 (s.get! k).toNat) := by
  rw [h.1.cellAt k (by omega), bytesV_get s k hk]
theorem not_thirteen (s : ByteArray) (k : Nat) (h : k < (linesB s).size) : ((((linesB s).get! k).toNat : Int) == 13) = false := by
  have h1 := linesB_no13 s k h
  rw [beq_eq_false_iff_ne]
  intro e
  apply h1
  apply UInt8.toNat_inj.1
  show _ = 13
  omega
end Go.Proofs.YtiibmpjfkgohpaaDoor
