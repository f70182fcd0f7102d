/-
  No cell of these rows narrows 'for every input' (looked for: loops, veiled, ifaces, maps, wideKeys, modest, calm, conditions, laid).
  DERIVED. THE GIVEN ROWS OF THIS SEAT. 8 by the template 'for every input the law returns true; each argument reads behind the call as it read before'; 0 by the template 'total and deterministic' (their statements: YtaiiigknlnhdgaaTotals.lean).
  GIVEN WITH THE SEED: the statements are not yours to turn. If you find one false, say at which input.
  Laid BY PROGRAM, IN A SANDBOX (cutbox-rows.mjs): the forced cells as the released guide's own fill.sh prints them over the translation 480f7e4b72b80182… (all of the seat's roots in one cut). By AI agents, Wed Nov 11 2026. No macro, syntax, notation, axiom, sorry.
-/
import Derived.Test.YtaiiigknlnhdgaaChecked
import GoSem.Claim
import GoSem.ClaimJoined
import GoSem.ClaimMapViews
import Derived.JoinedTies
import Derived.KernelRfl
namespace Go.Proofs.Ytaiiigknlnhdgaa
/- THE CELL 'sum', in the pinned program and in every row, IS THE sha256 OF THE DUMP (.gsa) THAT YtaiiigknlnhdgaaProg.lean LOADS. Nothing in Lean hashes anything: it is a label: what it is worth is what the hold of that sum in a sandbox is worth. -/
noncomputable def Try.pinned : Pinned := { name := "ytaiiigknlnhdgaa", sum := "480f7e4b72b801828488ebccfb071604456675c0f5bbabda87620736c64313ad", checked := Try.checked }
namespace Rows
def none {H : Type} : Left H := { results := [], args := [] }

/-- 'lecternlaw12.LabelBytes': WHATEVER THE INPUT: true; the input reads as it did. -/
def labelBytesSpec : ChangeSpec := { name := "labelBytes", fn := fun _ => fun
  | [d1, d2] => { results := [.lit (.bool true)], args := [d1, d2] }
  | _ => none }
def labelBytesRow : OpenClaim := { program := "ytaiiigknlnhdgaa", sum := "480f7e4b72b801828488ebccfb071604456675c0f5bbabda87620736c64313ad", func := "lectern/lecternlaw12.LabelBytes", spec := "labelBytes", unfollowed := true, recurses := true, apart := false }
def LabelBytesSaid : Prop := labelBytesRow.holds Try.pinned (OpenSpec.ofChange labelBytesSpec)

/-- ITS FALSE NEIGHBOUR: 'it returns false'. Refute it at one input. -/
def labelBytesWrong : ChangeSpec := { name := "labelBytes", fn := fun _ => fun
  | [d1, d2] => { results := [.lit (.bool false)], args := [d1, d2] }
  | _ => none }
def LabelBytesWrongFalsely : Prop := labelBytesRow.holds Try.pinned (OpenSpec.ofChange labelBytesWrong)

/-- 'lecternlaw12.LabelBack': WHATEVER THE INPUT: true; the input reads as it did. -/
def labelBackSpec : ChangeSpec := { name := "labelBack", fn := fun _ => fun
  | [d1, d2] => { results := [.lit (.bool true)], args := [d1, d2] }
  | _ => none }
def labelBackRow : OpenClaim := { program := "ytaiiigknlnhdgaa", sum := "480f7e4b72b801828488ebccfb071604456675c0f5bbabda87620736c64313ad", func := "lectern/lecternlaw12.LabelBack", spec := "labelBack", unfollowed := true, recurses := true, apart := false }
def LabelBackSaid : Prop := labelBackRow.holds Try.pinned (OpenSpec.ofChange labelBackSpec)

/-- ITS FALSE NEIGHBOUR: 'it returns false'. Refute it at one input. -/
def labelBackWrong : ChangeSpec := { name := "labelBack", fn := fun _ => fun
  | [d1, d2] => { results := [.lit (.bool false)], args := [d1, d2] }
  | _ => none }
def LabelBackWrongFalsely : Prop := labelBackRow.holds Try.pinned (OpenSpec.ofChange labelBackWrong)

/-- 'lecternlaw12.LabelOrders': WHATEVER THE INPUT: true; the input reads as it did. -/
def labelOrdersSpec : ChangeSpec := { name := "labelOrders", fn := fun _ => fun
  | [d1, d2, d3] => { results := [.lit (.bool true)], args := [d1, d2, d3] }
  | _ => none }
def labelOrdersRow : OpenClaim := { program := "ytaiiigknlnhdgaa", sum := "480f7e4b72b801828488ebccfb071604456675c0f5bbabda87620736c64313ad", func := "lectern/lecternlaw12.LabelOrders", spec := "labelOrders", unfollowed := true, recurses := true, apart := false }
def LabelOrdersSaid : Prop := labelOrdersRow.holds Try.pinned (OpenSpec.ofChange labelOrdersSpec)

/-- ITS FALSE NEIGHBOUR: 'it returns false'. Refute it at one input. -/
def labelOrdersWrong : ChangeSpec := { name := "labelOrders", fn := fun _ => fun
  | [d1, d2, d3] => { results := [.lit (.bool false)], args := [d1, d2, d3] }
  | _ => none }
def LabelOrdersWrongFalsely : Prop := labelOrdersRow.holds Try.pinned (OpenSpec.ofChange labelOrdersWrong)

/-- 'lecternlaw12.LabelStands': WHATEVER THE INPUT: true; the input reads as it did. -/
def labelStandsSpec : ChangeSpec := { name := "labelStands", fn := fun _ => fun
  | [d1, d2] => { results := [.lit (.bool true)], args := [d1, d2] }
  | _ => none }
def labelStandsRow : OpenClaim := { program := "ytaiiigknlnhdgaa", sum := "480f7e4b72b801828488ebccfb071604456675c0f5bbabda87620736c64313ad", func := "lectern/lecternlaw12.LabelStands", spec := "labelStands", unfollowed := true, recurses := true, apart := false }
def LabelStandsSaid : Prop := labelStandsRow.holds Try.pinned (OpenSpec.ofChange labelStandsSpec)

/-- ITS FALSE NEIGHBOUR: 'it returns false'. Refute it at one input. -/
def labelStandsWrong : ChangeSpec := { name := "labelStands", fn := fun _ => fun
  | [d1, d2] => { results := [.lit (.bool false)], args := [d1, d2] }
  | _ => none }
def LabelStandsWrongFalsely : Prop := labelStandsRow.holds Try.pinned (OpenSpec.ofChange labelStandsWrong)

/-- 'lecternlaw12.LabelBetween': WHATEVER THE INPUT: true; the input reads as it did. -/
def labelBetweenSpec : ChangeSpec := { name := "labelBetween", fn := fun _ => fun
  | [d1, d2, d3] => { results := [.lit (.bool true)], args := [d1, d2, d3] }
  | _ => none }
def labelBetweenRow : OpenClaim := { program := "ytaiiigknlnhdgaa", sum := "480f7e4b72b801828488ebccfb071604456675c0f5bbabda87620736c64313ad", func := "lectern/lecternlaw12.LabelBetween", spec := "labelBetween", unfollowed := true, recurses := true, apart := false }
def LabelBetweenSaid : Prop := labelBetweenRow.holds Try.pinned (OpenSpec.ofChange labelBetweenSpec)

/-- ITS FALSE NEIGHBOUR: 'it returns false'. Refute it at one input. -/
def labelBetweenWrong : ChangeSpec := { name := "labelBetween", fn := fun _ => fun
  | [d1, d2, d3] => { results := [.lit (.bool false)], args := [d1, d2, d3] }
  | _ => none }
def LabelBetweenWrongFalsely : Prop := labelBetweenRow.holds Try.pinned (OpenSpec.ofChange labelBetweenWrong)

/-- 'lecternlaw12.LabelAmid': WHATEVER THE INPUT: true; the input reads as it did. -/
def labelAmidSpec : ChangeSpec := { name := "labelAmid", fn := fun _ => fun
  | [d1, d2, d3] => { results := [.lit (.bool true)], args := [d1, d2, d3] }
  | _ => none }
def labelAmidRow : OpenClaim := { program := "ytaiiigknlnhdgaa", sum := "480f7e4b72b801828488ebccfb071604456675c0f5bbabda87620736c64313ad", func := "lectern/lecternlaw12.LabelAmid", spec := "labelAmid", unfollowed := true, recurses := true, apart := false }
def LabelAmidSaid : Prop := labelAmidRow.holds Try.pinned (OpenSpec.ofChange labelAmidSpec)

/-- ITS FALSE NEIGHBOUR: 'it returns false'. Refute it at one input. -/
def labelAmidWrong : ChangeSpec := { name := "labelAmid", fn := fun _ => fun
  | [d1, d2, d3] => { results := [.lit (.bool false)], args := [d1, d2, d3] }
  | _ => none }
def LabelAmidWrongFalsely : Prop := labelAmidRow.holds Try.pinned (OpenSpec.ofChange labelAmidWrong)

/-- 'lecternlaw12.LabelInserts': WHATEVER THE INPUT: true; the input reads as it did. -/
def labelInsertsSpec : ChangeSpec := { name := "labelInserts", fn := fun _ => fun
  | [d1, d2] => { results := [.lit (.bool true)], args := [d1, d2] }
  | _ => none }
def labelInsertsRow : OpenClaim := { program := "ytaiiigknlnhdgaa", sum := "480f7e4b72b801828488ebccfb071604456675c0f5bbabda87620736c64313ad", func := "lectern/lecternlaw12.LabelInserts", spec := "labelInserts", unfollowed := true, recurses := true, apart := false }
def LabelInsertsSaid : Prop := labelInsertsRow.holds Try.pinned (OpenSpec.ofChange labelInsertsSpec)

/-- ITS FALSE NEIGHBOUR: 'it returns false'. Refute it at one input. -/
def labelInsertsWrong : ChangeSpec := { name := "labelInserts", fn := fun _ => fun
  | [d1, d2] => { results := [.lit (.bool false)], args := [d1, d2] }
  | _ => none }
def LabelInsertsWrongFalsely : Prop := labelInsertsRow.holds Try.pinned (OpenSpec.ofChange labelInsertsWrong)

/-- 'lecternlaw12.LabelRows': WHATEVER THE INPUT: true; the input reads as it did. -/
def labelRowsSpec : ChangeSpec := { name := "labelRows", fn := fun _ => fun
  | [d1, d2] => { results := [.lit (.bool true)], args := [d1, d2] }
  | _ => none }
def labelRowsRow : OpenClaim := { program := "ytaiiigknlnhdgaa", sum := "480f7e4b72b801828488ebccfb071604456675c0f5bbabda87620736c64313ad", func := "lectern/lecternlaw12.LabelRows", spec := "labelRows", unfollowed := true, recurses := true, apart := false }
def LabelRowsSaid : Prop := labelRowsRow.holds Try.pinned (OpenSpec.ofChange labelRowsSpec)

/-- ITS FALSE NEIGHBOUR: 'it returns false'. Refute it at one input. -/
def labelRowsWrong : ChangeSpec := { name := "labelRows", fn := fun _ => fun
  | [d1, d2] => { results := [.lit (.bool false)], args := [d1, d2] }
  | _ => none }
def LabelRowsWrongFalsely : Prop := labelRowsRow.holds Try.pinned (OpenSpec.ofChange labelRowsWrong)

/- THE SECOND FORM. 'bulk': how many values and letters a reading holds, each counted each time it is reached (what is shared counts as often as it is met; a slice's spare places count too). A statement '..UptoSaid' is the law's where the arguments, and the package variables that the reading takes, are together of bulk at most 1048576: NARROWER than '..Said'. Prove '..Said' where nothing that the law and all that it calls make is longer than what came in: it says more and counts as full. Else prove '..UptoSaid'. A law counts once. -/
mutual
def uptoBulk {H : Type} : DataW H → Nat
  | .lit (.string bytes) => bytes.length + 1
  | .lit _ => 1
  | .nil => 1
  | .ptr d => uptoBulk d + 1
  | .slice elems spare => uptoBulkAll elems + uptoBulkAll spare + 1
  | .agg parts => uptoBulkAll parts + 1
  | .iface _ d => uptoBulk d + 1
  | .map entries => uptoBulkEntries entries + 1
  | .held _ => 1
def uptoBulkAll {H : Type} : List (DataW H) → Nat
  | [] => 0
  | d :: r => uptoBulk d + uptoBulkAll r
def uptoBulkEntries {H : Type} : List (Lit × DataW H) → Nat
  | [] => 0
  | x :: r => uptoBulkEntry x + uptoBulkEntries r
def uptoBulkEntry {H : Type} : Lit × DataW H → Nat
  | (.string bytes, d) => bytes.length + uptoBulk d + 1
  | (_, d) => uptoBulk d + 1
 end
def uptoSmall : (H : Type) → List (DataW H) → Bool := fun _ ds => decide (uptoBulkAll ds ≤ 1048576)
def OpenSpec.upto (s : _root_.Go.ChangeSpec) : _root_.Go.OpenSpec := { _root_.Go.OpenSpec.ofChange s with cond := some uptoSmall }

/-- 'lecternlaw12.LabelBytes', WHERE WHAT IT READS IS OF BULK AT MOST 1048576: true; the input reads as it did. -/
def labelBytesUptoRow : OpenClaim := { program := "ytaiiigknlnhdgaa", sum := "480f7e4b72b801828488ebccfb071604456675c0f5bbabda87620736c64313ad", func := "lectern/lecternlaw12.LabelBytes", spec := "labelBytes", unfollowed := true, recurses := true, apart := false, narrowed := true }
def LabelBytesUptoSaid : Prop := labelBytesUptoRow.holds Try.pinned (OpenSpec.upto labelBytesSpec)

/-- 'lecternlaw12.LabelBack', WHERE WHAT IT READS IS OF BULK AT MOST 1048576: true; the input reads as it did. -/
def labelBackUptoRow : OpenClaim := { program := "ytaiiigknlnhdgaa", sum := "480f7e4b72b801828488ebccfb071604456675c0f5bbabda87620736c64313ad", func := "lectern/lecternlaw12.LabelBack", spec := "labelBack", unfollowed := true, recurses := true, apart := false, narrowed := true }
def LabelBackUptoSaid : Prop := labelBackUptoRow.holds Try.pinned (OpenSpec.upto labelBackSpec)

/-- 'lecternlaw12.LabelOrders', WHERE WHAT IT READS IS OF BULK AT MOST 1048576: true; the input reads as it did. -/
def labelOrdersUptoRow : OpenClaim := { program := "ytaiiigknlnhdgaa", sum := "480f7e4b72b801828488ebccfb071604456675c0f5bbabda87620736c64313ad", func := "lectern/lecternlaw12.LabelOrders", spec := "labelOrders", unfollowed := true, recurses := true, apart := false, narrowed := true }
def LabelOrdersUptoSaid : Prop := labelOrdersUptoRow.holds Try.pinned (OpenSpec.upto labelOrdersSpec)

/-- 'lecternlaw12.LabelStands', WHERE WHAT IT READS IS OF BULK AT MOST 1048576: true; the input reads as it did. -/
def labelStandsUptoRow : OpenClaim := { program := "ytaiiigknlnhdgaa", sum := "480f7e4b72b801828488ebccfb071604456675c0f5bbabda87620736c64313ad", func := "lectern/lecternlaw12.LabelStands", spec := "labelStands", unfollowed := true, recurses := true, apart := false, narrowed := true }
def LabelStandsUptoSaid : Prop := labelStandsUptoRow.holds Try.pinned (OpenSpec.upto labelStandsSpec)

/-- 'lecternlaw12.LabelBetween', WHERE WHAT IT READS IS OF BULK AT MOST 1048576: true; the input reads as it did. -/
def labelBetweenUptoRow : OpenClaim := { program := "ytaiiigknlnhdgaa", sum := "480f7e4b72b801828488ebccfb071604456675c0f5bbabda87620736c64313ad", func := "lectern/lecternlaw12.LabelBetween", spec := "labelBetween", unfollowed := true, recurses := true, apart := false, narrowed := true }
def LabelBetweenUptoSaid : Prop := labelBetweenUptoRow.holds Try.pinned (OpenSpec.upto labelBetweenSpec)

/-- 'lecternlaw12.LabelAmid', WHERE WHAT IT READS IS OF BULK AT MOST 1048576: true; the input reads as it did. -/
def labelAmidUptoRow : OpenClaim := { program := "ytaiiigknlnhdgaa", sum := "480f7e4b72b801828488ebccfb071604456675c0f5bbabda87620736c64313ad", func := "lectern/lecternlaw12.LabelAmid", spec := "labelAmid", unfollowed := true, recurses := true, apart := false, narrowed := true }
def LabelAmidUptoSaid : Prop := labelAmidUptoRow.holds Try.pinned (OpenSpec.upto labelAmidSpec)

/-- 'lecternlaw12.LabelInserts', WHERE WHAT IT READS IS OF BULK AT MOST 1048576: true; the input reads as it did. -/
def labelInsertsUptoRow : OpenClaim := { program := "ytaiiigknlnhdgaa", sum := "480f7e4b72b801828488ebccfb071604456675c0f5bbabda87620736c64313ad", func := "lectern/lecternlaw12.LabelInserts", spec := "labelInserts", unfollowed := true, recurses := true, apart := false, narrowed := true }
def LabelInsertsUptoSaid : Prop := labelInsertsUptoRow.holds Try.pinned (OpenSpec.upto labelInsertsSpec)

/-- 'lecternlaw12.LabelRows', WHERE WHAT IT READS IS OF BULK AT MOST 1048576: true; the input reads as it did. -/
def labelRowsUptoRow : OpenClaim := { program := "ytaiiigknlnhdgaa", sum := "480f7e4b72b801828488ebccfb071604456675c0f5bbabda87620736c64313ad", func := "lectern/lecternlaw12.LabelRows", spec := "labelRows", unfollowed := true, recurses := true, apart := false, narrowed := true }
def LabelRowsUptoSaid : Prop := labelRowsUptoRow.holds Try.pinned (OpenSpec.upto labelRowsSpec)

end Rows
end Go.Proofs.Ytaiiigknlnhdgaa
