/-
  No cell of these rows narrows 'for every input' (looked for: loops, veiled, ifaces, maps, wideKeys, modest, calm, conditions, laid).
  DERIVED. THE GIVEN ROWS OF THIS SEAT. 2 by the template 'for every input the law returns true; each argument reads behind the call as it read before'; 0 by the template 'total and deterministic' (their statements: YtlkffignbjpfcaaTotals.lean).
  GIVEN WITH THE SEED: the statements are not yours to turn. If you find one false, say at which input.
  Laid BY PROGRAM, IN A SANDBOX (cutbox-rows.mjs): the forced cells as the released guide's own fill.sh prints them over the translation 992c48f8ed0a33e8… (all of the seat's roots in one cut). By AI agents, Wed Nov 11 2026. No macro, syntax, notation, axiom, sorry.
-/
import Derived.Test.YtlkffignbjpfcaaChecked
import GoSem.Claim
import GoSem.ClaimJoined
import GoSem.ClaimMapViews
import Derived.JoinedTies
import Derived.KernelRfl
namespace Go.Proofs.Ytlkffignbjpfcaa
/- THE CELL 'sum', in the pinned program and in every row, IS THE sha256 OF THE DUMP (.gsa) THAT YtlkffignbjpfcaaProg.lean LOADS. Nothing in Lean hashes anything: it is a label: what it is worth is what the hold of that sum in a sandbox is worth. -/
noncomputable def Try.pinned : Pinned := { name := "ytlkffignbjpfcaa", sum := "992c48f8ed0a33e833ef42e21824d70d862d3ffc5be77f33632804a68d93b3a9", checked := Try.checked }
namespace Rows
def none {H : Type} : Left H := { results := [], args := [] }

/-- 'lecternlaw13.DrumClones': WHATEVER THE INPUT: true; the input reads as it did. -/
def drumClonesSpec : ChangeSpec := { name := "drumClones", fn := fun _ => fun
  | [d1, d2, d3] => { results := [.lit (.bool true)], args := [d1, d2, d3] }
  | _ => none }
def drumClonesRow : OpenClaim := { program := "ytlkffignbjpfcaa", sum := "992c48f8ed0a33e833ef42e21824d70d862d3ffc5be77f33632804a68d93b3a9", func := "lectern/lecternlaw13.DrumClones", spec := "drumClones", apart := false }
def DrumClonesSaid : Prop := drumClonesRow.holds Try.pinned (OpenSpec.ofChange drumClonesSpec)

/-- ITS FALSE NEIGHBOUR: 'it returns false'. Refute it at one input. -/
def drumClonesWrong : ChangeSpec := { name := "drumClones", fn := fun _ => fun
  | [d1, d2, d3] => { results := [.lit (.bool false)], args := [d1, d2, d3] }
  | _ => none }
def DrumClonesWrongFalsely : Prop := drumClonesRow.holds Try.pinned (OpenSpec.ofChange drumClonesWrong)

/-- 'lecternlaw15.SheetPuts': WHATEVER THE INPUT: true; the input reads as it did. -/
def sheetPutsSpec : ChangeSpec := { name := "sheetPuts", fn := fun _ => fun
  | [d1, d2, d3] => { results := [.lit (.bool true)], args := [d1, d2, d3] }
  | _ => none }
def sheetPutsRow : OpenClaim := { program := "ytlkffignbjpfcaa", sum := "992c48f8ed0a33e833ef42e21824d70d862d3ffc5be77f33632804a68d93b3a9", func := "lectern/lecternlaw15.SheetPuts", spec := "sheetPuts", unfollowed := true, recurses := true, apart := false }
def SheetPutsSaid : Prop := sheetPutsRow.holds Try.pinned (OpenSpec.ofChange sheetPutsSpec)

/-- ITS FALSE NEIGHBOUR: 'it returns false'. Refute it at one input. -/
def sheetPutsWrong : ChangeSpec := { name := "sheetPuts", fn := fun _ => fun
  | [d1, d2, d3] => { results := [.lit (.bool false)], args := [d1, d2, d3] }
  | _ => none }
def SheetPutsWrongFalsely : Prop := sheetPutsRow.holds Try.pinned (OpenSpec.ofChange sheetPutsWrong)

/- THE SECOND FORM. 'bulk': how many values and letters a reading holds, each counted each time it is reached (what is shared counts as often as it is met; a slice's spare places count too). A statement '..UptoSaid' is the law's where the arguments, and the package variables that the reading takes, are together of bulk at most 1048576: NARROWER than '..Said'. Prove '..Said' where nothing that the law and all that it calls make is longer than what came in: it says more and counts as full. Else prove '..UptoSaid'. A law counts once. -/
mutual
def uptoBulk {H : Type} : DataW H → Nat
  | .lit (.string bytes) => bytes.length + 1
  | .lit _ => 1
  | .nil => 1
  | .ptr d => uptoBulk d + 1
  | .slice elems spare => uptoBulkAll elems + uptoBulkAll spare + 1
  | .agg parts => uptoBulkAll parts + 1
  | .iface _ d => uptoBulk d + 1
  | .map entries => uptoBulkEntries entries + 1
  | .held _ => 1
def uptoBulkAll {H : Type} : List (DataW H) → Nat
  | [] => 0
  | d :: r => uptoBulk d + uptoBulkAll r
def uptoBulkEntries {H : Type} : List (Lit × DataW H) → Nat
  | [] => 0
  | x :: r => uptoBulkEntry x + uptoBulkEntries r
def uptoBulkEntry {H : Type} : Lit × DataW H → Nat
  | (.string bytes, d) => bytes.length + uptoBulk d + 1
  | (_, d) => uptoBulk d + 1
 end
def uptoSmall : (H : Type) → List (DataW H) → Bool := fun _ ds => decide (uptoBulkAll ds ≤ 1048576)
def OpenSpec.upto (s : _root_.Go.ChangeSpec) : _root_.Go.OpenSpec := { _root_.Go.OpenSpec.ofChange s with cond := some uptoSmall }

/-- 'lecternlaw13.DrumClones', WHERE WHAT IT READS IS OF BULK AT MOST 1048576: true; the input reads as it did. -/
def drumClonesUptoRow : OpenClaim := { program := "ytlkffignbjpfcaa", sum := "992c48f8ed0a33e833ef42e21824d70d862d3ffc5be77f33632804a68d93b3a9", func := "lectern/lecternlaw13.DrumClones", spec := "drumClones", apart := false, narrowed := true }
def DrumClonesUptoSaid : Prop := drumClonesUptoRow.holds Try.pinned (OpenSpec.upto drumClonesSpec)

/-- 'lecternlaw15.SheetPuts', WHERE WHAT IT READS IS OF BULK AT MOST 1048576: true; the input reads as it did. -/
def sheetPutsUptoRow : OpenClaim := { program := "ytlkffignbjpfcaa", sum := "992c48f8ed0a33e833ef42e21824d70d862d3ffc5be77f33632804a68d93b3a9", func := "lectern/lecternlaw15.SheetPuts", spec := "sheetPuts", unfollowed := true, recurses := true, apart := false, narrowed := true }
def SheetPutsUptoSaid : Prop := sheetPutsUptoRow.holds Try.pinned (OpenSpec.upto sheetPutsSpec)

end Rows
end Go.Proofs.Ytlkffignbjpfcaa
