/-
  No cell of these rows narrows 'for every input' (looked for: loops, veiled, ifaces, maps, wideKeys, modest, calm, conditions, laid).
  DERIVED. THE GIVEN ROWS OF THIS SEAT. 4 by the template 'for every input the law returns true; each argument reads behind the call as it read before'; 0 by the template 'total and deterministic' (their statements: YtbbfbgccikeciaaTotals.lean).
  GIVEN WITH THE SEED: the statements are not yours to turn. If you find one false, say at which input.
  Laid BY PROGRAM, IN A SANDBOX (cutbox-rows.mjs): the forced cells as the released guide's own fill.sh prints them over the translation b5bca6554f090883… (all of the seat's roots in one cut). By AI agents, Wed Nov 11 2026. No macro, syntax, notation, axiom, sorry.
-/
import Derived.Test.YtbbfbgccikeciaaChecked
import GoSem.Claim
import GoSem.ClaimJoined
import GoSem.ClaimMapViews
import Derived.JoinedTies
import Derived.KernelRfl
namespace Go.Proofs.Ytbbfbgccikeciaa
/- THE CELL 'sum', in the pinned program and in every row, IS THE sha256 OF THE DUMP (.gsa) THAT YtbbfbgccikeciaaProg.lean LOADS. Nothing in Lean hashes anything: it is a label: what it is worth is what the hold of that sum in a sandbox is worth. -/
noncomputable def Try.pinned : Pinned := { name := "ytbbfbgccikeciaa", sum := "b5bca6554f0908834b7c7d67f4db8eadf13af7019e1adeefd2d464acdd001dcf", checked := Try.checked }
namespace Rows
def none {H : Type} : Left H := { results := [], args := [] }

/-- 'lecternlaw15.SheetDrafts': WHATEVER THE INPUT: true; the input reads as it did. -/
def sheetDraftsSpec : ChangeSpec := { name := "sheetDrafts", fn := fun _ => fun
  | [d] => { results := [.lit (.bool true)], args := [d] }
  | _ => none }
def sheetDraftsRow : OpenClaim := { program := "ytbbfbgccikeciaa", sum := "b5bca6554f0908834b7c7d67f4db8eadf13af7019e1adeefd2d464acdd001dcf", func := "lectern/lecternlaw15.SheetDrafts", spec := "sheetDrafts", unfollowed := true, recurses := true, apart := false }
def SheetDraftsSaid : Prop := sheetDraftsRow.holds Try.pinned (OpenSpec.ofChange sheetDraftsSpec)

/-- ITS FALSE NEIGHBOUR: 'it returns false'. Refute it at one input. -/
def sheetDraftsWrong : ChangeSpec := { name := "sheetDrafts", fn := fun _ => fun
  | [d] => { results := [.lit (.bool false)], args := [d] }
  | _ => none }
def SheetDraftsWrongFalsely : Prop := sheetDraftsRow.holds Try.pinned (OpenSpec.ofChange sheetDraftsWrong)

/-- 'lecternlaw15.SheetLays': WHATEVER THE INPUT: true; the input reads as it did. -/
def sheetLaysSpec : ChangeSpec := { name := "sheetLays", fn := fun _ => fun
  | [d1, d2, d3, d4] => { results := [.lit (.bool true)], args := [d1, d2, d3, d4] }
  | _ => none }
def sheetLaysRow : OpenClaim := { program := "ytbbfbgccikeciaa", sum := "b5bca6554f0908834b7c7d67f4db8eadf13af7019e1adeefd2d464acdd001dcf", func := "lectern/lecternlaw15.SheetLays", spec := "sheetLays", unfollowed := true, recurses := true, apart := false }
def SheetLaysSaid : Prop := sheetLaysRow.holds Try.pinned (OpenSpec.ofChange sheetLaysSpec)

/-- ITS FALSE NEIGHBOUR: 'it returns false'. Refute it at one input. -/
def sheetLaysWrong : ChangeSpec := { name := "sheetLays", fn := fun _ => fun
  | [d1, d2, d3, d4] => { results := [.lit (.bool false)], args := [d1, d2, d3, d4] }
  | _ => none }
def SheetLaysWrongFalsely : Prop := sheetLaysRow.holds Try.pinned (OpenSpec.ofChange sheetLaysWrong)

/-- 'lecternlaw15.SheetHeads': WHATEVER THE INPUT: true; the input reads as it did. -/
def sheetHeadsSpec : ChangeSpec := { name := "sheetHeads", fn := fun _ => fun
  | [d1, d2, d3] => { results := [.lit (.bool true)], args := [d1, d2, d3] }
  | _ => none }
def sheetHeadsRow : OpenClaim := { program := "ytbbfbgccikeciaa", sum := "b5bca6554f0908834b7c7d67f4db8eadf13af7019e1adeefd2d464acdd001dcf", func := "lectern/lecternlaw15.SheetHeads", spec := "sheetHeads", unfollowed := true, recurses := true, apart := false }
def SheetHeadsSaid : Prop := sheetHeadsRow.holds Try.pinned (OpenSpec.ofChange sheetHeadsSpec)

/-- ITS FALSE NEIGHBOUR: 'it returns false'. Refute it at one input. -/
def sheetHeadsWrong : ChangeSpec := { name := "sheetHeads", fn := fun _ => fun
  | [d1, d2, d3] => { results := [.lit (.bool false)], args := [d1, d2, d3] }
  | _ => none }
def SheetHeadsWrongFalsely : Prop := sheetHeadsRow.holds Try.pinned (OpenSpec.ofChange sheetHeadsWrong)

/-- 'lecternlaw15.SheetTurns': WHATEVER THE INPUT: true; the input reads as it did. -/
def sheetTurnsSpec : ChangeSpec := { name := "sheetTurns", fn := fun _ => fun
  | [d1, d2, d3, d4, d5] => { results := [.lit (.bool true)], args := [d1, d2, d3, d4, d5] }
  | _ => none }
def sheetTurnsRow : OpenClaim := { program := "ytbbfbgccikeciaa", sum := "b5bca6554f0908834b7c7d67f4db8eadf13af7019e1adeefd2d464acdd001dcf", func := "lectern/lecternlaw15.SheetTurns", spec := "sheetTurns", unfollowed := true, recurses := true, apart := false }
def SheetTurnsSaid : Prop := sheetTurnsRow.holds Try.pinned (OpenSpec.ofChange sheetTurnsSpec)

/-- ITS FALSE NEIGHBOUR: 'it returns false'. Refute it at one input. -/
def sheetTurnsWrong : ChangeSpec := { name := "sheetTurns", fn := fun _ => fun
  | [d1, d2, d3, d4, d5] => { results := [.lit (.bool false)], args := [d1, d2, d3, d4, d5] }
  | _ => none }
def SheetTurnsWrongFalsely : Prop := sheetTurnsRow.holds Try.pinned (OpenSpec.ofChange sheetTurnsWrong)

/- THE SECOND FORM. 'bulk': how many values and letters a reading holds, each counted each time it is reached (what is shared counts as often as it is met; a slice's spare places count too). A statement '..UptoSaid' is the law's where the arguments, and the package variables that the reading takes, are together of bulk at most 1048576: NARROWER than '..Said'. Prove '..Said' where nothing that the law and all that it calls make is longer than what came in: it says more and counts as full. Else prove '..UptoSaid'. A law counts once. -/
mutual
def uptoBulk {H : Type} : DataW H → Nat
  | .lit (.string bytes) => bytes.length + 1
  | .lit _ => 1
  | .nil => 1
  | .ptr d => uptoBulk d + 1
  | .slice elems spare => uptoBulkAll elems + uptoBulkAll spare + 1
  | .agg parts => uptoBulkAll parts + 1
  | .iface _ d => uptoBulk d + 1
  | .map entries => uptoBulkEntries entries + 1
  | .held _ => 1
def uptoBulkAll {H : Type} : List (DataW H) → Nat
  | [] => 0
  | d :: r => uptoBulk d + uptoBulkAll r
def uptoBulkEntries {H : Type} : List (Lit × DataW H) → Nat
  | [] => 0
  | x :: r => uptoBulkEntry x + uptoBulkEntries r
def uptoBulkEntry {H : Type} : Lit × DataW H → Nat
  | (.string bytes, d) => bytes.length + uptoBulk d + 1
  | (_, d) => uptoBulk d + 1
 end
def uptoSmall : (H : Type) → List (DataW H) → Bool := fun _ ds => decide (uptoBulkAll ds ≤ 1048576)
def OpenSpec.upto (s : _root_.Go.ChangeSpec) : _root_.Go.OpenSpec := { _root_.Go.OpenSpec.ofChange s with cond := some uptoSmall }

/-- 'lecternlaw15.SheetDrafts', WHERE WHAT IT READS IS OF BULK AT MOST 1048576: true; the input reads as it did. -/
def sheetDraftsUptoRow : OpenClaim := { program := "ytbbfbgccikeciaa", sum := "b5bca6554f0908834b7c7d67f4db8eadf13af7019e1adeefd2d464acdd001dcf", func := "lectern/lecternlaw15.SheetDrafts", spec := "sheetDrafts", unfollowed := true, recurses := true, apart := false, narrowed := true }
def SheetDraftsUptoSaid : Prop := sheetDraftsUptoRow.holds Try.pinned (OpenSpec.upto sheetDraftsSpec)

/-- 'lecternlaw15.SheetLays', WHERE WHAT IT READS IS OF BULK AT MOST 1048576: true; the input reads as it did. -/
def sheetLaysUptoRow : OpenClaim := { program := "ytbbfbgccikeciaa", sum := "b5bca6554f0908834b7c7d67f4db8eadf13af7019e1adeefd2d464acdd001dcf", func := "lectern/lecternlaw15.SheetLays", spec := "sheetLays", unfollowed := true, recurses := true, apart := false, narrowed := true }
def SheetLaysUptoSaid : Prop := sheetLaysUptoRow.holds Try.pinned (OpenSpec.upto sheetLaysSpec)

/-- 'lecternlaw15.SheetHeads', WHERE WHAT IT READS IS OF BULK AT MOST 1048576: true; the input reads as it did. -/
def sheetHeadsUptoRow : OpenClaim := { program := "ytbbfbgccikeciaa", sum := "b5bca6554f0908834b7c7d67f4db8eadf13af7019e1adeefd2d464acdd001dcf", func := "lectern/lecternlaw15.SheetHeads", spec := "sheetHeads", unfollowed := true, recurses := true, apart := false, narrowed := true }
def SheetHeadsUptoSaid : Prop := sheetHeadsUptoRow.holds Try.pinned (OpenSpec.upto sheetHeadsSpec)

/-- 'lecternlaw15.SheetTurns', WHERE WHAT IT READS IS OF BULK AT MOST 1048576: true; the input reads as it did. -/
def sheetTurnsUptoRow : OpenClaim := { program := "ytbbfbgccikeciaa", sum := "b5bca6554f0908834b7c7d67f4db8eadf13af7019e1adeefd2d464acdd001dcf", func := "lectern/lecternlaw15.SheetTurns", spec := "sheetTurns", unfollowed := true, recurses := true, apart := false, narrowed := true }
def SheetTurnsUptoSaid : Prop := sheetTurnsUptoRow.holds Try.pinned (OpenSpec.upto sheetTurnsSpec)

end Rows
end Go.Proofs.Ytbbfbgccikeciaa
