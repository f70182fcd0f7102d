/-
  No cell of these rows narrows 'for every input' (looked for: loops, veiled, ifaces, maps, wideKeys, modest, calm, conditions, laid).
  DERIVED. THE GIVEN ROWS OF THIS SEAT. 12 by the template 'for every input the law returns true; each argument reads behind the call as it read before'; 0 by the template 'total and deterministic' (their statements: YtgfdencjhcfljaaTotals.lean).
  GIVEN WITH THE SEED: the statements are not yours to turn. If you find one false, say at which input.
  Laid BY PROGRAM, IN A SANDBOX (cutbox-rows.mjs): the forced cells as the released guide's own fill.sh prints them over the translation 5b1aa65df4260a39… (all of the seat's roots in one cut). By AI agents, Wed Nov 11 2026. No macro, syntax, notation, axiom, sorry.
-/
import Derived.Test.YtgfdencjhcfljaaChecked
import GoSem.Claim
import GoSem.ClaimJoined
import GoSem.ClaimMapViews
import Derived.JoinedTies
import Derived.KernelRfl
namespace Go.Proofs.Ytgfdencjhcfljaa
/- THE CELL 'sum', in the pinned program and in every row, IS THE sha256 OF THE DUMP (.gsa) THAT YtgfdencjhcfljaaProg.lean LOADS. Nothing in Lean hashes anything: it is a label: what it is worth is what the hold of that sum in a sandbox is worth. -/
noncomputable def Try.pinned : Pinned := { name := "ytgfdencjhcfljaa", sum := "5b1aa65df4260a39e502b65d128b07e954e93ea0ba90f30d782d78fc7c816a83", checked := Try.checked }
namespace Rows
def none {H : Type} : Left H := { results := [], args := [] }

/-- 'lecternlaw14.TapeSums': WHATEVER THE INPUT: true; the input reads as it did. -/
def tapeSumsSpec : ChangeSpec := { name := "tapeSums", fn := fun _ => fun
  | [d1, d2, d3] => { results := [.lit (.bool true)], args := [d1, d2, d3] }
  | _ => none }
def tapeSumsRow : OpenClaim := { program := "ytgfdencjhcfljaa", sum := "5b1aa65df4260a39e502b65d128b07e954e93ea0ba90f30d782d78fc7c816a83", func := "lectern/lecternlaw14.TapeSums", spec := "tapeSums", apart := false }
def TapeSumsSaid : Prop := tapeSumsRow.holds Try.pinned (OpenSpec.ofChange tapeSumsSpec)

/-- ITS FALSE NEIGHBOUR: 'it returns false'. Refute it at one input. -/
def tapeSumsWrong : ChangeSpec := { name := "tapeSums", fn := fun _ => fun
  | [d1, d2, d3] => { results := [.lit (.bool false)], args := [d1, d2, d3] }
  | _ => none }
def TapeSumsWrongFalsely : Prop := tapeSumsRow.holds Try.pinned (OpenSpec.ofChange tapeSumsWrong)

/-- 'lecternlaw14.TapeOpens': WHATEVER THE INPUT: true; the input reads as it did. -/
def tapeOpensSpec : ChangeSpec := { name := "tapeOpens", fn := fun _ => fun
  | [d1, d2, d3, d4] => { results := [.lit (.bool true)], args := [d1, d2, d3, d4] }
  | _ => none }
def tapeOpensRow : OpenClaim := { program := "ytgfdencjhcfljaa", sum := "5b1aa65df4260a39e502b65d128b07e954e93ea0ba90f30d782d78fc7c816a83", func := "lectern/lecternlaw14.TapeOpens", spec := "tapeOpens", apart := false }
def TapeOpensSaid : Prop := tapeOpensRow.holds Try.pinned (OpenSpec.ofChange tapeOpensSpec)

/-- ITS FALSE NEIGHBOUR: 'it returns false'. Refute it at one input. -/
def tapeOpensWrong : ChangeSpec := { name := "tapeOpens", fn := fun _ => fun
  | [d1, d2, d3, d4] => { results := [.lit (.bool false)], args := [d1, d2, d3, d4] }
  | _ => none }
def TapeOpensWrongFalsely : Prop := tapeOpensRow.holds Try.pinned (OpenSpec.ofChange tapeOpensWrong)

/-- 'lecternlaw14.TapeWrites': WHATEVER THE INPUT: true; the input reads as it did. -/
def tapeWritesSpec : ChangeSpec := { name := "tapeWrites", fn := fun _ => fun
  | [d1, d2, d3, d4, d5] => { results := [.lit (.bool true)], args := [d1, d2, d3, d4, d5] }
  | _ => none }
def tapeWritesRow : OpenClaim := { program := "ytgfdencjhcfljaa", sum := "5b1aa65df4260a39e502b65d128b07e954e93ea0ba90f30d782d78fc7c816a83", func := "lectern/lecternlaw14.TapeWrites", spec := "tapeWrites", apart := false }
def TapeWritesSaid : Prop := tapeWritesRow.holds Try.pinned (OpenSpec.ofChange tapeWritesSpec)

/-- ITS FALSE NEIGHBOUR: 'it returns false'. Refute it at one input. -/
def tapeWritesWrong : ChangeSpec := { name := "tapeWrites", fn := fun _ => fun
  | [d1, d2, d3, d4, d5] => { results := [.lit (.bool false)], args := [d1, d2, d3, d4, d5] }
  | _ => none }
def TapeWritesWrongFalsely : Prop := tapeWritesRow.holds Try.pinned (OpenSpec.ofChange tapeWritesWrong)

/-- 'lecternlaw14.TapeLasts': WHATEVER THE INPUT: true; the input reads as it did. -/
def tapeLastsSpec : ChangeSpec := { name := "tapeLasts", fn := fun _ => fun
  | [d1, d2, d3] => { results := [.lit (.bool true)], args := [d1, d2, d3] }
  | _ => none }
def tapeLastsRow : OpenClaim := { program := "ytgfdencjhcfljaa", sum := "5b1aa65df4260a39e502b65d128b07e954e93ea0ba90f30d782d78fc7c816a83", func := "lectern/lecternlaw14.TapeLasts", spec := "tapeLasts", apart := false }
def TapeLastsSaid : Prop := tapeLastsRow.holds Try.pinned (OpenSpec.ofChange tapeLastsSpec)

/-- ITS FALSE NEIGHBOUR: 'it returns false'. Refute it at one input. -/
def tapeLastsWrong : ChangeSpec := { name := "tapeLasts", fn := fun _ => fun
  | [d1, d2, d3] => { results := [.lit (.bool false)], args := [d1, d2, d3] }
  | _ => none }
def TapeLastsWrongFalsely : Prop := tapeLastsRow.holds Try.pinned (OpenSpec.ofChange tapeLastsWrong)

/-- 'lecternlaw14.TapeTurns': WHATEVER THE INPUT: true; the input reads as it did. -/
def tapeTurnsSpec : ChangeSpec := { name := "tapeTurns", fn := fun _ => fun
  | [d1, d2, d3] => { results := [.lit (.bool true)], args := [d1, d2, d3] }
  | _ => none }
def tapeTurnsRow : OpenClaim := { program := "ytgfdencjhcfljaa", sum := "5b1aa65df4260a39e502b65d128b07e954e93ea0ba90f30d782d78fc7c816a83", func := "lectern/lecternlaw14.TapeTurns", spec := "tapeTurns", apart := false }
def TapeTurnsSaid : Prop := tapeTurnsRow.holds Try.pinned (OpenSpec.ofChange tapeTurnsSpec)

/-- ITS FALSE NEIGHBOUR: 'it returns false'. Refute it at one input. -/
def tapeTurnsWrong : ChangeSpec := { name := "tapeTurns", fn := fun _ => fun
  | [d1, d2, d3] => { results := [.lit (.bool false)], args := [d1, d2, d3] }
  | _ => none }
def TapeTurnsWrongFalsely : Prop := tapeTurnsRow.holds Try.pinned (OpenSpec.ofChange tapeTurnsWrong)

/-- 'lecternlaw14.TapeNil': WHATEVER THE INPUT: true; the input reads as it did. -/
def tapeNilSpec : ChangeSpec := { name := "tapeNil", fn := fun _ => fun
  | [d1, d2, d3, d4] => { results := [.lit (.bool true)], args := [d1, d2, d3, d4] }
  | _ => none }
def tapeNilRow : OpenClaim := { program := "ytgfdencjhcfljaa", sum := "5b1aa65df4260a39e502b65d128b07e954e93ea0ba90f30d782d78fc7c816a83", func := "lectern/lecternlaw14.TapeNil", spec := "tapeNil", apart := false }
def TapeNilSaid : Prop := tapeNilRow.holds Try.pinned (OpenSpec.ofChange tapeNilSpec)

/-- ITS FALSE NEIGHBOUR: 'it returns false'. Refute it at one input. -/
def tapeNilWrong : ChangeSpec := { name := "tapeNil", fn := fun _ => fun
  | [d1, d2, d3, d4] => { results := [.lit (.bool false)], args := [d1, d2, d3, d4] }
  | _ => none }
def TapeNilWrongFalsely : Prop := tapeNilRow.holds Try.pinned (OpenSpec.ofChange tapeNilWrong)

/-- 'lecternlaw15.SheetDrafts': WHATEVER THE INPUT: true; the input reads as it did. -/
def sheetDraftsSpec : ChangeSpec := { name := "sheetDrafts", fn := fun _ => fun
  | [d] => { results := [.lit (.bool true)], args := [d] }
  | _ => none }
def sheetDraftsRow : OpenClaim := { program := "ytgfdencjhcfljaa", sum := "5b1aa65df4260a39e502b65d128b07e954e93ea0ba90f30d782d78fc7c816a83", func := "lectern/lecternlaw15.SheetDrafts", spec := "sheetDrafts", unfollowed := true, recurses := true, apart := false }
def SheetDraftsSaid : Prop := sheetDraftsRow.holds Try.pinned (OpenSpec.ofChange sheetDraftsSpec)

/-- ITS FALSE NEIGHBOUR: 'it returns false'. Refute it at one input. -/
def sheetDraftsWrong : ChangeSpec := { name := "sheetDrafts", fn := fun _ => fun
  | [d] => { results := [.lit (.bool false)], args := [d] }
  | _ => none }
def SheetDraftsWrongFalsely : Prop := sheetDraftsRow.holds Try.pinned (OpenSpec.ofChange sheetDraftsWrong)

/-- 'lecternlaw15.SheetLays': WHATEVER THE INPUT: true; the input reads as it did. -/
def sheetLaysSpec : ChangeSpec := { name := "sheetLays", fn := fun _ => fun
  | [d1, d2, d3, d4] => { results := [.lit (.bool true)], args := [d1, d2, d3, d4] }
  | _ => none }
def sheetLaysRow : OpenClaim := { program := "ytgfdencjhcfljaa", sum := "5b1aa65df4260a39e502b65d128b07e954e93ea0ba90f30d782d78fc7c816a83", func := "lectern/lecternlaw15.SheetLays", spec := "sheetLays", unfollowed := true, recurses := true, apart := false }
def SheetLaysSaid : Prop := sheetLaysRow.holds Try.pinned (OpenSpec.ofChange sheetLaysSpec)

/-- ITS FALSE NEIGHBOUR: 'it returns false'. Refute it at one input. -/
def sheetLaysWrong : ChangeSpec := { name := "sheetLays", fn := fun _ => fun
  | [d1, d2, d3, d4] => { results := [.lit (.bool false)], args := [d1, d2, d3, d4] }
  | _ => none }
def SheetLaysWrongFalsely : Prop := sheetLaysRow.holds Try.pinned (OpenSpec.ofChange sheetLaysWrong)

/-- 'lecternlaw15.SheetHeads': WHATEVER THE INPUT: true; the input reads as it did. -/
def sheetHeadsSpec : ChangeSpec := { name := "sheetHeads", fn := fun _ => fun
  | [d1, d2, d3] => { results := [.lit (.bool true)], args := [d1, d2, d3] }
  | _ => none }
def sheetHeadsRow : OpenClaim := { program := "ytgfdencjhcfljaa", sum := "5b1aa65df4260a39e502b65d128b07e954e93ea0ba90f30d782d78fc7c816a83", func := "lectern/lecternlaw15.SheetHeads", spec := "sheetHeads", unfollowed := true, recurses := true, apart := false }
def SheetHeadsSaid : Prop := sheetHeadsRow.holds Try.pinned (OpenSpec.ofChange sheetHeadsSpec)

/-- ITS FALSE NEIGHBOUR: 'it returns false'. Refute it at one input. -/
def sheetHeadsWrong : ChangeSpec := { name := "sheetHeads", fn := fun _ => fun
  | [d1, d2, d3] => { results := [.lit (.bool false)], args := [d1, d2, d3] }
  | _ => none }
def SheetHeadsWrongFalsely : Prop := sheetHeadsRow.holds Try.pinned (OpenSpec.ofChange sheetHeadsWrong)

/-- 'lecternlaw15.SheetTurns': WHATEVER THE INPUT: true; the input reads as it did. -/
def sheetTurnsSpec : ChangeSpec := { name := "sheetTurns", fn := fun _ => fun
  | [d1, d2, d3, d4, d5] => { results := [.lit (.bool true)], args := [d1, d2, d3, d4, d5] }
  | _ => none }
def sheetTurnsRow : OpenClaim := { program := "ytgfdencjhcfljaa", sum := "5b1aa65df4260a39e502b65d128b07e954e93ea0ba90f30d782d78fc7c816a83", func := "lectern/lecternlaw15.SheetTurns", spec := "sheetTurns", unfollowed := true, recurses := true, apart := false }
def SheetTurnsSaid : Prop := sheetTurnsRow.holds Try.pinned (OpenSpec.ofChange sheetTurnsSpec)

/-- ITS FALSE NEIGHBOUR: 'it returns false'. Refute it at one input. -/
def sheetTurnsWrong : ChangeSpec := { name := "sheetTurns", fn := fun _ => fun
  | [d1, d2, d3, d4, d5] => { results := [.lit (.bool false)], args := [d1, d2, d3, d4, d5] }
  | _ => none }
def SheetTurnsWrongFalsely : Prop := sheetTurnsRow.holds Try.pinned (OpenSpec.ofChange sheetTurnsWrong)

/-- 'lecternlaw15.SheetPuts': WHATEVER THE INPUT: true; the input reads as it did. -/
def sheetPutsSpec : ChangeSpec := { name := "sheetPuts", fn := fun _ => fun
  | [d1, d2, d3] => { results := [.lit (.bool true)], args := [d1, d2, d3] }
  | _ => none }
def sheetPutsRow : OpenClaim := { program := "ytgfdencjhcfljaa", sum := "5b1aa65df4260a39e502b65d128b07e954e93ea0ba90f30d782d78fc7c816a83", func := "lectern/lecternlaw15.SheetPuts", spec := "sheetPuts", unfollowed := true, recurses := true, apart := false }
def SheetPutsSaid : Prop := sheetPutsRow.holds Try.pinned (OpenSpec.ofChange sheetPutsSpec)

/-- ITS FALSE NEIGHBOUR: 'it returns false'. Refute it at one input. -/
def sheetPutsWrong : ChangeSpec := { name := "sheetPuts", fn := fun _ => fun
  | [d1, d2, d3] => { results := [.lit (.bool false)], args := [d1, d2, d3] }
  | _ => none }
def SheetPutsWrongFalsely : Prop := sheetPutsRow.holds Try.pinned (OpenSpec.ofChange sheetPutsWrong)

/-- 'lecternlaw15.SheetLasts': WHATEVER THE INPUT: true; the input reads as it did. -/
def sheetLastsSpec : ChangeSpec := { name := "sheetLasts", fn := fun _ => fun
  | [d1, d2, d3, d4, d5] => { results := [.lit (.bool true)], args := [d1, d2, d3, d4, d5] }
  | _ => none }
def sheetLastsRow : OpenClaim := { program := "ytgfdencjhcfljaa", sum := "5b1aa65df4260a39e502b65d128b07e954e93ea0ba90f30d782d78fc7c816a83", func := "lectern/lecternlaw15.SheetLasts", spec := "sheetLasts", unfollowed := true, recurses := true, apart := false }
def SheetLastsSaid : Prop := sheetLastsRow.holds Try.pinned (OpenSpec.ofChange sheetLastsSpec)

/-- ITS FALSE NEIGHBOUR: 'it returns false'. Refute it at one input. -/
def sheetLastsWrong : ChangeSpec := { name := "sheetLasts", fn := fun _ => fun
  | [d1, d2, d3, d4, d5] => { results := [.lit (.bool false)], args := [d1, d2, d3, d4, d5] }
  | _ => none }
def SheetLastsWrongFalsely : Prop := sheetLastsRow.holds Try.pinned (OpenSpec.ofChange sheetLastsWrong)

/- THE SECOND FORM. 'bulk': how many values and letters a reading holds, each counted each time it is reached (what is shared counts as often as it is met; a slice's spare places count too). A statement '..UptoSaid' is the law's where the arguments, and the package variables that the reading takes, are together of bulk at most 1048576: NARROWER than '..Said'. Prove '..Said' where nothing that the law and all that it calls make is longer than what came in: it says more and counts as full. Else prove '..UptoSaid'. A law counts once. -/
mutual
def uptoBulk {H : Type} : DataW H → Nat
  | .lit (.string bytes) => bytes.length + 1
  | .lit _ => 1
  | .nil => 1
  | .ptr d => uptoBulk d + 1
  | .slice elems spare => uptoBulkAll elems + uptoBulkAll spare + 1
  | .agg parts => uptoBulkAll parts + 1
  | .iface _ d => uptoBulk d + 1
  | .map entries => uptoBulkEntries entries + 1
  | .held _ => 1
def uptoBulkAll {H : Type} : List (DataW H) → Nat
  | [] => 0
  | d :: r => uptoBulk d + uptoBulkAll r
def uptoBulkEntries {H : Type} : List (Lit × DataW H) → Nat
  | [] => 0
  | x :: r => uptoBulkEntry x + uptoBulkEntries r
def uptoBulkEntry {H : Type} : Lit × DataW H → Nat
  | (.string bytes, d) => bytes.length + uptoBulk d + 1
  | (_, d) => uptoBulk d + 1
 end
def uptoSmall : (H : Type) → List (DataW H) → Bool := fun _ ds => decide (uptoBulkAll ds ≤ 1048576)
def OpenSpec.upto (s : _root_.Go.ChangeSpec) : _root_.Go.OpenSpec := { _root_.Go.OpenSpec.ofChange s with cond := some uptoSmall }

/-- 'lecternlaw14.TapeSums', WHERE WHAT IT READS IS OF BULK AT MOST 1048576: true; the input reads as it did. -/
def tapeSumsUptoRow : OpenClaim := { program := "ytgfdencjhcfljaa", sum := "5b1aa65df4260a39e502b65d128b07e954e93ea0ba90f30d782d78fc7c816a83", func := "lectern/lecternlaw14.TapeSums", spec := "tapeSums", apart := false, narrowed := true }
def TapeSumsUptoSaid : Prop := tapeSumsUptoRow.holds Try.pinned (OpenSpec.upto tapeSumsSpec)

/-- 'lecternlaw14.TapeOpens', WHERE WHAT IT READS IS OF BULK AT MOST 1048576: true; the input reads as it did. -/
def tapeOpensUptoRow : OpenClaim := { program := "ytgfdencjhcfljaa", sum := "5b1aa65df4260a39e502b65d128b07e954e93ea0ba90f30d782d78fc7c816a83", func := "lectern/lecternlaw14.TapeOpens", spec := "tapeOpens", apart := false, narrowed := true }
def TapeOpensUptoSaid : Prop := tapeOpensUptoRow.holds Try.pinned (OpenSpec.upto tapeOpensSpec)

/-- 'lecternlaw14.TapeWrites', WHERE WHAT IT READS IS OF BULK AT MOST 1048576: true; the input reads as it did. -/
def tapeWritesUptoRow : OpenClaim := { program := "ytgfdencjhcfljaa", sum := "5b1aa65df4260a39e502b65d128b07e954e93ea0ba90f30d782d78fc7c816a83", func := "lectern/lecternlaw14.TapeWrites", spec := "tapeWrites", apart := false, narrowed := true }
def TapeWritesUptoSaid : Prop := tapeWritesUptoRow.holds Try.pinned (OpenSpec.upto tapeWritesSpec)

/-- 'lecternlaw14.TapeLasts', WHERE WHAT IT READS IS OF BULK AT MOST 1048576: true; the input reads as it did. -/
def tapeLastsUptoRow : OpenClaim := { program := "ytgfdencjhcfljaa", sum := "5b1aa65df4260a39e502b65d128b07e954e93ea0ba90f30d782d78fc7c816a83", func := "lectern/lecternlaw14.TapeLasts", spec := "tapeLasts", apart := false, narrowed := true }
def TapeLastsUptoSaid : Prop := tapeLastsUptoRow.holds Try.pinned (OpenSpec.upto tapeLastsSpec)

/-- 'lecternlaw14.TapeTurns', WHERE WHAT IT READS IS OF BULK AT MOST 1048576: true; the input reads as it did. -/
def tapeTurnsUptoRow : OpenClaim := { program := "ytgfdencjhcfljaa", sum := "5b1aa65df4260a39e502b65d128b07e954e93ea0ba90f30d782d78fc7c816a83", func := "lectern/lecternlaw14.TapeTurns", spec := "tapeTurns", apart := false, narrowed := true }
def TapeTurnsUptoSaid : Prop := tapeTurnsUptoRow.holds Try.pinned (OpenSpec.upto tapeTurnsSpec)

/-- 'lecternlaw14.TapeNil', WHERE WHAT IT READS IS OF BULK AT MOST 1048576: true; the input reads as it did. -/
def tapeNilUptoRow : OpenClaim := { program := "ytgfdencjhcfljaa", sum := "5b1aa65df4260a39e502b65d128b07e954e93ea0ba90f30d782d78fc7c816a83", func := "lectern/lecternlaw14.TapeNil", spec := "tapeNil", apart := false, narrowed := true }
def TapeNilUptoSaid : Prop := tapeNilUptoRow.holds Try.pinned (OpenSpec.upto tapeNilSpec)

/-- 'lecternlaw15.SheetDrafts', WHERE WHAT IT READS IS OF BULK AT MOST 1048576: true; the input reads as it did. -/
def sheetDraftsUptoRow : OpenClaim := { program := "ytgfdencjhcfljaa", sum := "5b1aa65df4260a39e502b65d128b07e954e93ea0ba90f30d782d78fc7c816a83", func := "lectern/lecternlaw15.SheetDrafts", spec := "sheetDrafts", unfollowed := true, recurses := true, apart := false, narrowed := true }
def SheetDraftsUptoSaid : Prop := sheetDraftsUptoRow.holds Try.pinned (OpenSpec.upto sheetDraftsSpec)

/-- 'lecternlaw15.SheetLays', WHERE WHAT IT READS IS OF BULK AT MOST 1048576: true; the input reads as it did. -/
def sheetLaysUptoRow : OpenClaim := { program := "ytgfdencjhcfljaa", sum := "5b1aa65df4260a39e502b65d128b07e954e93ea0ba90f30d782d78fc7c816a83", func := "lectern/lecternlaw15.SheetLays", spec := "sheetLays", unfollowed := true, recurses := true, apart := false, narrowed := true }
def SheetLaysUptoSaid : Prop := sheetLaysUptoRow.holds Try.pinned (OpenSpec.upto sheetLaysSpec)

/-- 'lecternlaw15.SheetHeads', WHERE WHAT IT READS IS OF BULK AT MOST 1048576: true; the input reads as it did. -/
def sheetHeadsUptoRow : OpenClaim := { program := "ytgfdencjhcfljaa", sum := "5b1aa65df4260a39e502b65d128b07e954e93ea0ba90f30d782d78fc7c816a83", func := "lectern/lecternlaw15.SheetHeads", spec := "sheetHeads", unfollowed := true, recurses := true, apart := false, narrowed := true }
def SheetHeadsUptoSaid : Prop := sheetHeadsUptoRow.holds Try.pinned (OpenSpec.upto sheetHeadsSpec)

/-- 'lecternlaw15.SheetTurns', WHERE WHAT IT READS IS OF BULK AT MOST 1048576: true; the input reads as it did. -/
def sheetTurnsUptoRow : OpenClaim := { program := "ytgfdencjhcfljaa", sum := "5b1aa65df4260a39e502b65d128b07e954e93ea0ba90f30d782d78fc7c816a83", func := "lectern/lecternlaw15.SheetTurns", spec := "sheetTurns", unfollowed := true, recurses := true, apart := false, narrowed := true }
def SheetTurnsUptoSaid : Prop := sheetTurnsUptoRow.holds Try.pinned (OpenSpec.upto sheetTurnsSpec)

/-- 'lecternlaw15.SheetPuts', WHERE WHAT IT READS IS OF BULK AT MOST 1048576: true; the input reads as it did. -/
def sheetPutsUptoRow : OpenClaim := { program := "ytgfdencjhcfljaa", sum := "5b1aa65df4260a39e502b65d128b07e954e93ea0ba90f30d782d78fc7c816a83", func := "lectern/lecternlaw15.SheetPuts", spec := "sheetPuts", unfollowed := true, recurses := true, apart := false, narrowed := true }
def SheetPutsUptoSaid : Prop := sheetPutsUptoRow.holds Try.pinned (OpenSpec.upto sheetPutsSpec)

/-- 'lecternlaw15.SheetLasts', WHERE WHAT IT READS IS OF BULK AT MOST 1048576: true; the input reads as it did. -/
def sheetLastsUptoRow : OpenClaim := { program := "ytgfdencjhcfljaa", sum := "5b1aa65df4260a39e502b65d128b07e954e93ea0ba90f30d782d78fc7c816a83", func := "lectern/lecternlaw15.SheetLasts", spec := "sheetLasts", unfollowed := true, recurses := true, apart := false, narrowed := true }
def SheetLastsUptoSaid : Prop := sheetLastsUptoRow.holds Try.pinned (OpenSpec.upto sheetLastsSpec)

end Rows
end Go.Proofs.Ytgfdencjhcfljaa
