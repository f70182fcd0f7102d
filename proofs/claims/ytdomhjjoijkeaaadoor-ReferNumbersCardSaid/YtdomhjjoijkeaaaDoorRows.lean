/-
  NARROWER THAN 'FOR EVERY INPUT', by the rows' own cells (each row's printed sentence says how): ReferExpands: laid · ReferWrites: laid · ReferReads: laid · ReferBack: laid · ReferNumbers: laid · ReferJoins: laid · ReferPlain: laid.
  DERIVED. THE GIVEN ROWS OF THIS SEAT. 7 by the template 'for every input the law returns true; each argument reads behind the call as it read before'; 0 by the template 'total and deterministic' (their statements: YtdomhjjoijkeaaaDoorTotals.lean).
  GIVEN WITH THE SEED: the statements are not yours to turn. If you find one false, say at which input.
  Laid BY PROGRAM, IN A SANDBOX (cutbox-rows.mjs): the forced cells as the released guide's own fill.sh prints them over the translation 8ae6f404635f09f6… (all of the seat's roots in one cut). By AI agents, Wed Nov 11 2026. No macro, syntax, notation, axiom, sorry.
-/
import Derived.Test.YtdomhjjoijkeaaaDoorChecked
import GoSem.PinnedTables
import GoSem.Claim
import GoSem.ClaimJoined
import GoSem.ClaimMapViews
import Derived.JoinedTies
import Derived.KernelRfl
namespace Go.Proofs.YtdomhjjoijkeaaaDoor
/- THE CELL 'sum', in the pinned program and in every row, IS THE sha256 OF THE DUMP (.gsa) THAT YtdomhjjoijkeaaaDoorProg.lean LOADS. Nothing in Lean hashes anything: it is a label: what it is worth is what the hold of that sum in a sandbox is worth. -/
noncomputable def Tryd.pinned : Pinned := { name := "ytdomhjjoijkeaaadoor", sum := "8ae6f404635f09f6ee7ca465cfb99565bedfb4d24736e02cc4ac6f292a7d0280", checked := Tryd.checked }
namespace Rows
def none {H : Type} : Left H := { results := [], args := [] }

/- WHAT THE LISTED PACKAGE-LEVEL VARIABLES READ AS WHEN THE CALL BEGINS. Each datum BY PROGRAM (the guide's laid-datum.mjs) off the statement by which the dump's own 'gosem.cut.vars' lays the variable. In a bare row this is a premise. The card (YtdomhjjoijkeaaaDoorCards.lean) ties it to the program's text. -/
def laid_unicode_utf8_acceptRanges {H : Type} : DataW H := .agg [.agg [.lit (.int .u8 128), .lit (.int .u8 191)], .agg [.lit (.int .u8 160), .lit (.int .u8 191)], .agg [.lit (.int .u8 128), .lit (.int .u8 159)], .agg [.lit (.int .u8 144), .lit (.int .u8 191)], .agg [.lit (.int .u8 128), .lit (.int .u8 143)], .agg [.lit (.int .u8 0), .lit (.int .u8 0)], .agg [.lit (.int .u8 0), .lit (.int .u8 0)], .agg [.lit (.int .u8 0), .lit (.int .u8 0)], .agg [.lit (.int .u8 0), .lit (.int .u8 0)], .agg [.lit (.int .u8 0), .lit (.int .u8 0)], .agg [.lit (.int .u8 0), .lit (.int .u8 0)], .agg [.lit (.int .u8 0), .lit (.int .u8 0)], .agg [.lit (.int .u8 0), .lit (.int .u8 0)], .agg [.lit (.int .u8 0), .lit (.int .u8 0)], .agg [.lit (.int .u8 0), .lit (.int .u8 0)], .agg [.lit (.int .u8 0), .lit (.int .u8 0)]]
def laid_lectern_refer_named {H : Type} : DataW H := .agg [.agg [.lit (.string [38, 108, 116, 59]), .lit (.int .i32 60)], .agg [.lit (.string [38, 103, 116, 59]), .lit (.int .i32 62)], .agg [.lit (.string [38, 97, 109, 112, 59]), .lit (.int .i32 38)], .agg [.lit (.string [38, 97, 112, 111, 115, 59]), .lit (.int .i32 39)], .agg [.lit (.string [38, 113, 117, 111, 116, 59]), .lit (.int .i32 34)]]
/-- One of Go's own tables, pinned by name: the form's constant. -/
def laid_unicode_utf8_first : DataW Unit := Go.Pinned.utf8First

/-- 'lecternlaw02.ReferExpands': WHATEVER THE INPUT: true; the input reads as it did. -/
def referExpandsSpec : ChangeSpec := { name := "referExpands", fn := fun _ => fun
  | [d1, d2] => { results := [.lit (.bool true)], args := [d1, d2] }
  | _ => none }
def referExpandsRow : OpenClaim := { program := "ytdomhjjoijkeaaadoor", sum := "8ae6f404635f09f6ee7ca465cfb99565bedfb4d24736e02cc4ac6f292a7d0280", func := "lectern/lecternlaw02.ReferExpands", spec := "referExpands", inPlace := ["internal/abi.NoEscape"], unfollowed := true, recurses := true, named := ["lectern/refer.named", "unicode/utf8.first", "unicode/utf8.acceptRanges"], apart := false, laid := [("unicode/utf8.acceptRanges", laid_unicode_utf8_acceptRanges), ("lectern/refer.named", laid_lectern_refer_named), ("unicode/utf8.first", laid_unicode_utf8_first)] }
def ReferExpandsSaid : Prop := referExpandsRow.holds Tryd.pinned (OpenSpec.ofChange referExpandsSpec)

/-- ITS FALSE NEIGHBOUR: 'it returns false'. Refute it at one input. -/
def referExpandsWrong : ChangeSpec := { name := "referExpands", fn := fun _ => fun
  | [d1, d2] => { results := [.lit (.bool false)], args := [d1, d2] }
  | _ => none }
def ReferExpandsWrongFalsely : Prop := referExpandsRow.holds Tryd.pinned (OpenSpec.ofChange referExpandsWrong)

/-- 'lecternlaw02.ReferWrites': WHATEVER THE INPUT: true; the input reads as it did. -/
def referWritesSpec : ChangeSpec := { name := "referWrites", fn := fun _ => fun
  | [d] => { results := [.lit (.bool true)], args := [d] }
  | _ => none }
def referWritesRow : OpenClaim := { program := "ytdomhjjoijkeaaadoor", sum := "8ae6f404635f09f6ee7ca465cfb99565bedfb4d24736e02cc4ac6f292a7d0280", func := "lectern/lecternlaw02.ReferWrites", spec := "referWrites", inPlace := ["internal/abi.NoEscape"], unfollowed := true, recurses := true, named := ["lectern/refer.named", "unicode/utf8.first", "unicode/utf8.acceptRanges"], apart := false, laid := [("unicode/utf8.acceptRanges", laid_unicode_utf8_acceptRanges), ("lectern/refer.named", laid_lectern_refer_named), ("unicode/utf8.first", laid_unicode_utf8_first)] }
def ReferWritesSaid : Prop := referWritesRow.holds Tryd.pinned (OpenSpec.ofChange referWritesSpec)

/-- ITS FALSE NEIGHBOUR: 'it returns false'. Refute it at one input. -/
def referWritesWrong : ChangeSpec := { name := "referWrites", fn := fun _ => fun
  | [d] => { results := [.lit (.bool false)], args := [d] }
  | _ => none }
def ReferWritesWrongFalsely : Prop := referWritesRow.holds Tryd.pinned (OpenSpec.ofChange referWritesWrong)

/-- 'lecternlaw02.ReferReads': WHATEVER THE INPUT: true; the input reads as it did. -/
def referReadsSpec : ChangeSpec := { name := "referReads", fn := fun _ => fun
  | [d] => { results := [.lit (.bool true)], args := [d] }
  | _ => none }
def referReadsRow : OpenClaim := { program := "ytdomhjjoijkeaaadoor", sum := "8ae6f404635f09f6ee7ca465cfb99565bedfb4d24736e02cc4ac6f292a7d0280", func := "lectern/lecternlaw02.ReferReads", spec := "referReads", inPlace := ["internal/abi.NoEscape"], unfollowed := true, recurses := true, named := ["lectern/refer.named", "unicode/utf8.first", "unicode/utf8.acceptRanges"], apart := false, laid := [("unicode/utf8.acceptRanges", laid_unicode_utf8_acceptRanges), ("lectern/refer.named", laid_lectern_refer_named), ("unicode/utf8.first", laid_unicode_utf8_first)] }
def ReferReadsSaid : Prop := referReadsRow.holds Tryd.pinned (OpenSpec.ofChange referReadsSpec)

/-- ITS FALSE NEIGHBOUR: 'it returns false'. Refute it at one input. -/
def referReadsWrong : ChangeSpec := { name := "referReads", fn := fun _ => fun
  | [d] => { results := [.lit (.bool false)], args := [d] }
  | _ => none }
def ReferReadsWrongFalsely : Prop := referReadsRow.holds Tryd.pinned (OpenSpec.ofChange referReadsWrong)

/-- 'lecternlaw02.ReferBack': WHATEVER THE INPUT: true; the input reads as it did. -/
def referBackSpec : ChangeSpec := { name := "referBack", fn := fun _ => fun
  | [d] => { results := [.lit (.bool true)], args := [d] }
  | _ => none }
def referBackRow : OpenClaim := { program := "ytdomhjjoijkeaaadoor", sum := "8ae6f404635f09f6ee7ca465cfb99565bedfb4d24736e02cc4ac6f292a7d0280", func := "lectern/lecternlaw02.ReferBack", spec := "referBack", inPlace := ["internal/abi.NoEscape"], unfollowed := true, recurses := true, named := ["lectern/refer.named", "unicode/utf8.first", "unicode/utf8.acceptRanges"], apart := false, laid := [("unicode/utf8.acceptRanges", laid_unicode_utf8_acceptRanges), ("lectern/refer.named", laid_lectern_refer_named), ("unicode/utf8.first", laid_unicode_utf8_first)] }
def ReferBackSaid : Prop := referBackRow.holds Tryd.pinned (OpenSpec.ofChange referBackSpec)

/-- ITS FALSE NEIGHBOUR: 'it returns false'. Refute it at one input. -/
def referBackWrong : ChangeSpec := { name := "referBack", fn := fun _ => fun
  | [d] => { results := [.lit (.bool false)], args := [d] }
  | _ => none }
def ReferBackWrongFalsely : Prop := referBackRow.holds Tryd.pinned (OpenSpec.ofChange referBackWrong)

/-- 'lecternlaw02.ReferNumbers': WHATEVER THE INPUT: true; the input reads as it did. -/
def referNumbersSpec : ChangeSpec := { name := "referNumbers", fn := fun _ => fun
  | [d1, d2, d3] => { results := [.lit (.bool true)], args := [d1, d2, d3] }
  | _ => none }
def referNumbersRow : OpenClaim := { program := "ytdomhjjoijkeaaadoor", sum := "8ae6f404635f09f6ee7ca465cfb99565bedfb4d24736e02cc4ac6f292a7d0280", func := "lectern/lecternlaw02.ReferNumbers", spec := "referNumbers", inPlace := ["internal/abi.NoEscape"], unfollowed := true, recurses := true, named := ["lectern/refer.named", "unicode/utf8.first", "unicode/utf8.acceptRanges"], apart := false, laid := [("unicode/utf8.acceptRanges", laid_unicode_utf8_acceptRanges), ("lectern/refer.named", laid_lectern_refer_named), ("unicode/utf8.first", laid_unicode_utf8_first)] }
def ReferNumbersSaid : Prop := referNumbersRow.holds Tryd.pinned (OpenSpec.ofChange referNumbersSpec)

/-- ITS FALSE NEIGHBOUR: 'it returns false'. Refute it at one input. -/
def referNumbersWrong : ChangeSpec := { name := "referNumbers", fn := fun _ => fun
  | [d1, d2, d3] => { results := [.lit (.bool false)], args := [d1, d2, d3] }
  | _ => none }
def ReferNumbersWrongFalsely : Prop := referNumbersRow.holds Tryd.pinned (OpenSpec.ofChange referNumbersWrong)

/-- 'lecternlaw02.ReferJoins': WHATEVER THE INPUT: true; the input reads as it did. -/
def referJoinsSpec : ChangeSpec := { name := "referJoins", fn := fun _ => fun
  | [d1, d2] => { results := [.lit (.bool true)], args := [d1, d2] }
  | _ => none }
def referJoinsRow : OpenClaim := { program := "ytdomhjjoijkeaaadoor", sum := "8ae6f404635f09f6ee7ca465cfb99565bedfb4d24736e02cc4ac6f292a7d0280", func := "lectern/lecternlaw02.ReferJoins", spec := "referJoins", inPlace := ["internal/abi.NoEscape"], unfollowed := true, recurses := true, named := ["lectern/refer.named", "unicode/utf8.first", "unicode/utf8.acceptRanges"], apart := false, laid := [("unicode/utf8.acceptRanges", laid_unicode_utf8_acceptRanges), ("lectern/refer.named", laid_lectern_refer_named), ("unicode/utf8.first", laid_unicode_utf8_first)] }
def ReferJoinsSaid : Prop := referJoinsRow.holds Tryd.pinned (OpenSpec.ofChange referJoinsSpec)

/-- ITS FALSE NEIGHBOUR: 'it returns false'. Refute it at one input. -/
def referJoinsWrong : ChangeSpec := { name := "referJoins", fn := fun _ => fun
  | [d1, d2] => { results := [.lit (.bool false)], args := [d1, d2] }
  | _ => none }
def ReferJoinsWrongFalsely : Prop := referJoinsRow.holds Tryd.pinned (OpenSpec.ofChange referJoinsWrong)

/-- 'lecternlaw02.ReferPlain': WHATEVER THE INPUT: true; the input reads as it did. -/
def referPlainSpec : ChangeSpec := { name := "referPlain", fn := fun _ => fun
  | [d] => { results := [.lit (.bool true)], args := [d] }
  | _ => none }
def referPlainRow : OpenClaim := { program := "ytdomhjjoijkeaaadoor", sum := "8ae6f404635f09f6ee7ca465cfb99565bedfb4d24736e02cc4ac6f292a7d0280", func := "lectern/lecternlaw02.ReferPlain", spec := "referPlain", inPlace := ["internal/abi.NoEscape"], unfollowed := true, recurses := true, named := ["lectern/refer.named", "unicode/utf8.first", "unicode/utf8.acceptRanges"], apart := false, laid := [("unicode/utf8.acceptRanges", laid_unicode_utf8_acceptRanges), ("lectern/refer.named", laid_lectern_refer_named), ("unicode/utf8.first", laid_unicode_utf8_first)] }
def ReferPlainSaid : Prop := referPlainRow.holds Tryd.pinned (OpenSpec.ofChange referPlainSpec)

/-- ITS FALSE NEIGHBOUR: 'it returns false'. Refute it at one input. -/
def referPlainWrong : ChangeSpec := { name := "referPlain", fn := fun _ => fun
  | [d] => { results := [.lit (.bool false)], args := [d] }
  | _ => none }
def ReferPlainWrongFalsely : Prop := referPlainRow.holds Tryd.pinned (OpenSpec.ofChange referPlainWrong)

/- THE SECOND FORM. 'bulk': how many values and letters a reading holds, each counted each time it is reached (what is shared counts as often as it is met; a slice's spare places count too). A statement '..UptoSaid' is the law's where the arguments, and the package variables that the reading takes, are together of bulk at most 1048576: NARROWER than '..Said'. Prove '..Said' where nothing that the law and all that it calls make is longer than what came in: it says more and counts as full. Else prove '..UptoSaid'. A law counts once. -/
mutual
def uptoBulk {H : Type} : DataW H → Nat
  | .lit (.string bytes) => bytes.length + 1
  | .lit _ => 1
  | .nil => 1
  | .ptr d => uptoBulk d + 1
  | .slice elems spare => uptoBulkAll elems + uptoBulkAll spare + 1
  | .agg parts => uptoBulkAll parts + 1
  | .iface _ d => uptoBulk d + 1
  | .map entries => uptoBulkEntries entries + 1
  | .held _ => 1
def uptoBulkAll {H : Type} : List (DataW H) → Nat
  | [] => 0
  | d :: r => uptoBulk d + uptoBulkAll r
def uptoBulkEntries {H : Type} : List (Lit × DataW H) → Nat
  | [] => 0
  | x :: r => uptoBulkEntry x + uptoBulkEntries r
def uptoBulkEntry {H : Type} : Lit × DataW H → Nat
  | (.string bytes, d) => bytes.length + uptoBulk d + 1
  | (_, d) => uptoBulk d + 1
 end
def uptoSmall : (H : Type) → List (DataW H) → Bool := fun _ ds => decide (uptoBulkAll ds ≤ 1048576)
def OpenSpec.upto (s : _root_.Go.ChangeSpec) : _root_.Go.OpenSpec := { _root_.Go.OpenSpec.ofChange s with cond := some uptoSmall }

/-- 'lecternlaw02.ReferExpands', WHERE WHAT IT READS IS OF BULK AT MOST 1048576: true; the input reads as it did. -/
def referExpandsUptoRow : OpenClaim := { program := "ytdomhjjoijkeaaadoor", sum := "8ae6f404635f09f6ee7ca465cfb99565bedfb4d24736e02cc4ac6f292a7d0280", func := "lectern/lecternlaw02.ReferExpands", spec := "referExpands", inPlace := ["internal/abi.NoEscape"], unfollowed := true, recurses := true, named := ["lectern/refer.named", "unicode/utf8.first", "unicode/utf8.acceptRanges"], apart := false, laid := [("unicode/utf8.acceptRanges", laid_unicode_utf8_acceptRanges), ("lectern/refer.named", laid_lectern_refer_named), ("unicode/utf8.first", laid_unicode_utf8_first)], narrowed := true }
def ReferExpandsUptoSaid : Prop := referExpandsUptoRow.holds Tryd.pinned (OpenSpec.upto referExpandsSpec)

/-- 'lecternlaw02.ReferWrites', WHERE WHAT IT READS IS OF BULK AT MOST 1048576: true; the input reads as it did. -/
def referWritesUptoRow : OpenClaim := { program := "ytdomhjjoijkeaaadoor", sum := "8ae6f404635f09f6ee7ca465cfb99565bedfb4d24736e02cc4ac6f292a7d0280", func := "lectern/lecternlaw02.ReferWrites", spec := "referWrites", inPlace := ["internal/abi.NoEscape"], unfollowed := true, recurses := true, named := ["lectern/refer.named", "unicode/utf8.first", "unicode/utf8.acceptRanges"], apart := false, laid := [("unicode/utf8.acceptRanges", laid_unicode_utf8_acceptRanges), ("lectern/refer.named", laid_lectern_refer_named), ("unicode/utf8.first", laid_unicode_utf8_first)], narrowed := true }
def ReferWritesUptoSaid : Prop := referWritesUptoRow.holds Tryd.pinned (OpenSpec.upto referWritesSpec)

/-- 'lecternlaw02.ReferReads', WHERE WHAT IT READS IS OF BULK AT MOST 1048576: true; the input reads as it did. -/
def referReadsUptoRow : OpenClaim := { program := "ytdomhjjoijkeaaadoor", sum := "8ae6f404635f09f6ee7ca465cfb99565bedfb4d24736e02cc4ac6f292a7d0280", func := "lectern/lecternlaw02.ReferReads", spec := "referReads", inPlace := ["internal/abi.NoEscape"], unfollowed := true, recurses := true, named := ["lectern/refer.named", "unicode/utf8.first", "unicode/utf8.acceptRanges"], apart := false, laid := [("unicode/utf8.acceptRanges", laid_unicode_utf8_acceptRanges), ("lectern/refer.named", laid_lectern_refer_named), ("unicode/utf8.first", laid_unicode_utf8_first)], narrowed := true }
def ReferReadsUptoSaid : Prop := referReadsUptoRow.holds Tryd.pinned (OpenSpec.upto referReadsSpec)

/-- 'lecternlaw02.ReferBack', WHERE WHAT IT READS IS OF BULK AT MOST 1048576: true; the input reads as it did. -/
def referBackUptoRow : OpenClaim := { program := "ytdomhjjoijkeaaadoor", sum := "8ae6f404635f09f6ee7ca465cfb99565bedfb4d24736e02cc4ac6f292a7d0280", func := "lectern/lecternlaw02.ReferBack", spec := "referBack", inPlace := ["internal/abi.NoEscape"], unfollowed := true, recurses := true, named := ["lectern/refer.named", "unicode/utf8.first", "unicode/utf8.acceptRanges"], apart := false, laid := [("unicode/utf8.acceptRanges", laid_unicode_utf8_acceptRanges), ("lectern/refer.named", laid_lectern_refer_named), ("unicode/utf8.first", laid_unicode_utf8_first)], narrowed := true }
def ReferBackUptoSaid : Prop := referBackUptoRow.holds Tryd.pinned (OpenSpec.upto referBackSpec)

/-- 'lecternlaw02.ReferNumbers', WHERE WHAT IT READS IS OF BULK AT MOST 1048576: true; the input reads as it did. -/
def referNumbersUptoRow : OpenClaim := { program := "ytdomhjjoijkeaaadoor", sum := "8ae6f404635f09f6ee7ca465cfb99565bedfb4d24736e02cc4ac6f292a7d0280", func := "lectern/lecternlaw02.ReferNumbers", spec := "referNumbers", inPlace := ["internal/abi.NoEscape"], unfollowed := true, recurses := true, named := ["lectern/refer.named", "unicode/utf8.first", "unicode/utf8.acceptRanges"], apart := false, laid := [("unicode/utf8.acceptRanges", laid_unicode_utf8_acceptRanges), ("lectern/refer.named", laid_lectern_refer_named), ("unicode/utf8.first", laid_unicode_utf8_first)], narrowed := true }
def ReferNumbersUptoSaid : Prop := referNumbersUptoRow.holds Tryd.pinned (OpenSpec.upto referNumbersSpec)

/-- 'lecternlaw02.ReferJoins', WHERE WHAT IT READS IS OF BULK AT MOST 1048576: true; the input reads as it did. -/
def referJoinsUptoRow : OpenClaim := { program := "ytdomhjjoijkeaaadoor", sum := "8ae6f404635f09f6ee7ca465cfb99565bedfb4d24736e02cc4ac6f292a7d0280", func := "lectern/lecternlaw02.ReferJoins", spec := "referJoins", inPlace := ["internal/abi.NoEscape"], unfollowed := true, recurses := true, named := ["lectern/refer.named", "unicode/utf8.first", "unicode/utf8.acceptRanges"], apart := false, laid := [("unicode/utf8.acceptRanges", laid_unicode_utf8_acceptRanges), ("lectern/refer.named", laid_lectern_refer_named), ("unicode/utf8.first", laid_unicode_utf8_first)], narrowed := true }
def ReferJoinsUptoSaid : Prop := referJoinsUptoRow.holds Tryd.pinned (OpenSpec.upto referJoinsSpec)

/-- 'lecternlaw02.ReferPlain', WHERE WHAT IT READS IS OF BULK AT MOST 1048576: true; the input reads as it did. -/
def referPlainUptoRow : OpenClaim := { program := "ytdomhjjoijkeaaadoor", sum := "8ae6f404635f09f6ee7ca465cfb99565bedfb4d24736e02cc4ac6f292a7d0280", func := "lectern/lecternlaw02.ReferPlain", spec := "referPlain", inPlace := ["internal/abi.NoEscape"], unfollowed := true, recurses := true, named := ["lectern/refer.named", "unicode/utf8.first", "unicode/utf8.acceptRanges"], apart := false, laid := [("unicode/utf8.acceptRanges", laid_unicode_utf8_acceptRanges), ("lectern/refer.named", laid_lectern_refer_named), ("unicode/utf8.first", laid_unicode_utf8_first)], narrowed := true }
def ReferPlainUptoSaid : Prop := referPlainUptoRow.holds Tryd.pinned (OpenSpec.upto referPlainSpec)

end Rows
end Go.Proofs.YtdomhjjoijkeaaaDoor
