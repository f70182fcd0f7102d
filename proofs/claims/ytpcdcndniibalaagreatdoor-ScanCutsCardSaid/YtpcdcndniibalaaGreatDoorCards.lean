/-
  DERIVED. GIVEN WITH THE SEED: THE CARDS: each row of YtpcdcndniibalaaGreatDoorRows.lean that lists a variable, with what it lists TIED to the program's text (the seventh form; the later family's looks); each row that meets fmt, with fmt's text TOLD by the authors' own Lean function (tested against real Go, not proved from fmt's source: count such statements apart). THE CARD IS WHAT COUNTS. Prove the row's statement (the work); the ties are given (YtpcdcndniibalaaGreatDoorTie.lean); close each card by the builder's one call (the guide's Derived/Test/ToyasCard.lean, 'card_holds'). Laid BY PROGRAM, IN A SANDBOX (cutbox-door.mjs). By AI agents, Wed Nov 11 2026. No macro, syntax, notation, axiom, sorry.
-/
import Derived.Test.YtpcdcndniibalaaGreatDoorRows
import GoSem.ClaimSeven
namespace Go.Proofs.YtpcdcndniibalaaGreatDoor
namespace Rows

/-- THE TIED CARD OF 'lecternlaw03.ScanCuts'. -/
def scanCutsCard : Claim7 := { stood := { row := scanCutsRow, standIns := [], harness := (true, "249b7263b5118078b3d53a799ca965db4b95b8c463919f9d9e4c2af71851a4ef"), looks := false }, kinds := [], alts := [], laidByText := true, laidKinds := [.data, .data, .data, .data, .pinned, .pinned], laidTests := true, laidLooks := .later }
def ScanCutsCardSaid : Prop := Claim7.holds Tryz.pinned (.plain (OpenSpec.ofChange scanCutsSpec)) scanCutsCard

/-- THE SECOND FORM's CARD OF 'lecternlaw03.ScanCuts'. -/
def scanCutsUptoCard : Claim7 := { stood := { row := scanCutsUptoRow, standIns := [], harness := (true, "249b7263b5118078b3d53a799ca965db4b95b8c463919f9d9e4c2af71851a4ef"), looks := false }, kinds := [], alts := [], laidByText := true, laidKinds := [.data, .data, .data, .data, .pinned, .pinned], laidTests := true, laidLooks := .later }
def ScanCutsUptoCardSaid : Prop := Claim7.holds Tryz.pinned (.plain (OpenSpec.upto scanCutsSpec)) scanCutsUptoCard
end Rows
end Go.Proofs.YtpcdcndniibalaaGreatDoor
