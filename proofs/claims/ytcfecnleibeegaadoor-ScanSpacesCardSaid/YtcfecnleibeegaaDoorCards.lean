/-
  DERIVED. GIVEN WITH THE SEED: THE CARDS: each row of YtcfecnleibeegaaDoorRows.lean that lists a variable, with what it lists TIED to the program's text (the seventh form; the later family's looks); each row that meets fmt, with fmt's text TOLD by the authors' own Lean function (tested against real Go, not proved from fmt's source: count such statements apart). THE CARD IS WHAT COUNTS. Prove the row's statement (the work); the ties are given (YtcfecnleibeegaaDoorTie.lean); close each card by the builder's one call (the guide's Derived/Test/ToyasCard.lean, 'card_holds'). Laid BY PROGRAM, IN A SANDBOX (cutbox-door.mjs). By AI agents, Wed Nov 11 2026. No macro, syntax, notation, axiom, sorry.
-/
import Derived.Test.YtcfecnleibeegaaDoorRows
import GoSem.ClaimSeven
namespace Go.Proofs.YtcfecnleibeegaaDoor
namespace Rows

/-- THE TIED CARD OF 'lecternlaw03.ScanStands'. -/
def scanStandsCard : Claim7 := { stood := { row := scanStandsRow, standIns := [], harness := (true, "04a71878fc3d7ff5b3a92d10c4b8774dd2bdc7e8f172925435639e58f71647fc"), looks := false }, kinds := [], alts := [], laidByText := true, laidKinds := [.data, .data, .data, .data, .pinned, .pinned], laidTests := true, laidLooks := .later }
def ScanStandsCardSaid : Prop := Claim7.holds Tryd.pinned (.plain (OpenSpec.ofChange scanStandsSpec)) scanStandsCard

/-- THE TIED CARD OF 'lecternlaw03.ScanSpaces'. -/
def scanSpacesCard : Claim7 := { stood := { row := scanSpacesRow, standIns := [], harness := (true, "04a71878fc3d7ff5b3a92d10c4b8774dd2bdc7e8f172925435639e58f71647fc"), looks := false }, kinds := [], alts := [], laidByText := true, laidKinds := [.data, .data, .data, .data, .pinned, .pinned], laidTests := true, laidLooks := .later }
def ScanSpacesCardSaid : Prop := Claim7.holds Tryd.pinned (.plain (OpenSpec.ofChange scanSpacesSpec)) scanSpacesCard

/-- THE SECOND FORM's CARD OF 'lecternlaw03.ScanStands'. -/
def scanStandsUptoCard : Claim7 := { stood := { row := scanStandsUptoRow, standIns := [], harness := (true, "04a71878fc3d7ff5b3a92d10c4b8774dd2bdc7e8f172925435639e58f71647fc"), looks := false }, kinds := [], alts := [], laidByText := true, laidKinds := [.data, .data, .data, .data, .pinned, .pinned], laidTests := true, laidLooks := .later }
def ScanStandsUptoCardSaid : Prop := Claim7.holds Tryd.pinned (.plain (OpenSpec.upto scanStandsSpec)) scanStandsUptoCard

/-- THE SECOND FORM's CARD OF 'lecternlaw03.ScanSpaces'. -/
def scanSpacesUptoCard : Claim7 := { stood := { row := scanSpacesUptoRow, standIns := [], harness := (true, "04a71878fc3d7ff5b3a92d10c4b8774dd2bdc7e8f172925435639e58f71647fc"), looks := false }, kinds := [], alts := [], laidByText := true, laidKinds := [.data, .data, .data, .data, .pinned, .pinned], laidTests := true, laidLooks := .later }
def ScanSpacesUptoCardSaid : Prop := Claim7.holds Tryd.pinned (.plain (OpenSpec.upto scanSpacesSpec)) scanSpacesUptoCard
end Rows
end Go.Proofs.YtcfecnleibeegaaDoor
