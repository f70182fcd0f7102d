/-
  DERIVED. GIVEN WITH THE SEED: THE CARDS: each row of YtdomhjjoijkeaaaDoorRows.lean that lists a variable, with what it lists TIED to the program's text (the seventh form; the later family's looks); each row that meets fmt, with fmt's text TOLD by the authors' own Lean function (tested against real Go, not proved from fmt's source: count such statements apart). THE CARD IS WHAT COUNTS. Prove the row's statement (the work); the ties are given (YtdomhjjoijkeaaaDoorTie.lean); close each card by the builder's one call (the guide's Derived/Test/ToyasCard.lean, 'card_holds'). Laid BY PROGRAM, IN A SANDBOX (cutbox-door.mjs). By AI agents, Wed Nov 11 2026. No macro, syntax, notation, axiom, sorry.
-/
import Derived.Test.YtdomhjjoijkeaaaDoorRows
import GoSem.ClaimSeven
namespace Go.Proofs.YtdomhjjoijkeaaaDoor
namespace Rows

/-- THE TIED CARD OF 'lecternlaw02.ReferExpands'. -/
def referExpandsCard : Claim7 := { stood := { row := referExpandsRow, standIns := [], harness := (true, "0c0ca941c7467eccb3d576f721a01d4ba1cccab98e01186b3d00f84c69ac7b4d"), looks := false }, kinds := [], alts := [], laidByText := true, laidKinds := [.data, .data, .pinned], laidTests := true, laidLooks := .later }
def ReferExpandsCardSaid : Prop := Claim7.holds Tryd.pinned (.plain (OpenSpec.ofChange referExpandsSpec)) referExpandsCard

/-- THE TIED CARD OF 'lecternlaw02.ReferWrites'. -/
def referWritesCard : Claim7 := { stood := { row := referWritesRow, standIns := [], harness := (true, "0c0ca941c7467eccb3d576f721a01d4ba1cccab98e01186b3d00f84c69ac7b4d"), looks := false }, kinds := [], alts := [], laidByText := true, laidKinds := [.data, .data, .pinned], laidTests := true, laidLooks := .later }
def ReferWritesCardSaid : Prop := Claim7.holds Tryd.pinned (.plain (OpenSpec.ofChange referWritesSpec)) referWritesCard

/-- THE TIED CARD OF 'lecternlaw02.ReferReads'. -/
def referReadsCard : Claim7 := { stood := { row := referReadsRow, standIns := [], harness := (true, "0c0ca941c7467eccb3d576f721a01d4ba1cccab98e01186b3d00f84c69ac7b4d"), looks := false }, kinds := [], alts := [], laidByText := true, laidKinds := [.data, .data, .pinned], laidTests := true, laidLooks := .later }
def ReferReadsCardSaid : Prop := Claim7.holds Tryd.pinned (.plain (OpenSpec.ofChange referReadsSpec)) referReadsCard

/-- THE TIED CARD OF 'lecternlaw02.ReferBack'. -/
def referBackCard : Claim7 := { stood := { row := referBackRow, standIns := [], harness := (true, "0c0ca941c7467eccb3d576f721a01d4ba1cccab98e01186b3d00f84c69ac7b4d"), looks := false }, kinds := [], alts := [], laidByText := true, laidKinds := [.data, .data, .pinned], laidTests := true, laidLooks := .later }
def ReferBackCardSaid : Prop := Claim7.holds Tryd.pinned (.plain (OpenSpec.ofChange referBackSpec)) referBackCard

/-- THE TIED CARD OF 'lecternlaw02.ReferNumbers'. -/
def referNumbersCard : Claim7 := { stood := { row := referNumbersRow, standIns := [], harness := (true, "0c0ca941c7467eccb3d576f721a01d4ba1cccab98e01186b3d00f84c69ac7b4d"), looks := false }, kinds := [], alts := [], laidByText := true, laidKinds := [.data, .data, .pinned], laidTests := true, laidLooks := .later }
def ReferNumbersCardSaid : Prop := Claim7.holds Tryd.pinned (.plain (OpenSpec.ofChange referNumbersSpec)) referNumbersCard

/-- THE TIED CARD OF 'lecternlaw02.ReferJoins'. -/
def referJoinsCard : Claim7 := { stood := { row := referJoinsRow, standIns := [], harness := (true, "0c0ca941c7467eccb3d576f721a01d4ba1cccab98e01186b3d00f84c69ac7b4d"), looks := false }, kinds := [], alts := [], laidByText := true, laidKinds := [.data, .data, .pinned], laidTests := true, laidLooks := .later }
def ReferJoinsCardSaid : Prop := Claim7.holds Tryd.pinned (.plain (OpenSpec.ofChange referJoinsSpec)) referJoinsCard

/-- THE TIED CARD OF 'lecternlaw02.ReferPlain'. -/
def referPlainCard : Claim7 := { stood := { row := referPlainRow, standIns := [], harness := (true, "0c0ca941c7467eccb3d576f721a01d4ba1cccab98e01186b3d00f84c69ac7b4d"), looks := false }, kinds := [], alts := [], laidByText := true, laidKinds := [.data, .data, .pinned], laidTests := true, laidLooks := .later }
def ReferPlainCardSaid : Prop := Claim7.holds Tryd.pinned (.plain (OpenSpec.ofChange referPlainSpec)) referPlainCard

/-- THE SECOND FORM's CARD OF 'lecternlaw02.ReferExpands'. -/
def referExpandsUptoCard : Claim7 := { stood := { row := referExpandsUptoRow, standIns := [], harness := (true, "0c0ca941c7467eccb3d576f721a01d4ba1cccab98e01186b3d00f84c69ac7b4d"), looks := false }, kinds := [], alts := [], laidByText := true, laidKinds := [.data, .data, .pinned], laidTests := true, laidLooks := .later }
def ReferExpandsUptoCardSaid : Prop := Claim7.holds Tryd.pinned (.plain (OpenSpec.upto referExpandsSpec)) referExpandsUptoCard

/-- THE SECOND FORM's CARD OF 'lecternlaw02.ReferWrites'. -/
def referWritesUptoCard : Claim7 := { stood := { row := referWritesUptoRow, standIns := [], harness := (true, "0c0ca941c7467eccb3d576f721a01d4ba1cccab98e01186b3d00f84c69ac7b4d"), looks := false }, kinds := [], alts := [], laidByText := true, laidKinds := [.data, .data, .pinned], laidTests := true, laidLooks := .later }
def ReferWritesUptoCardSaid : Prop := Claim7.holds Tryd.pinned (.plain (OpenSpec.upto referWritesSpec)) referWritesUptoCard

/-- THE SECOND FORM's CARD OF 'lecternlaw02.ReferReads'. -/
def referReadsUptoCard : Claim7 := { stood := { row := referReadsUptoRow, standIns := [], harness := (true, "0c0ca941c7467eccb3d576f721a01d4ba1cccab98e01186b3d00f84c69ac7b4d"), looks := false }, kinds := [], alts := [], laidByText := true, laidKinds := [.data, .data, .pinned], laidTests := true, laidLooks := .later }
def ReferReadsUptoCardSaid : Prop := Claim7.holds Tryd.pinned (.plain (OpenSpec.upto referReadsSpec)) referReadsUptoCard

/-- THE SECOND FORM's CARD OF 'lecternlaw02.ReferBack'. -/
def referBackUptoCard : Claim7 := { stood := { row := referBackUptoRow, standIns := [], harness := (true, "0c0ca941c7467eccb3d576f721a01d4ba1cccab98e01186b3d00f84c69ac7b4d"), looks := false }, kinds := [], alts := [], laidByText := true, laidKinds := [.data, .data, .pinned], laidTests := true, laidLooks := .later }
def ReferBackUptoCardSaid : Prop := Claim7.holds Tryd.pinned (.plain (OpenSpec.upto referBackSpec)) referBackUptoCard

/-- THE SECOND FORM's CARD OF 'lecternlaw02.ReferNumbers'. -/
def referNumbersUptoCard : Claim7 := { stood := { row := referNumbersUptoRow, standIns := [], harness := (true, "0c0ca941c7467eccb3d576f721a01d4ba1cccab98e01186b3d00f84c69ac7b4d"), looks := false }, kinds := [], alts := [], laidByText := true, laidKinds := [.data, .data, .pinned], laidTests := true, laidLooks := .later }
def ReferNumbersUptoCardSaid : Prop := Claim7.holds Tryd.pinned (.plain (OpenSpec.upto referNumbersSpec)) referNumbersUptoCard

/-- THE SECOND FORM's CARD OF 'lecternlaw02.ReferJoins'. -/
def referJoinsUptoCard : Claim7 := { stood := { row := referJoinsUptoRow, standIns := [], harness := (true, "0c0ca941c7467eccb3d576f721a01d4ba1cccab98e01186b3d00f84c69ac7b4d"), looks := false }, kinds := [], alts := [], laidByText := true, laidKinds := [.data, .data, .pinned], laidTests := true, laidLooks := .later }
def ReferJoinsUptoCardSaid : Prop := Claim7.holds Tryd.pinned (.plain (OpenSpec.upto referJoinsSpec)) referJoinsUptoCard

/-- THE SECOND FORM's CARD OF 'lecternlaw02.ReferPlain'. -/
def referPlainUptoCard : Claim7 := { stood := { row := referPlainUptoRow, standIns := [], harness := (true, "0c0ca941c7467eccb3d576f721a01d4ba1cccab98e01186b3d00f84c69ac7b4d"), looks := false }, kinds := [], alts := [], laidByText := true, laidKinds := [.data, .data, .pinned], laidTests := true, laidLooks := .later }
def ReferPlainUptoCardSaid : Prop := Claim7.holds Tryd.pinned (.plain (OpenSpec.upto referPlainSpec)) referPlainUptoCard
end Rows
end Go.Proofs.YtdomhjjoijkeaaaDoor
