/-
  DERIVED. GIVEN WITH THE SEED: THE CARDS: each row of YtcfecnleibeegaaGreatDoorRows.lean that lists a variable, with what it lists TIED to the program's text (the seventh form; the later family's looks); each row that meets fmt, with fmt's text TOLD by the authors' own Lean function (tested against real Go, not proved from fmt's source: count such statements apart). THE CARD IS WHAT COUNTS. Prove the row's statement (the work); the ties are given (YtcfecnleibeegaaGreatDoorTie.lean); close each card by the builder's one call (the guide's Derived/Test/ToyasCard.lean, 'card_holds'). Laid BY PROGRAM, IN A SANDBOX (cutbox-door.mjs). By AI agents, Wed Nov 11 2026. No macro, syntax, notation, axiom, sorry.
-/
import Derived.Test.YtcfecnleibeegaaGreatDoorRows
import GoSem.ClaimSeven
namespace Go.Proofs.YtcfecnleibeegaaGreatDoor
namespace Rows

/-- THE TIED CARD OF 'lecternlaw03.ScanReads'. -/
def scanReadsCard : Claim7 := { stood := { row := scanReadsRow, standIns := [], harness := (true, "705bd8ad0a7589e4c19b34482f604d8870056ab495a7f5c735347956e27e391c"), looks := false }, kinds := [], alts := [], laidByText := true, laidKinds := [.data, .data, .data, .data, .pinned, .pinned], laidTests := true, laidLooks := .later }
def ScanReadsCardSaid : Prop := Claim7.holds Tryz.pinned (.plain (OpenSpec.ofChange scanReadsSpec)) scanReadsCard

/-- THE TIED CARD OF 'lecternlaw03.ScanShows'. -/
def scanShowsCard : Claim7 := { stood := { row := scanShowsRow, standIns := [], harness := (true, "705bd8ad0a7589e4c19b34482f604d8870056ab495a7f5c735347956e27e391c"), looks := false }, kinds := [], alts := [], laidByText := true, laidKinds := [.data, .data, .data, .data, .pinned, .pinned], laidTests := true, laidLooks := .later }
def ScanShowsCardSaid : Prop := Claim7.holds Tryz.pinned (.plain (OpenSpec.ofChange scanShowsSpec)) scanShowsCard

/-- THE TIED CARD OF 'lecternlaw03.ScanCuts'. -/
def scanCutsCard : Claim7 := { stood := { row := scanCutsRow, standIns := [], harness := (true, "705bd8ad0a7589e4c19b34482f604d8870056ab495a7f5c735347956e27e391c"), looks := false }, kinds := [], alts := [], laidByText := true, laidKinds := [.data, .data, .data, .data, .pinned, .pinned], laidTests := true, laidLooks := .later }
def ScanCutsCardSaid : Prop := Claim7.holds Tryz.pinned (.plain (OpenSpec.ofChange scanCutsSpec)) scanCutsCard

/-- THE TIED CARD OF 'lecternlaw03.ScanBars'. -/
def scanBarsCard : Claim7 := { stood := { row := scanBarsRow, standIns := [], harness := (true, "705bd8ad0a7589e4c19b34482f604d8870056ab495a7f5c735347956e27e391c"), looks := false }, kinds := [], alts := [], laidByText := true, laidKinds := [.data, .data, .data, .data, .pinned, .pinned], laidTests := true, laidLooks := .later }
def ScanBarsCardSaid : Prop := Claim7.holds Tryz.pinned (.plain (OpenSpec.ofChange scanBarsSpec)) scanBarsCard

/-- THE TIED CARD OF 'lecternlaw03.ScanKeeps'. -/
def scanKeepsCard : Claim7 := { stood := { row := scanKeepsRow, standIns := [], harness := (true, "705bd8ad0a7589e4c19b34482f604d8870056ab495a7f5c735347956e27e391c"), looks := false }, kinds := [], alts := [], laidByText := true, laidKinds := [.data, .data, .data, .data, .pinned, .pinned], laidTests := true, laidLooks := .later }
def ScanKeepsCardSaid : Prop := Claim7.holds Tryz.pinned (.plain (OpenSpec.ofChange scanKeepsSpec)) scanKeepsCard

/-- THE SECOND FORM's CARD OF 'lecternlaw03.ScanReads'. -/
def scanReadsUptoCard : Claim7 := { stood := { row := scanReadsUptoRow, standIns := [], harness := (true, "705bd8ad0a7589e4c19b34482f604d8870056ab495a7f5c735347956e27e391c"), looks := false }, kinds := [], alts := [], laidByText := true, laidKinds := [.data, .data, .data, .data, .pinned, .pinned], laidTests := true, laidLooks := .later }
def ScanReadsUptoCardSaid : Prop := Claim7.holds Tryz.pinned (.plain (OpenSpec.upto scanReadsSpec)) scanReadsUptoCard

/-- THE SECOND FORM's CARD OF 'lecternlaw03.ScanShows'. -/
def scanShowsUptoCard : Claim7 := { stood := { row := scanShowsUptoRow, standIns := [], harness := (true, "705bd8ad0a7589e4c19b34482f604d8870056ab495a7f5c735347956e27e391c"), looks := false }, kinds := [], alts := [], laidByText := true, laidKinds := [.data, .data, .data, .data, .pinned, .pinned], laidTests := true, laidLooks := .later }
def ScanShowsUptoCardSaid : Prop := Claim7.holds Tryz.pinned (.plain (OpenSpec.upto scanShowsSpec)) scanShowsUptoCard

/-- THE SECOND FORM's CARD OF 'lecternlaw03.ScanCuts'. -/
def scanCutsUptoCard : Claim7 := { stood := { row := scanCutsUptoRow, standIns := [], harness := (true, "705bd8ad0a7589e4c19b34482f604d8870056ab495a7f5c735347956e27e391c"), looks := false }, kinds := [], alts := [], laidByText := true, laidKinds := [.data, .data, .data, .data, .pinned, .pinned], laidTests := true, laidLooks := .later }
def ScanCutsUptoCardSaid : Prop := Claim7.holds Tryz.pinned (.plain (OpenSpec.upto scanCutsSpec)) scanCutsUptoCard

/-- THE SECOND FORM's CARD OF 'lecternlaw03.ScanBars'. -/
def scanBarsUptoCard : Claim7 := { stood := { row := scanBarsUptoRow, standIns := [], harness := (true, "705bd8ad0a7589e4c19b34482f604d8870056ab495a7f5c735347956e27e391c"), looks := false }, kinds := [], alts := [], laidByText := true, laidKinds := [.data, .data, .data, .data, .pinned, .pinned], laidTests := true, laidLooks := .later }
def ScanBarsUptoCardSaid : Prop := Claim7.holds Tryz.pinned (.plain (OpenSpec.upto scanBarsSpec)) scanBarsUptoCard

/-- THE SECOND FORM's CARD OF 'lecternlaw03.ScanKeeps'. -/
def scanKeepsUptoCard : Claim7 := { stood := { row := scanKeepsUptoRow, standIns := [], harness := (true, "705bd8ad0a7589e4c19b34482f604d8870056ab495a7f5c735347956e27e391c"), looks := false }, kinds := [], alts := [], laidByText := true, laidKinds := [.data, .data, .data, .data, .pinned, .pinned], laidTests := true, laidLooks := .later }
def ScanKeepsUptoCardSaid : Prop := Claim7.holds Tryz.pinned (.plain (OpenSpec.upto scanKeepsSpec)) scanKeepsUptoCard
end Rows
end Go.Proofs.YtcfecnleibeegaaGreatDoor
