/-
  DERIVED. GIVEN WITH THE SEED: THE CARDS: each row of YtgcdbmpnddbcoaaDoorRows.lean that lists a variable, with what it lists TIED to the program's text (the seventh form; the later family's looks); each row that meets fmt, with fmt's text TOLD by the authors' own Lean function (tested against real Go, not proved from fmt's source: count such statements apart). THE CARD IS WHAT COUNTS. Prove the row's statement (the work); the ties are given (YtgcdbmpnddbcoaaDoorTie.lean); close each card by the builder's one call (the guide's Derived/Test/ToyasCard.lean, 'card_holds'). Laid BY PROGRAM, IN A SANDBOX (cutbox-door.mjs). By AI agents, Wed Nov 11 2026. No macro, syntax, notation, axiom, sorry.
-/
import Derived.Test.YtgcdbmpnddbcoaaDoorRows
import GoSem.ClaimSeven
namespace Go.Proofs.YtgcdbmpnddbcoaaDoor
namespace Rows

/-- THE TIED CARD OF 'lecternlaw05.TreeParts'. -/
def treePartsCard : Claim7 := { stood := { row := treePartsRow, standIns := [], harness := (true, "eea631fb2485f7922878b45cfc37f1df6da8d67706f561c78f3ef7bf93cefaa1"), looks := true }, kinds := [], alts := [], laidByText := true, laidKinds := [.data, .data, .data, .pinned, .pinned], laidTests := true, laidLooks := .later }
def TreePartsCardSaid : Prop := Claim7.holds Tryd.pinned (.plain (OpenSpec.ofChange treePartsSpec)) treePartsCard

/-- THE TIED CARD OF 'lecternlaw05.TreeBares'. -/
def treeBaresCard : Claim7 := { stood := { row := treeBaresRow, standIns := [], harness := (true, "eea631fb2485f7922878b45cfc37f1df6da8d67706f561c78f3ef7bf93cefaa1"), looks := true }, kinds := [], alts := [], laidByText := true, laidKinds := [.data, .data, .data, .pinned, .pinned], laidTests := true, laidLooks := .later }
def TreeBaresCardSaid : Prop := Claim7.holds Tryd.pinned (.plain (OpenSpec.ofChange treeBaresSpec)) treeBaresCard

/-- THE TIED CARD OF 'lecternlaw08.TrailValues'. -/
def trailValuesCard : Claim7 := { stood := { row := trailValuesRow, standIns := [], harness := (true, "eea631fb2485f7922878b45cfc37f1df6da8d67706f561c78f3ef7bf93cefaa1"), looks := true }, kinds := [], alts := [], laidByText := true, laidKinds := [.data, .data, .data, .data, .sentinel, .sentinel, .pinned], laidTests := true, laidLooks := .later }
def TrailValuesCardSaid : Prop := Claim7.holds Tryd.pinned (.plain (OpenSpec.ofChange trailValuesSpec)) trailValuesCard

/-- THE TIED CARD OF 'lecternlaw08.TrailJoins'. -/
def trailJoinsCard : Claim7 := { stood := { row := trailJoinsRow, standIns := [], harness := (true, "eea631fb2485f7922878b45cfc37f1df6da8d67706f561c78f3ef7bf93cefaa1"), looks := true }, kinds := [], alts := [], laidByText := true, laidKinds := [.data, .data, .data, .data, .sentinel, .sentinel, .pinned], laidTests := true, laidLooks := .later }
def TrailJoinsCardSaid : Prop := Claim7.holds Tryd.pinned (.plain (OpenSpec.ofChange trailJoinsSpec)) trailJoinsCard

/-- THE SECOND FORM's CARD OF 'lecternlaw05.TreeParts'. -/
def treePartsUptoCard : Claim7 := { stood := { row := treePartsUptoRow, standIns := [], harness := (true, "eea631fb2485f7922878b45cfc37f1df6da8d67706f561c78f3ef7bf93cefaa1"), looks := true }, kinds := [], alts := [], laidByText := true, laidKinds := [.data, .data, .data, .pinned, .pinned], laidTests := true, laidLooks := .later }
def TreePartsUptoCardSaid : Prop := Claim7.holds Tryd.pinned (.plain (OpenSpec.upto treePartsSpec)) treePartsUptoCard

/-- THE SECOND FORM's CARD OF 'lecternlaw05.TreeBares'. -/
def treeBaresUptoCard : Claim7 := { stood := { row := treeBaresUptoRow, standIns := [], harness := (true, "eea631fb2485f7922878b45cfc37f1df6da8d67706f561c78f3ef7bf93cefaa1"), looks := true }, kinds := [], alts := [], laidByText := true, laidKinds := [.data, .data, .data, .pinned, .pinned], laidTests := true, laidLooks := .later }
def TreeBaresUptoCardSaid : Prop := Claim7.holds Tryd.pinned (.plain (OpenSpec.upto treeBaresSpec)) treeBaresUptoCard

/-- THE SECOND FORM's CARD OF 'lecternlaw08.TrailValues'. -/
def trailValuesUptoCard : Claim7 := { stood := { row := trailValuesUptoRow, standIns := [], harness := (true, "eea631fb2485f7922878b45cfc37f1df6da8d67706f561c78f3ef7bf93cefaa1"), looks := true }, kinds := [], alts := [], laidByText := true, laidKinds := [.data, .data, .data, .data, .sentinel, .sentinel, .pinned], laidTests := true, laidLooks := .later }
def TrailValuesUptoCardSaid : Prop := Claim7.holds Tryd.pinned (.plain (OpenSpec.upto trailValuesSpec)) trailValuesUptoCard

/-- THE SECOND FORM's CARD OF 'lecternlaw08.TrailJoins'. -/
def trailJoinsUptoCard : Claim7 := { stood := { row := trailJoinsUptoRow, standIns := [], harness := (true, "eea631fb2485f7922878b45cfc37f1df6da8d67706f561c78f3ef7bf93cefaa1"), looks := true }, kinds := [], alts := [], laidByText := true, laidKinds := [.data, .data, .data, .data, .sentinel, .sentinel, .pinned], laidTests := true, laidLooks := .later }
def TrailJoinsUptoCardSaid : Prop := Claim7.holds Tryd.pinned (.plain (OpenSpec.upto trailJoinsSpec)) trailJoinsUptoCard
end Rows
end Go.Proofs.YtgcdbmpnddbcoaaDoor
