/-
  DERIVED. GIVEN WITH THE SEED: THE CARDS: each row of YtpcdcndniibalaaDoorRows.lean that lists a variable, with what it lists TIED to the program's text (the seventh form; the later family's looks); each row that meets fmt, with fmt's text TOLD by the authors' own Lean function (tested against real Go, not proved from fmt's source: count such statements apart). THE CARD IS WHAT COUNTS. Prove the row's statement (the work); the ties are given (YtpcdcndniibalaaDoorTie.lean); close each card by the builder's one call (the guide's Derived/Test/ToyasCard.lean, 'card_holds'). Laid BY PROGRAM, IN A SANDBOX (cutbox-door.mjs). By AI agents, Wed Nov 11 2026. No macro, syntax, notation, axiom, sorry.
-/
import Derived.Test.YtpcdcndniibalaaDoorRows
import GoSem.ClaimSeven
namespace Go.Proofs.YtpcdcndniibalaaDoor
namespace Rows

/-- THE TIED CARD OF 'lecternlaw08.TrailTexts'. -/
def trailTextsCard : Claim7 := { stood := { row := trailTextsRow, standIns := [], harness := (true, "611107acf73ff5b00a201de5a9e8782011edf6b95271d07793f5d779a28efdef"), looks := true }, kinds := [], alts := [], laidByText := true, laidKinds := [.data, .data, .data, .data, .sentinel, .sentinel, .pinned], laidTests := true, laidLooks := .later }
def TrailTextsCardSaid : Prop := Claim7.holds Tryd.pinned (.plain (OpenSpec.ofChange trailTextsSpec)) trailTextsCard

/-- THE TIED CARD OF 'lecternlaw08.TrailBack'. -/
def trailBackCard : Claim7 := { stood := { row := trailBackRow, standIns := [], harness := (true, "611107acf73ff5b00a201de5a9e8782011edf6b95271d07793f5d779a28efdef"), looks := true }, kinds := [], alts := [], laidByText := true, laidKinds := [.data, .data, .data, .data, .sentinel, .sentinel, .pinned], laidTests := true, laidLooks := .later }
def TrailBackCardSaid : Prop := Claim7.holds Tryd.pinned (.plain (OpenSpec.ofChange trailBackSpec)) trailBackCard

/-- THE TIED CARD OF 'lecternlaw08.TrailOrders'. -/
def trailOrdersCard : Claim7 := { stood := { row := trailOrdersRow, standIns := [], harness := (true, "611107acf73ff5b00a201de5a9e8782011edf6b95271d07793f5d779a28efdef"), looks := true }, kinds := [], alts := [], laidByText := true, laidKinds := [.data, .data, .data, .data, .sentinel, .sentinel, .pinned], laidTests := true, laidLooks := .later }
def TrailOrdersCardSaid : Prop := Claim7.holds Tryd.pinned (.plain (OpenSpec.ofChange trailOrdersSpec)) trailOrdersCard

/-- THE TIED CARD OF 'lecternlaw08.TrailUps'. -/
def trailUpsCard : Claim7 := { stood := { row := trailUpsRow, standIns := [], harness := (true, "611107acf73ff5b00a201de5a9e8782011edf6b95271d07793f5d779a28efdef"), looks := true }, kinds := [], alts := [], laidByText := true, laidKinds := [.data, .data, .data, .data, .sentinel, .sentinel, .pinned], laidTests := true, laidLooks := .later }
def TrailUpsCardSaid : Prop := Claim7.holds Tryd.pinned (.plain (OpenSpec.ofChange trailUpsSpec)) trailUpsCard

/-- THE SECOND FORM's CARD OF 'lecternlaw08.TrailTexts'. -/
def trailTextsUptoCard : Claim7 := { stood := { row := trailTextsUptoRow, standIns := [], harness := (true, "611107acf73ff5b00a201de5a9e8782011edf6b95271d07793f5d779a28efdef"), looks := true }, kinds := [], alts := [], laidByText := true, laidKinds := [.data, .data, .data, .data, .sentinel, .sentinel, .pinned], laidTests := true, laidLooks := .later }
def TrailTextsUptoCardSaid : Prop := Claim7.holds Tryd.pinned (.plain (OpenSpec.upto trailTextsSpec)) trailTextsUptoCard

/-- THE SECOND FORM's CARD OF 'lecternlaw08.TrailBack'. -/
def trailBackUptoCard : Claim7 := { stood := { row := trailBackUptoRow, standIns := [], harness := (true, "611107acf73ff5b00a201de5a9e8782011edf6b95271d07793f5d779a28efdef"), looks := true }, kinds := [], alts := [], laidByText := true, laidKinds := [.data, .data, .data, .data, .sentinel, .sentinel, .pinned], laidTests := true, laidLooks := .later }
def TrailBackUptoCardSaid : Prop := Claim7.holds Tryd.pinned (.plain (OpenSpec.upto trailBackSpec)) trailBackUptoCard

/-- THE SECOND FORM's CARD OF 'lecternlaw08.TrailOrders'. -/
def trailOrdersUptoCard : Claim7 := { stood := { row := trailOrdersUptoRow, standIns := [], harness := (true, "611107acf73ff5b00a201de5a9e8782011edf6b95271d07793f5d779a28efdef"), looks := true }, kinds := [], alts := [], laidByText := true, laidKinds := [.data, .data, .data, .data, .sentinel, .sentinel, .pinned], laidTests := true, laidLooks := .later }
def TrailOrdersUptoCardSaid : Prop := Claim7.holds Tryd.pinned (.plain (OpenSpec.upto trailOrdersSpec)) trailOrdersUptoCard

/-- THE SECOND FORM's CARD OF 'lecternlaw08.TrailUps'. -/
def trailUpsUptoCard : Claim7 := { stood := { row := trailUpsUptoRow, standIns := [], harness := (true, "611107acf73ff5b00a201de5a9e8782011edf6b95271d07793f5d779a28efdef"), looks := true }, kinds := [], alts := [], laidByText := true, laidKinds := [.data, .data, .data, .data, .sentinel, .sentinel, .pinned], laidTests := true, laidLooks := .later }
def TrailUpsUptoCardSaid : Prop := Claim7.holds Tryd.pinned (.plain (OpenSpec.upto trailUpsSpec)) trailUpsUptoCard
end Rows
end Go.Proofs.YtpcdcndniibalaaDoor
