/-
  DERIVED. GIVEN WITH THE SEED: THE CARDS: each row of YtpgichlaghhdeaaGreatDoorRows.lean that lists a variable, with what it lists TIED to the program's text (the seventh form; the later family's looks); each row that meets fmt, with fmt's text TOLD by the authors' own Lean function (tested against real Go, not proved from fmt's source: count such statements apart). THE CARD IS WHAT COUNTS. Prove the row's statement (the work); the ties are given (YtpgichlaghhdeaaGreatDoorTie.lean); close each card by the builder's one call (the guide's Derived/Test/ToyasCard.lean, 'card_holds'). Laid BY PROGRAM, IN A SANDBOX (cutbox-door.mjs). By AI agents, Wed Nov 11 2026. No macro, syntax, notation, axiom, sorry.
-/
import Derived.Test.YtpgichlaghhdeaaGreatDoorRows
import GoSem.ClaimSeven
namespace Go.Proofs.YtpgichlaghhdeaaGreatDoor
namespace Rows

/-- THE TIED CARD OF 'watchmanlaw11.ShowDoes'. -/
def showDoesCard : Claim7 := { stood := { row := showDoesRow, standIns := [], harness := (true, "c384a17f6001a3a3315a7b85ee31547ff76e242c0c51b2f63771b103551a9cae"), looks := true }, kinds := [], alts := [], laidByText := true, laidKinds := [.data, .data, .data, .data, .sentinel, .sentinel, .pinned], laidTests := true, laidLooks := .later }
def ShowDoesCardSaid : Prop := Claim7.holds Tryz.pinned (.plain (OpenSpec.ofChange showDoesSpec)) showDoesCard

/-- THE TIED CARD OF 'watchmanlaw11.ShowBack'. -/
def showBackCard : Claim7 := { stood := { row := showBackRow, standIns := [], harness := (true, "c384a17f6001a3a3315a7b85ee31547ff76e242c0c51b2f63771b103551a9cae"), looks := true }, kinds := [], alts := [], laidByText := true, laidKinds := [.data, .data, .data, .data, .sentinel, .sentinel, .pinned], laidTests := true, laidLooks := .later }
def ShowBackCardSaid : Prop := Claim7.holds Tryz.pinned (.plain (OpenSpec.ofChange showBackSpec)) showBackCard

/-- THE TIED CARD OF 'watchmanlaw11.ShowHeard'. -/
def showHeardCard : Claim7 := { stood := { row := showHeardRow, standIns := [], harness := (true, "c384a17f6001a3a3315a7b85ee31547ff76e242c0c51b2f63771b103551a9cae"), looks := true }, kinds := [], alts := [], laidByText := true, laidKinds := [.data, .data, .data, .data, .sentinel, .sentinel, .pinned], laidTests := true, laidLooks := .later }
def ShowHeardCardSaid : Prop := Claim7.holds Tryz.pinned (.plain (OpenSpec.ofChange showHeardSpec)) showHeardCard

/-- THE TIED CARD OF 'watchmanlaw11.ShowMore'. -/
def showMoreCard : Claim7 := { stood := { row := showMoreRow, standIns := [], harness := (true, "c384a17f6001a3a3315a7b85ee31547ff76e242c0c51b2f63771b103551a9cae"), looks := true }, kinds := [], alts := [], laidByText := true, laidKinds := [.data, .data, .data, .data, .sentinel, .sentinel, .pinned], laidTests := true, laidLooks := .later }
def ShowMoreCardSaid : Prop := Claim7.holds Tryz.pinned (.plain (OpenSpec.ofChange showMoreSpec)) showMoreCard

/-- THE TIED CARD OF 'watchmanlaw11.ShowCount'. -/
def showCountCard : Claim7 := { stood := { row := showCountRow, standIns := [], harness := (true, "c384a17f6001a3a3315a7b85ee31547ff76e242c0c51b2f63771b103551a9cae"), looks := true }, kinds := [], alts := [], laidByText := true, laidKinds := [.data, .data, .data, .data, .sentinel, .sentinel, .pinned], laidTests := true, laidLooks := .later }
def ShowCountCardSaid : Prop := Claim7.holds Tryz.pinned (.plain (OpenSpec.ofChange showCountSpec)) showCountCard

/-- THE SECOND FORM's CARD OF 'watchmanlaw11.ShowDoes'. -/
def showDoesUptoCard : Claim7 := { stood := { row := showDoesUptoRow, standIns := [], harness := (true, "c384a17f6001a3a3315a7b85ee31547ff76e242c0c51b2f63771b103551a9cae"), looks := true }, kinds := [], alts := [], laidByText := true, laidKinds := [.data, .data, .data, .data, .sentinel, .sentinel, .pinned], laidTests := true, laidLooks := .later }
def ShowDoesUptoCardSaid : Prop := Claim7.holds Tryz.pinned (.plain (OpenSpec.upto showDoesSpec)) showDoesUptoCard

/-- THE SECOND FORM's CARD OF 'watchmanlaw11.ShowBack'. -/
def showBackUptoCard : Claim7 := { stood := { row := showBackUptoRow, standIns := [], harness := (true, "c384a17f6001a3a3315a7b85ee31547ff76e242c0c51b2f63771b103551a9cae"), looks := true }, kinds := [], alts := [], laidByText := true, laidKinds := [.data, .data, .data, .data, .sentinel, .sentinel, .pinned], laidTests := true, laidLooks := .later }
def ShowBackUptoCardSaid : Prop := Claim7.holds Tryz.pinned (.plain (OpenSpec.upto showBackSpec)) showBackUptoCard

/-- THE SECOND FORM's CARD OF 'watchmanlaw11.ShowHeard'. -/
def showHeardUptoCard : Claim7 := { stood := { row := showHeardUptoRow, standIns := [], harness := (true, "c384a17f6001a3a3315a7b85ee31547ff76e242c0c51b2f63771b103551a9cae"), looks := true }, kinds := [], alts := [], laidByText := true, laidKinds := [.data, .data, .data, .data, .sentinel, .sentinel, .pinned], laidTests := true, laidLooks := .later }
def ShowHeardUptoCardSaid : Prop := Claim7.holds Tryz.pinned (.plain (OpenSpec.upto showHeardSpec)) showHeardUptoCard

/-- THE SECOND FORM's CARD OF 'watchmanlaw11.ShowMore'. -/
def showMoreUptoCard : Claim7 := { stood := { row := showMoreUptoRow, standIns := [], harness := (true, "c384a17f6001a3a3315a7b85ee31547ff76e242c0c51b2f63771b103551a9cae"), looks := true }, kinds := [], alts := [], laidByText := true, laidKinds := [.data, .data, .data, .data, .sentinel, .sentinel, .pinned], laidTests := true, laidLooks := .later }
def ShowMoreUptoCardSaid : Prop := Claim7.holds Tryz.pinned (.plain (OpenSpec.upto showMoreSpec)) showMoreUptoCard

/-- THE SECOND FORM's CARD OF 'watchmanlaw11.ShowCount'. -/
def showCountUptoCard : Claim7 := { stood := { row := showCountUptoRow, standIns := [], harness := (true, "c384a17f6001a3a3315a7b85ee31547ff76e242c0c51b2f63771b103551a9cae"), looks := true }, kinds := [], alts := [], laidByText := true, laidKinds := [.data, .data, .data, .data, .sentinel, .sentinel, .pinned], laidTests := true, laidLooks := .later }
def ShowCountUptoCardSaid : Prop := Claim7.holds Tryz.pinned (.plain (OpenSpec.upto showCountSpec)) showCountUptoCard
end Rows
end Go.Proofs.YtpgichlaghhdeaaGreatDoor
