/-
  DERIVED. GIVEN WITH THE SEED: THE CARDS: each row of YthehgcmhcioffaaGreatDoorRows.lean that lists a variable, with what it lists TIED to the program's text (the seventh form; the later family's looks); each row that meets fmt, with fmt's text TOLD by the authors' own Lean function (tested against real Go, not proved from fmt's source: count such statements apart). THE CARD IS WHAT COUNTS. Prove the row's statement (the work); the ties are given (YthehgcmhcioffaaGreatDoorTie.lean); close each card by the builder's one call (the guide's Derived/Test/ToyasCard.lean, 'card_holds'). Laid BY PROGRAM, IN A SANDBOX (cutbox-door.mjs). By AI agents, Wed Nov 11 2026. No macro, syntax, notation, axiom, sorry.
-/
import Derived.Test.YthehgcmhcioffaaGreatDoorRows
import GoSem.ClaimSeven
namespace Go.Proofs.YthehgcmhcioffaaGreatDoor
namespace Rows

/-- THE TIED CARD OF 'treadwheellaw09.ShowTells'. -/
def showTellsCard : Claim7 := { stood := { row := showTellsRow, standIns := [], harness := (true, "27b4860bc1bd9961d1e5a6523fc6edd29768d5bffe8f643c72b6d2dbea60af12"), looks := true }, kinds := [], alts := [], laidByText := true, laidKinds := [.data, .data, .data, .data, .pinned], laidTests := true, laidLooks := .later }
def ShowTellsCardSaid : Prop := Claim7.holds Tryz.pinned (.plain (OpenSpec.ofChange showTellsSpec)) showTellsCard

/-- THE TIED CARD OF 'treadwheellaw09.ShowParts'. -/
def showPartsCard : Claim7 := { stood := { row := showPartsRow, standIns := [], harness := (true, "27b4860bc1bd9961d1e5a6523fc6edd29768d5bffe8f643c72b6d2dbea60af12"), looks := true }, kinds := [], alts := [], laidByText := true, laidKinds := [.data, .data, .data, .data, .pinned], laidTests := true, laidLooks := .later }
def ShowPartsCardSaid : Prop := Claim7.holds Tryz.pinned (.plain (OpenSpec.ofChange showPartsSpec)) showPartsCard

/-- THE TIED CARD OF 'treadwheellaw09.ShowNested'. -/
def showNestedCard : Claim7 := { stood := { row := showNestedRow, standIns := [], harness := (true, "27b4860bc1bd9961d1e5a6523fc6edd29768d5bffe8f643c72b6d2dbea60af12"), looks := true }, kinds := [], alts := [], laidByText := true, laidKinds := [.data, .data, .data, .data, .sentinel, .sentinel, .data, .data, .data, .data, .data, .data, .data, .data, .data, .data, .data, .data, .data, .data, .data, .data, .data, .data, .data, .pinned], laidTests := true, laidLooks := .later }
def ShowNestedCardSaid : Prop := Claim7.holds Tryz.pinned (.plain (OpenSpec.ofChange showNestedSpec)) showNestedCard

/-- THE SECOND FORM's CARD OF 'treadwheellaw09.ShowTells'. -/
def showTellsUptoCard : Claim7 := { stood := { row := showTellsUptoRow, standIns := [], harness := (true, "27b4860bc1bd9961d1e5a6523fc6edd29768d5bffe8f643c72b6d2dbea60af12"), looks := true }, kinds := [], alts := [], laidByText := true, laidKinds := [.data, .data, .data, .data, .pinned], laidTests := true, laidLooks := .later }
def ShowTellsUptoCardSaid : Prop := Claim7.holds Tryz.pinned (.plain (OpenSpec.upto showTellsSpec)) showTellsUptoCard

/-- THE SECOND FORM's CARD OF 'treadwheellaw09.ShowParts'. -/
def showPartsUptoCard : Claim7 := { stood := { row := showPartsUptoRow, standIns := [], harness := (true, "27b4860bc1bd9961d1e5a6523fc6edd29768d5bffe8f643c72b6d2dbea60af12"), looks := true }, kinds := [], alts := [], laidByText := true, laidKinds := [.data, .data, .data, .data, .pinned], laidTests := true, laidLooks := .later }
def ShowPartsUptoCardSaid : Prop := Claim7.holds Tryz.pinned (.plain (OpenSpec.upto showPartsSpec)) showPartsUptoCard

/-- THE SECOND FORM's CARD OF 'treadwheellaw09.ShowNested'. -/
def showNestedUptoCard : Claim7 := { stood := { row := showNestedUptoRow, standIns := [], harness := (true, "27b4860bc1bd9961d1e5a6523fc6edd29768d5bffe8f643c72b6d2dbea60af12"), looks := true }, kinds := [], alts := [], laidByText := true, laidKinds := [.data, .data, .data, .data, .sentinel, .sentinel, .data, .data, .data, .data, .data, .data, .data, .data, .data, .data, .data, .data, .data, .data, .data, .data, .data, .data, .data, .pinned], laidTests := true, laidLooks := .later }
def ShowNestedUptoCardSaid : Prop := Claim7.holds Tryz.pinned (.plain (OpenSpec.upto showNestedSpec)) showNestedUptoCard
end Rows
end Go.Proofs.YthehgcmhcioffaaGreatDoor
