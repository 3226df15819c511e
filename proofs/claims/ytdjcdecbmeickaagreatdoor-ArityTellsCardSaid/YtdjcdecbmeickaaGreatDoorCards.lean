/-
  DERIVED. GIVEN WITH THE SEED: THE CARDS: each row of YtdjcdecbmeickaaGreatDoorRows.lean that lists a variable, with what it lists TIED to the program's text (the seventh form; the later family's looks); each row that meets fmt, with fmt's text TOLD by the authors' own Lean function (tested against real Go, not proved from fmt's source: count such statements apart). THE CARD IS WHAT COUNTS. Prove the row's statement (the work); the ties are given (YtdjcdecbmeickaaGreatDoorTie.lean); close each card by the builder's one call (the guide's Derived/Test/ToyasCard.lean, 'card_holds'). Laid BY PROGRAM, IN A SANDBOX (cutbox-door.mjs). By AI agents, Wed Nov 11 2026. No macro, syntax, notation, axiom, sorry.
-/
import Derived.Test.YtdjcdecbmeickaaGreatDoorRows
import GoSem.ClaimSeven
namespace Go.Proofs.YtdjcdecbmeickaaGreatDoor
namespace Rows

/-- THE TIED CARD OF 'treadwheellaw11.ArityTells'. -/
def arityTellsCard : Claim7 := { stood := { row := arityTellsRow, standIns := [], harness := (true, "31848b1c5b7240f87b3620937cadf7b49e85b97f293289eef156f9238b299e75"), looks := true }, kinds := [], alts := [], laidByText := true, laidKinds := [.handle], laidTests := true, laidLooks := .later }
def ArityTellsCardSaid : Prop := Claim7.holds Tryz.pinned (.plain (OpenSpec.ofChange arityTellsSpec)) arityTellsCard

/-- THE SECOND FORM's CARD OF 'treadwheellaw11.ArityTells'. -/
def arityTellsUptoCard : Claim7 := { stood := { row := arityTellsUptoRow, standIns := [], harness := (true, "31848b1c5b7240f87b3620937cadf7b49e85b97f293289eef156f9238b299e75"), looks := true }, kinds := [], alts := [], laidByText := true, laidKinds := [.handle], laidTests := true, laidLooks := .later }
def ArityTellsUptoCardSaid : Prop := Claim7.holds Tryz.pinned (.plain (OpenSpec.upto arityTellsSpec)) arityTellsUptoCard
end Rows
end Go.Proofs.YtdjcdecbmeickaaGreatDoor
