/-
  DERIVED. GIVEN WITH THE SEED: THE CARDS: each row of YtpfchfpliljglaaDoorRows.lean that lists a variable, with what it lists TIED to the program's text (the seventh form; the later family's looks); each row that meets fmt, with fmt's text TOLD by the authors' own Lean function (tested against real Go, not proved from fmt's source: count such statements apart). THE CARD IS WHAT COUNTS. Prove the row's statement (the work); the ties are given (YtpfchfpliljglaaDoorTie.lean); close each card by the builder's one call (the guide's Derived/Test/ToyasCard.lean, 'card_holds'). Laid BY PROGRAM, IN A SANDBOX (cutbox-door.mjs). By AI agents, Wed Nov 11 2026. No macro, syntax, notation, axiom, sorry.
-/
import Derived.Test.YtpfchfpliljglaaDoorRows
import GoSem.ClaimSeven
namespace Go.Proofs.YtpfchfpliljglaaDoor
namespace Rows

/-- THE TIED CARD OF 'treadwheellaw04.CellPacks'. -/
def cellPacksCard : Claim7 := { stood := { row := cellPacksRow, standIns := [], harness := (true, "f279a432b57148076c252d230fa9849922e67417d6545c4a272e72c171970abe"), looks := false }, kinds := [], alts := [], laidByText := true, laidKinds := [.data], laidTests := true, laidLooks := .later }
def CellPacksCardSaid : Prop := Claim7.holds Tryd.pinned (.plain (OpenSpec.ofChange cellPacksSpec)) cellPacksCard

/-- THE TIED CARD OF 'treadwheellaw04.CellUnpacks'. -/
def cellUnpacksCard : Claim7 := { stood := { row := cellUnpacksRow, standIns := [], harness := (true, "f279a432b57148076c252d230fa9849922e67417d6545c4a272e72c171970abe"), looks := false }, kinds := [], alts := [], laidByText := true, laidKinds := [.data], laidTests := true, laidLooks := .later }
def CellUnpacksCardSaid : Prop := Claim7.holds Tryd.pinned (.plain (OpenSpec.ofChange cellUnpacksSpec)) cellUnpacksCard

/-- THE TIED CARD OF 'treadwheellaw04.CellLinks'. -/
def cellLinksCard : Claim7 := { stood := { row := cellLinksRow, standIns := [], harness := (true, "f279a432b57148076c252d230fa9849922e67417d6545c4a272e72c171970abe"), looks := false }, kinds := [], alts := [], laidByText := true, laidKinds := [.data], laidTests := true, laidLooks := .later }
def CellLinksCardSaid : Prop := Claim7.holds Tryd.pinned (.plain (OpenSpec.ofChange cellLinksSpec)) cellLinksCard

/-- THE TIED CARD OF 'treadwheellaw04.CellApart'. -/
def cellApartCard : Claim7 := { stood := { row := cellApartRow, standIns := [], harness := (true, "f279a432b57148076c252d230fa9849922e67417d6545c4a272e72c171970abe"), looks := false }, kinds := [], alts := [], laidByText := true, laidKinds := [.data], laidTests := true, laidLooks := .later }
def CellApartCardSaid : Prop := Claim7.holds Tryd.pinned (.plain (OpenSpec.ofChange cellApartSpec)) cellApartCard

/-- THE TIED CARD OF 'treadwheellaw04.CellRests'. -/
def cellRestsCard : Claim7 := { stood := { row := cellRestsRow, standIns := [], harness := (true, "f279a432b57148076c252d230fa9849922e67417d6545c4a272e72c171970abe"), looks := false }, kinds := [], alts := [], laidByText := true, laidKinds := [.data], laidTests := true, laidLooks := .later }
def CellRestsCardSaid : Prop := Claim7.holds Tryd.pinned (.plain (OpenSpec.ofChange cellRestsSpec)) cellRestsCard

/-- THE SECOND FORM's CARD OF 'treadwheellaw04.CellPacks'. -/
def cellPacksUptoCard : Claim7 := { stood := { row := cellPacksUptoRow, standIns := [], harness := (true, "f279a432b57148076c252d230fa9849922e67417d6545c4a272e72c171970abe"), looks := false }, kinds := [], alts := [], laidByText := true, laidKinds := [.data], laidTests := true, laidLooks := .later }
def CellPacksUptoCardSaid : Prop := Claim7.holds Tryd.pinned (.plain (OpenSpec.upto cellPacksSpec)) cellPacksUptoCard

/-- THE SECOND FORM's CARD OF 'treadwheellaw04.CellUnpacks'. -/
def cellUnpacksUptoCard : Claim7 := { stood := { row := cellUnpacksUptoRow, standIns := [], harness := (true, "f279a432b57148076c252d230fa9849922e67417d6545c4a272e72c171970abe"), looks := false }, kinds := [], alts := [], laidByText := true, laidKinds := [.data], laidTests := true, laidLooks := .later }
def CellUnpacksUptoCardSaid : Prop := Claim7.holds Tryd.pinned (.plain (OpenSpec.upto cellUnpacksSpec)) cellUnpacksUptoCard

/-- THE SECOND FORM's CARD OF 'treadwheellaw04.CellLinks'. -/
def cellLinksUptoCard : Claim7 := { stood := { row := cellLinksUptoRow, standIns := [], harness := (true, "f279a432b57148076c252d230fa9849922e67417d6545c4a272e72c171970abe"), looks := false }, kinds := [], alts := [], laidByText := true, laidKinds := [.data], laidTests := true, laidLooks := .later }
def CellLinksUptoCardSaid : Prop := Claim7.holds Tryd.pinned (.plain (OpenSpec.upto cellLinksSpec)) cellLinksUptoCard

/-- THE SECOND FORM's CARD OF 'treadwheellaw04.CellApart'. -/
def cellApartUptoCard : Claim7 := { stood := { row := cellApartUptoRow, standIns := [], harness := (true, "f279a432b57148076c252d230fa9849922e67417d6545c4a272e72c171970abe"), looks := false }, kinds := [], alts := [], laidByText := true, laidKinds := [.data], laidTests := true, laidLooks := .later }
def CellApartUptoCardSaid : Prop := Claim7.holds Tryd.pinned (.plain (OpenSpec.upto cellApartSpec)) cellApartUptoCard

/-- THE SECOND FORM's CARD OF 'treadwheellaw04.CellRests'. -/
def cellRestsUptoCard : Claim7 := { stood := { row := cellRestsUptoRow, standIns := [], harness := (true, "f279a432b57148076c252d230fa9849922e67417d6545c4a272e72c171970abe"), looks := false }, kinds := [], alts := [], laidByText := true, laidKinds := [.data], laidTests := true, laidLooks := .later }
def CellRestsUptoCardSaid : Prop := Claim7.holds Tryd.pinned (.plain (OpenSpec.upto cellRestsSpec)) cellRestsUptoCard
end Rows
end Go.Proofs.YtpfchfpliljglaaDoor
