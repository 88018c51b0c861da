/-
  DERIVED. GIVEN WITH THE SEED: THE CARDS: each row of YtjngkifoaljmaaaGreatDoorRows.lean that lists a variable, with what it lists TIED to the program's text (the seventh form; the later family's looks); each row that meets fmt, with fmt's text TOLD by the authors' own Lean function (tested against real Go, not proved from fmt's source: count such statements apart). THE CARD IS WHAT COUNTS. Prove the row's statement (the work); the ties are given (YtjngkifoaljmaaaGreatDoorTie.lean); close each card by the builder's one call (the guide's Derived/Test/ToyasCard.lean, 'card_holds'). Laid BY PROGRAM, IN A SANDBOX (cutbox-door.mjs). By AI agents, Wed Nov 11 2026. No macro, syntax, notation, axiom, sorry.
-/
import Derived.Test.YtjngkifoaljmaaaGreatDoorRows
import GoSem.ClaimSeven
namespace Go.Proofs.YtjngkifoaljmaaaGreatDoor
namespace Rows

/-- THE TIED CARD OF 'caponierlaw08.PlaceLinks'. -/
def placeLinksCard : Claim7 := { stood := { row := placeLinksRow, standIns := [], harness := (true, "31702e872c00c2b174cb3432cc362562cacb05d14f8273d12bc6361825fcfd21"), looks := true }, kinds := [], alts := [], laidByText := true, laidKinds := [.data, .data], laidTests := true, laidLooks := .later }
def PlaceLinksCardSaid : Prop := Claim7.holds Tryz.pinned (.plain (OpenSpec.ofChange placeLinksSpec)) placeLinksCard

/-- THE SECOND FORM's CARD OF 'caponierlaw08.PlaceLinks'. -/
def placeLinksUptoCard : Claim7 := { stood := { row := placeLinksUptoRow, standIns := [], harness := (true, "31702e872c00c2b174cb3432cc362562cacb05d14f8273d12bc6361825fcfd21"), looks := true }, kinds := [], alts := [], laidByText := true, laidKinds := [.data, .data], laidTests := true, laidLooks := .later }
def PlaceLinksUptoCardSaid : Prop := Claim7.holds Tryz.pinned (.plain (OpenSpec.upto placeLinksSpec)) placeLinksUptoCard
end Rows
end Go.Proofs.YtjngkifoaljmaaaGreatDoor
