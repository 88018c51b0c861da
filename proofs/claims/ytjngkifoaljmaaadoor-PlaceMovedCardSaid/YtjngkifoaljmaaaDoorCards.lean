/-
  DERIVED. GIVEN WITH THE SEED: THE CARDS: each row of YtjngkifoaljmaaaDoorRows.lean that lists a variable, with what it lists TIED to the program's text (the seventh form; the later family's looks); each row that meets fmt, with fmt's text TOLD by the authors' own Lean function (tested against real Go, not proved from fmt's source: count such statements apart). THE CARD IS WHAT COUNTS. Prove the row's statement (the work); the ties are given (YtjngkifoaljmaaaDoorTie.lean); close each card by the builder's one call (the guide's Derived/Test/ToyasCard.lean, 'card_holds'). Laid BY PROGRAM, IN A SANDBOX (cutbox-door.mjs). By AI agents, Wed Nov 11 2026. No macro, syntax, notation, axiom, sorry.
-/
import Derived.Test.YtjngkifoaljmaaaDoorRows
import GoSem.ClaimSeven
namespace Go.Proofs.YtjngkifoaljmaaaDoor
namespace Rows

/-- THE TIED CARD OF 'caponierlaw08.PlaceComes'. -/
def placeComesCard : Claim7 := { stood := { row := placeComesRow, standIns := [], harness := (true, "4be52aa82f876d37205f11bbcc99b88c0d77eb8069835c97f2ce30bb56e25b22"), looks := true }, kinds := [], alts := [], laidByText := true, laidKinds := [.data, .data], laidTests := true, laidLooks := .later }
def PlaceComesCardSaid : Prop := Claim7.holds Tryd.pinned (.plain (OpenSpec.ofChange placeComesSpec)) placeComesCard

/-- THE TIED CARD OF 'caponierlaw08.PlaceMoved'. -/
def placeMovedCard : Claim7 := { stood := { row := placeMovedRow, standIns := [], harness := (true, "4be52aa82f876d37205f11bbcc99b88c0d77eb8069835c97f2ce30bb56e25b22"), looks := true }, kinds := [], alts := [], laidByText := true, laidKinds := [.data, .data], laidTests := true, laidLooks := .later }
def PlaceMovedCardSaid : Prop := Claim7.holds Tryd.pinned (.plain (OpenSpec.ofChange placeMovedSpec)) placeMovedCard

/-- THE TIED CARD OF 'caponierlaw08.PlaceSpots'. -/
def placeSpotsCard : Claim7 := { stood := { row := placeSpotsRow, standIns := [], harness := (true, "4be52aa82f876d37205f11bbcc99b88c0d77eb8069835c97f2ce30bb56e25b22"), looks := true }, kinds := [], alts := [], laidByText := true, laidKinds := [.data, .data], laidTests := true, laidLooks := .later }
def PlaceSpotsCardSaid : Prop := Claim7.holds Tryd.pinned (.plain (OpenSpec.ofChange placeSpotsSpec)) placeSpotsCard

/-- THE TIED CARD OF 'caponierlaw08.PlaceAlone'. -/
def placeAloneCard : Claim7 := { stood := { row := placeAloneRow, standIns := [], harness := (true, "4be52aa82f876d37205f11bbcc99b88c0d77eb8069835c97f2ce30bb56e25b22"), looks := true }, kinds := [], alts := [], laidByText := true, laidKinds := [.data, .data], laidTests := true, laidLooks := .later }
def PlaceAloneCardSaid : Prop := Claim7.holds Tryd.pinned (.plain (OpenSpec.ofChange placeAloneSpec)) placeAloneCard

/-- THE SECOND FORM's CARD OF 'caponierlaw08.PlaceComes'. -/
def placeComesUptoCard : Claim7 := { stood := { row := placeComesUptoRow, standIns := [], harness := (true, "4be52aa82f876d37205f11bbcc99b88c0d77eb8069835c97f2ce30bb56e25b22"), looks := true }, kinds := [], alts := [], laidByText := true, laidKinds := [.data, .data], laidTests := true, laidLooks := .later }
def PlaceComesUptoCardSaid : Prop := Claim7.holds Tryd.pinned (.plain (OpenSpec.upto placeComesSpec)) placeComesUptoCard

/-- THE SECOND FORM's CARD OF 'caponierlaw08.PlaceMoved'. -/
def placeMovedUptoCard : Claim7 := { stood := { row := placeMovedUptoRow, standIns := [], harness := (true, "4be52aa82f876d37205f11bbcc99b88c0d77eb8069835c97f2ce30bb56e25b22"), looks := true }, kinds := [], alts := [], laidByText := true, laidKinds := [.data, .data], laidTests := true, laidLooks := .later }
def PlaceMovedUptoCardSaid : Prop := Claim7.holds Tryd.pinned (.plain (OpenSpec.upto placeMovedSpec)) placeMovedUptoCard

/-- THE SECOND FORM's CARD OF 'caponierlaw08.PlaceSpots'. -/
def placeSpotsUptoCard : Claim7 := { stood := { row := placeSpotsUptoRow, standIns := [], harness := (true, "4be52aa82f876d37205f11bbcc99b88c0d77eb8069835c97f2ce30bb56e25b22"), looks := true }, kinds := [], alts := [], laidByText := true, laidKinds := [.data, .data], laidTests := true, laidLooks := .later }
def PlaceSpotsUptoCardSaid : Prop := Claim7.holds Tryd.pinned (.plain (OpenSpec.upto placeSpotsSpec)) placeSpotsUptoCard

/-- THE SECOND FORM's CARD OF 'caponierlaw08.PlaceAlone'. -/
def placeAloneUptoCard : Claim7 := { stood := { row := placeAloneUptoRow, standIns := [], harness := (true, "4be52aa82f876d37205f11bbcc99b88c0d77eb8069835c97f2ce30bb56e25b22"), looks := true }, kinds := [], alts := [], laidByText := true, laidKinds := [.data, .data], laidTests := true, laidLooks := .later }
def PlaceAloneUptoCardSaid : Prop := Claim7.holds Tryd.pinned (.plain (OpenSpec.upto placeAloneSpec)) placeAloneUptoCard
end Rows
end Go.Proofs.YtjngkifoaljmaaaDoor
