/-
  DERIVED. GIVEN WITH THE SEED: THE CARDS: each row of YthoehbmbmjmpbaaDoorRows.lean that lists a variable, with what it lists TIED to the program's text (the seventh form; the later family's looks); each row that meets fmt, with fmt's text TOLD by the authors' own Lean function (tested against real Go, not proved from fmt's source: count such statements apart). THE CARD IS WHAT COUNTS. Prove the row's statement (the work); the ties are given (YthoehbmbmjmpbaaDoorTie.lean); close each card by the builder's one call (the guide's Derived/Test/ToyasCard.lean, 'card_holds'). Laid BY PROGRAM, IN A SANDBOX (cutbox-door.mjs). By AI agents, Wed Nov 11 2026. No macro, syntax, notation, axiom, sorry.
-/
import Derived.Test.YthoehbmbmjmpbaaDoorRows
import GoSem.ClaimSeven
namespace Go.Proofs.YthoehbmbmjmpbaaDoor
namespace Rows

/-- THE TIED CARD OF 'caponierlaw07.SymsTurned'. -/
def symsTurnedCard : Claim7 := { stood := { row := symsTurnedRow, standIns := [], harness := (true, "eec67683fb6793f0e403dd436a10a51c787578b55b039f1e8b3ce5231fd981cb"), looks := true }, kinds := [], alts := [], laidByText := true, laidKinds := [.data, .data], laidTests := true, laidLooks := .later }
def SymsTurnedCardSaid : Prop := Claim7.holds Tryd.pinned (.plain (OpenSpec.ofChange symsTurnedSpec)) symsTurnedCard

/-- THE TIED CARD OF 'caponierlaw07.SymsOuts'. -/
def symsOutsCard : Claim7 := { stood := { row := symsOutsRow, standIns := [], harness := (true, "eec67683fb6793f0e403dd436a10a51c787578b55b039f1e8b3ce5231fd981cb"), looks := true }, kinds := [], alts := [], laidByText := true, laidKinds := [.data, .data], laidTests := true, laidLooks := .later }
def SymsOutsCardSaid : Prop := Claim7.holds Tryd.pinned (.plain (OpenSpec.ofChange symsOutsSpec)) symsOutsCard

/-- THE TIED CARD OF 'caponierlaw07.SymsAlone'. -/
def symsAloneCard : Claim7 := { stood := { row := symsAloneRow, standIns := [], harness := (true, "eec67683fb6793f0e403dd436a10a51c787578b55b039f1e8b3ce5231fd981cb"), looks := true }, kinds := [], alts := [], laidByText := true, laidKinds := [.data, .data], laidTests := true, laidLooks := .later }
def SymsAloneCardSaid : Prop := Claim7.holds Tryd.pinned (.plain (OpenSpec.ofChange symsAloneSpec)) symsAloneCard

/-- THE TIED CARD OF 'caponierlaw08.PlaceComes'. -/
def placeComesCard : Claim7 := { stood := { row := placeComesRow, standIns := [], harness := (true, "eec67683fb6793f0e403dd436a10a51c787578b55b039f1e8b3ce5231fd981cb"), looks := true }, kinds := [], alts := [], laidByText := true, laidKinds := [.data, .data], laidTests := true, laidLooks := .later }
def PlaceComesCardSaid : Prop := Claim7.holds Tryd.pinned (.plain (OpenSpec.ofChange placeComesSpec)) placeComesCard

/-- THE TIED CARD OF 'caponierlaw08.PlaceMoved'. -/
def placeMovedCard : Claim7 := { stood := { row := placeMovedRow, standIns := [], harness := (true, "eec67683fb6793f0e403dd436a10a51c787578b55b039f1e8b3ce5231fd981cb"), looks := true }, kinds := [], alts := [], laidByText := true, laidKinds := [.data, .data], laidTests := true, laidLooks := .later }
def PlaceMovedCardSaid : Prop := Claim7.holds Tryd.pinned (.plain (OpenSpec.ofChange placeMovedSpec)) placeMovedCard

/-- THE TIED CARD OF 'caponierlaw08.PlaceSpots'. -/
def placeSpotsCard : Claim7 := { stood := { row := placeSpotsRow, standIns := [], harness := (true, "eec67683fb6793f0e403dd436a10a51c787578b55b039f1e8b3ce5231fd981cb"), looks := true }, kinds := [], alts := [], laidByText := true, laidKinds := [.data, .data], laidTests := true, laidLooks := .later }
def PlaceSpotsCardSaid : Prop := Claim7.holds Tryd.pinned (.plain (OpenSpec.ofChange placeSpotsSpec)) placeSpotsCard

/-- THE TIED CARD OF 'caponierlaw08.PlaceAlone'. -/
def placeAloneCard : Claim7 := { stood := { row := placeAloneRow, standIns := [], harness := (true, "eec67683fb6793f0e403dd436a10a51c787578b55b039f1e8b3ce5231fd981cb"), looks := true }, kinds := [], alts := [], laidByText := true, laidKinds := [.data, .data], laidTests := true, laidLooks := .later }
def PlaceAloneCardSaid : Prop := Claim7.holds Tryd.pinned (.plain (OpenSpec.ofChange placeAloneSpec)) placeAloneCard

/-- THE SECOND FORM's CARD OF 'caponierlaw07.SymsTurned'. -/
def symsTurnedUptoCard : Claim7 := { stood := { row := symsTurnedUptoRow, standIns := [], harness := (true, "eec67683fb6793f0e403dd436a10a51c787578b55b039f1e8b3ce5231fd981cb"), looks := true }, kinds := [], alts := [], laidByText := true, laidKinds := [.data, .data], laidTests := true, laidLooks := .later }
def SymsTurnedUptoCardSaid : Prop := Claim7.holds Tryd.pinned (.plain (OpenSpec.upto symsTurnedSpec)) symsTurnedUptoCard

/-- THE SECOND FORM's CARD OF 'caponierlaw07.SymsOuts'. -/
def symsOutsUptoCard : Claim7 := { stood := { row := symsOutsUptoRow, standIns := [], harness := (true, "eec67683fb6793f0e403dd436a10a51c787578b55b039f1e8b3ce5231fd981cb"), looks := true }, kinds := [], alts := [], laidByText := true, laidKinds := [.data, .data], laidTests := true, laidLooks := .later }
def SymsOutsUptoCardSaid : Prop := Claim7.holds Tryd.pinned (.plain (OpenSpec.upto symsOutsSpec)) symsOutsUptoCard

/-- THE SECOND FORM's CARD OF 'caponierlaw07.SymsAlone'. -/
def symsAloneUptoCard : Claim7 := { stood := { row := symsAloneUptoRow, standIns := [], harness := (true, "eec67683fb6793f0e403dd436a10a51c787578b55b039f1e8b3ce5231fd981cb"), looks := true }, kinds := [], alts := [], laidByText := true, laidKinds := [.data, .data], laidTests := true, laidLooks := .later }
def SymsAloneUptoCardSaid : Prop := Claim7.holds Tryd.pinned (.plain (OpenSpec.upto symsAloneSpec)) symsAloneUptoCard

/-- THE SECOND FORM's CARD OF 'caponierlaw08.PlaceComes'. -/
def placeComesUptoCard : Claim7 := { stood := { row := placeComesUptoRow, standIns := [], harness := (true, "eec67683fb6793f0e403dd436a10a51c787578b55b039f1e8b3ce5231fd981cb"), looks := true }, kinds := [], alts := [], laidByText := true, laidKinds := [.data, .data], laidTests := true, laidLooks := .later }
def PlaceComesUptoCardSaid : Prop := Claim7.holds Tryd.pinned (.plain (OpenSpec.upto placeComesSpec)) placeComesUptoCard

/-- THE SECOND FORM's CARD OF 'caponierlaw08.PlaceMoved'. -/
def placeMovedUptoCard : Claim7 := { stood := { row := placeMovedUptoRow, standIns := [], harness := (true, "eec67683fb6793f0e403dd436a10a51c787578b55b039f1e8b3ce5231fd981cb"), looks := true }, kinds := [], alts := [], laidByText := true, laidKinds := [.data, .data], laidTests := true, laidLooks := .later }
def PlaceMovedUptoCardSaid : Prop := Claim7.holds Tryd.pinned (.plain (OpenSpec.upto placeMovedSpec)) placeMovedUptoCard

/-- THE SECOND FORM's CARD OF 'caponierlaw08.PlaceSpots'. -/
def placeSpotsUptoCard : Claim7 := { stood := { row := placeSpotsUptoRow, standIns := [], harness := (true, "eec67683fb6793f0e403dd436a10a51c787578b55b039f1e8b3ce5231fd981cb"), looks := true }, kinds := [], alts := [], laidByText := true, laidKinds := [.data, .data], laidTests := true, laidLooks := .later }
def PlaceSpotsUptoCardSaid : Prop := Claim7.holds Tryd.pinned (.plain (OpenSpec.upto placeSpotsSpec)) placeSpotsUptoCard

/-- THE SECOND FORM's CARD OF 'caponierlaw08.PlaceAlone'. -/
def placeAloneUptoCard : Claim7 := { stood := { row := placeAloneUptoRow, standIns := [], harness := (true, "eec67683fb6793f0e403dd436a10a51c787578b55b039f1e8b3ce5231fd981cb"), looks := true }, kinds := [], alts := [], laidByText := true, laidKinds := [.data, .data], laidTests := true, laidLooks := .later }
def PlaceAloneUptoCardSaid : Prop := Claim7.holds Tryd.pinned (.plain (OpenSpec.upto placeAloneSpec)) placeAloneUptoCard
end Rows
end Go.Proofs.YthoehbmbmjmpbaaDoor
