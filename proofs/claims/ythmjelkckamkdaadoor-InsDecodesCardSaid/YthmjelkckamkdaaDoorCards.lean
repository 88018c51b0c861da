/-
  DERIVED. GIVEN WITH THE SEED: THE CARDS: each row of YthmjelkckamkdaaDoorRows.lean that lists a variable, with what it lists TIED to the program's text (the seventh form; the later family's looks); each row that meets fmt, with fmt's text TOLD by the authors' own Lean function (tested against real Go, not proved from fmt's source: count such statements apart). THE CARD IS WHAT COUNTS. Prove the row's statement (the work); the ties are given (YthmjelkckamkdaaDoorTie.lean); close each card by the builder's one call (the guide's Derived/Test/ToyasCard.lean, 'card_holds'). Laid BY PROGRAM, IN A SANDBOX (cutbox-door.mjs). By AI agents, Wed Nov 11 2026. No macro, syntax, notation, axiom, sorry.
-/
import Derived.Test.YthmjelkckamkdaaDoorRows
import GoSem.ClaimSeven
namespace Go.Proofs.YthmjelkckamkdaaDoor
namespace Rows

/-- THE TIED CARD OF 'caponierlaw02.InsDecodes'. -/
def insDecodesCard : Claim7 := { stood := { row := insDecodesRow, standIns := [], harness := (true, "560c0ad0a34708ace1a3532de842429005ae8b241c7a4f6b21b5d85fc8d303da"), looks := false }, kinds := [], alts := [], laidByText := true, laidKinds := [.data, .data], laidTests := true, laidLooks := .later }
def InsDecodesCardSaid : Prop := Claim7.holds Tryd.pinned (.plain (OpenSpec.ofChange insDecodesSpec)) insDecodesCard

/-- THE SECOND FORM's CARD OF 'caponierlaw02.InsDecodes'. -/
def insDecodesUptoCard : Claim7 := { stood := { row := insDecodesUptoRow, standIns := [], harness := (true, "560c0ad0a34708ace1a3532de842429005ae8b241c7a4f6b21b5d85fc8d303da"), looks := false }, kinds := [], alts := [], laidByText := true, laidKinds := [.data, .data], laidTests := true, laidLooks := .later }
def InsDecodesUptoCardSaid : Prop := Claim7.holds Tryd.pinned (.plain (OpenSpec.upto insDecodesSpec)) insDecodesUptoCard
end Rows
end Go.Proofs.YthmjelkckamkdaaDoor
