/-
  DERIVED. GIVEN WITH THE SEED: THE CARDS: each row of YtmpieeadkkeniaaGreatDoorRows.lean that lists a variable, with what it lists TIED to the program's text (the seventh form; the later family's looks); each row that meets fmt, with fmt's text TOLD by the authors' own Lean function (tested against real Go, not proved from fmt's source: count such statements apart). THE CARD IS WHAT COUNTS. Prove the row's statement (the work); the ties are given (YtmpieeadkkeniaaGreatDoorTie.lean); close each card by the builder's one call (the guide's Derived/Test/ToyasCard.lean, 'card_holds'). Laid BY PROGRAM, IN A SANDBOX (cutbox-door.mjs). By AI agents, Wed Nov 11 2026. No macro, syntax, notation, axiom, sorry.
-/
import Derived.Test.YtmpieeadkkeniaaGreatDoorRows
import GoSem.ClaimSeven
namespace Go.Proofs.YtmpieeadkkeniaaGreatDoor
namespace Rows

/-- THE TIED CARD OF 'caponierlaw06.ObjEncodes'. -/
def objEncodesCard : Claim7 := { stood := { row := objEncodesRow, standIns := [], harness := (true, "f3a6226c9d3b9d115a9f95dbb2f3e1bef6a11c3903c7465cd490d1f1161916ed"), looks := true }, kinds := [], alts := [], laidByText := true, laidKinds := [.data, .data], laidTests := true, laidLooks := .later }
def ObjEncodesCardSaid : Prop := Claim7.holds Tryz.pinned (.plain (OpenSpec.ofChange objEncodesSpec)) objEncodesCard

/-- THE TIED CARD OF 'caponierlaw06.ObjDecodes'. -/
def objDecodesCard : Claim7 := { stood := { row := objDecodesRow, standIns := [], harness := (true, "f3a6226c9d3b9d115a9f95dbb2f3e1bef6a11c3903c7465cd490d1f1161916ed"), looks := true }, kinds := [], alts := [], laidByText := true, laidKinds := [.data, .data], laidTests := true, laidLooks := .later }
def ObjDecodesCardSaid : Prop := Claim7.holds Tryz.pinned (.plain (OpenSpec.ofChange objDecodesSpec)) objDecodesCard

/-- THE TIED CARD OF 'caponierlaw07.SymsLeast'. -/
def symsLeastCard : Claim7 := { stood := { row := symsLeastRow, standIns := [], harness := (true, "f3a6226c9d3b9d115a9f95dbb2f3e1bef6a11c3903c7465cd490d1f1161916ed"), looks := true }, kinds := [], alts := [], laidByText := true, laidKinds := [.data, .data], laidTests := true, laidLooks := .later }
def SymsLeastCardSaid : Prop := Claim7.holds Tryz.pinned (.plain (OpenSpec.ofChange symsLeastSpec)) symsLeastCard

/-- THE SECOND FORM's CARD OF 'caponierlaw06.ObjEncodes'. -/
def objEncodesUptoCard : Claim7 := { stood := { row := objEncodesUptoRow, standIns := [], harness := (true, "f3a6226c9d3b9d115a9f95dbb2f3e1bef6a11c3903c7465cd490d1f1161916ed"), looks := true }, kinds := [], alts := [], laidByText := true, laidKinds := [.data, .data], laidTests := true, laidLooks := .later }
def ObjEncodesUptoCardSaid : Prop := Claim7.holds Tryz.pinned (.plain (OpenSpec.upto objEncodesSpec)) objEncodesUptoCard

/-- THE SECOND FORM's CARD OF 'caponierlaw06.ObjDecodes'. -/
def objDecodesUptoCard : Claim7 := { stood := { row := objDecodesUptoRow, standIns := [], harness := (true, "f3a6226c9d3b9d115a9f95dbb2f3e1bef6a11c3903c7465cd490d1f1161916ed"), looks := true }, kinds := [], alts := [], laidByText := true, laidKinds := [.data, .data], laidTests := true, laidLooks := .later }
def ObjDecodesUptoCardSaid : Prop := Claim7.holds Tryz.pinned (.plain (OpenSpec.upto objDecodesSpec)) objDecodesUptoCard

/-- THE SECOND FORM's CARD OF 'caponierlaw07.SymsLeast'. -/
def symsLeastUptoCard : Claim7 := { stood := { row := symsLeastUptoRow, standIns := [], harness := (true, "f3a6226c9d3b9d115a9f95dbb2f3e1bef6a11c3903c7465cd490d1f1161916ed"), looks := true }, kinds := [], alts := [], laidByText := true, laidKinds := [.data, .data], laidTests := true, laidLooks := .later }
def SymsLeastUptoCardSaid : Prop := Claim7.holds Tryz.pinned (.plain (OpenSpec.upto symsLeastSpec)) symsLeastUptoCard
end Rows
end Go.Proofs.YtmpieeadkkeniaaGreatDoor
