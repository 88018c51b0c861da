/-
  DERIVED. GIVEN WITH THE SEED: THE CARDS: each row of YtoeagbcjnffpaaaGreatDoorRows.lean that lists a variable, with what it lists TIED to the program's text (the seventh form; the later family's looks); each row that meets fmt, with fmt's text TOLD by the authors' own Lean function (tested against real Go, not proved from fmt's source: count such statements apart). THE CARD IS WHAT COUNTS. Prove the row's statement (the work); the ties are given (YtoeagbcjnffpaaaGreatDoorTie.lean); close each card by the builder's one call (the guide's Derived/Test/ToyasCard.lean, 'card_holds'). Laid BY PROGRAM, IN A SANDBOX (cutbox-door.mjs). By AI agents, Wed Nov 11 2026. No macro, syntax, notation, axiom, sorry.
-/
import Derived.Test.YtoeagbcjnffpaaaGreatDoorRows
import GoSem.ClaimSeven
namespace Go.Proofs.YtoeagbcjnffpaaaGreatDoor
namespace Rows

/-- THE TIED CARD OF 'caponierlaw05.CpuRuns'. -/
def cpuRunsCard : Claim7 := { stood := { row := cpuRunsRow, standIns := [], harness := (true, "89ca7c49da5c75bb50bf4329483804979ad3f4edb9b0ae19b8bb6e13924d3c00"), looks := true }, kinds := [], alts := [], laidByText := true, laidKinds := [.data, .data, .data], laidTests := true, laidLooks := .later }
def CpuRunsCardSaid : Prop := Claim7.holds Tryz.pinned (.plain (OpenSpec.ofChange cpuRunsSpec)) cpuRunsCard

/-- THE TIED CARD OF 'caponierlaw06.ObjEncodes'. -/
def objEncodesCard : Claim7 := { stood := { row := objEncodesRow, standIns := [], harness := (true, "89ca7c49da5c75bb50bf4329483804979ad3f4edb9b0ae19b8bb6e13924d3c00"), looks := true }, kinds := [], alts := [], laidByText := true, laidKinds := [.data, .data], laidTests := true, laidLooks := .later }
def ObjEncodesCardSaid : Prop := Claim7.holds Tryz.pinned (.plain (OpenSpec.ofChange objEncodesSpec)) objEncodesCard

/-- THE TIED CARD OF 'caponierlaw06.ObjDecodes'. -/
def objDecodesCard : Claim7 := { stood := { row := objDecodesRow, standIns := [], harness := (true, "89ca7c49da5c75bb50bf4329483804979ad3f4edb9b0ae19b8bb6e13924d3c00"), looks := true }, kinds := [], alts := [], laidByText := true, laidKinds := [.data, .data], laidTests := true, laidLooks := .later }
def ObjDecodesCardSaid : Prop := Claim7.holds Tryz.pinned (.plain (OpenSpec.ofChange objDecodesSpec)) objDecodesCard

/-- THE SECOND FORM's CARD OF 'caponierlaw05.CpuRuns'. -/
def cpuRunsUptoCard : Claim7 := { stood := { row := cpuRunsUptoRow, standIns := [], harness := (true, "89ca7c49da5c75bb50bf4329483804979ad3f4edb9b0ae19b8bb6e13924d3c00"), looks := true }, kinds := [], alts := [], laidByText := true, laidKinds := [.data, .data, .data], laidTests := true, laidLooks := .later }
def CpuRunsUptoCardSaid : Prop := Claim7.holds Tryz.pinned (.plain (OpenSpec.upto cpuRunsSpec)) cpuRunsUptoCard

/-- THE SECOND FORM's CARD OF 'caponierlaw06.ObjEncodes'. -/
def objEncodesUptoCard : Claim7 := { stood := { row := objEncodesUptoRow, standIns := [], harness := (true, "89ca7c49da5c75bb50bf4329483804979ad3f4edb9b0ae19b8bb6e13924d3c00"), looks := true }, kinds := [], alts := [], laidByText := true, laidKinds := [.data, .data], laidTests := true, laidLooks := .later }
def ObjEncodesUptoCardSaid : Prop := Claim7.holds Tryz.pinned (.plain (OpenSpec.upto objEncodesSpec)) objEncodesUptoCard

/-- THE SECOND FORM's CARD OF 'caponierlaw06.ObjDecodes'. -/
def objDecodesUptoCard : Claim7 := { stood := { row := objDecodesUptoRow, standIns := [], harness := (true, "89ca7c49da5c75bb50bf4329483804979ad3f4edb9b0ae19b8bb6e13924d3c00"), looks := true }, kinds := [], alts := [], laidByText := true, laidKinds := [.data, .data], laidTests := true, laidLooks := .later }
def ObjDecodesUptoCardSaid : Prop := Claim7.holds Tryz.pinned (.plain (OpenSpec.upto objDecodesSpec)) objDecodesUptoCard
end Rows
end Go.Proofs.YtoeagbcjnffpaaaGreatDoor
