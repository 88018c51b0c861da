/-
  DERIVED. GIVEN WITH THE SEED: THE CARDS: each row of YthnhopmbefgmgaaGreatDoorRows.lean that lists a variable, with what it lists TIED to the program's text (the seventh form; the later family's looks); each row that meets fmt, with fmt's text TOLD by the authors' own Lean function (tested against real Go, not proved from fmt's source: count such statements apart). THE CARD IS WHAT COUNTS. Prove the row's statement (the work); the ties are given (YthnhopmbefgmgaaGreatDoorTie.lean); close each card by the builder's one call (the guide's Derived/Test/ToyasCard.lean, 'card_holds'). Laid BY PROGRAM, IN A SANDBOX (cutbox-door.mjs). By AI agents, Wed Nov 11 2026. No macro, syntax, notation, axiom, sorry.
-/
import Derived.Test.YthnhopmbefgmgaaGreatDoorRows
import GoSem.ClaimSeven
namespace Go.Proofs.YthnhopmbefgmgaaGreatDoor
namespace Rows

/-- THE TIED CARD OF 'caponierlaw05.CpuRuns'. -/
def cpuRunsCard : Claim7 := { stood := { row := cpuRunsRow, standIns := [], harness := (true, "3bbe19a6c81db35bcfc108958416671c96d24eca2f4ceca6e1b5b494f52fd350"), looks := false }, kinds := [], alts := [], laidByText := true, laidKinds := [.data, .data, .data], laidTests := true, laidLooks := .later }
def CpuRunsCardSaid : Prop := Claim7.holds Tryz.pinned (.plain (OpenSpec.ofChange cpuRunsSpec)) cpuRunsCard

/-- THE TIED CARD OF 'caponierlaw05.CpuSteps'. -/
def cpuStepsCard : Claim7 := { stood := { row := cpuStepsRow, standIns := [], harness := (true, "3bbe19a6c81db35bcfc108958416671c96d24eca2f4ceca6e1b5b494f52fd350"), looks := false }, kinds := [], alts := [], laidByText := true, laidKinds := [.data, .data, .data], laidTests := true, laidLooks := .later }
def CpuStepsCardSaid : Prop := Claim7.holds Tryz.pinned (.plain (OpenSpec.ofChange cpuStepsSpec)) cpuStepsCard

/-- THE TIED CARD OF 'caponierlaw05.CpuCounts'. -/
def cpuCountsCard : Claim7 := { stood := { row := cpuCountsRow, standIns := [], harness := (true, "3bbe19a6c81db35bcfc108958416671c96d24eca2f4ceca6e1b5b494f52fd350"), looks := false }, kinds := [], alts := [], laidByText := true, laidKinds := [.data, .data, .data], laidTests := true, laidLooks := .later }
def CpuCountsCardSaid : Prop := Claim7.holds Tryz.pinned (.plain (OpenSpec.ofChange cpuCountsSpec)) cpuCountsCard

/-- THE TIED CARD OF 'caponierlaw05.CpuGates'. -/
def cpuGatesCard : Claim7 := { stood := { row := cpuGatesRow, standIns := [], harness := (true, "3bbe19a6c81db35bcfc108958416671c96d24eca2f4ceca6e1b5b494f52fd350"), looks := false }, kinds := [], alts := [], laidByText := true, laidKinds := [.data, .data, .data], laidTests := true, laidLooks := .later }
def CpuGatesCardSaid : Prop := Claim7.holds Tryz.pinned (.plain (OpenSpec.ofChange cpuGatesSpec)) cpuGatesCard

/-- THE TIED CARD OF 'caponierlaw05.CpuStores'. -/
def cpuStoresCard : Claim7 := { stood := { row := cpuStoresRow, standIns := [], harness := (true, "3bbe19a6c81db35bcfc108958416671c96d24eca2f4ceca6e1b5b494f52fd350"), looks := false }, kinds := [], alts := [], laidByText := true, laidKinds := [.data, .data, .data], laidTests := true, laidLooks := .later }
def CpuStoresCardSaid : Prop := Claim7.holds Tryz.pinned (.plain (OpenSpec.ofChange cpuStoresSpec)) cpuStoresCard

/-- THE TIED CARD OF 'caponierlaw05.CpuBreaks'. -/
def cpuBreaksCard : Claim7 := { stood := { row := cpuBreaksRow, standIns := [], harness := (true, "3bbe19a6c81db35bcfc108958416671c96d24eca2f4ceca6e1b5b494f52fd350"), looks := false }, kinds := [], alts := [], laidByText := true, laidKinds := [.data, .data, .data], laidTests := true, laidLooks := .later }
def CpuBreaksCardSaid : Prop := Claim7.holds Tryz.pinned (.plain (OpenSpec.ofChange cpuBreaksSpec)) cpuBreaksCard

/-- THE TIED CARD OF 'caponierlaw05.CpuFar'. -/
def cpuFarCard : Claim7 := { stood := { row := cpuFarRow, standIns := [], harness := (true, "3bbe19a6c81db35bcfc108958416671c96d24eca2f4ceca6e1b5b494f52fd350"), looks := false }, kinds := [], alts := [], laidByText := true, laidKinds := [.data, .data, .data], laidTests := true, laidLooks := .later }
def CpuFarCardSaid : Prop := Claim7.holds Tryz.pinned (.plain (OpenSpec.ofChange cpuFarSpec)) cpuFarCard

/-- THE SECOND FORM's CARD OF 'caponierlaw05.CpuRuns'. -/
def cpuRunsUptoCard : Claim7 := { stood := { row := cpuRunsUptoRow, standIns := [], harness := (true, "3bbe19a6c81db35bcfc108958416671c96d24eca2f4ceca6e1b5b494f52fd350"), looks := false }, kinds := [], alts := [], laidByText := true, laidKinds := [.data, .data, .data], laidTests := true, laidLooks := .later }
def CpuRunsUptoCardSaid : Prop := Claim7.holds Tryz.pinned (.plain (OpenSpec.upto cpuRunsSpec)) cpuRunsUptoCard

/-- THE SECOND FORM's CARD OF 'caponierlaw05.CpuSteps'. -/
def cpuStepsUptoCard : Claim7 := { stood := { row := cpuStepsUptoRow, standIns := [], harness := (true, "3bbe19a6c81db35bcfc108958416671c96d24eca2f4ceca6e1b5b494f52fd350"), looks := false }, kinds := [], alts := [], laidByText := true, laidKinds := [.data, .data, .data], laidTests := true, laidLooks := .later }
def CpuStepsUptoCardSaid : Prop := Claim7.holds Tryz.pinned (.plain (OpenSpec.upto cpuStepsSpec)) cpuStepsUptoCard

/-- THE SECOND FORM's CARD OF 'caponierlaw05.CpuCounts'. -/
def cpuCountsUptoCard : Claim7 := { stood := { row := cpuCountsUptoRow, standIns := [], harness := (true, "3bbe19a6c81db35bcfc108958416671c96d24eca2f4ceca6e1b5b494f52fd350"), looks := false }, kinds := [], alts := [], laidByText := true, laidKinds := [.data, .data, .data], laidTests := true, laidLooks := .later }
def CpuCountsUptoCardSaid : Prop := Claim7.holds Tryz.pinned (.plain (OpenSpec.upto cpuCountsSpec)) cpuCountsUptoCard

/-- THE SECOND FORM's CARD OF 'caponierlaw05.CpuGates'. -/
def cpuGatesUptoCard : Claim7 := { stood := { row := cpuGatesUptoRow, standIns := [], harness := (true, "3bbe19a6c81db35bcfc108958416671c96d24eca2f4ceca6e1b5b494f52fd350"), looks := false }, kinds := [], alts := [], laidByText := true, laidKinds := [.data, .data, .data], laidTests := true, laidLooks := .later }
def CpuGatesUptoCardSaid : Prop := Claim7.holds Tryz.pinned (.plain (OpenSpec.upto cpuGatesSpec)) cpuGatesUptoCard

/-- THE SECOND FORM's CARD OF 'caponierlaw05.CpuStores'. -/
def cpuStoresUptoCard : Claim7 := { stood := { row := cpuStoresUptoRow, standIns := [], harness := (true, "3bbe19a6c81db35bcfc108958416671c96d24eca2f4ceca6e1b5b494f52fd350"), looks := false }, kinds := [], alts := [], laidByText := true, laidKinds := [.data, .data, .data], laidTests := true, laidLooks := .later }
def CpuStoresUptoCardSaid : Prop := Claim7.holds Tryz.pinned (.plain (OpenSpec.upto cpuStoresSpec)) cpuStoresUptoCard

/-- THE SECOND FORM's CARD OF 'caponierlaw05.CpuBreaks'. -/
def cpuBreaksUptoCard : Claim7 := { stood := { row := cpuBreaksUptoRow, standIns := [], harness := (true, "3bbe19a6c81db35bcfc108958416671c96d24eca2f4ceca6e1b5b494f52fd350"), looks := false }, kinds := [], alts := [], laidByText := true, laidKinds := [.data, .data, .data], laidTests := true, laidLooks := .later }
def CpuBreaksUptoCardSaid : Prop := Claim7.holds Tryz.pinned (.plain (OpenSpec.upto cpuBreaksSpec)) cpuBreaksUptoCard

/-- THE SECOND FORM's CARD OF 'caponierlaw05.CpuFar'. -/
def cpuFarUptoCard : Claim7 := { stood := { row := cpuFarUptoRow, standIns := [], harness := (true, "3bbe19a6c81db35bcfc108958416671c96d24eca2f4ceca6e1b5b494f52fd350"), looks := false }, kinds := [], alts := [], laidByText := true, laidKinds := [.data, .data, .data], laidTests := true, laidLooks := .later }
def CpuFarUptoCardSaid : Prop := Claim7.holds Tryz.pinned (.plain (OpenSpec.upto cpuFarSpec)) cpuFarUptoCard
end Rows
end Go.Proofs.YthnhopmbefgmgaaGreatDoor
