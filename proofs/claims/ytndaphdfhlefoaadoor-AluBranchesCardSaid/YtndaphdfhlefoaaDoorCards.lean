/-
  DERIVED. GIVEN WITH THE SEED: THE CARDS: each row of YtndaphdfhlefoaaDoorRows.lean that lists a variable, with what it lists TIED to the program's text (the seventh form; the later family's looks); each row that meets fmt, with fmt's text TOLD by the authors' own Lean function (tested against real Go, not proved from fmt's source: count such statements apart). THE CARD IS WHAT COUNTS. Prove the row's statement (the work); the ties are given (YtndaphdfhlefoaaDoorTie.lean); close each card by the builder's one call (the guide's Derived/Test/ToyasCard.lean, 'card_holds'). Laid BY PROGRAM, IN A SANDBOX (cutbox-door.mjs). By AI agents, Wed Nov 11 2026. No macro, syntax, notation, axiom, sorry.
-/
import Derived.Test.YtndaphdfhlefoaaDoorRows
import GoSem.ClaimSeven
namespace Go.Proofs.YtndaphdfhlefoaaDoor
namespace Rows

/-- THE TIED CARD OF 'caponierlaw03.AluReckons'. -/
def aluReckonsCard : Claim7 := { stood := { row := aluReckonsRow, standIns := [], harness := (true, "74e01087ce4f86d8a3848c736c28c858adfdc9b1e627d3ed8865fbf2482284ff"), looks := false }, kinds := [], alts := [], laidByText := true, laidKinds := [.data], laidTests := true, laidLooks := .later }
def AluReckonsCardSaid : Prop := Claim7.holds Tryd.pinned (.plain (OpenSpec.ofChange aluReckonsSpec)) aluReckonsCard

/-- THE TIED CARD OF 'caponierlaw03.AluDivides'. -/
def aluDividesCard : Claim7 := { stood := { row := aluDividesRow, standIns := [], harness := (true, "74e01087ce4f86d8a3848c736c28c858adfdc9b1e627d3ed8865fbf2482284ff"), looks := false }, kinds := [], alts := [], laidByText := true, laidKinds := [.data], laidTests := true, laidLooks := .later }
def AluDividesCardSaid : Prop := Claim7.holds Tryd.pinned (.plain (OpenSpec.ofChange aluDividesSpec)) aluDividesCard

/-- THE TIED CARD OF 'caponierlaw03.AluBranches'. -/
def aluBranchesCard : Claim7 := { stood := { row := aluBranchesRow, standIns := [], harness := (true, "74e01087ce4f86d8a3848c736c28c858adfdc9b1e627d3ed8865fbf2482284ff"), looks := false }, kinds := [], alts := [], laidByText := true, laidKinds := [.data], laidTests := true, laidLooks := .later }
def AluBranchesCardSaid : Prop := Claim7.holds Tryd.pinned (.plain (OpenSpec.ofChange aluBranchesSpec)) aluBranchesCard

/-- THE TIED CARD OF 'caponierlaw03.AluSums'. -/
def aluSumsCard : Claim7 := { stood := { row := aluSumsRow, standIns := [], harness := (true, "74e01087ce4f86d8a3848c736c28c858adfdc9b1e627d3ed8865fbf2482284ff"), looks := false }, kinds := [], alts := [], laidByText := true, laidKinds := [.data], laidTests := true, laidLooks := .later }
def AluSumsCardSaid : Prop := Claim7.holds Tryd.pinned (.plain (OpenSpec.ofChange aluSumsSpec)) aluSumsCard

/-- THE TIED CARD OF 'caponierlaw03.AluShifts'. -/
def aluShiftsCard : Claim7 := { stood := { row := aluShiftsRow, standIns := [], harness := (true, "74e01087ce4f86d8a3848c736c28c858adfdc9b1e627d3ed8865fbf2482284ff"), looks := false }, kinds := [], alts := [], laidByText := true, laidKinds := [.data], laidTests := true, laidLooks := .later }
def AluShiftsCardSaid : Prop := Claim7.holds Tryd.pinned (.plain (OpenSpec.ofChange aluShiftsSpec)) aluShiftsCard

/-- THE TIED CARD OF 'caponierlaw03.AluBits'. -/
def aluBitsCard : Claim7 := { stood := { row := aluBitsRow, standIns := [], harness := (true, "74e01087ce4f86d8a3848c736c28c858adfdc9b1e627d3ed8865fbf2482284ff"), looks := false }, kinds := [], alts := [], laidByText := true, laidKinds := [.data], laidTests := true, laidLooks := .later }
def AluBitsCardSaid : Prop := Claim7.holds Tryd.pinned (.plain (OpenSpec.ofChange aluBitsSpec)) aluBitsCard

/-- THE TIED CARD OF 'caponierlaw03.AluOrder'. -/
def aluOrderCard : Claim7 := { stood := { row := aluOrderRow, standIns := [], harness := (true, "74e01087ce4f86d8a3848c736c28c858adfdc9b1e627d3ed8865fbf2482284ff"), looks := false }, kinds := [], alts := [], laidByText := true, laidKinds := [.data], laidTests := true, laidLooks := .later }
def AluOrderCardSaid : Prop := Claim7.holds Tryd.pinned (.plain (OpenSpec.ofChange aluOrderSpec)) aluOrderCard

/-- THE TIED CARD OF 'caponierlaw03.AluMul'. -/
def aluMulCard : Claim7 := { stood := { row := aluMulRow, standIns := [], harness := (true, "74e01087ce4f86d8a3848c736c28c858adfdc9b1e627d3ed8865fbf2482284ff"), looks := false }, kinds := [], alts := [], laidByText := true, laidKinds := [.data], laidTests := true, laidLooks := .later }
def AluMulCardSaid : Prop := Claim7.holds Tryd.pinned (.plain (OpenSpec.ofChange aluMulSpec)) aluMulCard

/-- THE SECOND FORM's CARD OF 'caponierlaw03.AluReckons'. -/
def aluReckonsUptoCard : Claim7 := { stood := { row := aluReckonsUptoRow, standIns := [], harness := (true, "74e01087ce4f86d8a3848c736c28c858adfdc9b1e627d3ed8865fbf2482284ff"), looks := false }, kinds := [], alts := [], laidByText := true, laidKinds := [.data], laidTests := true, laidLooks := .later }
def AluReckonsUptoCardSaid : Prop := Claim7.holds Tryd.pinned (.plain (OpenSpec.upto aluReckonsSpec)) aluReckonsUptoCard

/-- THE SECOND FORM's CARD OF 'caponierlaw03.AluDivides'. -/
def aluDividesUptoCard : Claim7 := { stood := { row := aluDividesUptoRow, standIns := [], harness := (true, "74e01087ce4f86d8a3848c736c28c858adfdc9b1e627d3ed8865fbf2482284ff"), looks := false }, kinds := [], alts := [], laidByText := true, laidKinds := [.data], laidTests := true, laidLooks := .later }
def AluDividesUptoCardSaid : Prop := Claim7.holds Tryd.pinned (.plain (OpenSpec.upto aluDividesSpec)) aluDividesUptoCard

/-- THE SECOND FORM's CARD OF 'caponierlaw03.AluBranches'. -/
def aluBranchesUptoCard : Claim7 := { stood := { row := aluBranchesUptoRow, standIns := [], harness := (true, "74e01087ce4f86d8a3848c736c28c858adfdc9b1e627d3ed8865fbf2482284ff"), looks := false }, kinds := [], alts := [], laidByText := true, laidKinds := [.data], laidTests := true, laidLooks := .later }
def AluBranchesUptoCardSaid : Prop := Claim7.holds Tryd.pinned (.plain (OpenSpec.upto aluBranchesSpec)) aluBranchesUptoCard

/-- THE SECOND FORM's CARD OF 'caponierlaw03.AluSums'. -/
def aluSumsUptoCard : Claim7 := { stood := { row := aluSumsUptoRow, standIns := [], harness := (true, "74e01087ce4f86d8a3848c736c28c858adfdc9b1e627d3ed8865fbf2482284ff"), looks := false }, kinds := [], alts := [], laidByText := true, laidKinds := [.data], laidTests := true, laidLooks := .later }
def AluSumsUptoCardSaid : Prop := Claim7.holds Tryd.pinned (.plain (OpenSpec.upto aluSumsSpec)) aluSumsUptoCard

/-- THE SECOND FORM's CARD OF 'caponierlaw03.AluShifts'. -/
def aluShiftsUptoCard : Claim7 := { stood := { row := aluShiftsUptoRow, standIns := [], harness := (true, "74e01087ce4f86d8a3848c736c28c858adfdc9b1e627d3ed8865fbf2482284ff"), looks := false }, kinds := [], alts := [], laidByText := true, laidKinds := [.data], laidTests := true, laidLooks := .later }
def AluShiftsUptoCardSaid : Prop := Claim7.holds Tryd.pinned (.plain (OpenSpec.upto aluShiftsSpec)) aluShiftsUptoCard

/-- THE SECOND FORM's CARD OF 'caponierlaw03.AluBits'. -/
def aluBitsUptoCard : Claim7 := { stood := { row := aluBitsUptoRow, standIns := [], harness := (true, "74e01087ce4f86d8a3848c736c28c858adfdc9b1e627d3ed8865fbf2482284ff"), looks := false }, kinds := [], alts := [], laidByText := true, laidKinds := [.data], laidTests := true, laidLooks := .later }
def AluBitsUptoCardSaid : Prop := Claim7.holds Tryd.pinned (.plain (OpenSpec.upto aluBitsSpec)) aluBitsUptoCard

/-- THE SECOND FORM's CARD OF 'caponierlaw03.AluOrder'. -/
def aluOrderUptoCard : Claim7 := { stood := { row := aluOrderUptoRow, standIns := [], harness := (true, "74e01087ce4f86d8a3848c736c28c858adfdc9b1e627d3ed8865fbf2482284ff"), looks := false }, kinds := [], alts := [], laidByText := true, laidKinds := [.data], laidTests := true, laidLooks := .later }
def AluOrderUptoCardSaid : Prop := Claim7.holds Tryd.pinned (.plain (OpenSpec.upto aluOrderSpec)) aluOrderUptoCard

/-- THE SECOND FORM's CARD OF 'caponierlaw03.AluMul'. -/
def aluMulUptoCard : Claim7 := { stood := { row := aluMulUptoRow, standIns := [], harness := (true, "74e01087ce4f86d8a3848c736c28c858adfdc9b1e627d3ed8865fbf2482284ff"), looks := false }, kinds := [], alts := [], laidByText := true, laidKinds := [.data], laidTests := true, laidLooks := .later }
def AluMulUptoCardSaid : Prop := Claim7.holds Tryd.pinned (.plain (OpenSpec.upto aluMulSpec)) aluMulUptoCard
end Rows
end Go.Proofs.YtndaphdfhlefoaaDoor
