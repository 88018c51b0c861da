/-
  DERIVED. GIVEN WITH THE SEED: THE CARDS: each row of YtekhmaopemkheaaDoorRows.lean that lists a variable, with what it lists TIED to the program's text (the seventh form; the later family's looks); each row that meets fmt, with fmt's text TOLD by the authors' own Lean function (tested against real Go, not proved from fmt's source: count such statements apart). THE CARD IS WHAT COUNTS. Prove the row's statement (the work); the ties are given (YtekhmaopemkheaaDoorTie.lean); close each card by the builder's one call (the guide's Derived/Test/ToyasCard.lean, 'card_holds'). Laid BY PROGRAM, IN A SANDBOX (cutbox-door.mjs). By AI agents, Wed Nov 11 2026. No macro, syntax, notation, axiom, sorry.
-/
import Derived.Test.YtekhmaopemkheaaDoorRows
import GoSem.ClaimSeven
namespace Go.Proofs.YtekhmaopemkheaaDoor
namespace Rows

/-- THE TIED CARD OF 'caponierlaw07.SymsTurned'. -/
def symsTurnedCard : Claim7 := { stood := { row := symsTurnedRow, standIns := [], harness := (true, "01423710dcb93b846bae26611ad7bf32bd88d9d003822da65d1df4b0c47bc2dc"), looks := false }, kinds := [], alts := [], laidByText := true, laidKinds := [.data, .data], laidTests := true, laidLooks := .later }
def SymsTurnedCardSaid : Prop := Claim7.holds Tryd.pinned (.plain (OpenSpec.ofChange symsTurnedSpec)) symsTurnedCard

/-- THE TIED CARD OF 'caponierlaw07.SymsOuts'. -/
def symsOutsCard : Claim7 := { stood := { row := symsOutsRow, standIns := [], harness := (true, "01423710dcb93b846bae26611ad7bf32bd88d9d003822da65d1df4b0c47bc2dc"), looks := false }, kinds := [], alts := [], laidByText := true, laidKinds := [.data, .data], laidTests := true, laidLooks := .later }
def SymsOutsCardSaid : Prop := Claim7.holds Tryd.pinned (.plain (OpenSpec.ofChange symsOutsSpec)) symsOutsCard

/-- THE TIED CARD OF 'caponierlaw07.SymsAlone'. -/
def symsAloneCard : Claim7 := { stood := { row := symsAloneRow, standIns := [], harness := (true, "01423710dcb93b846bae26611ad7bf32bd88d9d003822da65d1df4b0c47bc2dc"), looks := false }, kinds := [], alts := [], laidByText := true, laidKinds := [.data, .data], laidTests := true, laidLooks := .later }
def SymsAloneCardSaid : Prop := Claim7.holds Tryd.pinned (.plain (OpenSpec.ofChange symsAloneSpec)) symsAloneCard

/-- THE TIED CARD OF 'caponierlaw07.SymsTwice'. -/
def symsTwiceCard : Claim7 := { stood := { row := symsTwiceRow, standIns := [], harness := (true, "01423710dcb93b846bae26611ad7bf32bd88d9d003822da65d1df4b0c47bc2dc"), looks := false }, kinds := [], alts := [], laidByText := true, laidKinds := [.data, .data], laidTests := true, laidLooks := .later }
def SymsTwiceCardSaid : Prop := Claim7.holds Tryd.pinned (.plain (OpenSpec.ofChange symsTwiceSpec)) symsTwiceCard

/-- THE SECOND FORM's CARD OF 'caponierlaw07.SymsTurned'. -/
def symsTurnedUptoCard : Claim7 := { stood := { row := symsTurnedUptoRow, standIns := [], harness := (true, "01423710dcb93b846bae26611ad7bf32bd88d9d003822da65d1df4b0c47bc2dc"), looks := false }, kinds := [], alts := [], laidByText := true, laidKinds := [.data, .data], laidTests := true, laidLooks := .later }
def SymsTurnedUptoCardSaid : Prop := Claim7.holds Tryd.pinned (.plain (OpenSpec.upto symsTurnedSpec)) symsTurnedUptoCard

/-- THE SECOND FORM's CARD OF 'caponierlaw07.SymsOuts'. -/
def symsOutsUptoCard : Claim7 := { stood := { row := symsOutsUptoRow, standIns := [], harness := (true, "01423710dcb93b846bae26611ad7bf32bd88d9d003822da65d1df4b0c47bc2dc"), looks := false }, kinds := [], alts := [], laidByText := true, laidKinds := [.data, .data], laidTests := true, laidLooks := .later }
def SymsOutsUptoCardSaid : Prop := Claim7.holds Tryd.pinned (.plain (OpenSpec.upto symsOutsSpec)) symsOutsUptoCard

/-- THE SECOND FORM's CARD OF 'caponierlaw07.SymsAlone'. -/
def symsAloneUptoCard : Claim7 := { stood := { row := symsAloneUptoRow, standIns := [], harness := (true, "01423710dcb93b846bae26611ad7bf32bd88d9d003822da65d1df4b0c47bc2dc"), looks := false }, kinds := [], alts := [], laidByText := true, laidKinds := [.data, .data], laidTests := true, laidLooks := .later }
def SymsAloneUptoCardSaid : Prop := Claim7.holds Tryd.pinned (.plain (OpenSpec.upto symsAloneSpec)) symsAloneUptoCard

/-- THE SECOND FORM's CARD OF 'caponierlaw07.SymsTwice'. -/
def symsTwiceUptoCard : Claim7 := { stood := { row := symsTwiceUptoRow, standIns := [], harness := (true, "01423710dcb93b846bae26611ad7bf32bd88d9d003822da65d1df4b0c47bc2dc"), looks := false }, kinds := [], alts := [], laidByText := true, laidKinds := [.data, .data], laidTests := true, laidLooks := .later }
def SymsTwiceUptoCardSaid : Prop := Claim7.holds Tryd.pinned (.plain (OpenSpec.upto symsTwiceSpec)) symsTwiceUptoCard
end Rows
end Go.Proofs.YtekhmaopemkheaaDoor
