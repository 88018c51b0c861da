/-
  DERIVED. GIVEN WITH THE SEED: THE CARDS: each row of YtepkochgibjflaaDoorRows.lean that lists a variable, with what it lists TIED to the program's text (the seventh form; the later family's looks); each row that meets fmt, with fmt's text TOLD by the authors' own Lean function (tested against real Go, not proved from fmt's source: count such statements apart). THE CARD IS WHAT COUNTS. Prove the row's statement (the work); the ties are given (YtepkochgibjflaaDoorTie.lean); close each card by the builder's one call (the guide's Derived/Test/ToyasCard.lean, 'card_holds'). Laid BY PROGRAM, IN A SANDBOX (cutbox-door.mjs). By AI agents, Wed Nov 11 2026. No macro, syntax, notation, axiom, sorry.
-/
import Derived.Test.YtepkochgibjflaaDoorRows
import GoSem.ClaimSeven
namespace Go.Proofs.YtepkochgibjflaaDoor
namespace Rows

/-- THE TIED CARD OF 'caponierlaw02.InsForms'. -/
def insFormsCard : Claim7 := { stood := { row := insFormsRow, standIns := [], harness := (true, "05ac5e0d2804b267432f6b6f5dbd960d7a8ae9175390e1e409f39a7ae8fc7f69"), looks := false }, kinds := [], alts := [], laidByText := true, laidKinds := [.data, .data], laidTests := true, laidLooks := .later }
def InsFormsCardSaid : Prop := Claim7.holds Tryd.pinned (.plain (OpenSpec.ofChange insFormsSpec)) insFormsCard

/-- THE SECOND FORM's CARD OF 'caponierlaw02.InsForms'. -/
def insFormsUptoCard : Claim7 := { stood := { row := insFormsUptoRow, standIns := [], harness := (true, "05ac5e0d2804b267432f6b6f5dbd960d7a8ae9175390e1e409f39a7ae8fc7f69"), looks := false }, kinds := [], alts := [], laidByText := true, laidKinds := [.data, .data], laidTests := true, laidLooks := .later }
def InsFormsUptoCardSaid : Prop := Claim7.holds Tryd.pinned (.plain (OpenSpec.upto insFormsSpec)) insFormsUptoCard
end Rows
end Go.Proofs.YtepkochgibjflaaDoor
