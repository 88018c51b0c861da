/-
  DERIVED. GIVEN WITH THE SEED: THE CARDS: each row of YtfdpbogbnfkilaaDoorRows.lean that lists a variable, with what it lists TIED to the program's text (the seventh form; the later family's looks); each row that meets fmt, with fmt's text TOLD by the authors' own Lean function (tested against real Go, not proved from fmt's source: count such statements apart). THE CARD IS WHAT COUNTS. Prove the row's statement (the work); the ties are given (YtfdpbogbnfkilaaDoorTie.lean); close each card by the builder's one call (the guide's Derived/Test/ToyasCard.lean, 'card_holds'). Laid BY PROGRAM, IN A SANDBOX (cutbox-door.mjs). By AI agents, Wed Nov 11 2026. No macro, syntax, notation, axiom, sorry.
-/
import Derived.Test.YtfdpbogbnfkilaaDoorRows
import GoSem.ClaimSeven
namespace Go.Proofs.YtfdpbogbnfkilaaDoor
namespace Rows

/-- THE TIED CARD OF 'caponierlaw06.ObjSame'. -/
def objSameCard : Claim7 := { stood := { row := objSameRow, standIns := [], harness := (true, "828b8ab56017c1dd432c0a9715ad426d57e30c0d2f242de597ececc8125301d7"), looks := true }, kinds := [], alts := [], laidByText := true, laidKinds := [.data, .data], laidTests := true, laidLooks := .later }
def ObjSameCardSaid : Prop := Claim7.holds Tryd.pinned (.plain (OpenSpec.ofChange objSameSpec)) objSameCard

/-- THE TIED CARD OF 'caponierlaw06.ObjCuts'. -/
def objCutsCard : Claim7 := { stood := { row := objCutsRow, standIns := [], harness := (true, "828b8ab56017c1dd432c0a9715ad426d57e30c0d2f242de597ececc8125301d7"), looks := true }, kinds := [], alts := [], laidByText := true, laidKinds := [.data, .data], laidTests := true, laidLooks := .later }
def ObjCutsCardSaid : Prop := Claim7.holds Tryd.pinned (.plain (OpenSpec.ofChange objCutsSpec)) objCutsCard

/-- THE TIED CARD OF 'caponierlaw06.ObjApart'. -/
def objApartCard : Claim7 := { stood := { row := objApartRow, standIns := [], harness := (true, "828b8ab56017c1dd432c0a9715ad426d57e30c0d2f242de597ececc8125301d7"), looks := true }, kinds := [], alts := [], laidByText := true, laidKinds := [.data, .data], laidTests := true, laidLooks := .later }
def ObjApartCardSaid : Prop := Claim7.holds Tryd.pinned (.plain (OpenSpec.ofChange objApartSpec)) objApartCard

/-- THE TIED CARD OF 'caponierlaw06.ObjNames'. -/
def objNamesCard : Claim7 := { stood := { row := objNamesRow, standIns := [], harness := (true, "828b8ab56017c1dd432c0a9715ad426d57e30c0d2f242de597ececc8125301d7"), looks := true }, kinds := [], alts := [], laidByText := true, laidKinds := [.data, .data], laidTests := true, laidLooks := .later }
def ObjNamesCardSaid : Prop := Claim7.holds Tryd.pinned (.plain (OpenSpec.ofChange objNamesSpec)) objNamesCard

/-- THE TIED CARD OF 'caponierlaw06.ObjRels'. -/
def objRelsCard : Claim7 := { stood := { row := objRelsRow, standIns := [], harness := (true, "828b8ab56017c1dd432c0a9715ad426d57e30c0d2f242de597ececc8125301d7"), looks := true }, kinds := [], alts := [], laidByText := true, laidKinds := [.data, .data], laidTests := true, laidLooks := .later }
def ObjRelsCardSaid : Prop := Claim7.holds Tryd.pinned (.plain (OpenSpec.ofChange objRelsSpec)) objRelsCard

/-- THE TIED CARD OF 'caponierlaw07.SymsTurned'. -/
def symsTurnedCard : Claim7 := { stood := { row := symsTurnedRow, standIns := [], harness := (true, "828b8ab56017c1dd432c0a9715ad426d57e30c0d2f242de597ececc8125301d7"), looks := true }, kinds := [], alts := [], laidByText := true, laidKinds := [.data, .data], laidTests := true, laidLooks := .later }
def SymsTurnedCardSaid : Prop := Claim7.holds Tryd.pinned (.plain (OpenSpec.ofChange symsTurnedSpec)) symsTurnedCard

/-- THE TIED CARD OF 'caponierlaw07.SymsOuts'. -/
def symsOutsCard : Claim7 := { stood := { row := symsOutsRow, standIns := [], harness := (true, "828b8ab56017c1dd432c0a9715ad426d57e30c0d2f242de597ececc8125301d7"), looks := true }, kinds := [], alts := [], laidByText := true, laidKinds := [.data, .data], laidTests := true, laidLooks := .later }
def SymsOutsCardSaid : Prop := Claim7.holds Tryd.pinned (.plain (OpenSpec.ofChange symsOutsSpec)) symsOutsCard

/-- THE TIED CARD OF 'caponierlaw07.SymsAlone'. -/
def symsAloneCard : Claim7 := { stood := { row := symsAloneRow, standIns := [], harness := (true, "828b8ab56017c1dd432c0a9715ad426d57e30c0d2f242de597ececc8125301d7"), looks := true }, kinds := [], alts := [], laidByText := true, laidKinds := [.data, .data], laidTests := true, laidLooks := .later }
def SymsAloneCardSaid : Prop := Claim7.holds Tryd.pinned (.plain (OpenSpec.ofChange symsAloneSpec)) symsAloneCard

/-- THE TIED CARD OF 'caponierlaw07.SymsTwice'. -/
def symsTwiceCard : Claim7 := { stood := { row := symsTwiceRow, standIns := [], harness := (true, "828b8ab56017c1dd432c0a9715ad426d57e30c0d2f242de597ececc8125301d7"), looks := true }, kinds := [], alts := [], laidByText := true, laidKinds := [.data, .data], laidTests := true, laidLooks := .later }
def SymsTwiceCardSaid : Prop := Claim7.holds Tryd.pinned (.plain (OpenSpec.ofChange symsTwiceSpec)) symsTwiceCard

/-- THE SECOND FORM's CARD OF 'caponierlaw06.ObjSame'. -/
def objSameUptoCard : Claim7 := { stood := { row := objSameUptoRow, standIns := [], harness := (true, "828b8ab56017c1dd432c0a9715ad426d57e30c0d2f242de597ececc8125301d7"), looks := true }, kinds := [], alts := [], laidByText := true, laidKinds := [.data, .data], laidTests := true, laidLooks := .later }
def ObjSameUptoCardSaid : Prop := Claim7.holds Tryd.pinned (.plain (OpenSpec.upto objSameSpec)) objSameUptoCard

/-- THE SECOND FORM's CARD OF 'caponierlaw06.ObjCuts'. -/
def objCutsUptoCard : Claim7 := { stood := { row := objCutsUptoRow, standIns := [], harness := (true, "828b8ab56017c1dd432c0a9715ad426d57e30c0d2f242de597ececc8125301d7"), looks := true }, kinds := [], alts := [], laidByText := true, laidKinds := [.data, .data], laidTests := true, laidLooks := .later }
def ObjCutsUptoCardSaid : Prop := Claim7.holds Tryd.pinned (.plain (OpenSpec.upto objCutsSpec)) objCutsUptoCard

/-- THE SECOND FORM's CARD OF 'caponierlaw06.ObjApart'. -/
def objApartUptoCard : Claim7 := { stood := { row := objApartUptoRow, standIns := [], harness := (true, "828b8ab56017c1dd432c0a9715ad426d57e30c0d2f242de597ececc8125301d7"), looks := true }, kinds := [], alts := [], laidByText := true, laidKinds := [.data, .data], laidTests := true, laidLooks := .later }
def ObjApartUptoCardSaid : Prop := Claim7.holds Tryd.pinned (.plain (OpenSpec.upto objApartSpec)) objApartUptoCard

/-- THE SECOND FORM's CARD OF 'caponierlaw06.ObjNames'. -/
def objNamesUptoCard : Claim7 := { stood := { row := objNamesUptoRow, standIns := [], harness := (true, "828b8ab56017c1dd432c0a9715ad426d57e30c0d2f242de597ececc8125301d7"), looks := true }, kinds := [], alts := [], laidByText := true, laidKinds := [.data, .data], laidTests := true, laidLooks := .later }
def ObjNamesUptoCardSaid : Prop := Claim7.holds Tryd.pinned (.plain (OpenSpec.upto objNamesSpec)) objNamesUptoCard

/-- THE SECOND FORM's CARD OF 'caponierlaw06.ObjRels'. -/
def objRelsUptoCard : Claim7 := { stood := { row := objRelsUptoRow, standIns := [], harness := (true, "828b8ab56017c1dd432c0a9715ad426d57e30c0d2f242de597ececc8125301d7"), looks := true }, kinds := [], alts := [], laidByText := true, laidKinds := [.data, .data], laidTests := true, laidLooks := .later }
def ObjRelsUptoCardSaid : Prop := Claim7.holds Tryd.pinned (.plain (OpenSpec.upto objRelsSpec)) objRelsUptoCard

/-- THE SECOND FORM's CARD OF 'caponierlaw07.SymsTurned'. -/
def symsTurnedUptoCard : Claim7 := { stood := { row := symsTurnedUptoRow, standIns := [], harness := (true, "828b8ab56017c1dd432c0a9715ad426d57e30c0d2f242de597ececc8125301d7"), looks := true }, kinds := [], alts := [], laidByText := true, laidKinds := [.data, .data], laidTests := true, laidLooks := .later }
def SymsTurnedUptoCardSaid : Prop := Claim7.holds Tryd.pinned (.plain (OpenSpec.upto symsTurnedSpec)) symsTurnedUptoCard

/-- THE SECOND FORM's CARD OF 'caponierlaw07.SymsOuts'. -/
def symsOutsUptoCard : Claim7 := { stood := { row := symsOutsUptoRow, standIns := [], harness := (true, "828b8ab56017c1dd432c0a9715ad426d57e30c0d2f242de597ececc8125301d7"), looks := true }, kinds := [], alts := [], laidByText := true, laidKinds := [.data, .data], laidTests := true, laidLooks := .later }
def SymsOutsUptoCardSaid : Prop := Claim7.holds Tryd.pinned (.plain (OpenSpec.upto symsOutsSpec)) symsOutsUptoCard

/-- THE SECOND FORM's CARD OF 'caponierlaw07.SymsAlone'. -/
def symsAloneUptoCard : Claim7 := { stood := { row := symsAloneUptoRow, standIns := [], harness := (true, "828b8ab56017c1dd432c0a9715ad426d57e30c0d2f242de597ececc8125301d7"), looks := true }, kinds := [], alts := [], laidByText := true, laidKinds := [.data, .data], laidTests := true, laidLooks := .later }
def SymsAloneUptoCardSaid : Prop := Claim7.holds Tryd.pinned (.plain (OpenSpec.upto symsAloneSpec)) symsAloneUptoCard

/-- THE SECOND FORM's CARD OF 'caponierlaw07.SymsTwice'. -/
def symsTwiceUptoCard : Claim7 := { stood := { row := symsTwiceUptoRow, standIns := [], harness := (true, "828b8ab56017c1dd432c0a9715ad426d57e30c0d2f242de597ececc8125301d7"), looks := true }, kinds := [], alts := [], laidByText := true, laidKinds := [.data, .data], laidTests := true, laidLooks := .later }
def SymsTwiceUptoCardSaid : Prop := Claim7.holds Tryd.pinned (.plain (OpenSpec.upto symsTwiceSpec)) symsTwiceUptoCard
end Rows
end Go.Proofs.YtfdpbogbnfkilaaDoor
