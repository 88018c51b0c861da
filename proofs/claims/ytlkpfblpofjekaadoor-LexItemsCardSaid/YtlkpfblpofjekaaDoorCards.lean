/-
  DERIVED. GIVEN WITH THE SEED: THE CARDS: each row of YtlkpfblpofjekaaDoorRows.lean that lists a variable, with what it lists TIED to the program's text (the seventh form; the later family's looks); each row that meets fmt, with fmt's text TOLD by the authors' own Lean function (tested against real Go, not proved from fmt's source: count such statements apart). THE CARD IS WHAT COUNTS. Prove the row's statement (the work); the ties are given (YtlkpfblpofjekaaDoorTie.lean); close each card by the builder's one call (the guide's Derived/Test/ToyasCard.lean, 'card_holds'). Laid BY PROGRAM, IN A SANDBOX (cutbox-door.mjs). By AI agents, Wed Nov 11 2026. No macro, syntax, notation, axiom, sorry.
-/
import Derived.Test.YtlkpfblpofjekaaDoorRows
import GoSem.ClaimSeven
namespace Go.Proofs.YtlkpfblpofjekaaDoor
namespace Rows

/-- THE TIED CARD OF 'caponierlaw09.LexNumbers'. -/
def lexNumbersCard : Claim7 := { stood := { row := lexNumbersRow, standIns := [], harness := (true, "c1368512647946c721f5e0cedcc71f29d386fbfc624c992c15ba808b17f5ad23"), looks := true }, kinds := [], alts := [], laidByText := true, laidKinds := [.data, .data, .data, .data, .sentinel, .sentinel, .pinned], laidTests := true, laidLooks := .later }
def LexNumbersCardSaid : Prop := Claim7.holds Tryd.pinned (.plain (OpenSpec.ofChange lexNumbersSpec)) lexNumbersCard

/-- THE TIED CARD OF 'caponierlaw09.LexItems'. -/
def lexItemsCard : Claim7 := { stood := { row := lexItemsRow, standIns := [], harness := (true, "c1368512647946c721f5e0cedcc71f29d386fbfc624c992c15ba808b17f5ad23"), looks := true }, kinds := [], alts := [], laidByText := true, laidKinds := [.data, .data, .data, .data, .sentinel, .sentinel, .pinned], laidTests := true, laidLooks := .later }
def LexItemsCardSaid : Prop := Claim7.holds Tryd.pinned (.plain (OpenSpec.ofChange lexItemsSpec)) lexItemsCard

/-- THE TIED CARD OF 'caponierlaw09.LexCounts'. -/
def lexCountsCard : Claim7 := { stood := { row := lexCountsRow, standIns := [], harness := (true, "c1368512647946c721f5e0cedcc71f29d386fbfc624c992c15ba808b17f5ad23"), looks := true }, kinds := [], alts := [], laidByText := true, laidKinds := [.data, .data, .data, .data, .sentinel, .sentinel, .pinned], laidTests := true, laidLooks := .later }
def LexCountsCardSaid : Prop := Claim7.holds Tryd.pinned (.plain (OpenSpec.ofChange lexCountsSpec)) lexCountsCard

/-- THE TIED CARD OF 'caponierlaw09.LexDepth'. -/
def lexDepthCard : Claim7 := { stood := { row := lexDepthRow, standIns := [], harness := (true, "c1368512647946c721f5e0cedcc71f29d386fbfc624c992c15ba808b17f5ad23"), looks := true }, kinds := [], alts := [], laidByText := true, laidKinds := [.data, .data, .data, .data, .sentinel, .sentinel, .pinned], laidTests := true, laidLooks := .later }
def LexDepthCardSaid : Prop := Claim7.holds Tryd.pinned (.plain (OpenSpec.ofChange lexDepthSpec)) lexDepthCard

/-- THE TIED CARD OF 'caponierlaw09.LexNumber'. -/
def lexNumberCard : Claim7 := { stood := { row := lexNumberRow, standIns := [], harness := (true, "c1368512647946c721f5e0cedcc71f29d386fbfc624c992c15ba808b17f5ad23"), looks := true }, kinds := [], alts := [], laidByText := true, laidKinds := [.data, .data, .data, .data, .sentinel, .sentinel, .pinned], laidTests := true, laidLooks := .later }
def LexNumberCardSaid : Prop := Claim7.holds Tryd.pinned (.plain (OpenSpec.ofChange lexNumberSpec)) lexNumberCard

/-- THE SECOND FORM's CARD OF 'caponierlaw09.LexNumbers'. -/
def lexNumbersUptoCard : Claim7 := { stood := { row := lexNumbersUptoRow, standIns := [], harness := (true, "c1368512647946c721f5e0cedcc71f29d386fbfc624c992c15ba808b17f5ad23"), looks := true }, kinds := [], alts := [], laidByText := true, laidKinds := [.data, .data, .data, .data, .sentinel, .sentinel, .pinned], laidTests := true, laidLooks := .later }
def LexNumbersUptoCardSaid : Prop := Claim7.holds Tryd.pinned (.plain (OpenSpec.upto lexNumbersSpec)) lexNumbersUptoCard

/-- THE SECOND FORM's CARD OF 'caponierlaw09.LexItems'. -/
def lexItemsUptoCard : Claim7 := { stood := { row := lexItemsUptoRow, standIns := [], harness := (true, "c1368512647946c721f5e0cedcc71f29d386fbfc624c992c15ba808b17f5ad23"), looks := true }, kinds := [], alts := [], laidByText := true, laidKinds := [.data, .data, .data, .data, .sentinel, .sentinel, .pinned], laidTests := true, laidLooks := .later }
def LexItemsUptoCardSaid : Prop := Claim7.holds Tryd.pinned (.plain (OpenSpec.upto lexItemsSpec)) lexItemsUptoCard

/-- THE SECOND FORM's CARD OF 'caponierlaw09.LexCounts'. -/
def lexCountsUptoCard : Claim7 := { stood := { row := lexCountsUptoRow, standIns := [], harness := (true, "c1368512647946c721f5e0cedcc71f29d386fbfc624c992c15ba808b17f5ad23"), looks := true }, kinds := [], alts := [], laidByText := true, laidKinds := [.data, .data, .data, .data, .sentinel, .sentinel, .pinned], laidTests := true, laidLooks := .later }
def LexCountsUptoCardSaid : Prop := Claim7.holds Tryd.pinned (.plain (OpenSpec.upto lexCountsSpec)) lexCountsUptoCard

/-- THE SECOND FORM's CARD OF 'caponierlaw09.LexDepth'. -/
def lexDepthUptoCard : Claim7 := { stood := { row := lexDepthUptoRow, standIns := [], harness := (true, "c1368512647946c721f5e0cedcc71f29d386fbfc624c992c15ba808b17f5ad23"), looks := true }, kinds := [], alts := [], laidByText := true, laidKinds := [.data, .data, .data, .data, .sentinel, .sentinel, .pinned], laidTests := true, laidLooks := .later }
def LexDepthUptoCardSaid : Prop := Claim7.holds Tryd.pinned (.plain (OpenSpec.upto lexDepthSpec)) lexDepthUptoCard

/-- THE SECOND FORM's CARD OF 'caponierlaw09.LexNumber'. -/
def lexNumberUptoCard : Claim7 := { stood := { row := lexNumberUptoRow, standIns := [], harness := (true, "c1368512647946c721f5e0cedcc71f29d386fbfc624c992c15ba808b17f5ad23"), looks := true }, kinds := [], alts := [], laidByText := true, laidKinds := [.data, .data, .data, .data, .sentinel, .sentinel, .pinned], laidTests := true, laidLooks := .later }
def LexNumberUptoCardSaid : Prop := Claim7.holds Tryd.pinned (.plain (OpenSpec.upto lexNumberSpec)) lexNumberUptoCard
end Rows
end Go.Proofs.YtlkpfblpofjekaaDoor
