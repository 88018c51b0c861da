/-
  DERIVED. GIVEN WITH THE SEED: THE PROGRAM's TIES (one call each: nine closed facts by the kernel) AND EACH ROW's TIE, after the 31st guide's Derived/Test/Toyas{Tie, Card}.lean. No idea stands in it: it is a product of the set-up. Laid BY PROGRAM, IN A SANDBOX (cutbox-door.mjs). By AI agents, Wed Nov 11 2026. No macro, syntax, notation, axiom, sorry.
-/
import Derived.Test.YtjngkifoaljmaaaGreatDoorRows
import Derived.LaidByTextLater
import Derived.SevenTiedAt
import Derived.LaidSub
import Derived.LaidOnce
namespace Go.Proofs.YtjngkifoaljmaaaGreatDoor
open Go
set_option maxRecDepth 100000
theorem seatTie1 : Tryz.prog.laidByTextLater [("caponier/ins.layouts", Rows.laid_caponier_ins_layouts), ("caponier/ins.operations", Rows.laid_caponier_ins_operations)] [.data, .data] true :=
  Program.laidByTextLater_by_one 89 8 173 (by kernel_rfl) (by kernel_rfl) (by kernel_rfl) (by kernel_rfl) (by kernel_rfl) (by kernel_rfl) (fun _ _ => by kernel_rfl)
theorem noOwnUnsafe : Tryz.pinned.checked.prog.headLifts.contains "ownunsafe" = false := by kernel_rfl
theorem tie : Tryz.prog.laidByTextLater [("caponier/ins.layouts", Rows.laid_caponier_ins_layouts), ("caponier/ins.operations", Rows.laid_caponier_ins_operations)] [.data, .data] true :=
  Program.laidByTextLater.sub seatTie1 ["caponier/ins.layouts", "caponier/ins.operations"] (by kernel_rfl) (by kernel_rfl)
theorem placeLinks_row_tie : Rows.placeLinksRow.laidByTextAt .later Tryz.pinned [.data, .data] true :=
  OpenClaim.laidByTextAt_later rfl rfl tie noOwnUnsafe
theorem placeLinksUpto_row_tie : Rows.placeLinksUptoRow.laidByTextAt .later Tryz.pinned [.data, .data] true :=
  OpenClaim.laidByTextAt_later rfl rfl tie noOwnUnsafe
end Go.Proofs.YtjngkifoaljmaaaGreatDoor
