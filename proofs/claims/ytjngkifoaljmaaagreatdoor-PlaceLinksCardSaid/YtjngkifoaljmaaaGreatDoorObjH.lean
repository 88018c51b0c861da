/- Layer 6: the reference's sizes.
   Layer 6: the reference's Same. -/
import Derived.Test.YtjngkifoaljmaaaGreatDoorObjG
namespace Go.Proofs.YtjngkifoaljmaaaGreatDoor
set_option maxRecDepth 100000
open Go.RowKit
set_option linter.unusedVariables false
theorem a5_size (w : World) : (sizeOf 3).run Tryz.prog w = .ok 1 w := by kernel_rfl
end Go.Proofs.YtjngkifoaljmaaaGreatDoor
namespace Go.Proofs.YtjngkifoaljmaaaGreatDoor
set_option maxRecDepth 100000
open Go.RowKit
set_option linter.unusedVariables false
/-- two boxes of five cells each -/
abbrev Two5 (w : World) (h : Nat) (v0 v1 v2 v3 v4 u0 u1 u2 u3 u4 : Value) : Prop :=
  (w.cell? ⟨h, 0, none⟩ = some v0 ∧ w.cell? ⟨h, 1, none⟩ = some v1 ∧ w.cell? ⟨h, 2, none⟩ = some v2 ∧ w.cell? ⟨h, 3, none⟩ = some v3 ∧ w.cell? ⟨h, 4, none⟩ = some v4) ∧
  (w.cell? ⟨h + 1, 0, none⟩ = some u0 ∧ w.cell? ⟨h + 1, 1, none⟩ = some u1 ∧ w.cell? ⟨h + 1, 2, none⟩ = some u2 ∧ w.cell? ⟨h + 1, 3, none⟩ = some u3 ∧ w.cell? ⟨h + 1, 4, none⟩ = some u4)
/-- both boxes lie, and what was is as it was -/
def BxR (w0 : World) (v0 v1 v2 v3 v4 u0 u1 u2 u3 u4 : Value) (w : World) : Prop :=
  w.heap[w0.heap.size]? = some (.cells #[v0, v1, v2, v3, v4] 59 (0, 0)) ∧ w.heap[w0.heap.size + 1]? = some (.cells #[u0, u1, u2, u3, u4] 59 (0, 0)) ∧ Below w0.heap.size w0 w
abbrev ExS (w0 : World) (v0 v1 v2 v3 v4 u0 u1 u2 u3 u4 : Value) (w : World) : Prop := Two5 w w0.heap.size v0 v1 v2 v3 v4 u0 u1 u2 u3 u4 ∧ BxR w0 v0 v1 v2 v3 v4 u0 u1 u2 u3 u4 w
section
variable {w0 w w' : World} {v0 v1 v2 v3 v4 u0 u1 u2 u3 u4 : Value}
theorem exS_of (h : BxR w0 v0 v1 v2 v3 v4 u0 u1 u2 u3 u4 w) : ExS w0 v0 v1 v2 v3 v4 u0 u1 u2 u3 u4 w := ⟨⟨(row_cells5 h.1).1, (row_cells5 h.2.1).1⟩, h⟩
theorem exS_below (h : ExS w0 v0 v1 v2 v3 v4 u0 u1 u2 u3 u4 w) (hb : Below w.heap.size w w') : ExS w0 v0 v1 v2 v3 v4 u0 u1 u2 u3 u4 w' := by
  obtain ⟨_, h1, h2, h3⟩ := h
  exact exS_of ⟨(hb.block _ (Array.getElem?_eq_some_iff.1 h1).1).trans h1, (hb.block _ (Array.getElem?_eq_some_iff.1 h2).1).trans h2, h3.trans (hb.mono h3.size)⟩
theorem exS_drew (h : ExS w0 v0 v1 v2 v3 v4 u0 u1 u2 u3 u4 w) : ExS w0 v0 v1 v2 v3 v4 u0 u1 u2 u3 u4 w.drew := exS_below h (Below.drew (Below.refl _ _))
theorem exS_drewN (h : ExS w0 v0 v1 v2 v3 v4 u0 u1 u2 u3 u4 w) (n : Nat) : ExS w0 v0 v1 v2 v3 v4 u0 u1 u2 u3 u4 (w.drewN n) := exS_below h (belq (Below.refl _ _) n)
end
theorem arr5_iff {a0 a1 a2 a3 a4 b0 b1 b2 b3 b4 : Nat} : (((a0 : Int) == b0) && ((a1 : Int) == b1) && ((a2 : Int) == b2) && ((a3 : Int) == b3) && ((a4 : Int) == b4)) = true ↔ a0 = b0 ∧ a1 = b1 ∧ a2 = b2 ∧ a3 = b3 ∧ a4 = b4 := by
  simp only [Bool.and_eq_true, beq_iff_eq, and_assoc]
  omega
end Go.Proofs.YtjngkifoaljmaaaGreatDoor
