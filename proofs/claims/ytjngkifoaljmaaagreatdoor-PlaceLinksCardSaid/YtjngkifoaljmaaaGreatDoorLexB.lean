/- Layer 9: Nested, of the program and of the reference. No condition. -/
import Derived.Test.YtjngkifoaljmaaaGreatDoorLexA
namespace Go.Proofs.YtjngkifoaljmaaaGreatDoor
set_option maxRecDepth 100000
open Go.RowKit
set_option linter.unusedVariables false
def wdK (l : List ByteArray) (k : Nat) : ByteArray := l.getD k ByteArray.empty
/-- a row of words as it lies, wherever -/
def WdAt (w : World) (A : Option Addr) (l : List ByteArray) : Prop := l = [] ∨ ∃ b o, A = some ⟨b, o, none⟩ ∧ ∀ k, k < l.length → w.cell? ⟨b, o + k, none⟩ = some (.string (wdK l k))
theorem cell_lt {w : World} {b o : Nat} {v : Value} (h : w.cell? ⟨b, o, none⟩ = some v) : b < w.heap.size := by
  rcases Nat.lt_or_ge b w.heap.size with h' | h'
  · exact h'
  · unfold World.cell? at h
    simp [Array.getElem?_eq_none h'] at h
theorem WdAt.below {w w' : World} {A : Option Addr} {l : List ByteArray} (h : WdAt w A l) (hb : Below w.heap.size w w') : WdAt w' A l := by
  rcases h with h | ⟨b, o, h1, h2⟩
  · exact .inl h
  · refine .inr ⟨b, o, h1, fun k hk => ?_⟩
    have := h2 k hk
    rw [← this]
    exact hb.cell (p := ⟨b, o + k, none⟩) (cell_lt this)
theorem drop_wd {l : List ByteArray} {k : Nat} (h : k < l.length) : l.drop k = wdK l k :: l.drop (k + 1) := by
  rw [List.drop_eq_getElem_cons h]
  unfold wdK
  simp [h]
/-- how many are open behind words, if it was right all along -/
def nstP : List ByteArray → Int → Option Int
  | [], k => some k
  | s :: l, k => if k + opnW s < 0 ∨ 24 < k + opnW s then none else nstP l (k + opnW s)
def nstB (l : List ByteArray) : Bool := nstP l 0 == some 0
end Go.Proofs.YtjngkifoaljmaaaGreatDoor
