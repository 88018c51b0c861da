/- Layer 9: the reference's Nested and Texts. No condition. -/
import Derived.Test.YtbhdbglhejibbaaGreatDoorLexB
namespace Go.Proofs.YtbhdbglhejibbaaGreatDoor
set_option maxRecDepth 100000
open Go.RowKit
set_option linter.unusedVariables false
theorem opn_cases (s : ByteArray) : (s.data.toList = [40] ∧ opnW s = 1) ∨ (s.data.toList = [41] ∧ opnW s = -1) ∨ (s.data.toList ≠ [40] ∧ s.data.toList ≠ [41] ∧ opnW s = 0) := by
  unfold opnW
  by_cases h1 : s.data.toList = [40]
  · exact .inl ⟨h1, if_pos h1⟩
  · by_cases h2 : s.data.toList = [41]
    · exact .inr (.inl ⟨h2, by rw [if_neg h1, if_pos h2]⟩)
    · exact .inr (.inr ⟨h1, h2, by rw [if_neg h1, if_neg h2]⟩)
theorem tl_eq (s : ByteArray) (l : List UInt8) (h : s.data.toList = l) : (s.toList == l) = true := by rw [ByteArray.toList_eq, h]; simp
theorem tl_ne (s : ByteArray) (l : List UInt8) (h : s.data.toList ≠ l) : (s.toList == l) = false := by rw [ByteArray.toList_eq]; simpa using h
theorem tl_beq (s t : ByteArray) : (s.toList == t.toList) = decide (s = t) := by
  rw [ByteArray.toList_eq, ByteArray.toList_eq]
  by_cases h : s = t
  · subst h; simp
  · rw [decide_eq_false h, beq_eq_false_iff_ne]
    intro e
    exact h (ByteArray.ext (Array.ext' e))
theorem wds_eq {a b : List ByteArray} (hl : a.length = b.length) (h : ∀ k, k < a.length → wdK a k = wdK b k) : a = b := by
  refine List.ext_getElem hl fun i h1 h2 => ?_
  have := h i h1
  unfold wdK at this
  simpa [h1, h2] using this
end Go.Proofs.YtbhdbglhejibbaaGreatDoor
