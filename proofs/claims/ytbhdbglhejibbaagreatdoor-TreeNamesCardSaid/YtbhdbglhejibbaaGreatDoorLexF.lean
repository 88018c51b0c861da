/- Layer 9: the reference's Number and Digits. No condition. -/
import Derived.Test.YtbhdbglhejibbaaGreatDoorLexE
namespace Go.Proofs.YtbhdbglhejibbaaGreatDoor
set_option maxRecDepth 100000
open Go.RowKit Go.Sort
set_option linter.unusedVariables false
def RNumE (s : ByteArray) (w : World) (e : Ending) (w' : World) : Prop := e = .returned (.tuple #[.int .u64 (numV s), .bool (numB s)]) ∧ w = w'
theorem rnum_none {s : ByteArray} (h : refP s.data.toList = none) : numV s = 0 ∧ numB s = false := by
  rw [refP_num] at h; unfold numV numB; rw [h]; exact ⟨rfl, rfl⟩
theorem rnum_some {s : ByteArray} {n : Nat} (h : refP s.data.toList = some n) : numV s = n ∧ numB s = true := by
  rw [refP_num] at h; unfold numV numB; rw [h]; exact ⟨rfl, rfl⟩
theorem ba_len (s : ByteArray) : s.data.toList.length = s.size := by simp
theorem ba_drop (s : ByteArray) (k : Nat) (h : k < s.size) : s.data.toList.drop k = s[k] :: s.data.toList.drop (k + 1) := by
  rw [List.drop_eq_getElem_cons (by rw [ba_len]; exact h)]; rfl
theorem ba_zero (s : ByteArray) (h : 0 < s.size) : s.data.toList.getD 0 0 = s[0] := by
  rw [← List.getElem_eq_getD (h := by rw [ba_len]; exact h)]; rfl
end Go.Proofs.YtbhdbglhejibbaaGreatDoor
