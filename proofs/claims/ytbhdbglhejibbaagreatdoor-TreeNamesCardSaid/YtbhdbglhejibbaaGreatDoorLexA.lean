/- Layer 9: rows of words as they lie; opens, kindOf, Nested (the program's and the reference's). No condition. -/
import Derived.KernelRfl
import Derived.Test.YtbhdbglhejibbaaGreatDoorChecked
import Derived.WalkKit
import Derived.Lib.Hide
import Derived.Deep.QuietTactic
import Derived.BigQuiet
import Derived.Handy
import Derived.OpenShut
import Derived.Laws.Strings
import Derived.Laws.AppendOwn
import Derived.Maps.AppendAt
import Derived.Deep.LoopGhost
import Derived.WalkMore
namespace Go.Proofs.YtbhdbglhejibbaaGreatDoor
set_option maxRecDepth 100000
open Go.RowKit
set_option linter.unusedVariables false
theorem ret_i64' {a b : Int} (h : a = b) : Ending.returned (.int .i64 a) = Ending.returned (.int .i64 b) := by rw [h]
theorem ret_bool' {a b : Bool} (h : a = b) : Ending.returned (.bool a) = Ending.returned (.bool b) := by rw [h]
/-- by how much more are open behind a word -/
def opnW (s : ByteArray) : Int := if s.data.toList = [40] then 1 else if s.data.toList = [41] then -1 else 0
theorem opnW_bd (s : ByteArray) : -1 ≤ opnW s ∧ opnW s ≤ 1 := by unfold opnW; split <;> (try split) <;> omega
theorem opens_any (s : ByteArray) (w : World) : Calls Tryz.prog 80 #[.string s] w fun e w' => e = .returned (.int .i64 (opnW s)) ∧ w = w' := by
  by_cases h1 : s.data.toList = [40]
  · have HX := Lib.hid (show opnW s = 1 from by unfold opnW; rw [if_pos h1])
    have t1 : (s.toList == [40]) = true := by rw [ByteArray.toList_eq, h1]; rfl
    clear h1
    go_enter Tryz.func80, Tryz.ntmps80
    go_wp2
    go_ret
    exact ⟨ret_i64' HX.out.symm, rfl⟩
  · by_cases h2 : s.data.toList = [41]
    · have HX := Lib.hid (show opnW s = -1 from by unfold opnW; rw [if_neg h1, if_pos h2])
      have t1 : (s.toList == [40]) = false := by rw [ByteArray.toList_eq, h2]; rfl
      have t2 : (s.toList == [41]) = true := by rw [ByteArray.toList_eq, h2]; rfl
      clear h1 h2
      go_enter Tryz.func80, Tryz.ntmps80
      go_wp2
      go_ret
      exact ⟨ret_i64' HX.out.symm, rfl⟩
    · have HX := Lib.hid (show opnW s = 0 from by unfold opnW; rw [if_neg h1, if_neg h2])
      have t1 : (s.toList == [40]) = false := by rw [ByteArray.toList_eq]; simpa using h1
      have t2 : (s.toList == [41]) = false := by rw [ByteArray.toList_eq]; simpa using h2
      clear h1 h2
      go_enter Tryz.func80, Tryz.ntmps80
      go_wp2
      go_ret
      exact ⟨ret_i64' HX.out.symm, rfl⟩
/-- a character's kind -/
def kindP (c : Int) : Int := if c = 32 ∨ c = 9 ∨ c = 13 then 2 else if c = 40 ∨ c = 41 then 3 else if c = 59 then 4 else if 32 < c ∧ c ≤ 126 then 1 else 0
theorem kind_any (c : Int) (w : World) : Calls Tryz.prog 78 #[.int .i32 c] w fun e w' => e = .returned (.int .i64 (kindP c)) ∧ w = w' := by
  go_enter Tryz.func78, Tryz.ntmps78
  go_wp2
  all_goals (go_ret; refine ⟨ret_i64' ?_, rfl⟩; unfold kindP; simp_all; try omega)
end Go.Proofs.YtbhdbglhejibbaaGreatDoor
