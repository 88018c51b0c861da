/- Layer 9: rows of words as they lie; opens, kindOf, Nested (the program's and the reference's). No condition. -/
import Derived.KernelRfl
import Derived.Test.YtjngkifoaljmaaaGreatDoorChecked
import Derived.WalkKit
import Derived.Lib.Hide
import Derived.Deep.QuietTactic
import Derived.BigQuiet
import Derived.Handy
import Derived.OpenShut
import Derived.Laws.Strings
import Derived.Laws.AppendOwn
import Derived.Maps.AppendAt
import Derived.Deep.LoopGhost
import Derived.WalkMore
namespace Go.Proofs.YtjngkifoaljmaaaGreatDoor
set_option maxRecDepth 100000
open Go.RowKit
set_option linter.unusedVariables false
theorem ret_i64' {a b : Int} (h : a = b) : Ending.returned (.int .i64 a) = Ending.returned (.int .i64 b) := by rw [h]
theorem ret_bool' {a b : Bool} (h : a = b) : Ending.returned (.bool a) = Ending.returned (.bool b) := by rw [h]
/-- by how much more are open behind a word -/
def opnW (s : ByteArray) : Int := if s.data.toList = [40] then 1 else if s.data.toList = [41] then -1 else 0
theorem opnW_bd (s : ByteArray) : -1 ≤ opnW s ∧ opnW s ≤ 1 := by unfold opnW; split <;> (try split) <;> omega
/-- a character's kind -/
def kindP (c : Int) : Int := if c = 32 ∨ c = 9 ∨ c = 13 then 2 else if c = 40 ∨ c = 41 then 3 else if c = 59 then 4 else if 32 < c ∧ c ≤ 126 then 1 else 0
end Go.Proofs.YtjngkifoaljmaaaGreatDoor
