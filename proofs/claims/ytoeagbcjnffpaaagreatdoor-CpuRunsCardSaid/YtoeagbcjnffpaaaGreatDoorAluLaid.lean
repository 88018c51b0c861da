/- Layer 3: where a row lists the table of package alu, the world's table is that. -/
import Derived.Test.YtoeagbcjnffpaaaGreatDoorAluA
import Derived.Test.YtoeagbcjnffpaaaGreatDoorInsLays
import Derived.Test.YtoeagbcjnffpaaaGreatDoorRows
namespace Go.Proofs.YtoeagbcjnffpaaaGreatDoor
set_option maxRecDepth 100000
open Go.RowKit
set_option linter.unusedVariables false
def oneD (n : Nat) : DataW Unit := .lit (.int .i64 (ofTwoN n))
theorem ofTwo_list : (Rows.laid_caponier_alu_ofTwo : DataW Unit) = .agg ((List.range 9).map oneD) := by kernel_rfl
theorem cIntA : Tryz.prog.cellsOf 3 = 1 := by kernel_rfl
theorem gOfTwo : Tryz.prog.globalNamed "caponier/alu.ofTwo" = some 2 := by kernel_rfl
theorem tOfTwo : (Tryz.prog.globals[2]?).map (·.type) = some 233 := by kernel_rfl
theorem one_atA {cs : List Value} {o : Nat} {v : Value} (h : (cs.drop o).take 1 = [v]) : cs[o]? = some v := by
  have := congrArg (fun l : List Value => l[0]?) h
  simpa using this
theorem tabA_of_laid {W : World} {l : List (String × DataW Unit)} (hp : (l.all fun x => x.2.handleName?.isNone) = true) (h : laidMetH Tryz.prog l W)
    (ho : ("caponier/alu.ofTwo", Rows.laid_caponier_alu_ofTwo) ∈ l) : TabA W := by
  obtain ⟨co, ho1, fo, po, ho2⟩ := laid_var hp h ho gOfTwo tOfTwo
  rw [ofTwo_list] at ho2
  obtain ⟨_, mo, hop⟩ := array_parts Tryz.underlying233 ho2
  intro n hn
  obtain ⟨q, e⟩ := hop n (oneD n) hn (by simp [hn])
  rw [cIntA] at e
  have := one_atA (lit_cell Tryz.underlying3 e)
  rw [ho1, ← Array.getElem?_toList]
  simpa using this
end Go.Proofs.YtoeagbcjnffpaaaGreatDoor
