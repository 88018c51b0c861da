/- Layer 2: what the reference's May answers: the same as the program's. Conditions: the registers and the number fit an int. -/
import Derived.Test.YthmjelkckamkdaaDoorInsRMayA
import Derived.Test.YthmjelkckamkdaaDoorInsRMayB
import Derived.Test.YthmjelkckamkdaaDoorInsRMayC
namespace Go.Proofs.YthmjelkckamkdaaDoor
open Go.RowKit
set_option linter.unusedVariables false
theorem rmay_in (n : Nat) (rd r1 r2 imm : Int) (w : World) (hn : n < 43) (hi : IsI imm) :
    Calls Tryd.prog 27 #[.agg (insA n rd r1 r2 imm)] w fun e w' => e = .returned (.bool (mayB n rd r1 r2 imm)) ∧ Below w.heap.size w w' := by
  by_cases h : 0 ≤ rd ∧ rd ≤ 31 ∧ 0 ≤ r1 ∧ r1 ≤ 31 ∧ 0 ≤ r2 ∧ r2 ≤ 31
  · obtain ⟨h0, h1, h2, h3, h4, h5⟩ := h
    have h8 := opS_lt hn
    obtain e | e | e | e | e | e | e | e : opS n = 0 ∨ opS n = 1 ∨ opS n = 2 ∨ opS n = 3 ∨ opS n = 4 ∨ opS n = 5 ∨ opS n = 6 ∨ opS n = 7 := by omega
    · exact rmay_s0 n rd r1 r2 imm w hn e hi h0 h1 h2 h3 h4 h5
    · exact rmay_s1 n rd r1 r2 imm w hn e hi h0 h1 h2 h3 h4 h5
    · exact rmay_s2 n rd r1 r2 imm w hn e hi h0 h1 h2 h3 h4 h5
    · exact rmay_s3 n rd r1 r2 imm w hn e hi h0 h1 h2 h3 h4 h5
    · exact rmay_s4 n rd r1 r2 imm w hn e hi h0 h1 h2 h3 h4 h5
    · exact rmay_s5 n rd r1 r2 imm w hn e hi h0 h1 h2 h3 h4 h5
    · exact rmay_s6 n rd r1 r2 imm w hn e hi h0 h1 h2 h3 h4 h5
    · exact rmay_s7 n rd r1 r2 imm w hn e hi h0 h1 h2 h3 h4 h5
  · exact rmay_reg n rd r1 r2 imm w hn h
end Go.Proofs.YthmjelkckamkdaaDoor
