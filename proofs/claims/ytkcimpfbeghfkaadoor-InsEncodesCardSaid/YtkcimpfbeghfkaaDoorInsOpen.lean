/- An instruction that came in, by value: its five numbers. -/
import Derived.Test.YtkcimpfbeghfkaaDoorInsMay
import Derived.Test.YtkcimpfbeghfkaaDoorLaid
import Derived.Lib.SmallJoins
namespace Go.Proofs.YtkcimpfbeghfkaaDoor
open Go.RowKit Go.ChangeShapes Go.WideShapes
set_option linter.unusedVariables false
theorem open_ins {H : Type} {enc : TypeId × Value → H} {W : World} {base b0 : Nat} {sp : Nat → Bool} {held : Bool} {v : Value} {d : DataW H} {p : List MemPlace} (hv : Value.okWide Tryd.prog W .any b0 23 v) (h : DataW.Trod enc Tryd.prog W base sp held 23 v d p) :
    ∃ op rd r1 r2 imm : Int, v = .agg (insA op rd r1 r2 imm) ∧ d = .agg [.lit (.int .i64 op), .lit (.int .i64 rd), .lit (.int .i64 r1), .lit (.int .i64 r2), .lit (.int .i64 imm)] ∧ p = [] ∧
      (Lit.int .i64 op).wf = true ∧ (Lit.int .i64 rd).wf = true ∧ (Lit.int .i64 r1).wf = true ∧ (Lit.int .i64 r2).wf = true ∧ (Lit.int .i64 imm).wf = true := by
  obtain ⟨cs, rfl, hsz⟩ := okWide_struct Tryd.underlying23 hv
  have hc : Tryd.prog.cellsOf 23 = 5 := by kernel_rfl
  have ci : Tryd.prog.cellsOf 3 = 1 := by kernel_rfl
  have ci64 : Tryd.prog.cellsOf 2 = 1 := by kernel_rfl
  obtain ⟨l⟩ := cs
  match l, hsz.trans hc with
  | [c0, c1, c2, c3, c4], _ =>
    obtain ⟨fuel, hf⟩ := h
    obtain ⟨xs, m, _, hx, _, hlen, hg⟩ := DataW.trod_struct Tryd.underlying23 hf
    match xs, hlen with
    | [y0, y1, y2, y3, y4], _ =>
      have g0 := hg 0 _ rfl
      have g1 := hg 1 _ rfl
      have g2 := hg 2 _ rfl
      have g3 := hg 3 _ rfl
      have g4 := hg 4 _ rfl
      obtain ⟨n0, e0, rfl, w0⟩ := DataW.trod_int Tryd.underlying3 g0
      obtain ⟨n1, e1, rfl, w1⟩ := DataW.trod_int Tryd.underlying3 g1
      obtain ⟨n2, e2, rfl, w2⟩ := DataW.trod_int Tryd.underlying3 g2
      obtain ⟨n3, e3, rfl, w3⟩ := DataW.trod_int Tryd.underlying3 g3
      obtain ⟨n4, e4, rfl, w4⟩ := DataW.trod_int Tryd.underlying2 g4
      simp [Value.cells, ci, ci64] at e0 e1 e2 e3 e4
      subst e0 e1 e2 e3 e4
      simp only [Prod.mk.injEq] at hx
      exact ⟨n0, n1, n2, n3, n4, rfl, by simpa using hx.1, by simpa using hx.2, w0, w1, w2, w3, w4⟩
end Go.Proofs.YtkcimpfbeghfkaaDoor
