/- Arguments of layer 4's statements: two bytes in an array, a table of regions, an act. -/
import Derived.Test.YtoeagbcjnffpaaaGreatDoorMemA
import Derived.Lib.SmallJoins
import Derived.Deep.Slices
import Derived.WideShapes
namespace Go.Proofs.YtoeagbcjnffpaaaGreatDoor
set_option maxRecDepth 100000
open Go.RowKit Go.ChangeShapes Go.WideShapes Go.Deep
set_option linter.unusedVariables false
section
variable {H : Type} {enc : TypeId × Value → H} {W : World} {base b0 : Nat} {sp : Nat → Bool} {held : Bool} {v : Value} {d : DataW H} {p : List MemPlace}
end
/-- a table that came in -/
def IsTab (W : World) (A : Option Addr) (len : Nat) (T : List Rg) : Prop :=
  T.length = len ∧ TabW T ∧ len ≤ 9223372036854775807 ∧ (0 < len → ∃ b off, A = some ⟨b, off, none⟩ ∧ TabAt W b off T)
section
variable {H : Type} {enc : TypeId × Value → H} {W : World} {base b0 : Nat} {sp : Nat → Bool} {held : Bool} {d : DataW H} {p : List MemPlace}
theorem isI_wf {a : Int} (h : (Lit.int .i64 a).wf = true) : IsI a := by
  have := bounds_i64 h
  exact ⟨by omega, by omega⟩
theorem isU_wf {a : Int} (h : (Lit.int .u64 a).wf = true) : IsU a := by
  have := bounds_u64 h
  exact ⟨by omega, by omega⟩
theorem one_regM {a : Addr} {cs' : List Value} {n : Nat} {y : DataW H × List MemPlace} (hc : W.cells? base a 4 = some cs') (h : DataW.trod enc Tryz.prog W base sp held n 57 cs' = some y) :
    ∃ r : Rg, RgW r ∧ W.cell? (a.add 0) = some (.int .u64 (rlo r)) ∧ W.cell? (a.add 1) = some (.int .u64 (rhi r)) ∧ W.cell? (a.add 2) = some (.int .i64 (rown r)) ∧ W.cell? (a.add 3) = some (.int .i64 (rout r)) := by
  obtain ⟨_, hl, hat⟩ := World.cells?_some hc
  have ci : Tryz.prog.cellsOf 3 = 1 := by kernel_rfl
  have cu : Tryz.prog.cellsOf 25 = 1 := by kernel_rfl
  have q0 := hat 0 (by omega)
  have q1 := hat 1 (by omega)
  have q2 := hat 2 (by omega)
  have q3 := hat 3 (by omega)
  match cs', hl with
  | [c0, c1, c2, c3], _ =>
    obtain ⟨xs, m, _, hx, _, hlen, hg⟩ := DataW.trod_struct Tryz.underlying57 h
    match xs, hlen with
    | [y0, y1, y2, y3], _ =>
      have g0 := hg 0 _ rfl
      have g1 := hg 1 _ rfl
      have g2 := hg 2 _ rfl
      have g3 := hg 3 _ rfl
      obtain ⟨n0, e0, rfl, w0⟩ := DataW.trod_int Tryz.underlying25 g0
      obtain ⟨n1, e1, rfl, w1⟩ := DataW.trod_int Tryz.underlying25 g1
      obtain ⟨n2, e2, rfl, w2⟩ := DataW.trod_int Tryz.underlying3 g2
      obtain ⟨n3, e3, rfl, w3⟩ := DataW.trod_int Tryz.underlying3 g3
      simp [ci, cu] at e0 e1 e2 e3
      subst e0 e1 e2 e3
      exact ⟨(n0, n1, n2, n3), ⟨isU_wf w0, isU_wf w1, isI_wf w2, isI_wf w3⟩, q0, q1, q2, q3⟩
theorem open_regs {a : Option Addr} {len cap : Nat} (h : DataW.Trod enc Tryz.prog W base sp held 22 (.slice a len cap) d p) : ∃ T, IsTab W a len T := by
  obtain ⟨fuel, hf⟩ := h
  have hC : Tryz.prog.cellsOf 57 = 4 := by kernel_rfl
  rcases open_slice Tryz.underlying22 hf with ⟨hcs, _⟩ | ⟨x, l, c, m, n, D, Pl, hcs, _, hl, hm, hmm, _, hi⟩
  · simp [Value.cells] at hcs
    obtain ⟨rfl, rfl, rfl⟩ := hcs
    exact ⟨[], rfl, fun i hi => by simp at hi, by omega, fun h => by omega⟩
  · simp [Value.cells] at hcs
    obtain ⟨rfl, rfl, rfl⟩ := hcs
    have hml : len ≤ m := by rw [hmm]; split <;> omega
    have hr : ∀ i, ∃ r : Rg, i < len → RgW r ∧ W.cell? (x.add (i * 4)) = some (.int .u64 (rlo r)) ∧ W.cell? (x.add (i * 4 + 1)) = some (.int .u64 (rhi r)) ∧ W.cell? (x.add (i * 4 + 2)) = some (.int .i64 (rown r)) ∧ W.cell? (x.add (i * 4 + 3)) = some (.int .i64 (rout r)) := by
      intro i
      by_cases hlt : i < len
      · obtain ⟨cs', h1, h2⟩ := hi i (by omega)
        rw [hC] at h1
        obtain ⟨r, hw, k0, k1, k2, k3⟩ := one_regM h1 h2
        rw [add_add] at k0 k1 k2 k3
        exact ⟨r, fun _ => ⟨hw, by simpa using k0, k1, k2, k3⟩⟩
      · exact ⟨(0, 0, 0, 0), fun h => absurd h hlt⟩
    obtain ⟨f, hf'⟩ := Classical.axiomOfChoice hr
    have hn : ∀ i, i < len → nthR ((List.range len).map f) i = f i := fun i hi => by simp [nthR, hi]
    have hlen : ((List.range len).map f).length = len := by simp
    refine ⟨(List.range len).map f, hlen, fun i hi => ?_, by unfold maxLen at hm; omega, fun h0 => ?_⟩
    · rw [hlen] at hi
      rw [hn i hi]
      exact (hf' i hi).1
    · obtain ⟨b, off, spot⟩ := x
      have hs : spot = none := by
        have h00 := (hf' 0 h0).2.1
        simpa [Addr.add] using World.cell?_spot h00
      subst hs
      refine ⟨b, off, rfl, fun i hi => ?_⟩
      rw [hlen] at hi
      rw [hn i hi]
      obtain ⟨_, k0, k1, k2, k3⟩ := hf' i hi
      have e : ∀ j, (⟨b, off, none⟩ : Addr).add j = ⟨b, off + j, none⟩ := fun j => by
        unfold Addr.add
        by_cases e0 : j = 0
        · subst e0; simp
        · simp [e0]
      rw [e] at k0 k1 k2 k3
      exact ⟨k0, by rw [Nat.add_assoc]; exact k1, by rw [Nat.add_assoc]; exact k2, by rw [Nat.add_assoc]; exact k3⟩
end
end Go.Proofs.YtoeagbcjnffpaaaGreatDoor
