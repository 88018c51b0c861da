/- Layer 6: the deferred function of package obj's Decode. -/
import Derived.Test.YtfdpbogbnfkilaaDoorObjRdT
import Derived.Defers
import Derived.Recover
namespace Go.Proofs.YtfdpbogbnfkilaaDoor
set_option maxRecDepth 100000
open Go.RowKit
set_option linter.unusedVariables false
theorem catch_idle (p q : Addr) (w : World) :
    CallsD Tryd.prog 42 #[.pointer (some p), .pointer (some q)] .returning w fun e u' w' => e = .returned (.tuple #[]) ∧ u' = .returning ∧ w' = w := by
  refine callsD_of_wpS Tryd.func42 rfl fun c₀ cs hu => ?_
  apply wpS_seq
  apply wpS_region
  simp [wpOpsS, go_sem, recoverD, hu, Tryd.ntmps42, Exit.thenS]
  refine wpS_of_wp ?_
  go_wp2
  cases c₀
  simp_all [bodyPostS, results, Tryd.results42]
theorem catch_lack (b1 b2 : Nat) (v0 v1 v2 v3 v4 v5 : Value) (T1 T2 : TypeId) (w : World) (h1 : w.heap[b1]? = some (.cells #[v0, v1, v2, v3, v4] T1 (0, 0))) (h2 : w.heap[b2]? = some (.cells #[v5] T2 (0, 0))) (hne : b1 ≠ b2) :
    CallsD Tryd.prog 42 #[.pointer (some ⟨b1, 0, none⟩), .pointer (some ⟨b2, 0, none⟩)] (.panicking ({ v := lackV, recovered := false } :: [])) w fun e u' w' =>
      e = .returned (.tuple #[]) ∧ u' = .panicking ({ v := lackV, recovered := true } :: []) ∧ w'.heap[b1]? = some (.cells #[.slice none 0 0, .slice none 0 0, .slice none 0 0, .slice none 0 0, .slice none 0 0] T1 (0, 0)) ∧ w'.heap[b2]? = some (.cells #[.int .i64 3] T2 (0, 0)) ∧ OutO (fun k => k = b1 ∨ k = b2) w w' := by
  obtain ⟨⟨z0, z1, z2, z3, z4⟩, gr⟩ := row_cells5 h1
  have y0 := cell_of_row w b2 0 _ _ _ h2
  simp only [List.getElem?_toArray, List.getElem?_cons_zero] at y0
  have yr := frozen_of_row w b2 0 _ _ h2
  refine callsD_of_wpS Tryd.func42 rfl fun c₀ cs hu => ?_
  apply wpS_seq
  apply wpS_region
  simp [wpOpsS, go_sem, recoverD, hu, Tryd.ntmps42, Exit.thenS]
  refine wpS_of_wp ?_
  have hta : ∀ w : World, (Instr.typeAssert (.iface 83 (.int .i64 3)) 20 83 true).run Tryd.prog w = .ok (.tuple #[.int .i64 3, .bool true]) w := fun w => by kernel_rfl
  unfold lackV
  go_wp2
  refine ⟨rfl, .panicking [{ v := .iface 83 (.int .i64 3), recovered := true }], by cases c₀; rfl, .tuple #[], ?hres, rfl, rfl, ?h1, ?h2, ?h3⟩
  case hres => simp [results, Tryd.results42]
  case h1 => exact (setNew_row hne).trans (fill5 h1 _ _ _ _ _)
  case h2 => exact heap_setCell_same _ b2 0 _ _ (.int .i64 3) ((setNew_row hne.symm).trans ((setNew_row hne.symm).trans ((setNew_row hne.symm).trans ((setNew_row hne.symm).trans ((setNew_row hne.symm).trans h2)))))
  case h3 =>
    have g : ∀ {w : World} {b o : Nat} {v : Value}, (b = b1 ∨ b = b2) → OutO (fun k => k = b1 ∨ k = b2) w (w.setCell ⟨b, o, none⟩ v) := fun {w b o v} hb => OutO.of_grown (grown_setO w b o v) (fun k e => by cases e; exact hb)
    exact (((((g (.inl rfl)).trans (g (.inl rfl))).trans (g (.inl rfl))).trans (g (.inl rfl))).trans (g (.inl rfl))).trans (g (.inr rfl))
end Go.Proofs.YtfdpbogbnfkilaaDoor
