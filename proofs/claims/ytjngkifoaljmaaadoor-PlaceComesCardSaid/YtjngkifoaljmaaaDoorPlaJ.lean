/- Layer 8: fitting, of texts. Condition: the tables of package ins read as they should. -/
import Derived.Test.YtjngkifoaljmaaaDoorPlaH
namespace Go.Proofs.YtjngkifoaljmaaaDoor
set_option maxRecDepth 100000
open Go.RowKit
set_option linter.unusedVariables false
def AllP (r : Option (List Int)) (w : World) (e : Ending) (w' : World) : Prop := Below w.heap.size w w' ∧ match r with
  | some xs => ∃ v, e = .returned v ∧ TxAt w' w.heap.size xs v
  | none => e = misP
theorem AllP.no {r : Option (List Int)} {w w' : World} (hr : r = none) (hb : Below w.heap.size w w') : AllP r w misP w' := by subst hr; exact ⟨hb, rfl⟩
theorem AllP.yes {r : Option (List Int)} {w w' : World} {xs : List Int} {v : Value} (hr : r = some xs) (hb : Below w.heap.size w w') (h : TxAt w' w.heap.size xs v) : AllP r w (.returned v) w' := by subst hr; exact ⟨hb, v, rfl, h⟩
theorem TxAt.low {w : World} {b b' : Nat} {xs : List Int} {v : Value} (h : TxAt w b xs v) (hb : b' ≤ b) : TxAt w b' xs v := by
  obtain ⟨A, c, e, ho⟩ := h
  exact ⟨A, c, e, kn_base ho hb⟩
/-- a box of another type is written -/
theorem TxAt.boxed {w : World} {b g j : Nat} {xs : List Int} {v u : Value} {cs : Array Value} {t : TypeId} (h : TxAt w b xs v) (hb : b ≤ b) (hx : w.heap[g]? = some (.cells cs t (0, 0))) (ht : 22 ≠ t) : TxAt (w.setCell ⟨g, j, none⟩ u) b xs v := by
  obtain ⟨A, c, e, ho⟩ := h
  refine ⟨A, c, e, rowO_kept ho (grown_setO w g j u) (fun g' hg e' => ?_)⟩
  obtain ⟨_, _, c1, a1⟩ := ownO_lt ho hg
  cases e'
  rw [hx] at a1
  injection a1 with a1
  injection a1 with _ a3 _
  exact ht a3.symm
def FitP2 (r : Option (List Int)) (w : World) (e : Ending) (w' : World) : Prop := Below w.heap.size w w' ∧ match r with
  | some xs => ∃ v, e = .returned (.tuple #[v, .int .i64 0]) ∧ TxAt w' w.heap.size xs v
  | none => e = .returned (.tuple #[.slice none 0 0, .int .i64 5])
theorem fit_idle2 (p : Addr) (w : World) :
    CallsD Tryd.prog 47 #[.pointer (some p)] .returning w fun e u' w' => e = .returned (.tuple #[]) ∧ u' = .returning ∧ w' = w := by
  refine callsD_of_wpS Tryd.func47 rfl fun c₀ cs hu => ?_
  apply wpS_seq
  apply wpS_region
  simp [wpOpsS, go_sem, recoverD, hu, Tryd.ntmps47, Exit.thenS]
  refine wpS_of_wp ?_
  go_wp2
  cases c₀
  simp_all [bodyPostS, results, Tryd.results47]
theorem fit_mis2 (b : Nat) (v0 : Value) (T : TypeId) (w : World) (h : w.heap[b]? = some (.cells #[v0] T (0, 0))) :
    CallsD Tryd.prog 47 #[.pointer (some ⟨b, 0, none⟩)] (.panicking ({ v := misV, recovered := false } :: [])) w fun e u' w' =>
      e = .returned (.tuple #[]) ∧ u' = .panicking ({ v := misV, recovered := true } :: []) ∧ w'.heap[b]? = some (.cells #[.int .i64 5] T (0, 0)) ∧ (∀ n, n ≤ b → Below n w w') := by
  have y0 := cell_of_row w b 0 _ _ _ h
  simp only [List.getElem?_toArray, List.getElem?_cons_zero] at y0
  have yr := frozen_of_row w b 0 _ _ h
  have h' := (heap_alloc_old w (.cells #[] 91) (Array.getElem?_eq_some_iff.1 h).1).trans h
  have y0' := cell_of_row _ b 0 _ _ _ h'
  simp only [List.getElem?_toArray, List.getElem?_cons_zero] at y0'
  have yr' := frozen_of_row _ b 0 _ _ h'
  have hlt := (Array.getElem?_eq_some_iff.1 h).1
  refine callsD_of_wpS Tryd.func47 rfl fun c₀ cs hu => ?_
  apply wpS_seq
  apply wpS_region
  simp [wpOpsS, go_sem, recoverD, hu, Tryd.ntmps47, Exit.thenS]
  refine wpS_of_wp ?_
  have hta : ∀ w : World, (Instr.typeAssert (.iface 91 (.agg #[])) 20 91 true).run Tryd.prog w = .ok (.tuple #[.agg #[], .bool true]) w := fun w => by kernel_rfl
  unfold misV
  go_wp2
  refine ⟨rfl, .panicking [{ v := .iface 91 (.agg #[]), recovered := true }], by cases c₀; rfl, .tuple #[], ?hres, rfl, rfl, ?h1, ?h2⟩
  case hres => simp [results, Tryd.results47]
  case h1 =>
    have hs := heap_setCell_same w b 0 _ _ (.int .i64 5) h
    exact (heap_alloc_old _ _ (Array.getElem?_eq_some_iff.1 hs).1).trans hs
  case h2 => exact fun n hn => ((Below.refl n w).setCell (p := ⟨b, 0, none⟩) hn _).alloc (Nat.le_trans hn (by rw [size_set7]; exact Nat.le_of_lt hlt)) _
theorem res_fit2 {T : Array Value} {b : Nat} {x : Value} {W : World} {v0 : Value} {ty : TypeId} (h2 : T[2]? = some x) (h3 : T[3]? = some (.pointer (some ⟨b, 0, none⟩))) (hr : W.heap[b]? = some (.cells #[v0] ty (0, 0))) :
    (results Tryd.f30 T).run Tryd.prog W = .ok (.tuple #[x, v0]) W := by
  have y0 := cell_of_row W b 0 _ _ _ hr
  simp only [List.getElem?_toArray, List.getElem?_cons_zero] at y0
  simp [results, Tryd.results30, go_sem, h2, h3, y0]
theorem door_mis2 {P : Program} {fn : Func} {R : Ending → World → Prop} {w : World} {b : Nat} {T : Array Value} (h : Leaves P fn T R [{ target := Target.fn (Fn.func 47) #[.pointer (some ⟨b, 0, none⟩)], args := #[] }] (.panicking [{ v := misV, recovered := false }]) w) :
    bodyPostD P fn R (.panic [{ v := misV, recovered := false }]) { tmps := T, defers := [{ target := Target.fn (Fn.func 47) #[.pointer (some ⟨b, 0, none⟩)], args := #[] }] } w := h
set_option maxHeartbeats 2000000 in
theorem fit_any2 (p0 p1 : Value) (r : Option (List Int)) (w : World) (hC : Calls Tryd.prog 31 #[p0, p1] (w.alloc (.cells #[.int .i64 0] 25)) (AllP r (w.alloc (.cells #[.int .i64 0] 25)))) :
    Calls Tryd.prog 30 #[.func (.func 31) #[] #[p0, p1]] w (FitP2 r w) := by
  have hmf : ∀ (fn : Fn) (first cap : Array Value) (w : World), (Instr.makeFunc fn first cap).run Tryd.prog w = .ok (.func fn first cap) w := fun _ _ _ _ => rfl
  have HB := Lib.hid ((Below.refl w.heap.size w).alloc (Nat.le_refl _) (.cells #[.int .i64 0] 25))
  have HX := Lib.hid (heap_alloc_new w (.cells #[.int .i64 0] 25))
  have HC := Lib.hid hC
  clear hC
  go_enter_defers Tryd.func30, Tryd.ntmps30
  go_wp2_with fail
  refine HC.out.mono ?_
  intro e w1 h1
  cases r with
  | none =>
    obtain ⟨hb, rfl⟩ := h1
    have HB1 := Lib.hid (HB.out.trans (hb.mono HB.out.size))
    have HX1 := Lib.hid ((hb.block _ (Array.getElem?_eq_some_iff.1 HX.out).1).trans HX.out)
    clear hb
    refine door_mis2 ?_
    refine leaves_cons (f := 47) (args := #[.pointer (some ⟨w.heap.size, 0, none⟩)]) (by simp) (by simp [go_sem]) ?_
    refine (fit_mis2 w.heap.size _ _ _ HX1.out).mono ?_
    rintro e u' w2 ⟨rfl, rfl, h1, h2⟩
    exact ⟨_, res_fit2 (b := w.heap.size) rfl rfl h1, HB1.out.trans (h2 _ (Nat.le_refl _)), rfl⟩
  | some x =>
    obtain ⟨hb, v, rfl, htx⟩ := h1
    have HTx := Lib.hid (htx.low (b' := w.heap.size) (by simp))
    have HSz := Lib.hid hb.size
    obtain ⟨Av, cv, rfl, -⟩ := htx
    have HB1 := Lib.hid (HB.out.trans (hb.mono HB.out.size))
    have HX1 := Lib.hid ((hb.block _ (Array.getElem?_eq_some_iff.1 HX.out).1).trans HX.out)
    clear hb
    have y0 := cell_of_row w1 w.heap.size 0 _ _ _ HX1.out
    simp only [List.getElem?_toArray, List.getElem?_cons_zero] at y0
    have yr := frozen_of_row w1 w.heap.size 0 _ _ HX1.out
    go_wp2
    refine leaves_cons (f := 47) (args := #[.pointer (some ⟨w.heap.size, 0, none⟩)]) (by simp) (by simp [go_sem]) ?_
    refine (fit_idle2 ⟨w.heap.size, 0, none⟩ _).mono ?_
    rintro e u' w4 ⟨rfl, rfl, rfl⟩
    exact ⟨_, res_fit2 (b := w.heap.size) rfl rfl (heap_setCell_same _ _ _ _ _ _ HX1.out), below_setNew HB1.out (Nat.le_refl _), _, rfl, HTx.out.boxed (by simp) HX1.out (by decide)⟩
end Go.Proofs.YtjngkifoaljmaaaDoor
