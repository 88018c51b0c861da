/- Layer 6: the reader of package obj: a Rel. -/
import Derived.Test.YtfdpbogbnfkilaaDoorObjRdS
namespace Go.Proofs.YtfdpbogbnfkilaaDoor
set_option maxRecDepth 100000
open Go.RowKit
set_option linter.unusedVariables false
def relA (s : RelD) : Array Value := #[.int .i64 s.1, .int .i64 s.2.1, .string s.2.2.1, .int .i64 s.2.2.2]
def RelV (s : RelD) (v : Value) (w : World) : Prop := v = .agg (relA s)
theorem res_rel {T : Array Value} {b : Nat} {W : World} {v0 v1 v2 v3 : Value} (hT : T[2]? = some (.pointer (some ⟨b, 0, none⟩))) (h : W.heap[b]? = some (.cells #[v0, v1, v2, v3] 49 (0, 0))) :
    (results Tryd.f107 T).run Tryd.prog W = .ok (.agg #[v0, v1, v2, v3]) W := by
  have h0 := cell_of_row W b 0 _ _ _ h
  have h1 := cell_of_row W b 1 _ _ _ h
  have h2 := cell_of_row W b 2 _ _ _ h
  have h3 := cell_of_row W b 3 _ _ _ h
  simp only [List.getElem?_toArray, List.getElem?_cons_zero, List.getElem?_cons_succ] at h0 h1 h2 h3
  simp [results, Tryd.results107, go_sem, hT, h0, h1, h2, h3]
/-- a row that a call of the reader's leaves alone -/
theorem RdOut.row {p b : Nat} {w w1 : World} {o : Obj} (h : RdOut p w w1) (hr : w.heap[b]? = some o) (hp : b ≠ p) : w1.heap[b]? = some o := (h.block b (Array.getElem?_eq_some_iff.1 hr).1 hp).trans hr
theorem row_cells4 {W : World} {b : Nat} {v0 v1 v2 v3 : Value} {T : TypeId} (h : W.heap[b]? = some (.cells #[v0, v1, v2, v3] T (0, 0))) : W.cell? ⟨b, 0, none⟩ = some v0 ∧ W.cell? ⟨b, 1, none⟩ = some v1 ∧ W.cell? ⟨b, 2, none⟩ = some v2 ∧ W.cell? ⟨b, 3, none⟩ = some v3 ∧ ∀ o, W.frozen? ⟨b, o, none⟩ = false := by
  have h0 := cell_of_row W b 0 _ _ _ h
  have h1 := cell_of_row W b 1 _ _ _ h
  have h2 := cell_of_row W b 2 _ _ _ h
  have h3 := cell_of_row W b 3 _ _ _ h
  simp only [List.getElem?_toArray, List.getElem?_cons_zero, List.getElem?_cons_succ] at h0 h1 h2 h3
  exact ⟨h0, h1, h2, h3, fun o => frozen_of_row W b o _ _ h⟩
abbrev relZ : Array Value := #[.int .i64 0, .int .i64 0, .string ⟨#[]⟩, .int .i64 0]
set_option maxHeartbeats 2000000 in
theorem rdrel_any (p B : Nat) (l : List Int) (w : World) (hR : RdIs w p B l) :
    Calls Tryd.prog 107 #[.pointer (some ⟨p, 0, none⟩)] w (RdP p B (rdRel l) RelV w) := by
  have HR := Lib.hid hR
  have HL := Lib.hid hR.lt
  have HA := Lib.hid hR.all
  clear hR
  have HO0 := Lib.hid (((RdOut.refl p w).alloc (.cells #[.int .i64 0, .int .i64 0, .string ⟨#[]⟩, .int .i64 0] 49)).alloc (.cells #[.int .i64 0, .int .i64 0, .string ⟨#[]⟩, .int .i64 0] 49))
  have HX := Lib.hid (show ((w.alloc (.cells #[.int .i64 0, .int .i64 0, .string ⟨#[]⟩, .int .i64 0] 49)).alloc (.cells #[.int .i64 0, .int .i64 0, .string ⟨#[]⟩, .int .i64 0] 49)).heap[w.heap.size]? = some (.cells #[.int .i64 0, .int .i64 0, .string ⟨#[]⟩, .int .i64 0] 49 (0, 0)) by exact (heap_alloc_old _ _ (by simp)).trans (heap_alloc_new w _))
  have HY := Lib.hid (show ((w.alloc (.cells #[.int .i64 0, .int .i64 0, .string ⟨#[]⟩, .int .i64 0] 49)).alloc (.cells #[.int .i64 0, .int .i64 0, .string ⟨#[]⟩, .int .i64 0] 49)).heap[w.heap.size + 1]? = some (.cells #[.int .i64 0, .int .i64 0, .string ⟨#[]⟩, .int .i64 0] 49 (0, 0)) by have h := heap_alloc_new (w.alloc (.cells #[.int .i64 0, .int .i64 0, .string ⟨#[]⟩, .int .i64 0] 49)) (.cells #[.int .i64 0, .int .i64 0, .string ⟨#[]⟩, .int .i64 0] 49); simpa using h)
  go_enter Tryd.func107, Tryd.ntmps107
  go_wp2_with fail
  refine (offset_any p B l _ ((HR.out.alloc _).alloc _)).mono ?_
  intro e w1 h1
  cases hr1 : rdN 4 l with
  | none =>
    obtain ⟨rfl, ho⟩ := h1.no hr1
    exact ⟨rfl, RdP.mkNo (rdBind_no hr1) (HO0.out.trans ho)⟩
  | some q =>
  obtain ⟨x1, l1⟩ := q
  obtain ⟨v, rfl, rfl, h2, h3⟩ := h1.yes hr1
  have HS1 := Lib.hid hr1
  have HR1 := Lib.hid h2
  have HO1 := Lib.hid (HO0.out.trans h3)
  have HX1 := Lib.hid (h3.row HX.out (by have := HL.out; omega))
  have HY1 := Lib.hid (h3.row HY.out (by have := HL.out; omega))
  have HYs := Lib.hid (heap_setCell_same w1 (w.heap.size + 1) 0 _ _ (.int .i64 x1) HY1.out)
  obtain ⟨c0, c1, c2, c3, fr⟩ := row_cells4 HY1.out
  clear h1 h2 h3 hr1
  go_wp2_with fail
  clear c0 c1 c2 c3 fr
  refine (small_any p B l1 _ (HR1.out.setNew (by have := HL.out; omega))).mono ?_
  intro e w2 h1
  cases hr2 : rdN 1 l1 with
  | none =>
    obtain ⟨rfl, ho⟩ := h1.no hr2
    exact ⟨rfl, RdP.mkNo (by unfold rdRel; rw [rdBind_at HS1.out]; exact rdBind_no hr2) ((HO1.out.setNew (by omega)).trans ho)⟩
  | some q =>
  obtain ⟨x2, l2⟩ := q
  obtain ⟨v, rfl, rfl, h2, h3⟩ := h1.yes hr2
  have HS2 := Lib.hid hr2
  have HR2 := Lib.hid h2
  have HO2 := Lib.hid ((HO1.out.setNew (by omega)).trans h3)
  have HX2 := Lib.hid (h3.row ((setNew_row (by omega)).trans HX1.out) (by have := HL.out; omega))
  have HY2 := Lib.hid (h3.row HYs.out (by have := HL.out; omega))
  obtain ⟨c0, c1, c2, c3, fr⟩ := row_cells4 (v0 := .int .i64 x1) (v1 := .int .i64 0) (v2 := .string ⟨#[]⟩) (v3 := .int .i64 0) HY2.out
  have HY2s := Lib.hid (heap_setCell_same w2 (w.heap.size + 1) 1 _ _ (.int .i64 x2) HY2.out)
  clear h1 h2 h3 hr2
  go_wp2_with fail
  clear c0 c1 c2 c3 fr
  refine (rdname_any p B l2 _ (HR2.out.setNew (by have := HL.out; omega))).mono ?_
  intro e w3 h1
  cases hr3 : rdName l2 with
  | none =>
    obtain ⟨rfl, ho⟩ := h1.no hr3
    exact ⟨rfl, RdP.mkNo (by unfold rdRel; rw [rdBind_at HS1.out, rdBind_at HS2.out]; exact rdBind_no hr3) ((HO2.out.setNew (by omega)).trans ho)⟩
  | some q =>
  obtain ⟨s, l3⟩ := q
  obtain ⟨v, rfl, rfl, h2, h3⟩ := h1.yes hr3
  have HS3 := Lib.hid hr3
  have HR3 := Lib.hid h2
  have HA3 := Lib.hid h2.all
  have HO3 := Lib.hid ((HO2.out.setNew (by omega)).trans h3)
  have HX3 := Lib.hid (h3.row ((setNew_row (by omega)).trans HX2.out) (by have := HL.out; omega))
  have HY3 := Lib.hid (h3.row HY2s.out (by have := HL.out; omega))
  obtain ⟨c0, c1, c2, c3, fr⟩ := row_cells4 (v0 := .int .i64 x1) (v1 := .int .i64 x2) (v2 := .string ⟨#[]⟩) (v3 := .int .i64 0) HY3.out
  have HY3s := Lib.hid (heap_setCell_same w3 (w.heap.size + 1) 2 _ _ (.string s) HY3.out)
  clear h1 h2 h3 hr3
  go_wp2_with fail
  clear c0 c1 c2 c3 fr
  refine (rdnum_any 8 (by omega) p B l3 _ (HR3.out.setNew (by have := HL.out; omega))).mono ?_
  intro e w4 h1
  cases hr4 : rdN 8 l3 with
  | none =>
    obtain ⟨rfl, ho⟩ := h1.no hr4
    exact ⟨rfl, RdP.mkNo (by unfold rdRel; rw [rdBind_at HS1.out, rdBind_at HS2.out, rdBind_at HS3.out]; exact rdBind_no hr4) ((HO3.out.setNew (by omega)).trans ho)⟩
  | some q =>
  obtain ⟨d, l4⟩ := q
  obtain ⟨v, rfl, rfl, h2, h3⟩ := h1.yes hr4
  have hu := (rdN_back (by omega) HA3.out hr4).2.2.1
  have hu0 := hu.1
  have hu1 := hu.2
  have HS4 := Lib.hid hr4
  have HR4 := Lib.hid h2
  have HO4 := Lib.hid ((HO3.out.setNew (by omega)).trans h3)
  have HX4 := Lib.hid (h3.row ((setNew_row (by omega)).trans HX3.out) (by have := HL.out; omega))
  have HY4 := Lib.hid (h3.row HY3s.out (by have := HL.out; omega))
  obtain ⟨c0, c1, c2, c3, fr⟩ := row_cells4 (v0 := .int .i64 x1) (v1 := .int .i64 x2) (v2 := .string s) (v3 := .int .i64 0) HY4.out
  have hx4 := row_cells4 HX4.out
  obtain ⟨d0, d1, d2, d3, gr⟩ := hx4
  clear h1 h2 h3 hr4 hu
  go_wp2
  have HW := Lib.hid (fill4 ((setNew_row (w := w4) (b := w.heap.size) (c := w.heap.size + 1) (o := 3) (v := .int .i64 (wrap64 d)) (by omega)).trans HX4.out) (.int .i64 x1) (.int .i64 x2) (.string s) (.int .i64 (wrap64 d)))
  refine bodyPost_ret (res_rel (b := w.heap.size) ?hT HW.out) rfl ?_
  case hT => rfl
  refine RdP.mkYes (x := (x1, x2, s, sg64 d)) (l' := l4) (by unfold rdRel; rw [rdBind_at HS1.out, rdBind_at HS2.out, rdBind_at HS3.out, rdBind_at HS4.out]; rfl) ?ho rfl ?hr
  case ho => (repeat (first | with_reducible exact HO4.out | refine RdOut.setNew ?_ (by omega)))
  case hr => (repeat (first | with_reducible exact HR4.out | refine RdIs.setNew ?_ (by have := HL.out; omega)))
end Go.Proofs.YtfdpbogbnfkilaaDoor
