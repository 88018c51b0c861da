/- Layer 6: the reader of package obj: a Sym, a Rel. -/
import Derived.Test.YtfdpbogbnfkilaaDoorObjRdL
namespace Go.Proofs.YtfdpbogbnfkilaaDoor
set_option maxRecDepth 100000
open Go.RowKit
set_option linter.unusedVariables false
def symA (s : SymD) : Array Value := #[.string s.1, .bool s.2.1, .int .i64 s.2.2.1, .bool s.2.2.2]
def SymV (s : SymD) (v : Value) (w : World) : Prop := v = .agg (symA s)
theorem RdIs.setNew {w : World} {p B b o : Nat} {l : List Int} {v : Value} (h : RdIs w p B l) (hb : B ≤ b) : RdIs (w.setCell ⟨b, o, none⟩ v) p B l :=
  h.grown (grown_setO w b o v) (fun g e => by cases e; exact hb)
theorem RdIs.alloc {w : World} {p B : Nat} {l : List Int} (h : RdIs w p B l) (o : Obj) : RdIs (w.alloc o) p B l := h.below ((Below.refl _ _).alloc (Nat.le_refl _) o)
theorem RdOut.setNew {p : Nat} {w w1 : World} {b o : Nat} {v : Value} (h : RdOut p w w1) (hb : w.heap.size ≤ b) : RdOut p w (w1.setCell ⟨b, o, none⟩ v) := h.grown (grown_setO w1 b o v) (fun g e => by cases e; exact hb)
theorem RdOut.alloc {p : Nat} {w w1 : World} (h : RdOut p w w1) (o : Obj) : RdOut p w (w1.alloc o) := h.trans (RdOut.below ((Below.refl _ _).alloc (Nat.le_refl _) o))
theorem RdOut.cellOf {p b : Nat} {w w1 : World} (h : RdOut p w w1) (hb : b < w.heap.size) (hp : b ≠ p) : ∀ o, w1.cell? ⟨b, o, none⟩ = w.cell? ⟨b, o, none⟩ := fun o => World.cell?_of_block (h.block b hb hp)
theorem RdOut.frozenOf {p b : Nat} {w w1 : World} (h : RdOut p w w1) (hb : b < w.heap.size) (hp : b ≠ p) : ∀ o, w1.frozen? ⟨b, o, none⟩ = w.frozen? ⟨b, o, none⟩ := fun o => World.frozen?_of_block (h.block b hb hp)
theorem setNew_row {w : World} {b c o : Nat} {v : Value} (h : b ≠ c) : (w.setCell ⟨c, o, none⟩ v).heap[b]? = w.heap[b]? := heap_setCell_other w _ b v (fun e => h e)
theorem fill4 {W : World} {b : Nat} {a0 a1 a2 a3 : Value} {T : TypeId} (h : W.heap[b]? = some (.cells #[a0, a1, a2, a3] T (0, 0))) (v0 v1 v2 v3 : Value) :
    ((((W.setCell ⟨b, 0, none⟩ v0).setCell ⟨b, 1, none⟩ v1).setCell ⟨b, 2, none⟩ v2).setCell ⟨b, 3, none⟩ v3).heap[b]? = some (.cells #[v0, v1, v2, v3] T (0, 0)) := by
  rw [heap_setCell_same _ b 3 _ _ _ (heap_setCell_same _ b 2 _ _ _ (heap_setCell_same _ b 1 _ _ _ (heap_setCell_same W b 0 _ _ _ h)))]
  rfl
theorem res_sym {T : Array Value} {b : Nat} {W : World} {v0 v1 v2 v3 : Value} (hT : T[2]? = some (.pointer (some ⟨b, 0, none⟩))) (h : W.heap[b]? = some (.cells #[v0, v1, v2, v3] 65 (0, 0))) :
    (results Tryd.f105 T).run Tryd.prog W = .ok (.agg #[v0, v1, v2, v3]) W := by
  have h0 := cell_of_row W b 0 _ _ _ h
  have h1 := cell_of_row W b 1 _ _ _ h
  have h2 := cell_of_row W b 2 _ _ _ h
  have h3 := cell_of_row W b 3 _ _ _ h
  simp only [List.getElem?_toArray, List.getElem?_cons_zero, List.getElem?_cons_succ] at h0 h1 h2 h3
  simp [results, Tryd.results105, go_sem, hT, h0, h1, h2, h3]
theorem mark1 {m : Int} (h0 : 0 ≤ m) (h1 : m ≤ 3) : (bits BinOp.and IntKind.i64 m 1 != 0) = decide (m % 2 = 1) := by
  rcases (by omega : m = 0 ∨ m = 1 ∨ m = 2 ∨ m = 3) with rfl | rfl | rfl | rfl <;> decide +kernel
theorem mark2 {m : Int} (h0 : 0 ≤ m) (h1 : m ≤ 3) : (bits BinOp.and IntKind.i64 m 2 != 0) = decide (m / 2 % 2 = 1) := by
  rcases (by omega : m = 0 ∨ m = 1 ∨ m = 2 ∨ m = 3) with rfl | rfl | rfl | rfl <;> decide +kernel
theorem RdOut.refl (p : Nat) (w : World) : RdOut p w w := OutO.refl _ w
set_option maxHeartbeats 2000000 in
theorem rdsym_any (p B : Nat) (l : List Int) (w : World) (hR : RdIs w p B l) :
    Calls Tryd.prog 105 #[.pointer (some ⟨p, 0, none⟩)] w (RdP p B (rdSym l) SymV w) := by
  have HR := Lib.hid hR
  have HL := Lib.hid hR.lt
  have HA := Lib.hid hR.all
  clear hR
  have HO0 := Lib.hid ((RdOut.refl p w).alloc (.cells #[.string ⟨#[]⟩, .bool false, .int .i64 0, .bool false] 65))
  have HZ := Lib.hid (show w.heap.size < (w.alloc (.cells #[.string ⟨#[]⟩, .bool false, .int .i64 0, .bool false] 65)).heap.size by simp)
  go_enter Tryd.func105, Tryd.ntmps105
  go_wp2_with fail
  refine (rdname_any p B l _ (HR.out.alloc _)).mono ?_
  intro e w1 h1
  cases hr1 : rdName l with
  | none =>
    obtain ⟨rfl, ho⟩ := h1.no hr1
    exact ⟨rfl, RdP.mkNo (rdBind_no hr1) (HO0.out.trans ho)⟩
  | some q =>
  obtain ⟨s, l1⟩ := q
  obtain ⟨v, rfl, rfl, h2, h3⟩ := h1.yes hr1
  have HS1 := Lib.hid hr1
  have HR1 := Lib.hid h2
  have HA1 := Lib.hid h2.all
  have HO1 := Lib.hid (HO0.out.trans h3)
  have c1 := h3.cellOf (b := w.heap.size) HZ.out (by have := HL.out; omega)
  have f1 := h3.frozenOf (b := w.heap.size) HZ.out (by have := HL.out; omega)
  have hz1 : w.heap.size < w1.heap.size := Nat.lt_of_lt_of_le HZ.out h3.size
  have HRow1 := Lib.hid ((h3.block w.heap.size HZ.out (by have := HL.out; omega)).trans (heap_alloc_new w _))
  clear h1 h2 h3 hr1
  go_wp2_with fail
  have HO1' := Lib.hid (HO1.out.alloc (.cells #[.string s, .bool false, .int .i64 0, .bool false] 65))
  have HZ1 := Lib.hid (show w1.heap.size < (w1.alloc (.cells #[.string s, .bool false, .int .i64 0, .bool false] 65)).heap.size by simp)
  refine (small_any p B l1 _ (HR1.out.alloc _)).mono ?_
  intro e w2 h1
  cases hr2 : rdN 1 l1 with
  | none =>
    obtain ⟨rfl, ho⟩ := h1.no hr2
    exact ⟨rfl, RdP.mkNo (by unfold rdSym; rw [rdBind_at HS1.out]; exact rdBind_no hr2) (HO1'.out.trans ho)⟩
  | some q =>
  obtain ⟨m, l2⟩ := q
  obtain ⟨v, rfl, rfl, h2, h3⟩ := h1.yes hr2
  have hm0 := (rdN_bd (by omega) HA1.out hr2).1
  have HS2 := Lib.hid hr2
  have HR2 := Lib.hid h2
  have HO2 := Lib.hid (HO1'.out.trans h3)
  have c2 := h3.cellOf (b := w1.heap.size) HZ1.out (by have := HL.out; omega)
  have f2 := h3.frozenOf (b := w1.heap.size) HZ1.out (by have := HL.out; omega)
  have d2 := h3.cellOf (b := w.heap.size) (Nat.lt_trans hz1 HZ1.out) (by have := HL.out; omega)
  have g2 := h3.frozenOf (b := w.heap.size) (Nat.lt_trans hz1 HZ1.out) (by have := HL.out; omega)
  have hz2 : w1.heap.size < w2.heap.size := Nat.lt_of_lt_of_le HZ1.out h3.size
  have hne : w.heap.size ≠ w1.heap.size := by omega
  have HRow2 := Lib.hid (((h3.block w.heap.size (Nat.lt_trans hz1 HZ1.out) (by have := HL.out; omega)).trans (heap_alloc_old (w := w1) _ hz1)).trans HRow1.out)
  clear h1 h2 h3 hr2
  by_cases hm : m ≤ 3
  case neg =>
    have hd : decide (m ≤ 3) = false := decide_eq_false hm
    have HM := Lib.hid (show ¬ m ≤ 3 from hm)
    go_wp2_with fail
    refine (want_no _).mono ?_
    rintro e w' ⟨rfl, rfl⟩
    exact ⟨rfl, RdP.mkNo (by unfold rdSym; rw [rdBind_at HS1.out, rdBind_at HS2.out, if_neg (by have := HM.out; omega)]) HO2.out⟩
  have HM := Lib.hid hm
  have HM0 := Lib.hid hm0
  go_wp2_with fail
  refine (want_yes _).mono ?_
  rintro e w' ⟨rfl, rfl⟩
  go_wp2_with fail
  have HO2' := Lib.hid ((HO2.out.setNew (b := w1.heap.size) (o := 1) (v := .bool (bits BinOp.and IntKind.i64 m 1 != 0)) (by omega)).setNew (b := w1.heap.size) (o := 3) (v := .bool (bits BinOp.and IntKind.i64 m 2 != 0)) (by omega))
  have HZ2 := Lib.hid (show w1.heap.size < ((w2.setCell ⟨w1.heap.size, 1, none⟩ (.bool (bits BinOp.and IntKind.i64 m 1 != 0))).setCell ⟨w1.heap.size, 3, none⟩ (.bool (bits BinOp.and IntKind.i64 m 2 != 0))).heap.size by simp; omega)
  refine (offset_any p B l2 _ ((HR2.out.setNew (by have := HL.out; omega)).setNew (by have := HL.out; omega))).mono ?_
  intro e w3 h1
  cases hr3 : rdN 4 l2 with
  | none =>
    obtain ⟨rfl, ho⟩ := h1.no hr3
    exact ⟨rfl, RdP.mkNo (by unfold rdSym; rw [rdBind_at HS1.out, rdBind_at HS2.out, if_pos HM.out]; exact rdBind_no hr3) (HO2'.out.trans ho)⟩
  | some q =>
  obtain ⟨o, l3⟩ := q
  obtain ⟨v, rfl, rfl, h2, h3⟩ := h1.yes hr3
  have HS3 := Lib.hid hr3
  have HR3 := Lib.hid h2
  have HO3 := Lib.hid (HO2'.out.trans h3)
  have c3 := h3.cellOf (b := w1.heap.size) HZ2.out (by have := HL.out; omega)
  have f3 := h3.frozenOf (b := w1.heap.size) HZ2.out (by have := HL.out; omega)
  have d3 := h3.cellOf (b := w.heap.size) (Nat.lt_trans hz1 HZ2.out) (by have := HL.out; omega)
  have g3 := h3.frozenOf (b := w.heap.size) (Nat.lt_trans hz1 HZ2.out) (by have := HL.out; omega)
  have HRow := Lib.hid (((h3.block w.heap.size (Nat.lt_trans hz1 HZ2.out) (by have := HL.out; omega)).trans ((setNew_row (by omega)).trans (setNew_row (by omega)))).trans HRow2.out)
  clear h1 h2 h3 hr3
  go_wp2
  have hrow : w3.heap[w.heap.size]? = some (.cells #[.string ⟨#[]⟩, .bool false, .int .i64 0, .bool false] 65 (0, 0)) := HRow.out
  have HW := Lib.hid (fill4 ((setNew_row (o := 2) (v := .int .i64 o) hne).trans hrow) (.string s) (.bool (bits BinOp.and IntKind.i64 m 1 != 0)) (.int .i64 o) (.bool (bits BinOp.and IntKind.i64 m 2 != 0)))
  clear hrow
  refine bodyPost_ret (res_sym (b := w.heap.size) ?hT HW.out) rfl ?_
  case hT => rfl
  refine RdP.mkYes (x := (s, decide (m % 2 = 1), o, decide (m / 2 % 2 = 1))) (l' := l3) (by unfold rdSym; rw [rdBind_at HS1.out, rdBind_at HS2.out, if_pos HM.out, rdBind_at HS3.out]; rfl) ?ho ?hv ?hr
  case ho => (repeat (first | with_reducible exact HO3.out | refine RdOut.setNew ?_ (by omega)))
  case hv => exact congrArg Value.agg (by unfold symA; rw [mark1 HM0.out HM.out, mark2 HM0.out HM.out])
  case hr => (repeat (first | with_reducible exact HR3.out | refine RdIs.setNew ?_ (by have := HL.out; omega)))
end Go.Proofs.YtfdpbogbnfkilaaDoor
