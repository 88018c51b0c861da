/- Layer 6: the reader of package obj: an Entry. -/
import Derived.Test.YtfdpbogbnfkilaaDoorObjRdM
namespace Go.Proofs.YtfdpbogbnfkilaaDoor
set_option maxRecDepth 100000
open Go.RowKit
set_option linter.unusedVariables false
/-- an entry as it lies: its parameters' row lies from lo on -/
def EntV (lo : Nat) (s : EntD) (v : Value) (w : World) : Prop := ∃ A c, v = .agg #[.string s.1, .slice A s.2.length c] ∧ RowC w lo w.heap.size A (s.2.flatMap encI64)
theorem res_ent {T : Array Value} {b : Nat} {W : World} {v0 v1 : Value} (hT : T[2]? = some (.pointer (some ⟨b, 0, none⟩))) (h : W.heap[b]? = some (.cells #[v0, v1] 70 (0, 0))) :
    (results Tryd.f109 T).run Tryd.prog W = .ok (.agg #[v0, v1]) W := by
  have h0 := cell_of_row W b 0 _ _ _ h
  have h1 := cell_of_row W b 1 _ _ _ h
  simp only [List.getElem?_toArray, List.getElem?_cons_zero, List.getElem?_cons_succ] at h0 h1
  simp [results, Tryd.results109, go_sem, hT, h0, h1]
theorem fill2 {W : World} {b : Nat} {a0 a1 : Value} {T : TypeId} (h : W.heap[b]? = some (.cells #[a0, a1] T (0, 0))) (v0 v1 : Value) :
    ((W.setCell ⟨b, 0, none⟩ v0).setCell ⟨b, 1, none⟩ v1).heap[b]? = some (.cells #[v0, v1] T (0, 0)) := by
  rw [heap_setCell_same _ b 1 _ _ _ (heap_setCell_same W b 0 _ _ _ h)]
  rfl
theorem row_cells2 {W : World} {b : Nat} {v0 v1 : Value} {T : TypeId} (h : W.heap[b]? = some (.cells #[v0, v1] T (0, 0))) : W.cell? ⟨b, 0, none⟩ = some v0 ∧ W.cell? ⟨b, 1, none⟩ = some v1 ∧ ∀ o, W.frozen? ⟨b, o, none⟩ = false := by
  have h0 := cell_of_row W b 0 _ _ _ h
  have h1 := cell_of_row W b 1 _ _ _ h
  simp only [List.getElem?_toArray, List.getElem?_cons_zero, List.getElem?_cons_succ] at h0 h1
  exact ⟨h0, h1, fun o => frozen_of_row W b o _ _ h⟩
set_option maxHeartbeats 1000000 in
theorem rdent_any (p B : Nat) (l : List Int) (w : World) (hR : RdIs w p B l) :
    Calls Tryd.prog 109 #[.pointer (some ⟨p, 0, none⟩)] w (RdP p B (rdEnt l) (EntV w.heap.size) w) := by
  have hmf : ∀ (fn : Fn) (first cap : Array Value) (w : World), (Instr.makeFunc fn first cap).run Tryd.prog w = .ok (.func fn first cap) w := fun _ _ _ _ => rfl
  have HR := Lib.hid hR
  have HL := Lib.hid hR.lt
  clear hR
  have HO0 := Lib.hid ((RdOut.refl p w).alloc (.cells #[.string ⟨#[]⟩, .slice none 0 0] 70))
  have HX := Lib.hid (show (w.alloc (.cells #[.string ⟨#[]⟩, .slice none 0 0] 70)).heap[w.heap.size]? = some (.cells #[.string ⟨#[]⟩, .slice none 0 0] 70 (0, 0)) from heap_alloc_new w _)
  have HZ := Lib.hid (show w.heap.size < (w.alloc (.cells #[.string ⟨#[]⟩, .slice none 0 0] 70)).heap.size by simp)
  go_enter Tryd.func109, Tryd.ntmps109
  go_wp2_with fail
  refine (rdname_any p B l _ (HR.out.alloc _)).mono ?_
  intro e w1 h1
  cases hr1 : rdName l with
  | none =>
    obtain ⟨rfl, ho⟩ := h1.no hr1
    exact ⟨rfl, RdP.mkNo (rdBind_no hr1) (HO0.out.trans ho)⟩
  | some q =>
  obtain ⟨s, l1⟩ := q
  obtain ⟨v, rfl, rfl, h2, h3⟩ := h1.yes hr1
  have HS1 := Lib.hid hr1
  have HR1 := Lib.hid h2
  have HA1 := Lib.hid h2.all
  have HO1 := Lib.hid (HO0.out.trans h3)
  have HX1 := Lib.hid (h3.row HX.out (by have := HL.out; omega))
  have hz1 : w.heap.size < w1.heap.size := Nat.lt_of_lt_of_le HZ.out h3.size
  have HZ1 := Lib.hid hz1
  have HO1' := Lib.hid (HO1.out.alloc (.cells #[.string s, .slice none 0 0] 70))
  have HX1' := Lib.hid ((heap_alloc_old w1 (.cells #[.string s, .slice none 0 0] 70) hz1).trans HX1.out)
  have HY1 := Lib.hid (show (w1.alloc (.cells #[.string s, .slice none 0 0] 70)).heap[w1.heap.size]? = some (.cells #[.string s, .slice none 0 0] 70 (0, 0)) from heap_alloc_new w1 _)
  clear h1 h2 h3 hr1 hz1
  go_wp2_with fail
  refine (small_any p B l1 _ (HR1.out.alloc _)).mono ?_
  intro e w2 h1
  cases hr2 : rdN 1 l1 with
  | none =>
    obtain ⟨rfl, ho⟩ := h1.no hr2
    exact ⟨rfl, RdP.mkNo (by unfold rdEnt; rw [rdBind_at HS1.out]; exact rdBind_no hr2) (HO1'.out.trans ho)⟩
  | some q =>
  obtain ⟨k, l2⟩ := q
  obtain ⟨v, rfl, rfl, h2, h3⟩ := h1.yes hr2
  have hb := rdN_bd (by omega) HA1.out hr2
  have hb1 : k < 256 := by simpa using hb.2
  obtain ⟨k, rfl⟩ := Int.eq_ofNat_of_zero_le hb.1
  have HK := Lib.hid hb1
  have HS2 := Lib.hid hr2
  have HR2 := Lib.hid h2
  have HO2 := Lib.hid (HO1'.out.trans h3)
  have HX2 := Lib.hid (h3.row HX1'.out (by have := HL.out; omega))
  have HY2 := Lib.hid (h3.row HY1.out (by have := HL.out; have := HZ1.out; omega))
  clear h1 h2 h3 hr2 hb hb1
  go_wp2_with fail
  refine (list_small k (by have := HK.out; omega) p B l2 _ HR2.out).mono ?_
  intro e w3 h1
  cases hr3 : rdL (rdN 1) k l2 with
  | none =>
    obtain ⟨rfl, ho⟩ := h1.no hr3
    exact ⟨rfl, RdP.mkNo (by unfold rdEnt; rw [rdBind_at HS1.out, rdBind_at HS2.out]; exact rdBind_no hr3) (HO2.out.trans ho)⟩
  | some q =>
  obtain ⟨zs, l3⟩ := q
  obtain ⟨v, rfl, ⟨A, c, rfl, hzl, hrow⟩, h2, h3⟩ := h1.yes hr3
  have HS3 := Lib.hid hr3
  have HR3 := Lib.hid h2
  have HO3 := Lib.hid (HO2.out.trans h3)
  have HX3 := Lib.hid (h3.row HX2.out (by have := HL.out; omega))
  have HY3 := Lib.hid (h3.row HY2.out (by have := HL.out; have := HZ1.out; omega))
  have HRow := Lib.hid hrow
  have HZl := Lib.hid hzl
  have HS := Lib.hid HO2.out.size
  have hz2 : w1.heap.size < w2.heap.size := by have := (Array.getElem?_eq_some_iff.1 HY2.out).1; exact this
  have HZ2 := Lib.hid hz2
  obtain ⟨c0, c1, fr⟩ := row_cells2 HY3.out
  obtain ⟨d0, d1, gr⟩ := row_cells2 HX3.out
  have hne : w.heap.size ≠ w1.heap.size := by have := HZ1.out; omega
  clear h1 h2 h3 hr3 hrow hzl hz2
  go_wp2
  have HW := Lib.hid (fill2 ((setNew_row (w := w3) (b := w.heap.size) (c := w1.heap.size) (o := 1) (v := .slice A k c) hne).trans HX3.out) (.string s) (.slice A k c))
  refine bodyPost_ret (res_ent (b := w.heap.size) ?hT HW.out) rfl ?_
  case hT => rfl
  refine RdP.mkYes (x := (s, zs)) (l' := l3) (by unfold rdEnt; rw [rdBind_at HS1.out, rdBind_at HS2.out, Int.toNat_natCast, rdBind_at (x := zs) (q := l3) HS3.out]; rfl) ?ho ?hv ?hr
  case ho => (repeat (first | with_reducible exact HO3.out | refine RdOut.setNew ?_ (by have := HZ1.out; omega)))
  case hr => (repeat (first | with_reducible exact HR3.out | refine RdIs.setNew ?_ (by have := HL.out; have := HZ1.out; omega)))
  case hv =>
    refine ⟨A, c, by rw [HZl.out], ?_⟩
    rcases HRow.out with e | ⟨b, o, e, h1, h2, h3⟩
    · exact .inl e
    · refine .inr ⟨b, o, e, by have := HS.out; omega, by simpa using h2, fun j v hj => ?_⟩
      rw [World.cell?_of_block (setNew_row (by show b ≠ _; have := HZ2.out; have := HZ1.out; omega)), World.cell?_of_block (setNew_row (by show b ≠ _; have := HZ2.out; have := HZ1.out; omega)), World.cell?_of_block (setNew_row (by show b ≠ _; have := HZ2.out; have := HZ1.out; omega))]
      exact h3 j v hj
end Go.Proofs.YtfdpbogbnfkilaaDoor
