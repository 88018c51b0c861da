/- Layer 6: May of package obj. Condition: the tables of package ins read as they should. -/
import Derived.Test.YtfdpbogbnfkilaaDoorObjMayO
namespace Go.Proofs.YtfdpbogbnfkilaaDoor
set_option maxRecDepth 100000
open Go.RowKit Go.Maps
set_option linter.unusedVariables false
theorem mayO_eq (d : ObjD) : mayO d = (fewB d.text.length d.data.length d.syms.length d.rels.length d.ents.length && textB d.text && rightB d) := by
  unfold mayO rightB
  simp only [Bool.and_assoc]
set_option maxHeartbeats 2000000 in
theorem may_obj (d : ObjD) (hW : ObjW d) (v : Value) (lo hi : Nat) (w : World) (hT : Tabs w) (hO : ObjAt w lo hi d v) (hhi : hi ≤ w.heap.size) :
    Calls Tryd.prog 21 #[v] w fun e w' => e = .returned (.bool (mayO d)) ∧ Below w.heap.size w w' := by
  obtain ⟨A1, c1, A2, c2, A3, c3, A4, c4, A5, c5, es, rfl, h1, h2, h3, h4, h5, h6⟩ := hO
  have HB0 := Lib.hid ((Below.refl w.heap.size w).alloc (Nat.le_refl _) (.cells #[.slice A1 d.text.length c1, .slice A2 d.data.length c2, .slice A3 d.syms.length c3, .slice A4 d.rels.length c4, .slice A5 d.ents.length c5] 28))
  have HX0 := Lib.hid (heap_alloc_new w (.cells #[.slice A1 d.text.length c1, .slice A2 d.data.length c2, .slice A3 d.syms.length c3, .slice A4 d.rels.length c4, .slice A5 d.ents.length c5] 28))
  have HE := Lib.hid (mayO_eq d)
  have HWd := Lib.hid hW
  have HT := Lib.hid hT
  have HHi := Lib.hid hhi
  have H1 := Lib.hid h1
  have H3 := Lib.hid h3
  have H4 := Lib.hid h4
  have H5 := Lib.hid h5
  have H6 := Lib.hid h6
  clear hW hT hhi h1 h2 h3 h4 h5 h6
  go_enter Tryd.func21, Tryd.ntmps21
  go_wp2_with fail
  refine (few_any A1 A2 A3 A4 A5 _ _ _ _ _ c1 c2 c3 c4 c5 _).mono ?_
  rintro e w1 ⟨rfl, hb⟩
  have HB1 := Lib.hid (HB0.out.trans (hb.mono HB0.out.size))
  have HX1 := Lib.hid ((hb.block w.heap.size (by simp)).trans HX0.out)
  clear hb
  cases hf : fewB d.text.length d.data.length d.syms.length d.rels.length d.ents.length with
  | false =>
    have HR := Lib.hid (show mayO d = false by rw [HE.out, hf]; rfl)
    clear hf
    go_wp2
    go_ret
    exact ⟨ret_bool HR.out.symm, HB1.out⟩
  | true =>
  have HF := Lib.hid (few_of hf)
  have HFe := Lib.hid hf
  obtain ⟨⟨z0, z1, z2, z3, z4⟩, gr⟩ := row_cells5 HX1.out
  clear hf
  go_wp2_with fail
  refine (operations_any A1 d.text _ c1 lo hi rfl HF.out.1 HWd.out.text w1 (HT.out.below HB1.out) (H1.out.move (Nat.le_refl _) (Nat.le_refl _) (fun b g1 g2 => HB1.out.block b (by have := HHi.out; omega))) (by have := HHi.out; have := HB1.out.size; omega)).mono ?_
  rintro e w2 ⟨hb, hno, hyes⟩
  have HB2 := Lib.hid (HB1.out.trans (hb.mono HB1.out.size))
  have HX2 := Lib.hid ((hb.block w.heap.size ((Array.getElem?_eq_some_iff.1 HX1.out).1)).trans HX1.out)
  have HS12 := Lib.hid hb.size
  clear hb z0 z1 z2 z3 z4 gr
  cases ht : textB d.text with
  | false =>
    obtain rfl := hno ht
    have HR := Lib.hid (show mayO d = false by rw [HE.out, ht]; simp)
    clear ht hno hyes
    go_wp2
    go_ret
    exact ⟨ret_bool HR.out.symm, HB2.out⟩
  | true =>
  obtain ⟨A6, c6, rfl, hrow⟩ := hyes ht
  have HRow := Lib.hid hrow
  have HTx := Lib.hid ht
  obtain ⟨⟨z0, z1, z2, z3, z4⟩, gr⟩ := row_cells5 HX2.out
  clear ht hno hyes hrow
  go_wp2_with fail
  refine (look_any A1 A2 A3 A4 A5 A6 _ _ _ _ _ _ c1 c2 c3 c4 c5 c6 w2).mono ?_
  rintro e w3 ⟨b, hb2, rfl, hK, hb⟩
  have HB3 := Lib.hid (HB2.out.trans (hb.mono HB2.out.size))
  have HS23 := Lib.hid hb.size
  have hR := right_any d HWd.out ⟨HF.out.1, HF.out.2.1, HF.out.2.2.1, HF.out.2.2.2.1, HF.out.2.2.2.2⟩ (opsL_mem HTx.out) w w3 HT.out HB3.out lo hi HHi.out b (by have := HB2.out.size; omega) A1 A2 A3 A4 A5 A6 c1 c2 c3 c4 c5 c6 es H3.out H4.out H5.out H6.out w1.heap.size w2.heap.size (HRow.out.move (Nat.le_refl _) (Nat.le_refl _) (fun bb g1 g2 => hb.block bb g2)) hb.size hb2 hK
  rw [opsL_len] at hR
  have HRt := Lib.hid hR
  have HBb := Lib.hid (show w.heap.size ≤ b by have := HB2.out.size; omega)
  clear hb hK hR hb2 z0 z1 z2 z3 z4 gr
  go_wp2_with fail
  refine HRt.out.mono ?_
  rintro e w4 ⟨rfl, hm⟩
  have HB4 := Lib.hid (MapOut.below HB3.out hm HBb.out)
  have HR := Lib.hid (show mayO d = rightB d by rw [HE.out, HFe.out, HTx.out]; rfl)
  clear hm
  go_wp2
  go_ret
  exact ⟨ret_bool HR.out.symm, HB4.out⟩
end Go.Proofs.YtfdpbogbnfkilaaDoor
