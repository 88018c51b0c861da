/- The walk of the statement ObjSame. Condition: the tables of package ins read as they should. -/
import Derived.Test.YtfdpbogbnfkilaaDoorObjAwk
import Derived.Test.YtfdpbogbnfkilaaDoorObjOpen
import Derived.Test.YtfdpbogbnfkilaaDoorObjSmall
import Derived.Test.YtfdpbogbnfkilaaDoorInsLays
namespace Go.Proofs.YtfdpbogbnfkilaaDoor.ObjSameWalk
set_option maxRecDepth 100000
open Go.RowKit
set_option linter.unusedVariables false
set_option maxHeartbeats 4000000 in
theorem walk (v0 : Value) (d0 : ObjD) (v1 : Value) (d1 : ObjD) (s2 : ByteArray) (w : World) (hO0 : ObjAt w 0 w.heap.size d0 v0) (hW0 : ObjW d0) (hL0 : ObjL d0) (hO1 : ObjAt w 0 w.heap.size d1 v1) (hW1 : ObjW d1) (hL1 : ObjL d1) (w2 : s2.size ≤ maxLen) (hT : Tabs w) :
    Calls Tryd.prog 3 #[v0, v1, .string s2] w fun e w' => e = .returned (.bool true) ∧ Below w.heap.size w w' := by
  have hO0' := hO0
  have hO1' := hO1
  obtain ⟨A1, c1, A2, c2, A3, c3, A4, c4, A5, c5, es, rfl, _⟩ := hO0'
  obtain ⟨B1, e1, B2, e2, B3, e3, B4, e4, B5, e5, fs, rfl, _⟩ := hO1'
  have hX0 : ((w.alloc (.cells #[.slice A1 d0.text.length c1, .slice A2 d0.data.length c2, .slice A3 d0.syms.length c3, .slice A4 d0.rels.length c4, .slice A5 d0.ents.length c5] 28)).alloc (.cells #[.slice B1 d1.text.length e1, .slice B2 d1.data.length e2, .slice B3 d1.syms.length e3, .slice B4 d1.rels.length e4, .slice B5 d1.ents.length e5] 28)).heap[w.heap.size]? = some (.cells #[.slice A1 d0.text.length c1, .slice A2 d0.data.length c2, .slice A3 d0.syms.length c3, .slice A4 d0.rels.length c4, .slice A5 d0.ents.length c5] 28 (0, 0)) := by exact (heap_alloc_old _ _ (by simp)).trans (heap_alloc_new w _)
  have hY0 : ((w.alloc (.cells #[.slice A1 d0.text.length c1, .slice A2 d0.data.length c2, .slice A3 d0.syms.length c3, .slice A4 d0.rels.length c4, .slice A5 d0.ents.length c5] 28)).alloc (.cells #[.slice B1 d1.text.length e1, .slice B2 d1.data.length e2, .slice B3 d1.syms.length e3, .slice B4 d1.rels.length e4, .slice B5 d1.ents.length e5] 28)).heap[w.heap.size + 1]? = some (.cells #[.slice B1 d1.text.length e1, .slice B2 d1.data.length e2, .slice B3 d1.syms.length e3, .slice B4 d1.rels.length e4, .slice B5 d1.ents.length e5] 28 (0, 0)) := by have h := heap_alloc_new (w.alloc (.cells #[.slice A1 d0.text.length c1, .slice A2 d0.data.length c2, .slice A3 d0.syms.length c3, .slice A4 d0.rels.length c4, .slice A5 d0.ents.length c5] 28)) (.cells #[.slice B1 d1.text.length e1, .slice B2 d1.data.length e2, .slice B3 d1.syms.length e3, .slice B4 d1.rels.length e4, .slice B5 d1.ents.length e5] 28); simpa using h
  have HR0 := Lib.hid (show BxR w (.slice A1 d0.text.length c1) (.slice A2 d0.data.length c2) (.slice A3 d0.syms.length c3) (.slice A4 d0.rels.length c4) (.slice A5 d0.ents.length c5) (.slice B1 d1.text.length e1) (.slice B2 d1.data.length e2) (.slice B3 d1.syms.length e3) (.slice B4 d1.rels.length e4) (.slice B5 d1.ents.length e5) ((w.alloc (.cells #[.slice A1 d0.text.length c1, .slice A2 d0.data.length c2, .slice A3 d0.syms.length c3, .slice A4 d0.rels.length c4, .slice A5 d0.ents.length c5] 28)).alloc (.cells #[.slice B1 d1.text.length e1, .slice B2 d1.data.length e2, .slice B3 d1.syms.length e3, .slice B4 d1.rels.length e4, .slice B5 d1.ents.length e5] 28)) from ⟨hX0, hY0, ((Below.refl w.heap.size w).alloc (Nat.le_refl _) (.cells #[.slice A1 d0.text.length c1, .slice A2 d0.data.length c2, .slice A3 d0.syms.length c3, .slice A4 d0.rels.length c4, .slice A5 d0.ents.length c5] 28)).alloc (by simp) (.cells #[.slice B1 d1.text.length e1, .slice B2 d1.data.length e2, .slice B3 d1.syms.length e3, .slice B4 d1.rels.length e4, .slice B5 d1.ents.length e5] 28)⟩)
  have HO0 := Lib.hid hO0
  have HW0 := Lib.hid hW0
  have HL0 := Lib.hid hL0
  have HO1 := Lib.hid hO1
  have HW1 := Lib.hid hW1
  have HL1 := Lib.hid hL1
  have HT := Lib.hid hT
  have HMv := Lib.hid (show ∀ (w' w'' : World), BxR w (.slice A1 d0.text.length c1) (.slice A2 d0.data.length c2) (.slice A3 d0.syms.length c3) (.slice A4 d0.rels.length c4) (.slice A5 d0.ents.length c5) (.slice B1 d1.text.length e1) (.slice B2 d1.data.length e2) (.slice B3 d1.syms.length e3) (.slice B4 d1.rels.length e4) (.slice B5 d1.ents.length e5) w' → Below w'.heap.size w' w'' → BxR w (.slice A1 d0.text.length c1) (.slice A2 d0.data.length c2) (.slice A3 d0.syms.length c3) (.slice A4 d0.rels.length c4) (.slice A5 d0.ents.length c5) (.slice B1 d1.text.length e1) (.slice B2 d1.data.length e2) (.slice B3 d1.syms.length e3) (.slice B4 d1.rels.length e4) (.slice B5 d1.ents.length e5) w'' from fun w' w'' h hb => ⟨(hb.block _ (Array.getElem?_eq_some_iff.1 h.1).1).trans h.1, (hb.block _ (Array.getElem?_eq_some_iff.1 h.2.1).1).trans h.2.1, h.2.2.trans (hb.mono h.2.2.size)⟩)
  have HOb0 := Lib.hid (show ∀ (w' : World), BxR w (.slice A1 d0.text.length c1) (.slice A2 d0.data.length c2) (.slice A3 d0.syms.length c3) (.slice A4 d0.rels.length c4) (.slice A5 d0.ents.length c5) (.slice B1 d1.text.length e1) (.slice B2 d1.data.length e2) (.slice B3 d1.syms.length e3) (.slice B4 d1.rels.length e4) (.slice B5 d1.ents.length e5) w' → ObjAt w' 0 w.heap.size d0 _ from fun w' h => hO0.move (Nat.le_refl _) (Nat.le_refl _) (fun b g1 g2 => h.2.2.block b g2))
  have HOb1 := Lib.hid (show ∀ (w' : World), BxR w (.slice A1 d0.text.length c1) (.slice A2 d0.data.length c2) (.slice A3 d0.syms.length c3) (.slice A4 d0.rels.length c4) (.slice A5 d0.ents.length c5) (.slice B1 d1.text.length e1) (.slice B2 d1.data.length e2) (.slice B3 d1.syms.length e3) (.slice B4 d1.rels.length e4) (.slice B5 d1.ents.length e5) w' → ObjAt w' 0 w.heap.size d1 _ from fun w' h => hO1.move (Nat.le_refl _) (Nat.le_refl _) (fun b g1 g2 => h.2.2.block b g2))
  clear hO0 hW0 hL0 hO1 hW1 hL1 hT hX0 hY0
  go_enter Tryd.func3, Tryd.ntmps3
  go_wp2_with fail
  refine (awake_any _ (HT.out.below HR0.out.2.2)).mono ?_
  rintro e wa ⟨rfl, hb⟩
  have HRa := Lib.hid (HMv.out _ _ HR0.out hb)
  clear hb HR0
  obtain ⟨⟨x0, x1, x2, x3, x4⟩, _⟩ := row_cells5 HRa.out.1
  go_wp2_with fail
  refine (rsmall_any d0 _ _ _ wa (HOb0.out _ HRa.out) HRa.out.2.2.size HL0.out).mono ?_
  rintro e ws ⟨⟨s, rfl⟩, hb⟩
  have HRs := Lib.hid (HMv.out _ _ HRa.out hb)
  clear hb x0 x1 x2 x3 x4 HRa
  cases s
  case false =>
    go_wp2
    go_ret
    exact ⟨rfl, HRs.out.2.2⟩
  obtain ⟨⟨x0, x1, x2, x3, x4⟩, _⟩ := row_cells5 HRs.out.2.1
  go_wp2_with fail
  refine (rsmall_any d1 _ _ _ ws (HOb1.out _ HRs.out) HRs.out.2.2.size HL1.out).mono ?_
  rintro e wt ⟨⟨s, rfl⟩, hb⟩
  have HRt := Lib.hid (HMv.out _ _ HRs.out hb)
  clear hb x0 x1 x2 x3 x4 HRs
  cases s
  case false =>
    go_wp2
    go_ret
    exact ⟨rfl, HRt.out.2.2⟩
  have hS : ExS w (.slice A1 d0.text.length c1) (.slice A2 d0.data.length c2) (.slice A3 d0.syms.length c3) (.slice A4 d0.rels.length c4) (.slice A5 d0.ents.length c5) (.slice B1 d1.text.length e1) (.slice B2 d1.data.length e2) (.slice B3 d1.syms.length e3) (.slice B4 d1.rels.length e4) (.slice B5 d1.ents.length e5) wt := exS_of HRt.out
  have HC := Lib.hid (show ∀ (w' : World), ExS w (.slice A1 d0.text.length c1) (.slice A2 d0.data.length c2) (.slice A3 d0.syms.length c3) (.slice A4 d0.rels.length c4) (.slice A5 d0.ents.length c5) (.slice B1 d1.text.length e1) (.slice B2 d1.data.length e2) (.slice B3 d1.syms.length e3) (.slice B4 d1.rels.length e4) (.slice B5 d1.ents.length e5) w' → Calls Tryd.prog 14 #[.agg #[.slice A1 d0.text.length c1, .slice A2 d0.data.length c2, .slice A3 d0.syms.length c3, .slice A4 d0.rels.length c4, .slice A5 d0.ents.length c5], .agg #[.slice B1 d1.text.length e1, .slice B2 d1.data.length e2, .slice B3 d1.syms.length e3, .slice B4 d1.rels.length e4, .slice B5 d1.ents.length e5]] w' (fun e w'' => e = .returned (.bool (sameD d0 d1)) ∧ Below w'.heap.size w' w'') from fun w' h => same_obj d0 d1 _ _ _ _ _ _ w' (HOb0.out _ h.2) (HOb1.out _ h.2) h.2.2.2.size h.2.2.2.size HL0.out HL1.out)
  have HCr := Lib.hid (show ∀ (w' : World), ExS w (.slice A1 d0.text.length c1) (.slice A2 d0.data.length c2) (.slice A3 d0.syms.length c3) (.slice A4 d0.rels.length c4) (.slice A5 d0.ents.length c5) (.slice B1 d1.text.length e1) (.slice B2 d1.data.length e2) (.slice B3 d1.syms.length e3) (.slice B4 d1.rels.length e4) (.slice B5 d1.ents.length e5) w' → Calls Tryd.prog 15 #[.agg #[.slice A1 d0.text.length c1, .slice A2 d0.data.length c2, .slice A3 d0.syms.length c3, .slice A4 d0.rels.length c4, .slice A5 d0.ents.length c5], .agg #[.slice B1 d1.text.length e1, .slice B2 d1.data.length e2, .slice B3 d1.syms.length e3, .slice B4 d1.rels.length e4, .slice B5 d1.ents.length e5]] w' (fun e w'' => e = .returned (.bool (sameD d0 d1)) ∧ Below w'.heap.size w' w'') from fun w' h => rsame_any d0 d1 _ _ _ _ _ _ w' (HOb0.out _ h.2) (HOb1.out _ h.2) h.2.2.2.size h.2.2.2.size HL0.out HL1.out)
  have HCs := Lib.hid (show ∀ (w' : World), ExS w (.slice A1 d0.text.length c1) (.slice A2 d0.data.length c2) (.slice A3 d0.syms.length c3) (.slice A4 d0.rels.length c4) (.slice A5 d0.ents.length c5) (.slice B1 d1.text.length e1) (.slice B2 d1.data.length e2) (.slice B3 d1.syms.length e3) (.slice B4 d1.rels.length e4) (.slice B5 d1.ents.length e5) w' → Calls Tryd.prog 14 #[.agg #[.slice A1 d0.text.length c1, .slice A2 d0.data.length c2, .slice A3 d0.syms.length c3, .slice A4 d0.rels.length c4, .slice A5 d0.ents.length c5], .agg #[.slice A1 d0.text.length c1, .slice A2 d0.data.length c2, .slice A3 d0.syms.length c3, .slice A4 d0.rels.length c4, .slice A5 d0.ents.length c5]] w' (fun e w'' => e = .returned (.bool true) ∧ Below w'.heap.size w' w'') from fun w' h => by
    have hx := same_obj d0 d0 _ _ _ _ _ _ w' (HOb0.out _ h.2) (HOb0.out _ h.2) h.2.2.2.size h.2.2.2.size HL0.out HL0.out
    rw [sameD_iff.2 rfl] at hx
    exact hx)
  have HN1 := Lib.hid (name_any s2)
  have HN2 := Lib.hid (rname_any s2)
  generalize hb1 : sameD d0 d1 = sb at *
  generalize hb2 : nameB (sB s2) = nb at *
  go_wp2
  go_region_held3 (fun w' => ExS w (.slice A1 d0.text.length c1) (.slice A2 d0.data.length c2) (.slice A3 d0.syms.length c3) (.slice A4 d0.rels.length c4) (.slice A5 d0.ents.length c5) (.slice B1 d1.text.length e1) (.slice B2 d1.data.length e2) (.slice B3 d1.syms.length e3) (.slice B4 d1.rels.length e4) (.slice B5 d1.ents.length e5) w') (first | (with_reducible assumption) | ((with_reducible apply exS_drew); (with_reducible assumption)) | ((with_reducible apply exS_drewN); (with_reducible assumption)) | ((with_reducible apply exS_below); (with_reducible assumption); (with_reducible assumption)))
    (first
    | (go_at_call 14; (with_reducible refine (HC.out _ ?hm).mono ?_); (case hm => (first | (with_reducible assumption) | ((with_reducible apply exS_drew); (with_reducible assumption)) | ((with_reducible apply exS_drewN); (with_reducible assumption)))); rintro e w' ⟨rfl, hb⟩)
    | (go_at_call 14; (with_reducible refine (HCs.out _ ?hm).mono ?_); (case hm => (first | (with_reducible assumption) | ((with_reducible apply exS_drew); (with_reducible assumption)) | ((with_reducible apply exS_drewN); (with_reducible assumption)))); rintro e w' ⟨rfl, hb⟩)
    | (go_at_call 15; (with_reducible refine (HCr.out _ ?hm).mono ?_); (case hm => (first | (with_reducible assumption) | ((with_reducible apply exS_drew); (with_reducible assumption)) | ((with_reducible apply exS_drewN); (with_reducible assumption)))); rintro e w' ⟨rfl, hb⟩)
    | (go_at_call 16; (with_reducible refine (HN1.out _).mono ?_); rintro e w' ⟨rfl, rfl⟩)
    | (go_at_call 17; (with_reducible refine (HN2.out _).mono ?_); rintro e w' ⟨rfl, rfl⟩))
  all_goals
    rename_i hhx
    have HHx := Lib.hid hhx.2
    clear hhx hS
    go_wp2
    go_ret
    exact ⟨ret_bool (by simp), HHx.out.2.2⟩
end Go.Proofs.YtfdpbogbnfkilaaDoor.ObjSameWalk
