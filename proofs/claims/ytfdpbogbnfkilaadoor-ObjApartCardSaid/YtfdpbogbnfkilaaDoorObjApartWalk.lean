/- The walk of the statement ObjApart. Condition: the tables of package ins read as they should. -/
import Derived.Test.YtfdpbogbnfkilaaDoorObjAwk
import Derived.Test.YtfdpbogbnfkilaaDoorObjOpen
import Derived.Test.YtfdpbogbnfkilaaDoorObjSmall
import Derived.Test.YtfdpbogbnfkilaaDoorInsLays
namespace Go.Proofs.YtfdpbogbnfkilaaDoor.ObjApartWalk
set_option maxRecDepth 100000
open Go.RowKit
set_option linter.unusedVariables false
theorem sl_of_slB {w : World} {hi : Nat} {A : Option Addr} {l : List Int} (h : SlB w hi A l) : Sl w A l := by
  rcases h with h | ⟨b, off, e, _, hc⟩
  · exact .inl h
  · exact .inr ⟨b, off, e, hc⟩
theorem slB_below {w w' : World} {A : Option Addr} {l : List Int} (h : SlB w w.heap.size A l) (hb : Below w.heap.size w w') : SlB w' w'.heap.size A l := by
  rcases h with rfl | ⟨b, off, rfl, h1, hc⟩
  · exact .inl rfl
  · exact .inr ⟨b, off, rfl, by have := hb.size; omega, fun k hk => by rw [World.cell?_of_block (hb.block b h1)]; exact hc k hk⟩
/-- two rows of bytes that lie -/
structure Rows2 (X Y : Option Addr) (l m : List Int) (w : World) : Prop where
  x : SlB w w.heap.size X l
  y : SlB w w.heap.size Y m
  hx : AllB l
  hy : AllB m
abbrev ApS (w0 : World) (v0 v1 v2 v3 v4 u0 u1 u2 u3 u4 : Value) (X Y : Option Addr) (n m cx cy : Nat) (l r : List Int) (w : World) : Prop :=
  (Two5 w w0.heap.size v0 v1 v2 v3 v4 u0 u1 u2 u3 u4 ∧ (convert 35 9 (.slice X n cx)).run Tryd.prog w = .ok (.string (toBA l)) w ∧ (convert 35 9 (.slice Y m cy)).run Tryd.prog w = .ok (.string (toBA r)) w) ∧ (BxR w0 v0 v1 v2 v3 v4 u0 u1 u2 u3 u4 w ∧ Rows2 X Y l r w ∧ l.length = n ∧ r.length = m)
section
variable {w0 w w' : World} {v0 v1 v2 v3 v4 u0 u1 u2 u3 u4 : Value} {X Y : Option Addr} {n m cx cy : Nat} {l r : List Int}
theorem apS_of (h : BxR w0 v0 v1 v2 v3 v4 u0 u1 u2 u3 u4 w) (hr : Rows2 X Y l r w) (hn : l.length = n) (hm : r.length = m) : ApS w0 v0 v1 v2 v3 v4 u0 u1 u2 u3 u4 X Y n m cx cy l r w :=
  ⟨⟨⟨(row_cells5 h.1).1, (row_cells5 h.2.1).1⟩, str_sl (sl_of_slB hr.x) hn hr.hx, str_sl (sl_of_slB hr.y) hm hr.hy⟩, h, hr, hn, hm⟩
theorem apS_below (h : ApS w0 v0 v1 v2 v3 v4 u0 u1 u2 u3 u4 X Y n m cx cy l r w) (hb : Below w.heap.size w w') : ApS w0 v0 v1 v2 v3 v4 u0 u1 u2 u3 u4 X Y n m cx cy l r w' := by
  obtain ⟨_, ⟨h1, h2, h3⟩, hr, hn, hm⟩ := h
  exact apS_of ⟨(hb.block _ (Array.getElem?_eq_some_iff.1 h1).1).trans h1, (hb.block _ (Array.getElem?_eq_some_iff.1 h2).1).trans h2, h3.trans (hb.mono h3.size)⟩ ⟨slB_below hr.x hb, slB_below hr.y hb, hr.hx, hr.hy⟩ hn hm
theorem apS_drew (h : ApS w0 v0 v1 v2 v3 v4 u0 u1 u2 u3 u4 X Y n m cx cy l r w) : ApS w0 v0 v1 v2 v3 v4 u0 u1 u2 u3 u4 X Y n m cx cy l r w.drew := apS_below h (Below.drew (Below.refl _ _))
theorem apS_drewN (h : ApS w0 v0 v1 v2 v3 v4 u0 u1 u2 u3 u4 X Y n m cx cy l r w) (k : Nat) : ApS w0 v0 v1 v2 v3 v4 u0 u1 u2 u3 u4 X Y n m cx cy l r (w.drewN k) := apS_below h (belq (Below.refl _ _) k)
end
theorem same_bytes {d0 d1 : ObjD} (hW0 : ObjW d0) (hW1 : ObjW d1) (m0 : mayO d0 = true) (m1 : mayO d1 = true) : (((toBA (encB d0)).toList == (toBA (encB d1)).toList) == sameD d0 d1) = true := by
  rw [beq_str, beq_iff_eq]
  cases hs : sameD d0 d1 with
  | true => rw [sameD_iff.1 hs]; simp
  | false =>
    rw [decide_eq_false_iff_not]
    intro e
    have h1 : encB d0 = encB d1 := by rw [← sB_toBA (encB_all d0), ← sB_toBA (encB_all d1), e]
    have := enc_inj hW0 hW1 m0 m1 h1
    subst this
    rw [sameD_iff.2 rfl] at hs
    cases hs
set_option maxHeartbeats 4000000 in
theorem walk (v0 : Value) (d0 : ObjD) (v1 : Value) (d1 : ObjD) (w : World) (hO0 : ObjAt w 0 w.heap.size d0 v0) (hW0 : ObjW d0) (hL0 : ObjL d0) (hO1 : ObjAt w 0 w.heap.size d1 v1) (hW1 : ObjW d1) (hL1 : ObjL d1) (hT : Tabs w) :
    Calls Tryd.prog 5 #[v0, v1] w fun e w' => e = .returned (.bool true) ∧ Below w.heap.size w w' := by
  have hO0' := hO0
  have hO1' := hO1
  obtain ⟨A1, c1, A2, c2, A3, c3, A4, c4, A5, c5, es, rfl, _⟩ := hO0'
  obtain ⟨B1, e1, B2, e2, B3, e3, B4, e4, B5, e5, fs, rfl, _⟩ := hO1'
  have hX0 : ((w.alloc (.cells #[.slice A1 d0.text.length c1, .slice A2 d0.data.length c2, .slice A3 d0.syms.length c3, .slice A4 d0.rels.length c4, .slice A5 d0.ents.length c5] 28)).alloc (.cells #[.slice B1 d1.text.length e1, .slice B2 d1.data.length e2, .slice B3 d1.syms.length e3, .slice B4 d1.rels.length e4, .slice B5 d1.ents.length e5] 28)).heap[w.heap.size]? = some (.cells #[.slice A1 d0.text.length c1, .slice A2 d0.data.length c2, .slice A3 d0.syms.length c3, .slice A4 d0.rels.length c4, .slice A5 d0.ents.length c5] 28 (0, 0)) := by exact (heap_alloc_old _ _ (by simp)).trans (heap_alloc_new w _)
  have hY0 : ((w.alloc (.cells #[.slice A1 d0.text.length c1, .slice A2 d0.data.length c2, .slice A3 d0.syms.length c3, .slice A4 d0.rels.length c4, .slice A5 d0.ents.length c5] 28)).alloc (.cells #[.slice B1 d1.text.length e1, .slice B2 d1.data.length e2, .slice B3 d1.syms.length e3, .slice B4 d1.rels.length e4, .slice B5 d1.ents.length e5] 28)).heap[w.heap.size + 1]? = some (.cells #[.slice B1 d1.text.length e1, .slice B2 d1.data.length e2, .slice B3 d1.syms.length e3, .slice B4 d1.rels.length e4, .slice B5 d1.ents.length e5] 28 (0, 0)) := by have h := heap_alloc_new (w.alloc (.cells #[.slice A1 d0.text.length c1, .slice A2 d0.data.length c2, .slice A3 d0.syms.length c3, .slice A4 d0.rels.length c4, .slice A5 d0.ents.length c5] 28)) (.cells #[.slice B1 d1.text.length e1, .slice B2 d1.data.length e2, .slice B3 d1.syms.length e3, .slice B4 d1.rels.length e4, .slice B5 d1.ents.length e5] 28); simpa using h
  have HR0 := Lib.hid (show BxR w (.slice A1 d0.text.length c1) (.slice A2 d0.data.length c2) (.slice A3 d0.syms.length c3) (.slice A4 d0.rels.length c4) (.slice A5 d0.ents.length c5) (.slice B1 d1.text.length e1) (.slice B2 d1.data.length e2) (.slice B3 d1.syms.length e3) (.slice B4 d1.rels.length e4) (.slice B5 d1.ents.length e5) ((w.alloc (.cells #[.slice A1 d0.text.length c1, .slice A2 d0.data.length c2, .slice A3 d0.syms.length c3, .slice A4 d0.rels.length c4, .slice A5 d0.ents.length c5] 28)).alloc (.cells #[.slice B1 d1.text.length e1, .slice B2 d1.data.length e2, .slice B3 d1.syms.length e3, .slice B4 d1.rels.length e4, .slice B5 d1.ents.length e5] 28)) from ⟨hX0, hY0, ((Below.refl w.heap.size w).alloc (Nat.le_refl _) (.cells #[.slice A1 d0.text.length c1, .slice A2 d0.data.length c2, .slice A3 d0.syms.length c3, .slice A4 d0.rels.length c4, .slice A5 d0.ents.length c5] 28)).alloc (by simp) (.cells #[.slice B1 d1.text.length e1, .slice B2 d1.data.length e2, .slice B3 d1.syms.length e3, .slice B4 d1.rels.length e4, .slice B5 d1.ents.length e5] 28)⟩)
  have HO0 := Lib.hid hO0
  have HW0 := Lib.hid hW0
  have HL0 := Lib.hid hL0
  have HO1 := Lib.hid hO1
  have HW1 := Lib.hid hW1
  have HL1 := Lib.hid hL1
  have HT := Lib.hid hT
  have HMv := Lib.hid (show ∀ (w' w'' : World), BxR w (.slice A1 d0.text.length c1) (.slice A2 d0.data.length c2) (.slice A3 d0.syms.length c3) (.slice A4 d0.rels.length c4) (.slice A5 d0.ents.length c5) (.slice B1 d1.text.length e1) (.slice B2 d1.data.length e2) (.slice B3 d1.syms.length e3) (.slice B4 d1.rels.length e4) (.slice B5 d1.ents.length e5) w' → Below w'.heap.size w' w'' → BxR w (.slice A1 d0.text.length c1) (.slice A2 d0.data.length c2) (.slice A3 d0.syms.length c3) (.slice A4 d0.rels.length c4) (.slice A5 d0.ents.length c5) (.slice B1 d1.text.length e1) (.slice B2 d1.data.length e2) (.slice B3 d1.syms.length e3) (.slice B4 d1.rels.length e4) (.slice B5 d1.ents.length e5) w'' from fun w' w'' h hb => ⟨(hb.block _ (Array.getElem?_eq_some_iff.1 h.1).1).trans h.1, (hb.block _ (Array.getElem?_eq_some_iff.1 h.2.1).1).trans h.2.1, h.2.2.trans (hb.mono h.2.2.size)⟩)
  have HOb0 := Lib.hid (show ∀ (w' : World), BxR w (.slice A1 d0.text.length c1) (.slice A2 d0.data.length c2) (.slice A3 d0.syms.length c3) (.slice A4 d0.rels.length c4) (.slice A5 d0.ents.length c5) (.slice B1 d1.text.length e1) (.slice B2 d1.data.length e2) (.slice B3 d1.syms.length e3) (.slice B4 d1.rels.length e4) (.slice B5 d1.ents.length e5) w' → ObjAt w' 0 w.heap.size d0 _ from fun w' h => hO0.move (Nat.le_refl _) (Nat.le_refl _) (fun b g1 g2 => h.2.2.block b g2))
  have HOb1 := Lib.hid (show ∀ (w' : World), BxR w (.slice A1 d0.text.length c1) (.slice A2 d0.data.length c2) (.slice A3 d0.syms.length c3) (.slice A4 d0.rels.length c4) (.slice A5 d0.ents.length c5) (.slice B1 d1.text.length e1) (.slice B2 d1.data.length e2) (.slice B3 d1.syms.length e3) (.slice B4 d1.rels.length e4) (.slice B5 d1.ents.length e5) w' → ObjAt w' 0 w.heap.size d1 _ from fun w' h => hO1.move (Nat.le_refl _) (Nat.le_refl _) (fun b g1 g2 => h.2.2.block b g2))
  clear hO0 hW0 hL0 hO1 hW1 hL1 hT hX0 hY0
  go_enter Tryd.func5, Tryd.ntmps5
  go_wp2_with fail
  refine (awake_any _ (HT.out.below HR0.out.2.2)).mono ?_
  rintro e wa ⟨rfl, hb⟩
  have HRa := Lib.hid (HMv.out _ _ HR0.out hb)
  clear hb HR0
  obtain ⟨⟨x0, x1, x2, x3, x4⟩, _⟩ := row_cells5 HRa.out.1
  go_wp2_with fail
  refine (rsmall_any d0 _ _ _ wa (HOb0.out _ HRa.out) HRa.out.2.2.size HL0.out).mono ?_
  rintro e ws ⟨⟨s, rfl⟩, hb⟩
  have HRs := Lib.hid (HMv.out _ _ HRa.out hb)
  clear hb x0 x1 x2 x3 x4 HRa
  cases s
  case false =>
    go_wp2
    go_ret
    exact ⟨rfl, HRs.out.2.2⟩
  obtain ⟨⟨x0, x1, x2, x3, x4⟩, _⟩ := row_cells5 HRs.out.2.1
  go_wp2_with fail
  refine (rsmall_any d1 _ _ _ ws (HOb1.out _ HRs.out) HRs.out.2.2.size HL1.out).mono ?_
  rintro e wt ⟨⟨s, rfl⟩, hb⟩
  have HRt := Lib.hid (HMv.out _ _ HRs.out hb)
  clear hb x0 x1 x2 x3 x4 HRs
  cases s
  case false =>
    go_wp2
    go_ret
    exact ⟨rfl, HRt.out.2.2⟩
  obtain ⟨⟨x0, x1, x2, x3, x4⟩, _⟩ := row_cells5 HRt.out.1
  go_wp2_with fail
  refine (enc_any d0 HW0.out _ _ _ wt (HT.out.below HRt.out.2.2) (HOb0.out _ HRt.out) HRt.out.2.2.size).mono ?_
  rintro e wx ⟨hb, hno, hyes⟩
  have HRx := Lib.hid (HMv.out _ _ HRt.out hb)
  clear hb x0 x1 x2 x3 x4 HRt
  obtain ⟨⟨x0, x1, x2, x3, x4⟩, _⟩ := row_cells5 HRx.out.2.1
  cases hm : mayO d0
  case false =>
    obtain rfl := hno hm
    clear hno hyes hm
    go_wp2_with fail
    refine (enc_any d1 HW1.out _ _ _ wx (HT.out.below HRx.out.2.2) (HOb1.out _ HRx.out) HRx.out.2.2.size).mono ?_
    rintro e wy ⟨hb, hno, hyes⟩
    have HRy := Lib.hid (HMv.out _ _ HRx.out hb)
    clear hb x0 x1 x2 x3 x4
    cases hm : mayO d1
    case false =>
      obtain rfl := hno hm
      clear hno hyes hm
      go_wp2
      go_ret
      exact ⟨rfl, HRy.out.2.2⟩
    case true =>
      obtain ⟨A, c, rfl, _⟩ := hyes hm
      clear hno hyes hm
      go_wp2
      go_ret
      exact ⟨rfl, HRy.out.2.2⟩
  obtain ⟨X, cx, rfl, hs, _⟩ := hyes hm
  have HM0 := Lib.hid hm
  have HS0 := Lib.hid hs
  obtain ⟨n, hn⟩ : ∃ n, (encB d0).length = n := ⟨_, rfl⟩
  have HN0 := Lib.hid hn
  rw [hn]
  clear hno hyes hm hs hn
  go_wp2_with fail
  refine (enc_any d1 HW1.out _ _ _ wx (HT.out.below HRx.out.2.2) (HOb1.out _ HRx.out) HRx.out.2.2.size).mono ?_
  rintro e wy ⟨hb, hno, hyes⟩
  have HRy := Lib.hid (HMv.out _ _ HRx.out hb)
  have HS0y := Lib.hid (slB_below HS0.out hb)
  clear hb x0 x1 x2 x3 x4 HRx
  cases hm : mayO d1
  case false =>
    obtain rfl := hno hm
    clear hno hyes hm
    go_wp2
    go_ret
    exact ⟨rfl, HRy.out.2.2⟩
  obtain ⟨Y, cy, rfl, hs, _⟩ := hyes hm
  have HM1 := Lib.hid hm
  have HR2 := Lib.hid (show Rows2 X Y (encB d0) (encB d1) wy from ⟨HS0y.out, hs, encB_all _, encB_all _⟩)
  obtain ⟨m, hn⟩ : ∃ n, (encB d1).length = n := ⟨_, rfl⟩
  have HN1 := Lib.hid hn
  rw [hn]
  clear hno hyes hm hs hn
  have HRes := Lib.hid (same_bytes HW0.out HW1.out HM0.out HM1.out)
  have hS : ApS w (.slice A1 d0.text.length c1) (.slice A2 d0.data.length c2) (.slice A3 d0.syms.length c3) (.slice A4 d0.rels.length c4) (.slice A5 d0.ents.length c5) (.slice B1 d1.text.length e1) (.slice B2 d1.data.length e2) (.slice B3 d1.syms.length e3) (.slice B4 d1.rels.length e4) (.slice B5 d1.ents.length e5) X Y n m cx cy (encB d0) (encB d1) wy := apS_of HRy.out HR2.out HN0.out HN1.out
  have HC := Lib.hid (show ∀ (w' : World), ApS w (.slice A1 d0.text.length c1) (.slice A2 d0.data.length c2) (.slice A3 d0.syms.length c3) (.slice A4 d0.rels.length c4) (.slice A5 d0.ents.length c5) (.slice B1 d1.text.length e1) (.slice B2 d1.data.length e2) (.slice B3 d1.syms.length e3) (.slice B4 d1.rels.length e4) (.slice B5 d1.ents.length e5) X Y n m cx cy (encB d0) (encB d1) w' → Calls Tryd.prog 14 #[.agg #[.slice A1 d0.text.length c1, .slice A2 d0.data.length c2, .slice A3 d0.syms.length c3, .slice A4 d0.rels.length c4, .slice A5 d0.ents.length c5], .agg #[.slice B1 d1.text.length e1, .slice B2 d1.data.length e2, .slice B3 d1.syms.length e3, .slice B4 d1.rels.length e4, .slice B5 d1.ents.length e5]] w' (fun e w'' => e = .returned (.bool (sameD d0 d1)) ∧ Below w'.heap.size w' w'') from fun w' h => same_obj d0 d1 _ _ _ _ _ _ w' (HOb0.out _ h.2.1) (HOb1.out _ h.2.1) h.2.1.2.2.size h.2.1.2.2.size HL0.out HL1.out)
  generalize hb1 : sameD d0 d1 = sb at *
  generalize hl0 : encB d0 = l0 at *
  generalize hl1 : encB d1 = l1 at *
  go_wp2
  go_region_held3 (fun w' => ApS w (.slice A1 d0.text.length c1) (.slice A2 d0.data.length c2) (.slice A3 d0.syms.length c3) (.slice A4 d0.rels.length c4) (.slice A5 d0.ents.length c5) (.slice B1 d1.text.length e1) (.slice B2 d1.data.length e2) (.slice B3 d1.syms.length e3) (.slice B4 d1.rels.length e4) (.slice B5 d1.ents.length e5) X Y n m cx cy l0 l1 w') (first | (with_reducible assumption) | ((with_reducible apply apS_drew); (with_reducible assumption)) | ((with_reducible apply apS_drewN); (with_reducible assumption)) | ((with_reducible apply apS_below); (with_reducible assumption); (with_reducible assumption)))
    (first | (go_at_call 14; (with_reducible refine (HC.out _ ?hm).mono ?_); (case hm => (first | (with_reducible assumption) | ((with_reducible apply apS_drew); (with_reducible assumption)) | ((with_reducible apply apS_drewN); (with_reducible assumption)))); rintro e w' ⟨rfl, hb⟩))
  all_goals
    rename_i hhx
    have HHx := Lib.hid hhx.2.1
    clear hhx hS
    go_wp2
    go_ret
    exact ⟨ret_bool HRes.out, HHx.out.2.2⟩
end Go.Proofs.YtfdpbogbnfkilaaDoor.ObjApartWalk
