/- The walk of the statement ObjEncodes. Condition: the tables of package ins read as they should. -/
import Derived.Test.YtmpieeadkkeniaaGreatDoorObjI
import Derived.Test.YtmpieeadkkeniaaGreatDoorObjLd
import Derived.Test.YtmpieeadkkeniaaGreatDoorInsLays
namespace Go.Proofs.YtmpieeadkkeniaaGreatDoor.ObjEncodesWalk
set_option maxRecDepth 100000
open Go.RowKit
set_option linter.unusedVariables false
/-- what Encode answers -/
def enL (d : ObjD) : List Int := if mayO d then encB d else []
def enC (d : ObjD) : Int := if mayO d then 0 else 1
theorem enL_all (d : ObjD) : AllB (enL d) := by
  unfold enL
  split
  · exact encB_all d
  · intro x hx; cases hx
theorem encP_form {d : ObjD} {w w' : World} {e : Ending} (h : EncP d w e w') : ∃ A c n, e = .returned (.tuple #[.slice A n c, .int .i64 (enC d)]) ∧ (enL d).length = n ∧ SlB w' w'.heap.size A (enL d) ∧ n ≤ c ∧ c ≤ maxLen ∧ Below w.heap.size w w' := by
  obtain ⟨hb, h0, h1⟩ := h
  unfold enL enC
  cases hm : mayO d with
  | false => exact ⟨none, 0, 0, h0 hm, rfl, .inl rfl, Nat.le_refl _, Nat.zero_le _, hb⟩
  | true =>
    obtain ⟨A, c, rfl, hs, hc, hm, _⟩ := h1 hm
    exact ⟨A, c, _, rfl, rfl, hs, hc, hm, hb⟩
abbrev Box5 (w : World) (h : Nat) (v0 v1 v2 v3 v4 : Value) : Prop :=
  w.cell? ⟨h, 0, none⟩ = some v0 ∧ w.cell? ⟨h, 1, none⟩ = some v1 ∧ w.cell? ⟨h, 2, none⟩ = some v2 ∧ w.cell? ⟨h, 3, none⟩ = some v3 ∧ w.cell? ⟨h, 4, none⟩ = some v4
abbrev EnS (w0 : World) (v0 v1 v2 v3 v4 : Value) (X Y : Option Addr) (l r : List Int) (w : World) : Prop :=
  Box5 w w0.heap.size v0 v1 v2 v3 v4 ∧ (w.heap[w0.heap.size]? = some (.cells #[v0, v1, v2, v3, v4] 28 (0, 0)) ∧ Below w0.heap.size w0 w ∧ SlB w w.heap.size X l ∧ SlB w w.heap.size Y r)
section
variable {w0 w w' : World} {v0 v1 v2 v3 v4 u0 u1 u2 u3 u4 : Value} {X Y : Option Addr} {l r : List Int} {hp lo hi : Nat} {d : ObjD}
theorem enS_of (h : w.heap[w0.heap.size]? = some (.cells #[v0, v1, v2, v3, v4] 28 (0, 0)) ∧ Below w0.heap.size w0 w ∧ SlB w w.heap.size X l ∧ SlB w w.heap.size Y r) : EnS w0 v0 v1 v2 v3 v4 X Y l r w := ⟨(row_cells5 h.1).1, h⟩
theorem enS_below (h : EnS w0 v0 v1 v2 v3 v4 X Y l r w) (hb : Below w.heap.size w w') : EnS w0 v0 v1 v2 v3 v4 X Y l r w' := by
  obtain ⟨_, h1, h2, h3, h4⟩ := h
  exact enS_of ⟨(hb.block _ (Array.getElem?_eq_some_iff.1 h1).1).trans h1, h2.trans (hb.mono h2.size), slB_down h3 (Nat.le_refl _) hb, slB_down h4 (Nat.le_refl _) hb⟩
theorem enS_drew (h : EnS w0 v0 v1 v2 v3 v4 X Y l r w) : EnS w0 v0 v1 v2 v3 v4 X Y l r w.drew := enS_below h (Below.drew (Below.refl _ _))
theorem enS_drewN (h : EnS w0 v0 v1 v2 v3 v4 X Y l r w) (n : Nat) : EnS w0 v0 v1 v2 v3 v4 X Y l r (w.drewN n) := enS_below h (belq (Below.refl _ _) n)
end
set_option maxHeartbeats 4000000 in
theorem walk (v : Value) (d : ObjD) (w : World) (hO : ObjAt w 0 w.heap.size d v) (hW : ObjW d) (hL : ObjL d) (hT : Tabs w) :
    Calls Tryz.prog 3 #[v] w fun e w' => e = .returned (.bool true) ∧ Below w.heap.size w w' := by
  have hO' := hO
  obtain ⟨A1, c1, A2, c2, A3, c3, A4, c4, A5, c5, es, rfl, _⟩ := hO'
  have HB0 := Lib.hid ((Below.refl w.heap.size w).alloc (Nat.le_refl _) (.cells #[.slice A1 d.text.length c1, .slice A2 d.data.length c2, .slice A3 d.syms.length c3, .slice A4 d.rels.length c4, .slice A5 d.ents.length c5] 28))
  have HX0 := Lib.hid (heap_alloc_new w (.cells #[.slice A1 d.text.length c1, .slice A2 d.data.length c2, .slice A3 d.syms.length c3, .slice A4 d.rels.length c4, .slice A5 d.ents.length c5] 28))
  have HO := Lib.hid hO
  have HWd := Lib.hid hW
  have HL := Lib.hid hL
  have HT := Lib.hid hT
  clear hO hW hL hT
  go_enter Tryz.func3, Tryz.ntmps3
  go_wp2_with fail
  refine (awake_any _ (HT.out.below HB0.out)).mono ?_
  rintro e wa ⟨rfl, hba⟩
  have HBa := Lib.hid (HB0.out.trans (hba.mono HB0.out.size))
  have HXa := Lib.hid ((hba.block _ (Array.getElem?_eq_some_iff.1 HX0.out).1).trans HX0.out)
  have HOa := Lib.hid (HO.out.move (Nat.le_refl _) (Nat.le_refl _) (fun b g1 g2 => HBa.out.block b g2))
  clear hba HB0 HX0
  obtain ⟨⟨x0, x1, x2, x3, x4⟩, _⟩ := row_cells5 HXa.out
  go_wp2_with fail
  refine (rsmall_any d _ _ _ wa HOa.out HBa.out.size HL.out).mono ?_
  rintro e ws ⟨⟨s, rfl⟩, hb⟩
  have HBs := Lib.hid (HBa.out.trans (hb.mono HBa.out.size))
  have HXs := Lib.hid ((hb.block _ (Array.getElem?_eq_some_iff.1 HXa.out).1).trans HXa.out)
  have HOs := Lib.hid (HO.out.move (Nat.le_refl _) (Nat.le_refl _) (fun b g1 g2 => HBs.out.block b g2))
  clear hb x0 x1 x2 x3 x4 HBa HXa HOa
  obtain ⟨⟨x0, x1, x2, x3, x4⟩, _⟩ := row_cells5 HXs.out
  cases s
  case false =>
    go_wp2
    go_ret
    exact ⟨rfl, HBs.out⟩
  go_wp2_with fail
  refine (enc_any d HWd.out _ _ _ ws (HT.out.below HBs.out) HOs.out HBs.out.size).mono ?_
  intro e we hE
  obtain ⟨X, cx, n, rfl, hn, hs, hcx, hmx, hb⟩ := encP_form hE
  have HBe := Lib.hid (HBs.out.trans (hb.mono HBs.out.size))
  have HXe := Lib.hid ((hb.block _ (Array.getElem?_eq_some_iff.1 HXs.out).1).trans HXs.out)
  have HOe := Lib.hid (HO.out.move (Nat.le_refl _) (Nat.le_refl _) (fun b g1 g2 => HBe.out.block b g2))
  have HSe := Lib.hid hs
  have HCx := Lib.hid (And.intro hcx hmx)
  have HN := Lib.hid hn
  clear hE hb hn hs hcx hmx x0 x1 x2 x3 x4 HBs HXs HOs
  obtain ⟨⟨x0, x1, x2, x3, x4⟩, _⟩ := row_cells5 HXe.out
  go_wp2_with fail
  refine (renc_any d HWd.out _ _ _ we HOe.out HBe.out.size).mono ?_
  intro e wr hE
  obtain ⟨Y, cy, m, rfl, hn, hs, _, _, hb⟩ := encP_form hE
  have HBr := Lib.hid (HBe.out.trans (hb.mono HBe.out.size))
  have HXr := Lib.hid ((hb.block _ (Array.getElem?_eq_some_iff.1 HXe.out).1).trans HXe.out)
  have HSx := Lib.hid (slB_down HSe.out (Nat.le_refl _) hb)
  have HSy := Lib.hid hs
  have HM := Lib.hid hn
  clear hE hb hn hs x0 x1 x2 x3 x4 HBe HXe HOe HSe
  have hS : EnS w (.slice A1 d.text.length c1) (.slice A2 d.data.length c2) (.slice A3 d.syms.length c3) (.slice A4 d.rels.length c4) (.slice A5 d.ents.length c5) X Y (enL d) (enL d) wr := enS_of ⟨HXr.out, HBr.out, HSx.out, HSy.out⟩
  have HMx := Lib.hid (show n ≤ 9223372036854775807 by have := HCx.out; unfold maxLen at this; omega)
  have HCs := Lib.hid (show ∀ w', EnS w (.slice A1 d.text.length c1) (.slice A2 d.data.length c2) (.slice A3 d.syms.length c3) (.slice A4 d.rels.length c4) (.slice A5 d.ents.length c5) X Y (enL d) (enL d) w' → Calls Tryz.prog 10 #[.slice X n cx, .slice Y m cy] w' fun e w'' => e = .returned (.bool true) ∧ Below w'.heap.size w' w'' from fun w' h => by
    refine (same_any X Y (enL d) (enL d) n m cx cy w' (slB_sl h.2.2.2.1) (slB_sl h.2.2.2.2) HN.out HM.out HMx.out).mono ?_
    rintro e w'' ⟨rfl, k, rfl⟩
    exact ⟨by simp, belq (Below.refl _ _) k⟩)
  have HCm := Lib.hid (show ∀ w', EnS w (.slice A1 d.text.length c1) (.slice A2 d.data.length c2) (.slice A3 d.syms.length c3) (.slice A4 d.rels.length c4) (.slice A5 d.ents.length c5) X Y (enL d) (enL d) w' → Calls Tryz.prog 11 #[.agg #[.slice A1 d.text.length c1, .slice A2 d.data.length c2, .slice A3 d.syms.length c3, .slice A4 d.rels.length c4, .slice A5 d.ents.length c5]] w' fun e w'' => e = .returned (.bool (mayO d)) ∧ Below w'.heap.size w' w'' from fun w' h => may_obj d HWd.out _ 0 w.heap.size w' (HT.out.below h.2.2.1) (HO.out.below (Nat.le_refl _) h.2.2.1) h.2.2.1.size)
  have HCr := Lib.hid (show ∀ w', EnS w (.slice A1 d.text.length c1) (.slice A2 d.data.length c2) (.slice A3 d.syms.length c3) (.slice A4 d.rels.length c4) (.slice A5 d.ents.length c5) X Y (enL d) (enL d) w' → Calls Tryz.prog 12 #[.agg #[.slice A1 d.text.length c1, .slice A2 d.data.length c2, .slice A3 d.syms.length c3, .slice A4 d.rels.length c4, .slice A5 d.ents.length c5]] w' fun e w'' => e = .returned (.bool (mayO d)) ∧ Below w'.heap.size w' w'' from fun w' h => rmay_any d HWd.out _ 0 w.heap.size w' (HO.out.below (Nat.le_refl _) h.2.2.1) h.2.2.1.size)
  have HD := Lib.hid (fun (h : mayO d = true) => decB_put HWd.out h)
  have HLD := Lib.hid (show enL d = if mayO d then encB d else [] from rfl)
  have HCD := Lib.hid (show enC d = if mayO d then 0 else 1 from rfl)
  have HAl := Lib.hid (enL_all d)
  generalize hmd : mayO d = mb at *
  generalize enL d = ll at *
  generalize enC d = zz at *
  have HMD := Lib.hid hmd
  clear hmd
  go_wp2
  go_region_held3 (fun w' => EnS w (.slice A1 d.text.length c1) (.slice A2 d.data.length c2) (.slice A3 d.syms.length c3) (.slice A4 d.rels.length c4) (.slice A5 d.ents.length c5) X Y ll ll w') (first | (with_reducible assumption) | ((with_reducible apply enS_drew); (with_reducible assumption)) | ((with_reducible apply enS_drewN); (with_reducible assumption)) | ((with_reducible apply enS_below); (with_reducible assumption); (with_reducible assumption)))
    (first
    | (go_at_call 10; (with_reducible refine (HCs.out _ ?hm).mono ?_); (case hm => (first | (with_reducible assumption) | ((with_reducible apply enS_drew); (with_reducible assumption)) | ((with_reducible apply enS_drewN); (with_reducible assumption)))); rintro e w' ⟨rfl, hb⟩)
    | (go_at_call 11; (with_reducible refine (HCm.out _ ?hm).mono ?_); (case hm => (first | (with_reducible assumption) | ((with_reducible apply enS_drew); (with_reducible assumption)) | ((with_reducible apply enS_drewN); (with_reducible assumption)))); rintro e w' ⟨rfl, hb⟩)
    | (go_at_call 12; (with_reducible refine (HCr.out _ ?hm).mono ?_); (case hm => (first | (with_reducible assumption) | ((with_reducible apply enS_drew); (with_reducible assumption)) | ((with_reducible apply enS_drewN); (with_reducible assumption)))); rintro e w' ⟨rfl, hb⟩))
  all_goals
    rename_i hhx
    have HHx := Lib.hid hhx.2
    clear hhx hS HCs HCm HCr
    cases mb
    case false =>
      have hz : zz = 1 := HCD.out
      subst hz
      go_wp2
      go_ret
      exact ⟨rfl, HHx.out.2.1⟩
    case true =>
      have hz : zz = 0 := HCD.out
      subst hz
      have HLL := Lib.hid (show ll = encB d from HLD.out)
      have HDD := Lib.hid (HD.out rfl)
      clear HLD HCD HD HMD
      go_wp2_with fail
      refine (dec_any X ll n cx _ HHx.out.2.2.1 HN.out HAl.out HCx.out.1 HCx.out.2 (HT.out.below HHx.out.2.1)).mono ?_
      intro e w4 h4
      rw [HLL.out, HDD.out] at h4
      obtain ⟨hb, v4, rfl, hO4⟩ := h4
      have HB4 := Lib.hid (HHx.out.2.1.trans (hb.mono HHx.out.2.1.size))
      have HX4 := Lib.hid ((hb.block _ (Array.getElem?_eq_some_iff.1 HHx.out.1).1).trans HHx.out.1)
      have HO4 := Lib.hid hO4
      obtain ⟨B1, f1, B2, f2, B3, f3, B4, f4, B5, f5, es2, rfl, _⟩ := hO4
      clear hb HHx
      have HBp := Lib.hid ((Below.refl w4.heap.size w4).alloc (Nat.le_refl _) (.cells #[.slice B1 d.text.length f1, .slice B2 d.data.length f2, .slice B3 d.syms.length f3, .slice B4 d.rels.length f4, .slice B5 d.ents.length f5] 28))
      have HXp := Lib.hid ((HBp.out.block _ (Array.getElem?_eq_some_iff.1 HX4.out).1).trans HX4.out)
      have HYp := Lib.hid (heap_alloc_new w4 (.cells #[.slice B1 d.text.length f1, .slice B2 d.data.length f2, .slice B3 d.syms.length f3, .slice B4 d.rels.length f4, .slice B5 d.ents.length f5] 28))
      obtain ⟨⟨x0, x1, x2, x3, x4⟩, _⟩ := row_cells5 HXp.out
      obtain ⟨⟨y0, y1, y2, y3, y4⟩, _⟩ := row_cells5 HYp.out
      go_wp2_with fail
      refine (rsame_any d d _ _ 0 w.heap.size _ w4.heap.size _ (HO.out.below (Nat.le_refl _) (HB4.out.trans (HBp.out.mono HB4.out.size))) (HO4.out.below (Nat.le_refl _) HBp.out) (Nat.le_trans HB4.out.size HBp.out.size) HBp.out.size HL.out HL.out).mono ?_
      rintro e w5 ⟨rfl, hb⟩
      have HB5 := Lib.hid ((HB4.out.trans (HBp.out.mono HB4.out.size)).trans (hb.mono (HB4.out.trans (HBp.out.mono HB4.out.size)).size))
      rw [sameD_iff.2 rfl]
      clear hb x0 x1 x2 x3 x4 y0 y1 y2 y3 y4
      go_wp2
      go_ret
      exact ⟨rfl, HB5.out⟩
end Go.Proofs.YtmpieeadkkeniaaGreatDoor.ObjEncodesWalk
