/- Layer 6: Same of package obj. -/
import Derived.Test.YtfdpbogbnfkilaaDoorObjEq
namespace Go.Proofs.YtfdpbogbnfkilaaDoor
set_option maxRecDepth 100000
open Go.RowKit
set_option linter.unusedVariables false
theorem ent_eq (x y : EntD) : decide (x = y) = (decide (x.1 = y.1) && decide (x.2 = y.2)) := by
  obtain ⟨x1, x2⟩ := x
  obtain ⟨y1, y2⟩ := y
  rw [Bool.eq_iff_iff]
  simp [Prod.mk.injEq]
set_option maxHeartbeats 1000000 in
theorem sameEntry_any (x y : EntD) (A B : Option Addr) (c1 c2 lo hi lo2 hi2 : Nat) (w : World) (hA : RowC w lo hi A (x.2.flatMap encI64)) (hh : hi ≤ w.heap.size) (hB : RowC w lo2 hi2 B (y.2.flatMap encI64)) (hh2 : hi2 ≤ w.heap.size) (hx : x.2.length ≤ maxLen) (hy : y.2.length ≤ maxLen) :
    Calls Tryd.prog 37 #[.agg #[.string x.1, .slice A x.2.length c1], .agg #[.string y.1, .slice B y.2.length c2]] w fun e w' => e = .returned (.bool (decide (x = y))) ∧ Below w.heap.size w w' := by
  unfold maxLen at hx hy
  have hB2 := ((Below.refl w.heap.size w).alloc (Nat.le_refl _) (.cells #[.string x.1, .slice A x.2.length c1] 70)).alloc (by simp) (.cells #[.string y.1, .slice B y.2.length c2] 70)
  have HBx := Lib.hid hB2
  have HE := Lib.hid (ent_eq x y)
  have hstr := beq_str x.1 y.1
  by_cases hs : x.1 = y.1
  case neg =>
    rw [decide_eq_false hs] at hstr
    have HR := Lib.hid (show decide (x = y) = false by rw [HE.out, decide_eq_false hs]; rfl)
    clear hs hB2 hA hB
    go_enter Tryd.func37, Tryd.ntmps37
    go_wp2
    go_ret
    exact ⟨ret_bool HR.out.symm, HBx.out⟩
  rw [decide_eq_true hs] at hstr
  have HR := Lib.hid (show decide (x = y) = decide (x.2 = y.2) by rw [HE.out, decide_eq_true hs]; rfl)
  have HC := Lib.hid (equal_int A B x.2 y.2 _ _ c1 c2 lo hi lo2 hi2 _ (hA.move (Nat.le_refl _) (Nat.le_refl _) (fun b g1 g2 => hB2.block b (by omega))) (hB.move (Nat.le_refl _) (Nat.le_refl _) (fun b g1 g2 => hB2.block b (by omega))) rfl rfl hx hy)
  clear hs hB2 hA hB
  go_enter Tryd.func37, Tryd.ntmps37
  go_wp2_with fail
  refine HC.out.mono ?_
  rintro e w' ⟨rfl, hb⟩
  have HB' := Lib.hid (HBx.out.trans (hb.mono HBx.out.size))
  clear hb
  go_wp2
  go_ret
  exact ⟨ret_bool HR.out.symm, HB'.out⟩
/-- lengths that may be -/
structure ObjL (d : ObjD) : Prop where
  lt : d.text.length ≤ maxLen
  ld : d.data.length ≤ maxLen
  ls : d.syms.length ≤ maxLen
  lr : d.rels.length ≤ maxLen
  le : d.ents.length ≤ maxLen
  lp : ∀ x ∈ d.ents, x.2.length ≤ maxLen
def sameD (a b : ObjD) : Bool := decide (a.text = b.text) && decide (a.data = b.data) && decide (a.syms = b.syms) && decide (a.rels = b.rels) && decide (a.ents = b.ents)
theorem sameD_iff {a b : ObjD} : sameD a b = true ↔ a = b := by
  obtain ⟨a1, a2, a3, a4, a5⟩ := a
  obtain ⟨b1, b2, b3, b4, b5⟩ := b
  unfold sameD
  simp [ObjD.mk.injEq, and_assoc]
set_option maxHeartbeats 1000000 in
theorem equalFunc_any (A B : Option Addr) (xs ys : List EntD) (n m ca cb lo hi lo2 hi2 : Nat) (es fs : List Value) (w : World) (hA : RowC w lo hi A es) (hAe : EntC w lo hi none xs es) (hB : RowC w lo2 hi2 B fs) (hBe : EntC w lo2 hi2 none ys fs) (hh : hi ≤ w.heap.size) (hh2 : hi2 ≤ w.heap.size) (hn : xs.length = n) (hm : ys.length = m) (hmax : n ≤ 9223372036854775807) (hmax2 : m ≤ 9223372036854775807)
    (hx : ∀ x ∈ xs, x.2.length ≤ maxLen) (hy : ∀ x ∈ ys, x.2.length ≤ maxLen) :
    Calls Tryd.prog 36 #[.slice A n ca, .slice B m cb, .func (Fn.func 37) #[] #[]] w fun e w' => e = .returned (.bool (decide (xs = ys))) ∧ Below w.heap.size w w' := by
  by_cases hnm : n = m
  case neg =>
    have hne : ((n : Int) != (m : Int)) = true := by rw [bne_iff_ne]; omega
    have HR := Lib.hid (show decide (xs = ys) = false from decide_eq_false (fun e => by subst e; omega))
    clear hA hB hn hm hnm hAe hBe hx hy
    go_enter Tryd.func36, Tryd.ntmps36
    go_wp2
    go_ret
    exact ⟨ret_bool HR.out.symm, Below.refl _ _⟩
  subst hnm
  have hne : ((n : Int) != (n : Int)) = false := by simp
  have HA := Lib.hid hA
  have HB := Lib.hid hB
  have HAe := Lib.hid hAe
  have HBe := Lib.hid hBe
  have HH := Lib.hid (And.intro hh hh2)
  have HXm := Lib.hid hx
  have HYm := Lib.hid hy
  have HN := Lib.hid hn
  have HM := Lib.hid hm
  clear hA hB hn hm hAe hBe hx hy hh hh2
  go_enter Tryd.func36, Tryd.ntmps36
  go_wp2
  clear hne
  go_loopw [7, 8, 9, 17] (fun _ _ _ i wr => ∃ (k : Nat), k ≤ n ∧ i = .int .i64 k ∧ Hid (Below w.heap.size w wr) ∧ Hid (∀ j, j < k → ∀ (h1 : j < xs.length) (h2 : j < ys.length), xs[j] = ys[j])) (fun _ _ _ i _ => n - (intOf i).toNat)
  case atStart => exact ⟨0, by omega, rfl, Lib.hid (Below.refl _ _), Lib.hid (fun j hj => by omega)⟩
  case round =>
    obtain ⟨k, hk, rfl, HW, HS⟩ := hrel
    by_cases hlt : k < n
    · have k0 : (0 : Int) ≤ k := by omega
      have k1 : (k : Int) < n := by omega
      have hlx : k < xs.length := by rw [HN.out]; exact hlt
      have hly : k < ys.length := by rw [HM.out]; exact hlt
      obtain ⟨Ap, cp, g0, g1, gr⟩ := HAe.out.get hlx
      obtain ⟨Bp, dp, p0, p1, pr⟩ := HBe.out.get hly
      have hne1 : es ≠ [] := fun e => by rw [e] at g0; cases g0
      have hne2 : fs ≠ [] := fun e => by rw [e] at p0; cases p0
      rcases HA.out with e | ⟨b1, o1, rfl, _, hb1, hc1⟩
      · exact absurd e hne1
      rcases HB.out with e | ⟨b2, o2, rfl, _, hb2, hc2⟩
      · exact absurd e hne2
      have hx0 := (HW.out.cell (p := ⟨b1, o1 + (k * 2), none⟩) (by have := HH.out; show b1 < _; omega)).trans (hc1 (k * 2) _ g0)
      have hx1 := (HW.out.cell (p := ⟨b1, o1 + (k * 2 + 1), none⟩) (by have := HH.out; show b1 < _; omega)).trans (hc1 (k * 2 + 1) _ g1)
      have hy0 := (HW.out.cell (p := ⟨b2, o2 + (k * 2), none⟩) (by have := HH.out; show b2 < _; omega)).trans (hc2 (k * 2) _ p0)
      have hy1 := (HW.out.cell (p := ⟨b2, o2 + (k * 2 + 1), none⟩) (by have := HH.out; show b2 < _; omega)).trans (hc2 (k * 2 + 1) _ p1)
      rw [← Nat.add_assoc] at hx1 hy1
      have hxm := HXm.out xs[k] (List.getElem_mem hlx)
      have hym := HYm.out ys[k] (List.getElem_mem hly)
      obtain ⟨x, hxx⟩ : ∃ x, xs[k] = x := ⟨_, rfl⟩
      obtain ⟨y, hyy⟩ : ∃ y, ys[k] = y := ⟨_, rfl⟩
      rw [hxx] at hx0 hx1 gr hxm
      rw [hyy] at hy0 hy1 pr hym
      have HXe := Lib.hid hxx
      have HYe := Lib.hid hyy
      have HLx := Lib.hid hlx
      have HLy := Lib.hid hly
      have HBa := Lib.hid (((Below.refl wr.heap.size wr).alloc (Nat.le_refl _) (.cells #[.string x.1, .slice Ap x.2.length cp] 70)).alloc (by simp) (.cells #[.string y.1, .slice Bp y.2.length dp] 70))
      have HC := Lib.hid (sameEntry_any x y Ap Bp cp dp lo hi lo2 hi2 ((wr.alloc (.cells #[.string x.1, .slice Ap x.2.length cp] 70)).alloc (.cells #[.string y.1, .slice Bp y.2.length dp] 70)) (gr.rowC.move (Nat.le_refl _) (Nat.le_refl _) (fun b g1 g2 => (HBa.out.block b (by have := HH.out; have := HW.out.size; omega)).trans (HW.out.block b (by have := HH.out; omega)))) (by have := HH.out; have := HW.out.size; have := HBa.out.size; omega) (pr.rowC.move (Nat.le_refl _) (Nat.le_refl _) (fun b g1 g2 => (HBa.out.block b (by have := HH.out; have := HW.out.size; omega)).trans (HW.out.block b (by have := HH.out; omega)))) (by have := HH.out; have := HW.out.size; have := HBa.out.size; omega) hxm hym)
      have hl2 : b2 < wr.heap.size := by have := HH.out; have := HW.out.size; omega
      have hya := ((Below.refl wr.heap.size wr).alloc (Nat.le_refl _) (.cells #[.string x.1, .slice Ap x.2.length cp] 70)).cell (p := ⟨b2, o2 + k * 2, none⟩) hl2
      rw [hy0] at hya
      have hyb := ((Below.refl wr.heap.size wr).alloc (Nat.le_refl _) (.cells #[.string x.1, .slice Ap x.2.length cp] 70)).cell (p := ⟨b2, o2 + k * 2 + 1, none⟩) hl2
      rw [hy1] at hyb
      clear hc1 hc2 hxx hyy g0 g1 gr p0 p1 pr hne1 hne2 hb1 hb2 hxm hym hl2
      go_wp2_with fail
      refine HC.out.mono ?_
      rintro e w2 ⟨rfl, hb⟩
      have HW2 := Lib.hid (HW.out.trans ((HBa.out.trans (hb.mono HBa.out.size)).mono HW.out.size))
      clear hb hx0 hx1 hy0 hy1 hya hyb
      by_cases he : x = y
      · have HS2 := Lib.hid (fun j (hj : j < k + 1) => show ∀ (h1 : j < xs.length) (h2 : j < ys.length), xs[j] = ys[j] from fun h1 h2 => by
          by_cases e : j = k
          · subst e; rw [HXe.out, HYe.out, he]
          · exact HS.out j (by omega) h1 h2)
        rw [decide_eq_true he]
        clear he
        go_wp2
        go_roundw
        case rel => exact ⟨k + 1, by omega, by go_num, HW2, HS2⟩
        case measure => simp [intOf]; omega
      · have HR := Lib.hid (show decide (xs = ys) = false from decide_eq_false (list_diff HLx.out HLy.out (by rw [HXe.out, HYe.out]; exact he)))
        rw [decide_eq_false he]
        clear he
        go_wp2
        go_ret
        exact ⟨ret_bool HR.out.symm, HW2.out⟩
    · obtain rfl : k = n := by omega
      have HR := Lib.hid (show decide (xs = ys) = true from decide_eq_true (list_same (by rw [HN.out, HM.out]) (fun j h1 h2 => HS.out j (by rw [HN.out] at h1; exact h1) h1 h2)))
      clear hlt HS
      go_wp2
      go_ret
      exact ⟨ret_bool HR.out.symm, HW.out⟩
set_option maxHeartbeats 2000000 in
theorem same_obj (d1 d2 : ObjD) (v1 v2 : Value) (lo hi lo2 hi2 : Nat) (w : World) (h1 : ObjAt w lo hi d1 v1) (h2 : ObjAt w lo2 hi2 d2 v2) (hh : hi ≤ w.heap.size) (hh2 : hi2 ≤ w.heap.size)
    (hl1 : ObjL d1) (hl2 : ObjL d2) :
    Calls Tryd.prog 14 #[v1, v2] w fun e w' => e = .returned (.bool (sameD d1 d2)) ∧ Below w.heap.size w w' := by
  obtain ⟨A1, c1, A2, c2, A3, c3, A4, c4, A5, c5, es, rfl, p1, p2, p3, p4, p5, p6⟩ := h1
  obtain ⟨B1, e1, B2, e2, B3, e3, B4, e4, B5, e5, fs, rfl, q1, q2, q3, q4, q5, q6⟩ := h2
  have HB0 := Lib.hid (((Below.refl w.heap.size w).alloc (Nat.le_refl _) (.cells #[.slice A1 d1.text.length c1, .slice A2 d1.data.length c2, .slice A3 d1.syms.length c3, .slice A4 d1.rels.length c4, .slice A5 d1.ents.length c5] 28)).alloc (by simp) (.cells #[.slice B1 d2.text.length e1, .slice B2 d2.data.length e2, .slice B3 d2.syms.length e3, .slice B4 d2.rels.length e4, .slice B5 d2.ents.length e5] 28))
  have HX0 := Lib.hid (show ((w.alloc (.cells #[.slice A1 d1.text.length c1, .slice A2 d1.data.length c2, .slice A3 d1.syms.length c3, .slice A4 d1.rels.length c4, .slice A5 d1.ents.length c5] 28)).alloc (.cells #[.slice B1 d2.text.length e1, .slice B2 d2.data.length e2, .slice B3 d2.syms.length e3, .slice B4 d2.rels.length e4, .slice B5 d2.ents.length e5] 28)).heap[w.heap.size]? = some (.cells #[.slice A1 d1.text.length c1, .slice A2 d1.data.length c2, .slice A3 d1.syms.length c3, .slice A4 d1.rels.length c4, .slice A5 d1.ents.length c5] 28 (0, 0)) by exact (heap_alloc_old _ _ (by simp)).trans (heap_alloc_new w _))
  have HY0 := Lib.hid (show ((w.alloc (.cells #[.slice A1 d1.text.length c1, .slice A2 d1.data.length c2, .slice A3 d1.syms.length c3, .slice A4 d1.rels.length c4, .slice A5 d1.ents.length c5] 28)).alloc (.cells #[.slice B1 d2.text.length e1, .slice B2 d2.data.length e2, .slice B3 d2.syms.length e3, .slice B4 d2.rels.length e4, .slice B5 d2.ents.length e5] 28)).heap[w.heap.size + 1]? = some (.cells #[.slice B1 d2.text.length e1, .slice B2 d2.data.length e2, .slice B3 d2.syms.length e3, .slice B4 d2.rels.length e4, .slice B5 d2.ents.length e5] 28 (0, 0)) by have h := heap_alloc_new (w.alloc (.cells #[.slice A1 d1.text.length c1, .slice A2 d1.data.length c2, .slice A3 d1.syms.length c3, .slice A4 d1.rels.length c4, .slice A5 d1.ents.length c5] 28)) (.cells #[.slice B1 d2.text.length e1, .slice B2 d2.data.length e2, .slice B3 d2.syms.length e3, .slice B4 d2.rels.length e4, .slice B5 d2.ents.length e5] 28); simpa using h)
  have HMv := Lib.hid (show ∀ (w' : World), Below w.heap.size w w' → ∀ (b : Nat), b < hi ∨ b < hi2 → w'.heap[b]? = w.heap[b]? from fun w' hb b h => hb.block b (by omega))
  have HL1 := Lib.hid hl1
  have HL2 := Lib.hid hl2
  have HH := Lib.hid (And.intro hh hh2)
  have P1 := Lib.hid p1
  have Q1 := Lib.hid q1
  have P2 := Lib.hid p2
  have Q2 := Lib.hid q2
  have P3 := Lib.hid p3
  have Q3 := Lib.hid q3
  have P4 := Lib.hid p4
  have Q4 := Lib.hid q4
  have P5 := Lib.hid p5
  have Q5 := Lib.hid q5
  have P6 := Lib.hid p6
  have Q6 := Lib.hid q6
  clear p1 p2 p3 p4 p5 p6 q1 q2 q3 q4 q5 q6 hh hh2 hl1 hl2
  go_enter Tryd.func14, Tryd.ntmps14
  go_wp2_with fail
  refine (equal_u32 A1 B1 d1.text d2.text _ _ c1 e1 lo hi lo2 hi2 _ (P1.out.move (Nat.le_refl _) (Nat.le_refl _) (fun b g1 g2 => HMv.out _ HB0.out b (.inl g2))) (Q1.out.move (Nat.le_refl _) (Nat.le_refl _) (fun b g1 g2 => HMv.out _ HB0.out b (.inr g2))) rfl rfl (by have := HL1.out.lt; unfold maxLen at this; omega) (by have := HL2.out.lt; unfold maxLen at this; omega)).mono ?_
  rintro e u0 ⟨rfl, hb⟩
  have HB1 := Lib.hid (HB0.out.trans (hb.mono HB0.out.size))
  have HX1 := Lib.hid ((hb.block w.heap.size ((Array.getElem?_eq_some_iff.1 HX0.out).1)).trans HX0.out)
  have HY1 := Lib.hid ((hb.block (w.heap.size + 1) ((Array.getElem?_eq_some_iff.1 HY0.out).1)).trans HY0.out)
  clear hb
  by_cases g0 : d1.text = d2.text
  case neg =>
    have HR := Lib.hid (show sameD d1 d2 = false by unfold sameD; rw [decide_eq_false g0]; simp)
    rw [decide_eq_false g0]
    clear g0
    go_wp2
    go_ret
    exact ⟨ret_bool HR.out.symm, HB1.out⟩
  rw [decide_eq_true g0]
  have G0 := Lib.hid g0
  clear g0
  obtain ⟨⟨z0, z1, z2, z3, z4⟩, gr⟩ := row_cells5 HX1.out
  obtain ⟨⟨y0, y1, y2, y3, y4⟩, gy⟩ := row_cells5 HY1.out
  go_wp2_with fail
  clear z0 z1 z2 z3 z4 gr y0 y1 y2 y3 y4 gy
  refine (equal_u64 A2 B2 d1.data d2.data _ _ c2 e2 lo hi lo2 hi2 _ (P2.out.move (Nat.le_refl _) (Nat.le_refl _) (fun b g1 g2 => HMv.out _ HB1.out b (.inl g2))) (Q2.out.move (Nat.le_refl _) (Nat.le_refl _) (fun b g1 g2 => HMv.out _ HB1.out b (.inr g2))) rfl rfl (by have := HL1.out.ld; unfold maxLen at this; omega) (by have := HL2.out.ld; unfold maxLen at this; omega)).mono ?_
  rintro e u1 ⟨rfl, hb⟩
  have HB2 := Lib.hid (HB1.out.trans (hb.mono HB1.out.size))
  have HX2 := Lib.hid ((hb.block w.heap.size ((Array.getElem?_eq_some_iff.1 HX1.out).1)).trans HX1.out)
  have HY2 := Lib.hid ((hb.block (w.heap.size + 1) ((Array.getElem?_eq_some_iff.1 HY1.out).1)).trans HY1.out)
  clear hb
  by_cases g1 : d1.data = d2.data
  case neg =>
    have HR := Lib.hid (show sameD d1 d2 = false by unfold sameD; rw [decide_eq_false g1]; simp)
    rw [decide_eq_false g1]
    clear g1
    go_wp2
    go_ret
    exact ⟨ret_bool HR.out.symm, HB2.out⟩
  rw [decide_eq_true g1]
  have G1 := Lib.hid g1
  clear g1
  obtain ⟨⟨z0, z1, z2, z3, z4⟩, gr⟩ := row_cells5 HX2.out
  obtain ⟨⟨y0, y1, y2, y3, y4⟩, gy⟩ := row_cells5 HY2.out
  go_wp2_with fail
  clear z0 z1 z2 z3 z4 gr y0 y1 y2 y3 y4 gy
  refine (equal_sym A3 B3 d1.syms d2.syms _ _ c3 e3 lo hi lo2 hi2 _ (P3.out.move (Nat.le_refl _) (Nat.le_refl _) (fun b g1 g2 => HMv.out _ HB2.out b (.inl g2))) (Q3.out.move (Nat.le_refl _) (Nat.le_refl _) (fun b g1 g2 => HMv.out _ HB2.out b (.inr g2))) rfl rfl (by have := HL1.out.ls; unfold maxLen at this; omega) (by have := HL2.out.ls; unfold maxLen at this; omega)).mono ?_
  rintro e u2 ⟨rfl, hb⟩
  have HB3 := Lib.hid (HB2.out.trans (hb.mono HB2.out.size))
  have HX3 := Lib.hid ((hb.block w.heap.size ((Array.getElem?_eq_some_iff.1 HX2.out).1)).trans HX2.out)
  have HY3 := Lib.hid ((hb.block (w.heap.size + 1) ((Array.getElem?_eq_some_iff.1 HY2.out).1)).trans HY2.out)
  clear hb
  by_cases g2 : d1.syms = d2.syms
  case neg =>
    have HR := Lib.hid (show sameD d1 d2 = false by unfold sameD; rw [decide_eq_false g2]; simp)
    rw [decide_eq_false g2]
    clear g2
    go_wp2
    go_ret
    exact ⟨ret_bool HR.out.symm, HB3.out⟩
  rw [decide_eq_true g2]
  have G2 := Lib.hid g2
  clear g2
  obtain ⟨⟨z0, z1, z2, z3, z4⟩, gr⟩ := row_cells5 HX3.out
  obtain ⟨⟨y0, y1, y2, y3, y4⟩, gy⟩ := row_cells5 HY3.out
  go_wp2_with fail
  clear z0 z1 z2 z3 z4 gr y0 y1 y2 y3 y4 gy
  refine (equal_rel A4 B4 d1.rels d2.rels _ _ c4 e4 lo hi lo2 hi2 _ (P4.out.move (Nat.le_refl _) (Nat.le_refl _) (fun b g1 g2 => HMv.out _ HB3.out b (.inl g2))) (Q4.out.move (Nat.le_refl _) (Nat.le_refl _) (fun b g1 g2 => HMv.out _ HB3.out b (.inr g2))) rfl rfl (by have := HL1.out.lr; unfold maxLen at this; omega) (by have := HL2.out.lr; unfold maxLen at this; omega)).mono ?_
  rintro e u3 ⟨rfl, hb⟩
  have HB4 := Lib.hid (HB3.out.trans (hb.mono HB3.out.size))
  have HX4 := Lib.hid ((hb.block w.heap.size ((Array.getElem?_eq_some_iff.1 HX3.out).1)).trans HX3.out)
  have HY4 := Lib.hid ((hb.block (w.heap.size + 1) ((Array.getElem?_eq_some_iff.1 HY3.out).1)).trans HY3.out)
  clear hb
  by_cases g3 : d1.rels = d2.rels
  case neg =>
    have HR := Lib.hid (show sameD d1 d2 = false by unfold sameD; rw [decide_eq_false g3]; simp)
    rw [decide_eq_false g3]
    clear g3
    go_wp2
    go_ret
    exact ⟨ret_bool HR.out.symm, HB4.out⟩
  rw [decide_eq_true g3]
  have G3 := Lib.hid g3
  clear g3
  obtain ⟨⟨z0, z1, z2, z3, z4⟩, gr⟩ := row_cells5 HX4.out
  obtain ⟨⟨y0, y1, y2, y3, y4⟩, gy⟩ := row_cells5 HY4.out
  go_wp2_with fail
  clear z0 z1 z2 z3 z4 gr y0 y1 y2 y3 y4 gy
  refine (equalFunc_any A5 B5 d1.ents d2.ents _ _ c5 e5 lo hi lo2 hi2 es fs _ (P5.out.move (Nat.le_refl _) (Nat.le_refl _) (fun b g1 g2 => HMv.out _ HB4.out b (.inl g2))) (P6.out.move (Nat.le_refl _) (fun b _ _ _ e => by cases e) (fun b g1 g2 _ => HMv.out _ HB4.out b (.inl g2))) (Q5.out.move (Nat.le_refl _) (Nat.le_refl _) (fun b g1 g2 => HMv.out _ HB4.out b (.inr g2))) (Q6.out.move (Nat.le_refl _) (fun b _ _ _ e => by cases e) (fun b g1 g2 _ => HMv.out _ HB4.out b (.inr g2))) (by have := HH.out; have := HB4.out.size; omega) (by have := HH.out; have := HB4.out.size; omega) rfl rfl (by have := HL1.out.le; unfold maxLen at this; omega) (by have := HL2.out.le; unfold maxLen at this; omega) HL1.out.lp HL2.out.lp).mono ?_
  rintro e u4 ⟨rfl, hb⟩
  have HB5 := Lib.hid (HB4.out.trans (hb.mono HB4.out.size))
  have HX5 := Lib.hid ((hb.block w.heap.size ((Array.getElem?_eq_some_iff.1 HX4.out).1)).trans HX4.out)
  have HY5 := Lib.hid ((hb.block (w.heap.size + 1) ((Array.getElem?_eq_some_iff.1 HY4.out).1)).trans HY4.out)
  clear hb
  have HR := Lib.hid (show sameD d1 d2 = decide (d1.ents = d2.ents) by unfold sameD; rw [decide_eq_true G0.out, decide_eq_true G1.out, decide_eq_true G2.out, decide_eq_true G3.out]; rfl)
  go_wp2
  go_ret
  exact ⟨ret_bool HR.out.symm, HB5.out⟩
end Go.Proofs.YtfdpbogbnfkilaaDoor
