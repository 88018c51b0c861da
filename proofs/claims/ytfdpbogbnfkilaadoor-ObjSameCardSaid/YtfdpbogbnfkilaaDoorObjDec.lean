/- Layer 6: Decode of package obj. Condition: the tables of package ins read as they should. -/
import Derived.Test.YtfdpbogbnfkilaaDoorObjDecA
import Derived.Test.YtfdpbogbnfkilaaDoorObjMayQ
namespace Go.Proofs.YtfdpbogbnfkilaaDoor
set_option maxRecDepth 100000
open Go.RowKit
set_option linter.unusedVariables false
abbrev nil5 : Value := .agg #[.slice none 0 0, .slice none 0 0, .slice none 0 0, .slice none 0 0, .slice none 0 0]
def DecP (r : Option ObjD) (w : World) (e : Ending) (w' : World) : Prop :=
  Below w.heap.size w w' ∧ match r with
    | none => e = .returned (.tuple #[nil5, .int .i64 3])
    | some d => ∃ v, e = .returned (.tuple #[v, .int .i64 0]) ∧ ObjAt w' w.heap.size w'.heap.size d v
theorem DecP.mkNo {r : Option ObjD} {w w' : World} {e : Ending} (hr : r = none) (hb : Below w.heap.size w w') (he : e = .returned (.tuple #[nil5, .int .i64 3])) : DecP r w e w' := by subst hr; exact ⟨hb, he⟩
theorem DecP.mkYes {r : Option ObjD} {w w' : World} {e : Ending} {d : ObjD} {v : Value} (hr : r = some d) (hb : Below w.heap.size w w') (he : e = .returned (.tuple #[v, .int .i64 0])) (ho : ObjAt w' w.heap.size w'.heap.size d v) : DecP r w e w' := by subst hr; exact ⟨hb, v, he, ho⟩
theorem res_dec {T : Array Value} {b1 b2 : Nat} {W : World} {v0 v1 v2 v3 v4 v5 : Value} {T1 T2 : TypeId} (h2 : T[2]? = some (.pointer (some ⟨b1, 0, none⟩))) (h3 : T[3]? = some (.pointer (some ⟨b2, 0, none⟩))) (hr : W.heap[b1]? = some (.cells #[v0, v1, v2, v3, v4] T1 (0, 0))) (hs : W.heap[b2]? = some (.cells #[v5] T2 (0, 0))) :
    (results Tryd.f19 T).run Tryd.prog W = .ok (.tuple #[.agg #[v0, v1, v2, v3, v4], v5]) W := by
  obtain ⟨⟨z0, z1, z2, z3, z4⟩, _⟩ := row_cells5 hr
  have y0 := cell_of_row W b2 0 _ _ _ hs
  simp only [List.getElem?_toArray, List.getElem?_cons_zero] at y0
  simp [results, Tryd.results19, go_sem, h2, h3, z0, z1, z2, z3, z4, y0]
theorem decB_top {l : List Int} : decB l = (rdTop l).bind (fun d => if mayO d then some d else none) := by
  unfold decB rdTop
  cases rdObj l with
  | none => rfl
  | some p =>
    obtain ⟨d, r⟩ := p
    cases r with
    | nil => rfl
    | cons x r => rfl
theorem door_lack {P : Program} {fn : Func} {R : Ending → World → Prop} {w : World} {b1 b2 : Nat} {T : Array Value} (h : Leaves P fn T R [{ target := Target.fn (Fn.func 42) #[.pointer (some ⟨b1, 0, none⟩), .pointer (some ⟨b2, 0, none⟩)], args := #[] }] (.panicking [{ v := lackV, recovered := false }]) w) :
    bodyPostD P fn R (.panic [{ v := lackV, recovered := false }]) { tmps := T, defers := [{ target := Target.fn (Fn.func 42) #[.pointer (some ⟨b1, 0, none⟩), .pointer (some ⟨b2, 0, none⟩)], args := #[] }] } w := h
set_option maxHeartbeats 2000000 in
theorem dec_any (A : Option Addr) (l : List Int) (n c : Nat) (w : World) (hs : SlB w w.heap.size A l) (hn : l.length = n) (ha : AllB l) (hc : n ≤ c) (hm : c ≤ maxLen) (hT : Tabs w) :
    Calls Tryd.prog 19 #[.slice A n c] w (DecP (decB l) w) := by
  have hmf : ∀ (fn : Fn) (first cap : Array Value) (w : World), (Instr.makeFunc fn first cap).run Tryd.prog w = .ok (.func fn first cap) w := fun _ _ _ _ => rfl
  have hB := (((Below.refl w.heap.size w).alloc (Nat.le_refl _) (.cells #[.slice none 0 0, .slice none 0 0, .slice none 0 0, .slice none 0 0, .slice none 0 0] 28)).alloc (by simp) (.cells #[.int .i64 0] 36))
  have HB := Lib.hid hB
  have HSz := Lib.hid (show ((w.alloc (.cells #[.slice none 0 0, .slice none 0 0, .slice none 0 0, .slice none 0 0, .slice none 0 0] 28)).alloc (.cells #[.int .i64 0] 36)).heap.size = w.heap.size + 2 by simp)
  have HX := Lib.hid (show ((w.alloc (.cells #[.slice none 0 0, .slice none 0 0, .slice none 0 0, .slice none 0 0, .slice none 0 0] 28)).alloc (.cells #[.int .i64 0] 36)).heap[w.heap.size]? = some (.cells #[.slice none 0 0, .slice none 0 0, .slice none 0 0, .slice none 0 0, .slice none 0 0] 28 (0, 0)) by exact (heap_alloc_old _ _ (by simp)).trans (heap_alloc_new w _))
  have HY := Lib.hid (show ((w.alloc (.cells #[.slice none 0 0, .slice none 0 0, .slice none 0 0, .slice none 0 0, .slice none 0 0] 28)).alloc (.cells #[.int .i64 0] 36)).heap[w.heap.size + 1]? = some (.cells #[.int .i64 0] 36 (0, 0)) by have h := heap_alloc_new (w.alloc (.cells #[.slice none 0 0, .slice none 0 0, .slice none 0 0, .slice none 0 0, .slice none 0 0] 28)) (.cells #[.int .i64 0] 36); simpa using h)
  have HS := Lib.hid (show SlB ((w.alloc (.cells #[.slice none 0 0, .slice none 0 0, .slice none 0 0, .slice none 0 0, .slice none 0 0] 28)).alloc (.cells #[.int .i64 0] 36)) ((w.alloc (.cells #[.slice none 0 0, .slice none 0 0, .slice none 0 0, .slice none 0 0, .slice none 0 0] 28)).alloc (.cells #[.int .i64 0] 36)).heap.size A l by
    rcases hs with h | ⟨b, off, e, hb, hcell⟩
    · exact .inl h
    · exact .inr ⟨b, off, e, by rw [HSz.out]; omega, fun k hk => (hB.cell (p := ⟨b, off + k, none⟩) hb).trans (hcell k hk)⟩)
  have HTb := Lib.hid hT
  have HN := Lib.hid hn
  have HA := Lib.hid ha
  have HC := Lib.hid (And.intro hc hm)
  have HD := Lib.hid (decB_top (l := l))
  clear hs hn ha hc hm hT hB
  go_enter_defers Tryd.func19, Tryd.ntmps19
  go_wp2_with fail
  refine (readAll_any A l n c _ HS.out HN.out HA.out HC.out.1 HC.out.2).mono ?_
  intro e w1 h1
  cases hr : rdTop l with
  | none =>
    rw [hr] at h1
    obtain ⟨hb, rfl⟩ := h1
    have HB1 := Lib.hid (HB.out.trans (hb.mono HB.out.size))
    have HX1 := Lib.hid ((hb.block w.heap.size (by rw [HSz.out]; omega)).trans HX.out)
    have HY1 := Lib.hid ((hb.block (w.heap.size + 1) (by rw [HSz.out]; omega)).trans HY.out)
    have HNo := Lib.hid (show decB l = none by rw [HD.out, hr]; rfl)
    clear hb hr
    refine door_lack ?_
    refine leaves_cons (f := 42) (args := #[.pointer (some ⟨w.heap.size, 0, none⟩), .pointer (some ⟨w.heap.size + 1, 0, none⟩)]) (by simp) (by simp [go_sem]) ?_
    refine (catch_lack w.heap.size (w.heap.size + 1) _ _ _ _ _ _ _ _ _ HX1.out HY1.out (by omega)).mono ?_
    rintro e u' w2 ⟨rfl, rfl, h1, h2, h3⟩
    refine ⟨_, res_dec (b1 := w.heap.size) (b2 := w.heap.size + 1) rfl rfl h1 h2, DecP.mkNo HNo.out ?_ rfl⟩
    exact ⟨h3.os.trans HB1.out.os, h3.tape.trans HB1.out.tape, h3.output.trans HB1.out.output, Nat.le_trans HB1.out.size h3.size, fun k hk => (h3.block k (Nat.lt_of_lt_of_le hk HB1.out.size) (by omega)).trans (HB1.out.block k hk)⟩
  | some d =>
    rw [hr] at h1
    obtain ⟨hb, v, rfl, ho⟩ := h1
    have HB1 := Lib.hid (HB.out.trans (hb.mono HB.out.size))
    have HX1 := Lib.hid ((hb.block w.heap.size (by rw [HSz.out]; omega)).trans HX.out)
    have HY1 := Lib.hid ((hb.block (w.heap.size + 1) (by rw [HSz.out]; omega)).trans HY.out)
    have HWd := Lib.hid (show ObjW d from fits_W (rdObj_back _ _ _ HA.out (by
      unfold rdTop at hr
      cases hrd : rdObj l with
      | none => rw [hrd] at hr; cases hr
      | some q =>
        obtain ⟨d', r⟩ := q
        rw [hrd] at hr
        cases r with
        | nil => cases hr; rfl
        | cons x r => cases hr)).2.2)
    have HDe := Lib.hid (show decB l = if mayO d then some d else none by rw [HD.out, hr]; rfl)
    have hlo := HSz.out
    have HO := Lib.hid (show ObjAt w1 (w.heap.size + 2) w1.heap.size d v by rw [hlo] at ho; exact ho)
    obtain ⟨A1, c1, A2, c2, A3, c3, A4, c4, A5, c5, es, rfl, _⟩ := ho
    obtain ⟨⟨z0, z1, z2, z3, z4⟩, gr⟩ := row_cells5 HX1.out
    have HX2 := Lib.hid (fill5 HX1.out (.slice A1 d.text.length c1) (.slice A2 d.data.length c2) (.slice A3 d.syms.length c3) (.slice A4 d.rels.length c4) (.slice A5 d.ents.length c5))
    have HY2 := Lib.hid (show (((((w1.setCell ⟨w.heap.size, 0, none⟩ (.slice A1 d.text.length c1)).setCell ⟨w.heap.size, 1, none⟩ (.slice A2 d.data.length c2)).setCell ⟨w.heap.size, 2, none⟩ (.slice A3 d.syms.length c3)).setCell ⟨w.heap.size, 3, none⟩ (.slice A4 d.rels.length c4)).setCell ⟨w.heap.size, 4, none⟩ (.slice A5 d.ents.length c5)).heap[w.heap.size + 1]? = some (.cells #[.int .i64 0] 36 (0, 0)) from (setNew_row (by omega)).trans ((setNew_row (by omega)).trans ((setNew_row (by omega)).trans ((setNew_row (by omega)).trans ((setNew_row (by omega)).trans HY1.out)))))
    have HB2 := Lib.hid (below_setNew (below_setNew (below_setNew (below_setNew (below_setNew HB1.out (b := w.heap.size) (o := 0) (v := .slice A1 d.text.length c1) (Nat.le_refl _)) (b := w.heap.size) (o := 1) (v := .slice A2 d.data.length c2) (Nat.le_refl _)) (b := w.heap.size) (o := 2) (v := .slice A3 d.syms.length c3) (Nat.le_refl _)) (b := w.heap.size) (o := 3) (v := .slice A4 d.rels.length c4) (Nat.le_refl _)) (b := w.heap.size) (o := 4) (v := .slice A5 d.ents.length c5) (Nat.le_refl _))
    have HO2 := Lib.hid (show ObjAt (((((w1.setCell ⟨w.heap.size, 0, none⟩ (.slice A1 d.text.length c1)).setCell ⟨w.heap.size, 1, none⟩ (.slice A2 d.data.length c2)).setCell ⟨w.heap.size, 2, none⟩ (.slice A3 d.syms.length c3)).setCell ⟨w.heap.size, 3, none⟩ (.slice A4 d.rels.length c4)).setCell ⟨w.heap.size, 4, none⟩ (.slice A5 d.ents.length c5)) (w.heap.size + 2) w1.heap.size d (.agg #[.slice A1 d.text.length c1, .slice A2 d.data.length c2, .slice A3 d.syms.length c3, .slice A4 d.rels.length c4, .slice A5 d.ents.length c5]) from ((((HO.out.setNew (by omega)).setNew (by omega)).setNew (by omega)).setNew (by omega)).setNew (by omega))
    have HSz2 := Lib.hid (show (((((w1.setCell ⟨w.heap.size, 0, none⟩ (.slice A1 d.text.length c1)).setCell ⟨w.heap.size, 1, none⟩ (.slice A2 d.data.length c2)).setCell ⟨w.heap.size, 2, none⟩ (.slice A3 d.syms.length c3)).setCell ⟨w.heap.size, 3, none⟩ (.slice A4 d.rels.length c4)).setCell ⟨w.heap.size, 4, none⟩ (.slice A5 d.ents.length c5)).heap.size = w1.heap.size by simp only [size_set])
    clear hb hr hlo
    go_wp2_with fail
    refine (may_obj d HWd.out (.agg #[.slice A1 d.text.length c1, .slice A2 d.data.length c2, .slice A3 d.syms.length c3, .slice A4 d.rels.length c4, .slice A5 d.ents.length c5]) (w.heap.size + 2) w1.heap.size _ (HTb.out.below HB2.out) HO2.out (Nat.le_of_eq HSz2.out.symm)).mono ?_
    rintro e w3 ⟨rfl, hb⟩
    have HB3 := Lib.hid (HB2.out.trans (hb.mono HB2.out.size))
    have HX3 := Lib.hid ((hb.block w.heap.size (by have := (Array.getElem?_eq_some_iff.1 HX2.out).1; exact this)).trans HX2.out)
    have HY3 := Lib.hid ((hb.block (w.heap.size + 1) (by have := (Array.getElem?_eq_some_iff.1 HY2.out).1; exact this)).trans HY2.out)
    have HO3 := Lib.hid (HO2.out.move (Nat.le_refl _) (show w1.heap.size ≤ w3.heap.size by have := hb.size; rw [HSz2.out] at this; exact this) (fun b g1 g2 => hb.block b (by rw [HSz2.out]; exact g2)))
    clear hb z0 z1 z2 z3 z4 gr
    cases hmy : mayO d with
    | false =>
      have HNo := Lib.hid (show decB l = none by rw [HDe.out, hmy]; rfl)
      clear hmy
      go_wp2_with fail
      refine (want_no _).mono ?_
      rintro e w' ⟨rfl, rfl⟩
      refine door_lack ?_
      refine leaves_cons (f := 42) (args := #[.pointer (some ⟨w.heap.size, 0, none⟩), .pointer (some ⟨w.heap.size + 1, 0, none⟩)]) (by simp) (by simp [go_sem]) ?_
      refine (catch_lack w.heap.size (w.heap.size + 1) _ _ _ _ _ _ _ _ _ HX3.out HY3.out (by omega)).mono ?_
      rintro e u' w2 ⟨rfl, rfl, h1, h2, h3⟩
      refine ⟨_, res_dec (b1 := w.heap.size) (b2 := w.heap.size + 1) rfl rfl h1 h2, DecP.mkNo HNo.out ?_ rfl⟩
      exact ⟨h3.os.trans HB3.out.os, h3.tape.trans HB3.out.tape, h3.output.trans HB3.out.output, Nat.le_trans HB3.out.size h3.size, fun k hk => (h3.block k (Nat.lt_of_lt_of_le hk HB3.out.size) (by omega)).trans (HB3.out.block k hk)⟩
    | true =>
      have HYes := Lib.hid (show decB l = some d by rw [HDe.out, hmy]; rfl)
      clear hmy
      obtain ⟨⟨z0, z1, z2, z3, z4⟩, gr⟩ := row_cells5 HX3.out
      have y0 := cell_of_row w3 (w.heap.size + 1) 0 _ _ _ HY3.out
      simp only [List.getElem?_toArray, List.getElem?_cons_zero] at y0
      have yr := frozen_of_row w3 (w.heap.size + 1) 0 _ _ HY3.out
      go_wp2_with fail
      refine (want_yes _).mono ?_
      rintro e w' ⟨rfl, rfl⟩
      go_wp2
      have HX4 := Lib.hid (show ((((((w3.setCell ⟨w.heap.size, 0, none⟩ (.slice A1 d.text.length c1)).setCell ⟨w.heap.size, 1, none⟩ (.slice A2 d.data.length c2)).setCell ⟨w.heap.size, 2, none⟩ (.slice A3 d.syms.length c3)).setCell ⟨w.heap.size, 3, none⟩ (.slice A4 d.rels.length c4)).setCell ⟨w.heap.size, 4, none⟩ (.slice A5 d.ents.length c5)).setCell ⟨w.heap.size + 1, 0, none⟩ (.int .i64 0)).heap[w.heap.size]? = _ from (setNew_row (by omega)).trans (fill5 HX3.out (.slice A1 d.text.length c1) (.slice A2 d.data.length c2) (.slice A3 d.syms.length c3) (.slice A4 d.rels.length c4) (.slice A5 d.ents.length c5)))
      have HY4 := Lib.hid (show ((((((w3.setCell ⟨w.heap.size, 0, none⟩ (.slice A1 d.text.length c1)).setCell ⟨w.heap.size, 1, none⟩ (.slice A2 d.data.length c2)).setCell ⟨w.heap.size, 2, none⟩ (.slice A3 d.syms.length c3)).setCell ⟨w.heap.size, 3, none⟩ (.slice A4 d.rels.length c4)).setCell ⟨w.heap.size, 4, none⟩ (.slice A5 d.ents.length c5)).setCell ⟨w.heap.size + 1, 0, none⟩ (.int .i64 0)).heap[w.heap.size + 1]? = _ from heap_setCell_same _ (w.heap.size + 1) 0 _ _ (.int .i64 0) ((setNew_row (by omega)).trans ((setNew_row (by omega)).trans ((setNew_row (by omega)).trans ((setNew_row (by omega)).trans ((setNew_row (by omega)).trans HY3.out))))))
      have HB4 := Lib.hid (show Below w.heap.size w ((((((w3.setCell ⟨w.heap.size, 0, none⟩ (.slice A1 d.text.length c1)).setCell ⟨w.heap.size, 1, none⟩ (.slice A2 d.data.length c2)).setCell ⟨w.heap.size, 2, none⟩ (.slice A3 d.syms.length c3)).setCell ⟨w.heap.size, 3, none⟩ (.slice A4 d.rels.length c4)).setCell ⟨w.heap.size, 4, none⟩ (.slice A5 d.ents.length c5)).setCell ⟨w.heap.size + 1, 0, none⟩ (.int .i64 0)) from below_setNew (below_setNew (below_setNew (below_setNew (below_setNew (below_setNew HB3.out (Nat.le_refl _)) (Nat.le_refl _)) (Nat.le_refl _)) (Nat.le_refl _)) (Nat.le_refl _)) (by omega))
      have HO4 := Lib.hid (show ObjAt ((((((w3.setCell ⟨w.heap.size, 0, none⟩ (.slice A1 d.text.length c1)).setCell ⟨w.heap.size, 1, none⟩ (.slice A2 d.data.length c2)).setCell ⟨w.heap.size, 2, none⟩ (.slice A3 d.syms.length c3)).setCell ⟨w.heap.size, 3, none⟩ (.slice A4 d.rels.length c4)).setCell ⟨w.heap.size, 4, none⟩ (.slice A5 d.ents.length c5)).setCell ⟨w.heap.size + 1, 0, none⟩ (.int .i64 0)) w.heap.size ((((((w3.setCell ⟨w.heap.size, 0, none⟩ (.slice A1 d.text.length c1)).setCell ⟨w.heap.size, 1, none⟩ (.slice A2 d.data.length c2)).setCell ⟨w.heap.size, 2, none⟩ (.slice A3 d.syms.length c3)).setCell ⟨w.heap.size, 3, none⟩ (.slice A4 d.rels.length c4)).setCell ⟨w.heap.size, 4, none⟩ (.slice A5 d.ents.length c5)).setCell ⟨w.heap.size + 1, 0, none⟩ (.int .i64 0)).heap.size d (.agg #[.slice A1 d.text.length c1, .slice A2 d.data.length c2, .slice A3 d.syms.length c3, .slice A4 d.rels.length c4, .slice A5 d.ents.length c5]) from ((((((HO3.out.setNew (by omega)).setNew (by omega)).setNew (by omega)).setNew (by omega)).setNew (by omega)).setNew (by omega)).move (by omega) (Nat.le_of_eq (by simp only [size_set])) (fun _ _ _ => rfl))
      refine leaves_cons (f := 42) (args := #[.pointer (some ⟨w.heap.size, 0, none⟩), .pointer (some ⟨w.heap.size + 1, 0, none⟩)]) (by simp) (by simp [go_sem]) ?_
      refine (catch_idle ⟨w.heap.size, 0, none⟩ ⟨w.heap.size + 1, 0, none⟩ _).mono ?_
      rintro e u' w4 ⟨rfl, rfl, rfl⟩
      exact ⟨_, res_dec (b1 := w.heap.size) (b2 := w.heap.size + 1) rfl rfl HX4.out HY4.out, DecP.mkYes HYes.out HB4.out rfl HO4.out⟩
end Go.Proofs.YtfdpbogbnfkilaaDoor
