/- Layer 6: the reader of package obj: all of a row of bytes. -/
import Derived.Test.YtfdpbogbnfkilaaDoorObjRdO
namespace Go.Proofs.YtfdpbogbnfkilaaDoor
set_option maxRecDepth 100000
open Go.RowKit
set_option linter.unusedVariables false
def rdTop (l : List Int) : Option ObjD := match rdObj l with
  | some (d, []) => some d
  | _ => none
/-- what a call that reads objects comes to -/
def TopP (r : Option ObjD) (w : World) (e : Ending) (w' : World) : Prop :=
  Below w.heap.size w w' ∧ match r with
    | none => e = lackP
    | some d => ∃ v, e = .returned v ∧ ObjAt w' w.heap.size w'.heap.size d v
theorem TopP.mkNo {r : Option ObjD} {w w' : World} (hr : r = none) (hb : Below w.heap.size w w') : TopP r w lackP w' := by subst hr; exact ⟨hb, rfl⟩
theorem TopP.mkYes {r : Option ObjD} {w w' : World} {d : ObjD} {v : Value} (hr : r = some d) (hb : Below w.heap.size w w') (ho : ObjAt w' w.heap.size w'.heap.size d v) : TopP r w (.returned v) w' := by subst hr; exact ⟨hb, v, rfl, ho⟩
theorem res_all {T : Array Value} {b : Nat} {W : World} {v0 v1 v2 v3 v4 : Value} (hT : T[2]? = some (.pointer (some ⟨b, 0, none⟩))) (h : W.heap[b]? = some (.cells #[v0, v1, v2, v3, v4] 28 (0, 0))) :
    (results Tryd.f43 T).run Tryd.prog W = .ok (.agg #[v0, v1, v2, v3, v4]) W := by
  have h0 := cell_of_row W b 0 _ _ _ h
  have h1 := cell_of_row W b 1 _ _ _ h
  have h2 := cell_of_row W b 2 _ _ _ h
  have h3 := cell_of_row W b 3 _ _ _ h
  have h4 := cell_of_row W b 4 _ _ _ h
  simp only [List.getElem?_toArray, List.getElem?_cons_zero, List.getElem?_cons_succ] at h0 h1 h2 h3 h4
  simp [results, Tryd.results43, go_sem, hT, h0, h1, h2, h3, h4]
/-- bytes in a block below hi -/
def SlB (w : World) (hi : Nat) (A : Option Addr) (l : List Int) : Prop := l = [] ∨ ∃ b off, A = some ⟨b, off, none⟩ ∧ b < hi ∧ ∀ k, k < l.length → w.cell? ⟨b, off + k, none⟩ = some (.int .u8 (nth l k))
theorem RdIs.make {w : World} {A : Option Addr} {l : List Int} {n c : Nat} {o : Obj} (hs : SlB w w.heap.size A l) (hn : l.length = n) (ha : AllB l) (hc : n ≤ c) (hm : c ≤ maxLen) :
    RdIs ((w.alloc o).alloc (.cells #[.slice A n c] 124)) (w.heap.size + 1) (w.heap.size + 2) l := by
  have hp : ((w.alloc o).alloc (.cells #[.slice A n c] 124)).heap[w.heap.size + 1]? = some (.cells #[.slice A n c] 124 (0, 0)) := by
    have h := heap_alloc_new (w.alloc o) (.cells #[.slice A n c] 124); simpa using h
  refine ⟨A, n, c, hp, hn.symm, ha, ?_, hc, hm, by omega, by simp⟩
  rcases hs with h | ⟨b, off, e, hb, hcell⟩
  · exact .inl h
  · refine .inr ⟨b, off, e, by omega, by omega, fun k hk => ?_⟩
    rw [World.cell?_of_block ((heap_alloc_old (w.alloc o) _ (r := b) (by simp; omega)).trans (heap_alloc_old w o (r := b) hb))]
    exact hcell k hk
theorem RdOut.to_below {p : Nat} {w w0 w' : World} (h : RdOut p w0 w') (hb : Below w.heap.size w w0) (hp : w.heap.size ≤ p) : Below w.heap.size w w' :=
  ⟨h.os.trans hb.os, h.tape.trans hb.tape, h.output.trans hb.output, Nat.le_trans hb.size h.size, fun k hk => (h.block k (Nat.lt_of_lt_of_le hk hb.size) (by omega)).trans (hb.block k hk)⟩
theorem below_setNew {w w1 : World} {b o : Nat} {v : Value} (h : Below w.heap.size w w1) (hb : w.heap.size ≤ b) : Below w.heap.size w (w1.setCell ⟨b, o, none⟩ v) :=
  ⟨h.os, h.tape, h.output, by rw [size_set]; exact h.size, fun k hk => (setNew_row (by omega)).trans (h.block k hk)⟩
theorem ObjAt.setNew {w : World} {lo hi c o : Nat} {d : ObjD} {v u : Value} (h : ObjAt w lo hi d v) (hc : c < lo) : ObjAt (w.setCell ⟨c, o, none⟩ u) lo hi d v :=
  h.move (Nat.le_refl _) (Nat.le_refl _) (fun b h1 h2 => setNew_row (by omega))
theorem rdTop_of {l r : List Int} {d : ObjD} (h : rdObj l = some (d, r)) : (r ≠ [] → rdTop l = none) ∧ (r = [] → rdTop l = some d) := by
  unfold rdTop
  rw [h]
  constructor
  · intro hr
    cases r with
    | nil => exact absurd rfl hr
    | cons x r => rfl
  · intro hr; subst hr; rfl
set_option maxHeartbeats 1000000 in
theorem readAll_any (A : Option Addr) (l : List Int) (n c : Nat) (w : World) (hs : SlB w w.heap.size A l) (hn : l.length = n) (ha : AllB l) (hc : n ≤ c) (hm : c ≤ maxLen) :
    Calls Tryd.prog 43 #[.slice A n c] w (TopP (rdTop l) w) := by
  have HR := Lib.hid (RdIs.make (o := .cells #[.slice none 0 0, .slice none 0 0, .slice none 0 0, .slice none 0 0, .slice none 0 0] 28) hs hn ha hc hm)
  have HB := Lib.hid (((Below.refl w.heap.size w).alloc (Nat.le_refl _) (.cells #[.slice none 0 0, .slice none 0 0, .slice none 0 0, .slice none 0 0, .slice none 0 0] 28)).alloc (by simp) (.cells #[.slice A n c] 124))
  have HX := Lib.hid (show ((w.alloc (.cells #[.slice none 0 0, .slice none 0 0, .slice none 0 0, .slice none 0 0, .slice none 0 0] 28)).alloc (.cells #[.slice A n c] 124)).heap[w.heap.size]? = some (.cells #[.slice none 0 0, .slice none 0 0, .slice none 0 0, .slice none 0 0, .slice none 0 0] 28 (0, 0)) by exact (heap_alloc_old _ _ (by simp)).trans (heap_alloc_new w _))
  have HSz := Lib.hid (show ((w.alloc (.cells #[.slice none 0 0, .slice none 0 0, .slice none 0 0, .slice none 0 0, .slice none 0 0] 28)).alloc (.cells #[.slice A n c] 124)).heap.size = w.heap.size + 2 by simp)
  clear hs hn ha hc hm
  go_enter Tryd.func43, Tryd.ntmps43
  go_wp2_with fail
  refine (rdobj_any (w.heap.size + 1) (w.heap.size + 2) l _ HR.out).mono ?_
  intro e w1 h1
  cases hr : rdObj l with
  | none =>
    obtain ⟨rfl, ho⟩ := h1.no hr
    exact ⟨rfl, TopP.mkNo (by unfold rdTop; rw [hr]) (ho.to_below HB.out (by omega))⟩
  | some q =>
  obtain ⟨d, r⟩ := q
  obtain ⟨v, rfl, hobj, h2, h3⟩ := h1.yes hr
  have HTop := Lib.hid (rdTop_of hr)
  have HB1 := Lib.hid (h3.to_below HB.out (by omega))
  have HX1 := Lib.hid (h3.row HX.out (by omega))
  have hobj2 : ObjAt w1 (w.heap.size + 2) w1.heap.size d v := by have := hobj; unfold ObjV at this; rw [HSz.out] at this; exact this
  have HOb := Lib.hid hobj2
  have HSz1 := Lib.hid (show w.heap.size + 2 ≤ w1.heap.size by have := h3.size; rw [HSz.out] at this; exact this)
  obtain ⟨A', n', c', hV⟩ := h2
  have hcell := hV.cell
  have hfree := hV.free
  have hl' := hV.2.1
  have HN := Lib.hid hl'
  obtain ⟨A1, c1, A2, c2, A3, c3, A4, c4, A5, c5, es, rfl, _⟩ := hobj
  clear h1 h3 hr hobj2 hV hl'
  have hlt : w.heap.size + 1 < w1.heap.size := by have := HSz1.out; omega
  by_cases h0 : n' = 0
  case neg =>
    have hx : ((n' : Int) == 0) = false := by rw [beq_eq_false_iff_ne]; omega
    have HZ := Lib.hid h0
    clear h0
    go_wp2_with fail
    refine (want_no _).mono ?_
    rintro e w' ⟨rfl, rfl⟩
    refine ⟨rfl, TopP.mkNo (HTop.out.1 (fun e => by have h1 := HN.out; have h2 := HZ.out; subst e; exact h2 h1)) (HB1.out.trans (((Below.refl _ _).alloc (Nat.le_refl _) _).mono HB1.out.size))⟩
  subst h0
  have HR0 := Lib.hid (show r = [] from List.eq_nil_of_length_eq_zero HN.out.symm)
  go_wp2_with fail
  refine (want_yes _).mono ?_
  rintro e w' ⟨rfl, rfl⟩
  clear hcell hfree
  have HXa := Lib.hid ((heap_alloc_old w1 (.cells #[.slice A1 d.text.length c1, .slice A2 d.data.length c2, .slice A3 d.syms.length c3, .slice A4 d.rels.length c4, .slice A5 d.ents.length c5] 28) (Array.getElem?_eq_some_iff.1 HX1.out).1).trans HX1.out)
  obtain ⟨⟨z0, z1, z2, z3, z4⟩, gr⟩ := row_cells5 HXa.out
  have hne : w.heap.size ≠ w1.heap.size := by omega
  go_wp2
  have HW := Lib.hid (fill5 HXa.out (.slice A1 d.text.length c1) (.slice A2 d.data.length c2) (.slice A3 d.syms.length c3) (.slice A4 d.rels.length c4) (.slice A5 d.ents.length c5))
  refine bodyPost_ret (res_all (b := w.heap.size) ?hT HW.out) rfl ?_
  case hT => rfl
  refine TopP.mkYes (HTop.out.2 HR0.out) ?hb ?ho
  case hb => (repeat (first | with_reducible exact (HB1.out.trans (((Below.refl _ _).alloc (Nat.le_refl _) _).mono HB1.out.size)) | refine below_setNew ?_ (Nat.le_refl _)))
  case ho =>
    have h1 : ObjAt (w1.alloc (.cells #[.slice A1 d.text.length c1, .slice A2 d.data.length c2, .slice A3 d.syms.length c3, .slice A4 d.rels.length c4, .slice A5 d.ents.length c5] 28)) (w.heap.size + 1) w1.heap.size d _ := HOb.out.move (by omega) (Nat.le_refl _) (fun b h1 h2 => heap_alloc_old w1 _ h2)
    have h2 := (((((h1.setNew (c := w.heap.size) (o := 0) (u := .slice A1 d.text.length c1) (by omega)).setNew (c := w.heap.size) (o := 1) (u := .slice A2 d.data.length c2) (by omega)).setNew (c := w.heap.size) (o := 2) (u := .slice A3 d.syms.length c3) (by omega)).setNew (c := w.heap.size) (o := 3) (u := .slice A4 d.rels.length c4) (by omega)).setNew (c := w.heap.size) (o := 4) (u := .slice A5 d.ents.length c5) (by omega))
    exact h2.move (by omega) (by simp only [size_set]; simp) (fun _ _ _ => rfl)
end Go.Proofs.YtfdpbogbnfkilaaDoor
