/- Layer 8: suits, fitting, Relocate. Condition: the tables of package ins read as they should.
   Layer 8: all texts, plainly; a row of words that grows and is written. Condition: the tables of package ins read as they should.
   Layer 8: what a right list fixes; all texts, walked. Condition: the tables of package ins read as they should.
   Layer 8: fitting, of texts. Condition: the tables of package ins read as they should. -/
import Derived.Test.YtjngkifoaljmaaaDoorPlaA
namespace Go.Proofs.YtjngkifoaljmaaaDoor
set_option maxRecDepth 100000
open Go.RowKit
set_option linter.unusedVariables false
/-- the object of just a word and a relocation -/
def suO (v kind : Int) : ObjD := ⟨[v], [], [], [(0, kind, ⟨#[120]⟩, 0)], []⟩
theorem suO_w {v kind : Int} (hv : IsW v) (hk : IsI kind) : ObjW (suO v kind) where
  text := fun x hx => by simp only [suO, List.mem_singleton] at hx; subst hx; exact hv
  data := by simp [suO]
  syms := by simp [suO]
  rels := fun x hx => by simp only [suO, List.mem_singleton] at hx; subst hx; exact ⟨by unfold IsI; simp, hk, show 1 ≤ maxLen from by unfold maxLen; omega, by unfold IsI; simp⟩
  ents := by simp [suO]
theorem suO_at {w : World} {b1 b2 K : Nat} {T1 T2 : TypeId} {v kind : Int} (h1 : w.heap[b1]? = some (.cells #[.int .u32 v] T1 (0, 0))) (h2 : w.heap[b2]? = some (.cells #[.int .i64 0, .int .i64 kind, .string ⟨#[120]⟩, .int .i64 0] T2 (0, 0))) (k1 : b1 < K) (k2 : b2 < K) :
    ObjAt w 0 K (suO v kind) (.agg #[.slice (some ⟨b1, 0, none⟩) 1 1, .slice none 0 0, .slice none 0 0, .slice (some ⟨b2, 0, none⟩) 1 1, .slice none 0 0]) :=
  ⟨_, 1, none, 0, none, 0, _, 1, none, 0, [], rfl, rowC_one h1 k1, .inl rfl, .inl rfl, rowC_one h2 k2, .inl rfl, rfl⟩
set_option maxHeartbeats 2000000 in
theorem suits8_any (v kind : Int) (hv : IsW v) (hk : IsI kind) (w : World) (hT : Tabs w) :
    Calls Tryd.prog 24 #[.int .u32 v, .int .i64 kind] w fun e w' => e = .returned (.bool (mayO (suO v kind))) ∧ Below w.heap.size w w' := by
  have hb := ((Below.refl w.heap.size w).alloc (Nat.le_refl _) (.cells #[.int .u32 v] 22)).alloc (by simp) (.cells #[.int .i64 0, .int .i64 kind, .string ⟨#[120]⟩, .int .i64 0] 47)
  have h1 := heap_alloc_new w (.cells #[.int .u32 v] 22)
  have h2 := heap_alloc_new (w.alloc (.cells #[.int .u32 v] 22)) (.cells #[.int .i64 0, .int .i64 kind, .string ⟨#[120]⟩, .int .i64 0] 47)
  rw [show (w.alloc (.cells #[.int .u32 v] 22)).heap.size = w.heap.size + 1 by simp] at h2
  have h1' := (heap_alloc_old (w.alloc (.cells #[.int .u32 v] 22)) (.cells #[.int .i64 0, .int .i64 kind, .string ⟨#[120]⟩, .int .i64 0] 47) (Array.getElem?_eq_some_iff.1 h1).1).trans h1
  have HM := Lib.hid (may_obj (suO v kind) (suO_w hv hk) _ 0 (w.heap.size + 2) _ (hT.below hb) (suO_at h1' h2 (by omega) (by omega)) (by simp))
  have HB := Lib.hid hb
  clear h1 h2 h1' hb hT hv hk
  go_enter Tryd.func24, Tryd.ntmps24
  go_wp2_with fail
  refine HM.out.mono ?_
  rintro e w1 ⟨rfl, hb⟩
  have HB1 := Lib.hid (HB.out.trans (hb.mono HB.out.size))
  clear hb
  go_wp2
  go_ret
  exact ⟨rfl, HB1.out⟩
theorem fit_idle (p : Addr) (w : World) :
    CallsD Tryd.prog 41 #[.pointer (some p)] .returning w fun e u' w' => e = .returned (.tuple #[]) ∧ u' = .returning ∧ w' = w := by
  refine callsD_of_wpS Tryd.func41 rfl fun c₀ cs hu => ?_
  apply wpS_seq
  apply wpS_region
  simp [wpOpsS, go_sem, recoverD, hu, Tryd.ntmps41, Exit.thenS]
  refine wpS_of_wp ?_
  go_wp2
  cases c₀
  simp_all [bodyPostS, results, Tryd.results41]
theorem fit_mis (b : Nat) (v0 : Value) (T : TypeId) (w : World) (h : w.heap[b]? = some (.cells #[v0] T (0, 0))) :
    CallsD Tryd.prog 41 #[.pointer (some ⟨b, 0, none⟩)] (.panicking ({ v := misV, recovered := false } :: [])) w fun e u' w' =>
      e = .returned (.tuple #[]) ∧ u' = .panicking ({ v := misV, recovered := true } :: []) ∧ w'.heap[b]? = some (.cells #[.int .i64 5] T (0, 0)) ∧ (∀ n, n ≤ b → Below n w w') := by
  have y0 := cell_of_row w b 0 _ _ _ h
  simp only [List.getElem?_toArray, List.getElem?_cons_zero] at y0
  have yr := frozen_of_row w b 0 _ _ h
  have h' := (heap_alloc_old w (.cells #[] 91) (Array.getElem?_eq_some_iff.1 h).1).trans h
  have y0' := cell_of_row _ b 0 _ _ _ h'
  simp only [List.getElem?_toArray, List.getElem?_cons_zero] at y0'
  have yr' := frozen_of_row _ b 0 _ _ h'
  have hlt := (Array.getElem?_eq_some_iff.1 h).1
  refine callsD_of_wpS Tryd.func41 rfl fun c₀ cs hu => ?_
  apply wpS_seq
  apply wpS_region
  simp [wpOpsS, go_sem, recoverD, hu, Tryd.ntmps41, Exit.thenS]
  refine wpS_of_wp ?_
  have hta : ∀ w : World, (Instr.typeAssert (.iface 91 (.agg #[])) 20 91 true).run Tryd.prog w = .ok (.tuple #[.agg #[], .bool true]) w := fun w => by kernel_rfl
  unfold misV
  go_wp2
  refine ⟨rfl, .panicking [{ v := .iface 91 (.agg #[]), recovered := true }], by cases c₀; rfl, .tuple #[], ?hres, rfl, rfl, ?h1, ?h2⟩
  case hres => simp [results, Tryd.results41]
  case h1 =>
    have hs := heap_setCell_same w b 0 _ _ (.int .i64 5) h
    exact (heap_alloc_old _ _ (Array.getElem?_eq_some_iff.1 hs).1).trans hs
  case h2 => exact fun n hn => ((Below.refl n w).setCell (p := ⟨b, 0, none⟩) hn _).alloc (Nat.le_trans hn (by rw [size_set7]; exact Nat.le_of_lt hlt)) _
def FitP (r : Option Int) (w : World) (e : Ending) (w' : World) : Prop := Below w.heap.size w w' ∧ e = .returned (.tuple #[.int .u32 (r.getD 0), .int .i64 (if r.isSome then 0 else 5)])
theorem res_fit {T : Array Value} {b : Nat} {x : Int} {W : World} {v0 : Value} {ty : TypeId} (h2 : T[2]? = some (.int .u32 x)) (h3 : T[3]? = some (.pointer (some ⟨b, 0, none⟩))) (hr : W.heap[b]? = some (.cells #[v0] ty (0, 0))) :
    (results Tryd.f25 T).run Tryd.prog W = .ok (.tuple #[.int .u32 x, v0]) W := by
  have y0 := cell_of_row W b 0 _ _ _ hr
  simp only [List.getElem?_toArray, List.getElem?_cons_zero] at y0
  simp [results, Tryd.results25, go_sem, h2, h3, y0]
theorem door_mis {P : Program} {fn : Func} {R : Ending → World → Prop} {w : World} {b : Nat} {T : Array Value} (h : Leaves P fn T R [{ target := Target.fn (Fn.func 41) #[.pointer (some ⟨b, 0, none⟩)], args := #[] }] (.panicking [{ v := misV, recovered := false }]) w) :
    bodyPostD P fn R (.panic [{ v := misV, recovered := false }]) { tmps := T, defers := [{ target := Target.fn (Fn.func 41) #[.pointer (some ⟨b, 0, none⟩)], args := #[] }] } w := h
set_option maxHeartbeats 2000000 in
theorem fit_any (p0 p1 p2 p3 : Value) (r : Option Int) (w : World) (hC : Calls Tryd.prog 26 #[p0, p1, p2, p3] (w.alloc (.cells #[.int .i64 0] 25)) (DonP r (w.alloc (.cells #[.int .i64 0] 25)))) :
    Calls Tryd.prog 25 #[.func (.func 26) #[] #[p0, p1, p2, p3]] w (FitP r w) := by
  have hmf : ∀ (fn : Fn) (first cap : Array Value) (w : World), (Instr.makeFunc fn first cap).run Tryd.prog w = .ok (.func fn first cap) w := fun _ _ _ _ => rfl
  have HB := Lib.hid ((Below.refl w.heap.size w).alloc (Nat.le_refl _) (.cells #[.int .i64 0] 25))
  have HX := Lib.hid (heap_alloc_new w (.cells #[.int .i64 0] 25))
  have HC := Lib.hid hC
  clear hC
  go_enter_defers Tryd.func25, Tryd.ntmps25
  go_wp2_with fail
  refine HC.out.mono ?_
  intro e w1 h1
  cases r with
  | none =>
    obtain ⟨hb, rfl⟩ := h1
    have HB1 := Lib.hid (HB.out.trans (hb.mono HB.out.size))
    have HX1 := Lib.hid ((hb.block _ (Array.getElem?_eq_some_iff.1 HX.out).1).trans HX.out)
    clear hb
    refine door_mis ?_
    refine leaves_cons (f := 41) (args := #[.pointer (some ⟨w.heap.size, 0, none⟩)]) (by simp) (by simp [go_sem]) ?_
    refine (fit_mis w.heap.size _ _ _ HX1.out).mono ?_
    rintro e u' w2 ⟨rfl, rfl, h1, h2⟩
    exact ⟨_, res_fit (b := w.heap.size) rfl rfl h1, HB1.out.trans (h2 _ (Nat.le_refl _)), rfl⟩
  | some x =>
    obtain ⟨hb, rfl⟩ := h1
    have HB1 := Lib.hid (HB.out.trans (hb.mono HB.out.size))
    have HX1 := Lib.hid ((hb.block _ (Array.getElem?_eq_some_iff.1 HX.out).1).trans HX.out)
    clear hb
    have y0 := cell_of_row w1 w.heap.size 0 _ _ _ HX1.out
    simp only [List.getElem?_toArray, List.getElem?_cons_zero] at y0
    have yr := frozen_of_row w1 w.heap.size 0 _ _ HX1.out
    go_wp2
    refine leaves_cons (f := 41) (args := #[.pointer (some ⟨w.heap.size, 0, none⟩)]) (by simp) (by simp [go_sem]) ?_
    refine (fit_idle ⟨w.heap.size, 0, none⟩ _).mono ?_
    rintro e u' w4 ⟨rfl, rfl, rfl⟩
    exact ⟨_, res_fit (b := w.heap.size) rfl rfl (heap_setCell_same _ _ _ _ _ _ HX1.out), below_setNew HB1.out (Nat.le_refl _), rfl⟩
/-- what Relocate answers: a word, and a code -/
def relV (v kind p x : Int) : Int × Int := if mayO (suO v kind) = true then (match doneV v kind p x with
  | some y => (y, 0)
  | none => (0, 5)) else (0, 1)
theorem suO_op {v kind : Int} (h : mayO (suO v kind) = true) : (opOf v).isSome = true := by
  rw [mayO_eq] at h
  simp only [Bool.and_eq_true] at h
  have := h.1.2
  simpa [textB, suO] using this
theorem row1 {W : World} {b : Nat} {v0 : Value} {T : TypeId} (h : W.heap[b]? = some (.cells #[v0] T (0, 0))) : W.cell? ⟨b, 0, none⟩ = some v0 ∧ ∀ o, W.frozen? ⟨b, o, none⟩ = false := by
  have y0 := cell_of_row W b 0 _ _ _ h
  simp only [List.getElem?_toArray, List.getElem?_cons_zero] at y0
  exact ⟨y0, fun o => frozen_of_row W b o _ _ h⟩
theorem four_boxes (w : World) (v0 v1 v2 v3 : Value) (t0 t1 t2 t3 : TypeId) : ∃ W, (((w.alloc (.cells #[v0] t0)).alloc (.cells #[v1] t1)).alloc (.cells #[v2] t2)).alloc (.cells #[v3] t3) = W ∧ W.heap[w.heap.size]? = some (.cells #[v0] t0 (0, 0)) ∧ W.heap[w.heap.size + 1]? = some (.cells #[v1] t1 (0, 0)) ∧ W.heap[w.heap.size + 2]? = some (.cells #[v2] t2 (0, 0)) ∧ W.heap[w.heap.size + 3]? = some (.cells #[v3] t3 (0, 0)) ∧ Below w.heap.size w W ∧ W.heap.size = w.heap.size + 4 := by
  have s1 : (w.alloc (.cells #[v0] t0)).heap.size = w.heap.size + 1 := by simp
  have s2 : ((w.alloc (.cells #[v0] t0)).alloc (.cells #[v1] t1)).heap.size = w.heap.size + 2 := by simp
  have s3 : (((w.alloc (.cells #[v0] t0)).alloc (.cells #[v1] t1)).alloc (.cells #[v2] t2)).heap.size = w.heap.size + 3 := by simp
  have g0 := heap_alloc_new w (.cells #[v0] t0)
  have g1 := heap_alloc_new (w.alloc (.cells #[v0] t0)) (.cells #[v1] t1)
  have g2 := heap_alloc_new ((w.alloc (.cells #[v0] t0)).alloc (.cells #[v1] t1)) (.cells #[v2] t2)
  have g3 := heap_alloc_new (((w.alloc (.cells #[v0] t0)).alloc (.cells #[v1] t1)).alloc (.cells #[v2] t2)) (.cells #[v3] t3)
  rw [s1] at g1
  rw [s2] at g2
  rw [s3] at g3
  refine ⟨_, rfl, ?_, ?_, ?_, g3, (((((Below.refl _ w).alloc (Nat.le_refl _) _).alloc (by omega) _).alloc (by omega) _).alloc (by omega) _), by simp⟩
  · rw [heap_alloc_old _ _ (by omega), heap_alloc_old _ _ (by omega), heap_alloc_old _ _ (by omega)]; exact g0
  · rw [heap_alloc_old _ _ (by omega), heap_alloc_old _ _ (by omega)]; exact g1
  · rw [heap_alloc_old _ _ (by omega)]; exact g2
def RelP (r : Int × Int) (w : World) (e : Ending) (w' : World) : Prop := Below w.heap.size w w' ∧ e = .returned (.tuple #[.int .u32 r.1, .int .i64 r.2])
set_option maxHeartbeats 2000000 in
theorem boxed_done (v kind p x : Int) (hv : IsW v) (hop : (opOf v).isSome = true) (hp : IsU p) (hx : IsU x) (b0 b1 b2 b3 : Nat) (w : World) (hT : Tabs w) (h0 : w.cell? ⟨b0, 0, none⟩ = some (.int .u32 v)) (h1 : w.cell? ⟨b1, 0, none⟩ = some (.int .i64 kind)) (h2 : w.cell? ⟨b2, 0, none⟩ = some (.int .u64 p)) (h3 : w.cell? ⟨b3, 0, none⟩ = some (.int .u64 x)) :
    Calls Tryd.prog 26 #[.pointer (some ⟨b0, 0, none⟩), .pointer (some ⟨b1, 0, none⟩), .pointer (some ⟨b2, 0, none⟩), .pointer (some ⟨b3, 0, none⟩)] w (DonP (doneV v kind p x) w) := by
  have HD := Lib.hid (done_any v kind p x hv hop hp hx w hT)
  clear hv hop hp hx hT
  go_enter Tryd.func26, Tryd.ntmps26
  go_wp2_with fail
  refine HD.out.mono ?_
  intro e w1 h
  cases hr : doneV v kind p x with
  | none =>
    rw [hr] at h
    obtain ⟨hb, rfl⟩ := h
    have HB := Lib.hid hb
    clear hb
    exact ⟨rfl, DonP.no (by first | rfl | exact hr) HB.out⟩
  | some y =>
    rw [hr] at h
    obtain ⟨hb, rfl⟩ := h
    have HB := Lib.hid hb
    have HQ := Lib.hid hr
    clear hb hr
    go_wp2
    go_ret
    exact DonP.yes (by first | rfl | exact HQ.out) HB.out
set_option maxHeartbeats 4000000 in
theorem relocate_any (v kind p x : Int) (hv : IsW v) (hk : IsI kind) (hp : IsU p) (hx : IsU x) (w : World) (hT : Tabs w) :
    Calls Tryd.prog 9 #[.int .u32 v, .int .i64 kind, .int .u64 p, .int .u64 x] w (RelP (relV v kind p x) w) := by
  have hmf : ∀ (fn : Fn) (first cap : Array Value) (w : World), (Instr.makeFunc fn first cap).run Tryd.prog w = .ok (.func fn first cap) w := fun _ _ _ _ => rfl
  obtain ⟨W, hWW, e0, e1, e2, e3, hbW, hsz⟩ := four_boxes w (.int .u32 v) (.int .i64 kind) (.int .u64 p) (.int .u64 x) 22 3 24 24
  have HB0 := Lib.hid hbW
  have HE := Lib.hid (And.intro e0 (And.intro e1 (And.intro e2 e3)))
  have y0 := (row1 e0).1
  have y1 := (row1 e1).1
  have y2 := (row1 e2).1
  have y3 := (row1 e3).1
  have HT := Lib.hid hT
  have HU := Lib.hid (And.intro hv (And.intro hk (And.intro hp hx)))
  clear hv hk hp hx hT e0 e1 e2 e3 hbW
  go_enter Tryd.func9, Tryd.ntmps9
  go_upto_region 1 with fail
  clear hWW
  go_wp2_with fail
  refine (suits8_any v kind HU.out.1 HU.out.2.1 W (HT.out.below HB0.out)).mono ?_
  rintro e w1 ⟨rfl, hb⟩
  have HB1 := Lib.hid (HB0.out.trans (hb.mono HB0.out.size))
  have x0 := (hb.cell (p := ⟨w.heap.size, 0, none⟩) (block_lt y0)).trans y0
  have x1 := (hb.cell (p := ⟨w.heap.size + 1, 0, none⟩) (block_lt y1)).trans y1
  have x2 := (hb.cell (p := ⟨w.heap.size + 2, 0, none⟩) (block_lt y2)).trans y2
  have x3 := (hb.cell (p := ⟨w.heap.size + 3, 0, none⟩) (block_lt y3)).trans y3
  clear hb y0 y1 y2 y3
  cases hm : mayO (suO v kind) with
  | false =>
    have HR := Lib.hid (show relV v kind p x = (0, 1) by unfold relV; rw [if_neg (by rw [hm]; simp)])
    clear hm
    go_wp2
    go_ret2
    exact ⟨HB1.out, by rw [HR.out]; rfl⟩
  | true =>
    have HO := Lib.hid (suO_op hm)
    have HR := Lib.hid (show relV v kind p x = (match doneV v kind p x with
      | some y => (y, 0)
      | none => (0, 5)) by unfold relV; rw [if_pos hm])
    have hbx := (Below.refl w1.heap.size w1).alloc (Nat.le_refl _) (.cells #[.int .i64 0] 25)
    have HC := Lib.hid (fit_any (.pointer (some ⟨w.heap.size, 0, none⟩)) (.pointer (some ⟨w.heap.size + 1, 0, none⟩)) (.pointer (some ⟨w.heap.size + 2, 0, none⟩)) (.pointer (some ⟨w.heap.size + 3, 0, none⟩)) (doneV v kind p x) w1
      (boxed_done v kind p x HU.out.1 HO.out HU.out.2.2.1 HU.out.2.2.2 _ _ _ _ _ ((HT.out.below HB1.out).below hbx)
        ((hbx.cell (p := ⟨w.heap.size, 0, none⟩) (block_lt x0)).trans x0) ((hbx.cell (p := ⟨w.heap.size + 1, 0, none⟩) (block_lt x1)).trans x1)
        ((hbx.cell (p := ⟨w.heap.size + 2, 0, none⟩) (block_lt x2)).trans x2) ((hbx.cell (p := ⟨w.heap.size + 3, 0, none⟩) (block_lt x3)).trans x3)))
    clear hm hbx x0 x1 x2 x3
    go_wp2_with fail
    refine HC.out.mono ?_
    rintro e w2 ⟨hb, rfl⟩
    have HB2 := Lib.hid (HB1.out.trans (hb.mono HB1.out.size))
    clear hb
    cases hd : doneV v kind p x with
    | none =>
      have HR2 := Lib.hid (show relV v kind p x = (0, 5) by rw [HR.out, hd])
      clear hd
      go_wp2
      go_ret2
      exact ⟨HB2.out, by rw [HR2.out]; rfl⟩
    | some y =>
      have HR2 := Lib.hid (show relV v kind p x = (y, 0) by rw [HR.out, hd])
      clear hd
      go_wp2
      go_ret2
      exact ⟨HB2.out, by rw [HR2.out]; rfl⟩
end Go.Proofs.YtjngkifoaljmaaaDoor
namespace Go.Proofs.YtjngkifoaljmaaaDoor
set_option maxRecDepth 100000
open Go.RowKit
set_option linter.unusedVariables false
/-- the address of what a Def says -/
def adrD (l : List ObjD) (xs : List (Int × Int)) (p : Int × Int) : Int := adr1 (xs.getD p.1.toNat (0, 0)) (symAt (nAt l p.1.toNat) p.2.toNat).2.1 (symAt (nAt l p.1.toNat) p.2.toNat).2.2.1
def tgD (l : List ObjD) (xs : List (Int × Int)) (i : Nat) (nm : ByteArray) (add : Int) : Int := match fndD l (i : Int) nm with
  | some p => tgV (adrD l xs p) add
  | none => 0
/-- which word a relocation is of -/
def posR (d : ObjD) (j : Nat) : Nat := ((relAt d j).1 / 4).toNat
/-- what becomes of it -/
def relX (l : List ObjD) (xs : List (Int × Int)) (i : Nat) (d : ObjD) (j : Nat) : Option Int :=
  doneV (d.text.getD (posR d j) 0) (relAt d j).2.1 (IntKind.u64.wrap ((xs.getD i (0, 0)).1 + IntKind.u64.wrap (relAt d j).1)) (tgD l xs i (relAt d j).2.2.1 (relAt d j).2.2.2)
/-- an object's text, the first relocations done -/
def relT (l : List ObjD) (xs : List (Int × Int)) (i : Nat) (d : ObjD) : Nat → Option (List Int)
  | 0 => some d.text
  | j + 1 => match relT l xs i d j with
    | none => none
    | some t => match relX l xs i d j with
      | none => none
      | some y => some (t.set (posR d j) y)
/-- all texts of the first objects -/
def txT (l : List ObjD) (xs : List (Int × Int)) : Nat → Option (List Int)
  | 0 => some []
  | k + 1 => match txT l xs k with
    | none => none
    | some a => match relT l xs k (nAt l k) (nAt l k).rels.length with
      | none => none
      | some t => some (a ++ t)
theorem relT_len {l : List ObjD} {xs : List (Int × Int)} {i : Nat} {d : ObjD} : ∀ {j : Nat} {t : List Int}, relT l xs i d j = some t → t.length = d.text.length
  | 0, t, h => by cases h; rfl
  | j + 1, t, h => by
    unfold relT at h
    cases e : relT l xs i d j with
    | none => rw [e] at h; cases h
    | some t' =>
      rw [e] at h
      cases e2 : relX l xs i d j with
      | none => rw [e2] at h; cases h
      | some y =>
        rw [e2] at h
        simp only [Option.some.injEq] at h
        subst h
        rw [List.length_set]; exact relT_len e
/-- a word of no relocation yet is as it was -/
theorem relT_same {l : List ObjD} {xs : List (Int × Int)} {i : Nat} {d : ObjD} {p : Nat} : ∀ {j : Nat} {t : List Int}, relT l xs i d j = some t → (∀ k, k < j → posR d k ≠ p) → t.getD p 0 = d.text.getD p 0
  | 0, t, h, _ => by cases h; rfl
  | j + 1, t, h, hp => by
    unfold relT at h
    cases e : relT l xs i d j with
    | none => rw [e] at h; cases h
    | some t' =>
      rw [e] at h
      cases e2 : relX l xs i d j with
      | none => rw [e2] at h; cases h
      | some y =>
        rw [e2] at h
        simp only [Option.some.injEq] at h
        subst h
        have h1 := relT_same e (fun k hk => hp k (by omega))
        rw [← h1]
        simp only [List.getD_eq_getElem?_getD]
        rw [List.getElem?_set_ne (hp j (by omega))]
theorem relT_none {l : List ObjD} {xs : List (Int × Int)} {i : Nat} {d : ObjD} {j : Nat} (h : relT l xs i d j = none) : ∀ {m : Nat}, j ≤ m → relT l xs i d m = none
  | 0, hm => by have : j = 0 := by omega
                subst this; exact h
  | m + 1, hm => by
    by_cases e : j = m + 1
    · subst e; exact h
    · unfold relT
      rw [relT_none h (m := m) (by omega)]
theorem relT_go {l : List ObjD} {xs : List (Int × Int)} {i : Nat} {d : ObjD} {j : Nat} {t : List Int} {y : Int} (h : relT l xs i d j = some t) (hy : relX l xs i d j = some y) : relT l xs i d (j + 1) = some (t.set (posR d j) y) := by
  unfold relT; rw [h]; simp only; rw [hy]
theorem relT_bad {l : List ObjD} {xs : List (Int × Int)} {i : Nat} {d : ObjD} {j : Nat} (hy : relX l xs i d j = none) : relT l xs i d (j + 1) = none := by
  unfold relT
  cases relT l xs i d j with
  | none => rfl
  | some t => simp only; rw [hy]
theorem txT_none {l : List ObjD} {xs : List (Int × Int)} {k : Nat} (h : txT l xs k = none) : ∀ {m : Nat}, k ≤ m → txT l xs m = none
  | 0, hm => by have : k = 0 := by omega
                subst this; exact h
  | m + 1, hm => by
    by_cases e : k = m + 1
    · subst e; exact h
    · unfold txT
      rw [txT_none h (m := m) (by omega)]
theorem txT_bad {l : List ObjD} {xs : List (Int × Int)} {k j : Nat} (hj : j < (nAt l k).rels.length) (hy : relX l xs k (nAt l k) j = none) : ∀ {m : Nat}, k < m → txT l xs m = none := fun {m} hm => by
  refine txT_none (k := k + 1) ?_ (by omega)
  unfold txT
  cases txT l xs k with
  | none => rfl
  | some a => simp only; rw [relT_none (relT_bad hy) (by omega)]
theorem txT_go {l : List ObjD} {xs : List (Int × Int)} {k : Nat} {a t : List Int} (h : txT l xs k = some a) (ht : relT l xs k (nAt l k) (nAt l k).rels.length = some t) : txT l xs (k + 1) = some (a ++ t) := by
  unfold txT; rw [h]; simp only; rw [ht]
theorem txT_len {l : List ObjD} {xs : List (Int × Int)} : ∀ {k : Nat} {a : List Int}, k ≤ l.length → txT l xs k = some a → a.length = sumT l k
  | 0, a, _, h => by cases h; rfl
  | k + 1, a, hk, h => by
    unfold txT at h
    cases e : txT l xs k with
    | none => rw [e] at h; cases h
    | some a' =>
      rw [e] at h
      cases e2 : relT l xs k (nAt l k) (nAt l k).rels.length with
      | none => rw [e2] at h; cases h
      | some t =>
        rw [e2] at h
        simp only [Option.some.injEq] at h
        subst h
        rw [List.length_append, txT_len (by omega) e, relT_len e2, sumT_go (by omega), nAt_get (by omega)]
/-- a row of words of the call's own -/
def TxAt (w : World) (base : Nat) (xs : List Int) (v : Value) : Prop := ∃ A c, v = .slice A xs.length c ∧ w.ownsRow base 22 1 v xs.length (xs.flatMap encU32)
theorem TxAt.below {w w' : World} {b : Nat} {xs : List Int} {v : Value} (h : TxAt w b xs v) (hb : Below w.heap.size w w') : TxAt w' b xs v := by
  obtain ⟨A, c, e, h⟩ := h; exact ⟨A, c, e, rowO_below h hb⟩
theorem enc32_at {xs : List Int} {i : Nat} (h : i < xs.length) : (xs.flatMap encU32)[i]? = some (.int .u32 xs[i]) := by
  have e : xs.flatMap encU32 = xs.map (Value.int .u32) := by
    induction xs with
    | nil => rfl
    | cons x xs ih =>
      rw [List.flatMap_cons, List.map_cons]
      by_cases hx : i < xs.length
      · rw [ih hx]; rfl
      · have : ∀ ys : List Int, ys.flatMap encU32 = ys.map (Value.int .u32) := fun ys => by
          induction ys with
          | nil => rfl
          | cons y ys ih => rw [List.flatMap_cons, List.map_cons, ih]; rfl
        rw [this]; rfl
  rw [e, List.getElem?_map, List.getElem?_eq_getElem h]; rfl
theorem enc32_len (xs : List Int) : (xs.flatMap encU32).length = xs.length := by
  induction xs with
  | nil => rfl
  | cons x xs ih => rw [List.flatMap_cons, List.length_append, ih]; simp [encU32]; omega
theorem enc32_set (xs : List Int) (i : Nat) (y : Int) : (xs.set i y).flatMap encU32 = (xs.flatMap encU32).set i (.int .u32 y) := by
  induction xs generalizing i with
  | nil => rfl
  | cons x xs ih =>
    cases i with
    | zero => rfl
    | succ i => rw [List.set_cons_succ, List.flatMap_cons, ih, List.flatMap_cons]; rfl
/-- one cell of a row of the call's own is written -/
theorem own_write {w : World} {base n g cap j : Nat} {ty : TypeId} {cs : List Value} {u : Value} (h : w.ownsRow base ty 1 (.slice (some ⟨g, 0, none⟩) n cap) n cs) : (w.setCell ⟨g, j, none⟩ u).ownsRow base ty 1 (.slice (some ⟨g, 0, none⟩) n cap) n (cs.set j u) := by
  rcases h.2 with ⟨h1, h2⟩ | ⟨g', cap', cur, h1, h2, h3, h4, h5, h6, h7⟩
  · cases h1
  · cases h1
    refine ⟨by rw [List.length_set]; exact h.1, .inr ⟨g, cap, cur.setIfInBounds j u, rfl, h2, heap_setCell_same w g j _ _ u h3, h4, h5, by rw [Array.size_setIfInBounds]; exact h6, ?_⟩⟩
    rw [Array.toList_setIfInBounds, List.take_set, h7]
theorem TxAt.write {w : World} {base n g cap j : Nat} {xs : List Int} {y : Int} (h : TxAt w base xs (.slice (some ⟨g, 0, none⟩) n cap)) : TxAt (w.setCell ⟨g, j, none⟩ (.int .u32 y)) base (xs.set j y) (.slice (some ⟨g, 0, none⟩) n cap) := by
  obtain ⟨A, c, e, ho⟩ := h
  cases e
  refine ⟨some ⟨g, 0, none⟩, cap, by rw [List.length_set], ?_⟩
  rw [List.length_set, enc32_set]
  exact own_write ho
theorem TxAt.at_ {w : World} {base n c i : Nat} {xs : List Int} {A : Option Addr} (h : TxAt w base xs (.slice A n c)) (hi : i < xs.length) : ∃ g, A = some ⟨g, 0, none⟩ ∧ base ≤ g ∧ w.cell? ⟨g, i, none⟩ = some (.int .u32 xs[i]) ∧ ∃ cur cp, w.heap[g]? = some (.cells cur 22 (0, 0)) ∧ cur.size = cp ∧ i < cp := by
  obtain ⟨A', c', e, ho⟩ := h
  cases e
  rcases ho.2 with ⟨h1, h2⟩ | ⟨g', cap', cur, h1, h2, h3, h4, h5, h6, h7⟩
  · omega
  · cases h1
    have hx := enc32_at hi
    refine ⟨g', rfl, h2, ?_, cur, cur.size, h3, rfl, by omega⟩
    rw [cell_of_row w g' i _ _ _ h3]
    rw [← h7, List.getElem?_take] at hx
    split at hx
    · rw [← Array.getElem?_toList]; exact hx
    · cases hx
theorem TxAt.len {w : World} {b n c : Nat} {xs : List Int} {A : Option Addr} (h : TxAt w b xs (.slice A n c)) : xs.length = n := by
  obtain ⟨A', c', e, h⟩ := h; cases e; rfl
theorem run_append_nilc {P : Program} {w : World} (base : Nat) (t ty e : TypeId) (i : TypeInfo) (size c : Nat) (ht : P.underlying t = some (.slice e)) (hi : P.info? e = some i)
    (v : Value) (n : Nat) (xs : List Value) (hown : w.ownsRow base e size v n xs) :
    (Builtin.append_ #[t, t] ty #[v, .slice none 0 c]).run P w = .ok v w := by
  rcases hown.2 with ⟨rfl, rfl⟩ | ⟨g, cap, cur, rfl, _, _, hnc, _⟩
  · simp [Builtin.append_, run_underlying ht, sizeOf, typeInfo, hi, Builtin.lenOf, Builtin.firstCells]
  · simp [Builtin.append_, run_underlying ht, sizeOf, typeInfo, hi, Builtin.lenOf, Builtin.firstCells, hnc, storeCells]
/-- whatever row is put behind a row of the call's own -/
theorem wpList_append_any8 {P : Program} {ops : Array Oper} {rest : List Oper} {o : Oper} {a : Act} {Q : Exit → Act → World → Prop} {w : World} (hgd : o.guard = none) (s x : Operand) (t : TypeId)
    (ho : o.op = .call { callee := .builtin .append, args := #[s, x], argTypes := #[t, t] })
    (base : Nat) (e : TypeId) (i : TypeInfo) (z : Value) (bytes : Nat) (ht : P.underlying t = some (.slice e)) (hi : P.info? e = some i) (hz : i.zero = some z)
    (hsize : i.size = 1) (hby : i.bytes = bytes) (hzs : z.cells.size = 1)
    (v : Value) (n : Nat) (xs : List Value) (hs : a.eval s = v) (hown : w.ownsRow base e 1 v n xs)
    (ao : Option Addr) (m c lo hi_ : Nat) (news : List Value) (hx : a.eval x = .slice ao m c) (hl : news.length = m) (hr : RowC w lo hi_ ao news) (h1 : ∀ u ∈ news, u.oneCell' = true)
    (h63 : n + m ≤ maxLen) (hbytes : (n + m) * bytes ≤ 140737488355328) (hbase : base ≤ w.heap.size)
    (h : ∀ v' w', w'.ownsRow base e 1 v' (n + m) (xs ++ news) → w.grownBy w' v.ownBlock → wpList P ops Q rest (a.put o.dst v') w') : wpList P ops Q (o :: rest) a w := by
  cases ao with
  | none =>
    have hn : news = [] := by
      rcases hr with hr | ⟨b, o', e', _⟩
      · exact hr
      · cases e'
    subst hn
    have hm : m = 0 := by simpa using hl.symm
    subst hm
    refine wpList_plain hgd fun K hK => ?_
    have hrun := run_append_nilc (P := P) (w := w) base t o.type e i 1 c ht hi v n xs hown
    unfold Oper.wp
    simp [execOp, ho, resolve, invoke, builtin, hs, hx, hrun, Result.andThen]
    exact hK _ _ (h v w (by simpa using hown) (World.grownBy.refl _ _))
  | some ad =>
    refine wpList_append_at6 hgd s x t ho base e i z 1 bytes ht hi hz hsize hby hzs (by decide) v n xs hs hown ad m c news hx (by omega) ?_ h1 h63 hbytes hbase (fun v' w' g1 g2 _ => h v' w' g1 g2)
    intro j u hj
    rcases hr with hr | ⟨b, o', e', _, _, hc⟩
    · rw [hr] at hj; cases hj
    · cases e'
      have hq := hc j u hj
      by_cases hj0 : j = 0
      · subst hj0; simpa [Addr.add] using hq
      · simpa [Addr.add, hj0] using hq
end Go.Proofs.YtjngkifoaljmaaaDoor
namespace Go.Proofs.YtjngkifoaljmaaaDoor
set_option maxRecDepth 100000
open Go.RowKit
set_option linter.unusedVariables false
theorem chk_found {l : List ObjD} (h : (chkF l).2 = 0) {i : Nat} (hi : i < l.length) {r : RelD} (hr : r ∈ l[i].rels) : ∃ (k : Nat) (hk : k < l.length) (j : Nat) (hj : j < l[k].syms.length), fndD l (i : Int) r.2.2.1 = some ((k : Int), (j : Int)) := by
  have hm := chkF_may h
  have hv : vdN l = [] := by
    unfold chkF at h
    rw [if_neg (by rw [hm]; simp)] at h
    cases hc : clN l with
    | cons x t => rw [hc] at h; exact absurd h (by simp)
    | nil =>
      rw [hc] at h
      cases hv : vdN l with
      | nil => rfl
      | cons x t => rw [hv] at h; exact absurd h (by simp)
  have hs : (findP l i r.2.2.1).isSome = true := by
    have hn : r.2.2.1 ∉ vdN l := by rw [hv]; simp
    have hin : r.2.2.1 ∈ relN l := by
      unfold relN
      rw [List.mem_flatMap]
      exact ⟨l[i], List.getElem_mem hi, List.mem_map.2 ⟨r, hr, rfl⟩⟩
    have hrel : relIn (nAt l i) r.2.2.1 = true := by
      unfold relIn
      rw [nAt_get hi, List.any_eq_true]
      exact ⟨r, hr, by simp⟩
    by_cases ho : ownIn (nAt l i) r.2.2.1 = true
    · unfold ownIn at ho
      rw [← idx_isSome] at ho
      obtain ⟨j, hj⟩ := Option.isSome_iff_exists.1 ho
      rw [own_find hj]; rfl
    · by_cases hx : ∃ j, j < l.length ∧ outIn (nAt l j) r.2.2.1 = true
      · obtain ⟨j, h1, h2⟩ := hx
        exact find_out hi h1 h2
      · exfalso
        apply hn
        unfold vdN
        rw [List.mem_filter]
        refine ⟨hin, (vdB_iff l _).2 ⟨i, hi, hrel, by simpa using ho, fun j hj => ?_⟩⟩
        cases e : outIn (nAt l j) r.2.2.1 with
        | false => rfl
        | true => exact absurd ⟨j, hj, e⟩ hx
  obtain ⟨x, hx⟩ := Option.isSome_iff_exists.1 hs
  obtain ⟨k, hk, j, hj, e, _⟩ := find_some' hi hx
  exact ⟨k, hk, j, hj, by rw [fnd_plain hi, hx, e]⟩
/-- what a right list's relocation is -/
theorem may_rel {l : List ObjD} (h : mayLs l = true) {i j : Nat} (hi : i < l.length) (hj : j < l[i].rels.length) :
    relOkB l[i] j = true ∧ (∀ x ∈ l[i].text, (opOf x).isSome = true) := by
  unfold mayLs at h
  simp only [Bool.and_eq_true] at h
  have h1 := List.all_eq_true.1 h.2 l[i] (List.getElem_mem hi)
  unfold mayO at h1
  simp only [Bool.and_eq_true] at h1
  obtain ⟨⟨⟨⟨_, h2⟩, _⟩, h3⟩, _⟩ := h1
  exact ⟨range_all_of h3 hj, fun x hx => List.all_eq_true.1 h2 x hx⟩
theorem rel_spot {d : ObjD} {j : Nat} (h : relOkB d j = true) : 0 ≤ (relAt d j).1 ∧ (relAt d j).1 ≤ 4 * (d.text.length : Int) - 1 ∧ (relAt d j).1 = 4 * (posR d j : Int) ∧ posR d j < d.text.length ∧ (∀ k, k < j → posR d k ≠ posR d j ∨ ¬ relOkB d k = true) ∧ suitB (relAt d j).2.1 (nth (opsL d.text) (posR d j)).toNat = true := by
  have h0 := h
  unfold relOkB at h
  simp only [Bool.and_eq_true, decide_eq_true_eq, beq_iff_eq] at h
  obtain ⟨⟨⟨⟨⟨⟨h1, h2⟩, h3⟩, h4⟩, _⟩, _⟩, _⟩ := h
  unfold inB at h2
  simp only [Bool.and_eq_true, decide_eq_true_eq] at h2
  obtain ⟨h5, h6⟩ := h2
  have hm : (relAt d j).1 % 4 = 0 := by rw [Int.tmod_eq_emod_of_nonneg h5] at h1; exact h1
  have hp : (relAt d j).1 = 4 * (posR d j : Int) := by unfold posR; omega
  refine ⟨h5, h6, hp, by omega, fun k hk => ?_, h3⟩
  by_cases hok : relOkB d k = true
  · left
    intro e
    have hk4 := List.all_eq_true.1 h4 k (List.mem_range.2 hk)
    simp only [Bool.not_eq_true', decide_eq_false_iff_not] at hk4
    apply hk4
    unfold relOkB at hok
    simp only [Bool.and_eq_true, decide_eq_true_eq, beq_iff_eq] at hok
    obtain ⟨⟨⟨⟨⟨⟨g1, g2⟩, _⟩, _⟩, _⟩, _⟩, _⟩ := hok
    unfold inB at g2
    simp only [Bool.and_eq_true, decide_eq_true_eq] at g2
    have gm : (relAt d k).1 % 4 = 0 := by rw [Int.tmod_eq_emod_of_nonneg g2.1] at g1; exact g1
    have gp : (relAt d k).1 = 4 * (posR d k : Int) := by unfold posR; omega
    omega
  · right; exact hok
end Go.Proofs.YtjngkifoaljmaaaDoor
namespace Go.Proofs.YtjngkifoaljmaaaDoor
set_option maxRecDepth 100000
open Go.RowKit
set_option linter.unusedVariables false
def AllP (r : Option (List Int)) (w : World) (e : Ending) (w' : World) : Prop := Below w.heap.size w w' ∧ match r with
  | some xs => ∃ v, e = .returned v ∧ TxAt w' w.heap.size xs v
  | none => e = misP
theorem AllP.no {r : Option (List Int)} {w w' : World} (hr : r = none) (hb : Below w.heap.size w w') : AllP r w misP w' := by subst hr; exact ⟨hb, rfl⟩
theorem AllP.yes {r : Option (List Int)} {w w' : World} {xs : List Int} {v : Value} (hr : r = some xs) (hb : Below w.heap.size w w') (h : TxAt w' w.heap.size xs v) : AllP r w (.returned v) w' := by subst hr; exact ⟨hb, v, rfl, h⟩
theorem TxAt.low {w : World} {b b' : Nat} {xs : List Int} {v : Value} (h : TxAt w b xs v) (hb : b' ≤ b) : TxAt w b' xs v := by
  obtain ⟨A, c, e, ho⟩ := h
  exact ⟨A, c, e, kn_base ho hb⟩
/-- a box of another type is written -/
theorem TxAt.boxed {w : World} {b g j : Nat} {xs : List Int} {v u : Value} {cs : Array Value} {t : TypeId} (h : TxAt w b xs v) (hb : b ≤ b) (hx : w.heap[g]? = some (.cells cs t (0, 0))) (ht : 22 ≠ t) : TxAt (w.setCell ⟨g, j, none⟩ u) b xs v := by
  obtain ⟨A, c, e, ho⟩ := h
  refine ⟨A, c, e, rowO_kept ho (grown_setO w g j u) (fun g' hg e' => ?_)⟩
  obtain ⟨_, _, c1, a1⟩ := ownO_lt ho hg
  cases e'
  rw [hx] at a1
  injection a1 with a1
  injection a1 with _ a3 _
  exact ht a3.symm
def FitP2 (r : Option (List Int)) (w : World) (e : Ending) (w' : World) : Prop := Below w.heap.size w w' ∧ match r with
  | some xs => ∃ v, e = .returned (.tuple #[v, .int .i64 0]) ∧ TxAt w' w.heap.size xs v
  | none => e = .returned (.tuple #[.slice none 0 0, .int .i64 5])
theorem fit_idle2 (p : Addr) (w : World) :
    CallsD Tryd.prog 47 #[.pointer (some p)] .returning w fun e u' w' => e = .returned (.tuple #[]) ∧ u' = .returning ∧ w' = w := by
  refine callsD_of_wpS Tryd.func47 rfl fun c₀ cs hu => ?_
  apply wpS_seq
  apply wpS_region
  simp [wpOpsS, go_sem, recoverD, hu, Tryd.ntmps47, Exit.thenS]
  refine wpS_of_wp ?_
  go_wp2
  cases c₀
  simp_all [bodyPostS, results, Tryd.results47]
theorem fit_mis2 (b : Nat) (v0 : Value) (T : TypeId) (w : World) (h : w.heap[b]? = some (.cells #[v0] T (0, 0))) :
    CallsD Tryd.prog 47 #[.pointer (some ⟨b, 0, none⟩)] (.panicking ({ v := misV, recovered := false } :: [])) w fun e u' w' =>
      e = .returned (.tuple #[]) ∧ u' = .panicking ({ v := misV, recovered := true } :: []) ∧ w'.heap[b]? = some (.cells #[.int .i64 5] T (0, 0)) ∧ (∀ n, n ≤ b → Below n w w') := by
  have y0 := cell_of_row w b 0 _ _ _ h
  simp only [List.getElem?_toArray, List.getElem?_cons_zero] at y0
  have yr := frozen_of_row w b 0 _ _ h
  have h' := (heap_alloc_old w (.cells #[] 91) (Array.getElem?_eq_some_iff.1 h).1).trans h
  have y0' := cell_of_row _ b 0 _ _ _ h'
  simp only [List.getElem?_toArray, List.getElem?_cons_zero] at y0'
  have yr' := frozen_of_row _ b 0 _ _ h'
  have hlt := (Array.getElem?_eq_some_iff.1 h).1
  refine callsD_of_wpS Tryd.func47 rfl fun c₀ cs hu => ?_
  apply wpS_seq
  apply wpS_region
  simp [wpOpsS, go_sem, recoverD, hu, Tryd.ntmps47, Exit.thenS]
  refine wpS_of_wp ?_
  have hta : ∀ w : World, (Instr.typeAssert (.iface 91 (.agg #[])) 20 91 true).run Tryd.prog w = .ok (.tuple #[.agg #[], .bool true]) w := fun w => by kernel_rfl
  unfold misV
  go_wp2
  refine ⟨rfl, .panicking [{ v := .iface 91 (.agg #[]), recovered := true }], by cases c₀; rfl, .tuple #[], ?hres, rfl, rfl, ?h1, ?h2⟩
  case hres => simp [results, Tryd.results47]
  case h1 =>
    have hs := heap_setCell_same w b 0 _ _ (.int .i64 5) h
    exact (heap_alloc_old _ _ (Array.getElem?_eq_some_iff.1 hs).1).trans hs
  case h2 => exact fun n hn => ((Below.refl n w).setCell (p := ⟨b, 0, none⟩) hn _).alloc (Nat.le_trans hn (by rw [size_set7]; exact Nat.le_of_lt hlt)) _
theorem res_fit2 {T : Array Value} {b : Nat} {x : Value} {W : World} {v0 : Value} {ty : TypeId} (h2 : T[2]? = some x) (h3 : T[3]? = some (.pointer (some ⟨b, 0, none⟩))) (hr : W.heap[b]? = some (.cells #[v0] ty (0, 0))) :
    (results Tryd.f30 T).run Tryd.prog W = .ok (.tuple #[x, v0]) W := by
  have y0 := cell_of_row W b 0 _ _ _ hr
  simp only [List.getElem?_toArray, List.getElem?_cons_zero] at y0
  simp [results, Tryd.results30, go_sem, h2, h3, y0]
theorem door_mis2 {P : Program} {fn : Func} {R : Ending → World → Prop} {w : World} {b : Nat} {T : Array Value} (h : Leaves P fn T R [{ target := Target.fn (Fn.func 47) #[.pointer (some ⟨b, 0, none⟩)], args := #[] }] (.panicking [{ v := misV, recovered := false }]) w) :
    bodyPostD P fn R (.panic [{ v := misV, recovered := false }]) { tmps := T, defers := [{ target := Target.fn (Fn.func 47) #[.pointer (some ⟨b, 0, none⟩)], args := #[] }] } w := h
set_option maxHeartbeats 2000000 in
theorem fit_any2 (p0 p1 : Value) (r : Option (List Int)) (w : World) (hC : Calls Tryd.prog 31 #[p0, p1] (w.alloc (.cells #[.int .i64 0] 25)) (AllP r (w.alloc (.cells #[.int .i64 0] 25)))) :
    Calls Tryd.prog 30 #[.func (.func 31) #[] #[p0, p1]] w (FitP2 r w) := by
  have hmf : ∀ (fn : Fn) (first cap : Array Value) (w : World), (Instr.makeFunc fn first cap).run Tryd.prog w = .ok (.func fn first cap) w := fun _ _ _ _ => rfl
  have HB := Lib.hid ((Below.refl w.heap.size w).alloc (Nat.le_refl _) (.cells #[.int .i64 0] 25))
  have HX := Lib.hid (heap_alloc_new w (.cells #[.int .i64 0] 25))
  have HC := Lib.hid hC
  clear hC
  go_enter_defers Tryd.func30, Tryd.ntmps30
  go_wp2_with fail
  refine HC.out.mono ?_
  intro e w1 h1
  cases r with
  | none =>
    obtain ⟨hb, rfl⟩ := h1
    have HB1 := Lib.hid (HB.out.trans (hb.mono HB.out.size))
    have HX1 := Lib.hid ((hb.block _ (Array.getElem?_eq_some_iff.1 HX.out).1).trans HX.out)
    clear hb
    refine door_mis2 ?_
    refine leaves_cons (f := 47) (args := #[.pointer (some ⟨w.heap.size, 0, none⟩)]) (by simp) (by simp [go_sem]) ?_
    refine (fit_mis2 w.heap.size _ _ _ HX1.out).mono ?_
    rintro e u' w2 ⟨rfl, rfl, h1, h2⟩
    exact ⟨_, res_fit2 (b := w.heap.size) rfl rfl h1, HB1.out.trans (h2 _ (Nat.le_refl _)), rfl⟩
  | some x =>
    obtain ⟨hb, v, rfl, htx⟩ := h1
    have HTx := Lib.hid (htx.low (b' := w.heap.size) (by simp))
    have HSz := Lib.hid hb.size
    obtain ⟨Av, cv, rfl, -⟩ := htx
    have HB1 := Lib.hid (HB.out.trans (hb.mono HB.out.size))
    have HX1 := Lib.hid ((hb.block _ (Array.getElem?_eq_some_iff.1 HX.out).1).trans HX.out)
    clear hb
    have y0 := cell_of_row w1 w.heap.size 0 _ _ _ HX1.out
    simp only [List.getElem?_toArray, List.getElem?_cons_zero] at y0
    have yr := frozen_of_row w1 w.heap.size 0 _ _ HX1.out
    go_wp2
    refine leaves_cons (f := 47) (args := #[.pointer (some ⟨w.heap.size, 0, none⟩)]) (by simp) (by simp [go_sem]) ?_
    refine (fit_idle2 ⟨w.heap.size, 0, none⟩ _).mono ?_
    rintro e u' w4 ⟨rfl, rfl, rfl⟩
    exact ⟨_, res_fit2 (b := w.heap.size) rfl rfl (heap_setCell_same _ _ _ _ _ _ HX1.out), below_setNew HB1.out (Nat.le_refl _), _, rfl, HTx.out.boxed (by simp) HX1.out (by decide)⟩
end Go.Proofs.YtjngkifoaljmaaaDoor
