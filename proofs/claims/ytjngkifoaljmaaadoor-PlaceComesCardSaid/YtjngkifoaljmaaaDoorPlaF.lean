/- Layer 8: suits, fitting, Relocate. Condition: the tables of package ins read as they should. -/
import Derived.Test.YtjngkifoaljmaaaDoorPlaE
namespace Go.Proofs.YtjngkifoaljmaaaDoor
set_option maxRecDepth 100000
open Go.RowKit
set_option linter.unusedVariables false
/-- the object of just a word and a relocation -/
def suO (v kind : Int) : ObjD := ⟨[v], [], [], [(0, kind, ⟨#[120]⟩, 0)], []⟩
theorem suO_w {v kind : Int} (hv : IsW v) (hk : IsI kind) : ObjW (suO v kind) where
  text := fun x hx => by simp only [suO, List.mem_singleton] at hx; subst hx; exact hv
  data := by simp [suO]
  syms := by simp [suO]
  rels := fun x hx => by simp only [suO, List.mem_singleton] at hx; subst hx; exact ⟨by unfold IsI; simp, hk, show 1 ≤ maxLen from by unfold maxLen; omega, by unfold IsI; simp⟩
  ents := by simp [suO]
theorem suO_at {w : World} {b1 b2 K : Nat} {T1 T2 : TypeId} {v kind : Int} (h1 : w.heap[b1]? = some (.cells #[.int .u32 v] T1 (0, 0))) (h2 : w.heap[b2]? = some (.cells #[.int .i64 0, .int .i64 kind, .string ⟨#[120]⟩, .int .i64 0] T2 (0, 0))) (k1 : b1 < K) (k2 : b2 < K) :
    ObjAt w 0 K (suO v kind) (.agg #[.slice (some ⟨b1, 0, none⟩) 1 1, .slice none 0 0, .slice none 0 0, .slice (some ⟨b2, 0, none⟩) 1 1, .slice none 0 0]) :=
  ⟨_, 1, none, 0, none, 0, _, 1, none, 0, [], rfl, rowC_one h1 k1, .inl rfl, .inl rfl, rowC_one h2 k2, .inl rfl, rfl⟩
set_option maxHeartbeats 2000000 in
theorem suits8_any (v kind : Int) (hv : IsW v) (hk : IsI kind) (w : World) (hT : Tabs w) :
    Calls Tryd.prog 24 #[.int .u32 v, .int .i64 kind] w fun e w' => e = .returned (.bool (mayO (suO v kind))) ∧ Below w.heap.size w w' := by
  have hb := ((Below.refl w.heap.size w).alloc (Nat.le_refl _) (.cells #[.int .u32 v] 22)).alloc (by simp) (.cells #[.int .i64 0, .int .i64 kind, .string ⟨#[120]⟩, .int .i64 0] 47)
  have h1 := heap_alloc_new w (.cells #[.int .u32 v] 22)
  have h2 := heap_alloc_new (w.alloc (.cells #[.int .u32 v] 22)) (.cells #[.int .i64 0, .int .i64 kind, .string ⟨#[120]⟩, .int .i64 0] 47)
  rw [show (w.alloc (.cells #[.int .u32 v] 22)).heap.size = w.heap.size + 1 by simp] at h2
  have h1' := (heap_alloc_old (w.alloc (.cells #[.int .u32 v] 22)) (.cells #[.int .i64 0, .int .i64 kind, .string ⟨#[120]⟩, .int .i64 0] 47) (Array.getElem?_eq_some_iff.1 h1).1).trans h1
  have HM := Lib.hid (may_obj (suO v kind) (suO_w hv hk) _ 0 (w.heap.size + 2) _ (hT.below hb) (suO_at h1' h2 (by omega) (by omega)) (by simp))
  have HB := Lib.hid hb
  clear h1 h2 h1' hb hT hv hk
  go_enter Tryd.func24, Tryd.ntmps24
  go_wp2_with fail
  refine HM.out.mono ?_
  rintro e w1 ⟨rfl, hb⟩
  have HB1 := Lib.hid (HB.out.trans (hb.mono HB.out.size))
  clear hb
  go_wp2
  go_ret
  exact ⟨rfl, HB1.out⟩
theorem fit_idle (p : Addr) (w : World) :
    CallsD Tryd.prog 41 #[.pointer (some p)] .returning w fun e u' w' => e = .returned (.tuple #[]) ∧ u' = .returning ∧ w' = w := by
  refine callsD_of_wpS Tryd.func41 rfl fun c₀ cs hu => ?_
  apply wpS_seq
  apply wpS_region
  simp [wpOpsS, go_sem, recoverD, hu, Tryd.ntmps41, Exit.thenS]
  refine wpS_of_wp ?_
  go_wp2
  cases c₀
  simp_all [bodyPostS, results, Tryd.results41]
theorem fit_mis (b : Nat) (v0 : Value) (T : TypeId) (w : World) (h : w.heap[b]? = some (.cells #[v0] T (0, 0))) :
    CallsD Tryd.prog 41 #[.pointer (some ⟨b, 0, none⟩)] (.panicking ({ v := misV, recovered := false } :: [])) w fun e u' w' =>
      e = .returned (.tuple #[]) ∧ u' = .panicking ({ v := misV, recovered := true } :: []) ∧ w'.heap[b]? = some (.cells #[.int .i64 5] T (0, 0)) ∧ (∀ n, n ≤ b → Below n w w') := by
  have y0 := cell_of_row w b 0 _ _ _ h
  simp only [List.getElem?_toArray, List.getElem?_cons_zero] at y0
  have yr := frozen_of_row w b 0 _ _ h
  have h' := (heap_alloc_old w (.cells #[] 91) (Array.getElem?_eq_some_iff.1 h).1).trans h
  have y0' := cell_of_row _ b 0 _ _ _ h'
  simp only [List.getElem?_toArray, List.getElem?_cons_zero] at y0'
  have yr' := frozen_of_row _ b 0 _ _ h'
  have hlt := (Array.getElem?_eq_some_iff.1 h).1
  refine callsD_of_wpS Tryd.func41 rfl fun c₀ cs hu => ?_
  apply wpS_seq
  apply wpS_region
  simp [wpOpsS, go_sem, recoverD, hu, Tryd.ntmps41, Exit.thenS]
  refine wpS_of_wp ?_
  have hta : ∀ w : World, (Instr.typeAssert (.iface 91 (.agg #[])) 20 91 true).run Tryd.prog w = .ok (.tuple #[.agg #[], .bool true]) w := fun w => by kernel_rfl
  unfold misV
  go_wp2
  refine ⟨rfl, .panicking [{ v := .iface 91 (.agg #[]), recovered := true }], by cases c₀; rfl, .tuple #[], ?hres, rfl, rfl, ?h1, ?h2⟩
  case hres => simp [results, Tryd.results41]
  case h1 =>
    have hs := heap_setCell_same w b 0 _ _ (.int .i64 5) h
    exact (heap_alloc_old _ _ (Array.getElem?_eq_some_iff.1 hs).1).trans hs
  case h2 => exact fun n hn => ((Below.refl n w).setCell (p := ⟨b, 0, none⟩) hn _).alloc (Nat.le_trans hn (by rw [size_set7]; exact Nat.le_of_lt hlt)) _
def FitP (r : Option Int) (w : World) (e : Ending) (w' : World) : Prop := Below w.heap.size w w' ∧ e = .returned (.tuple #[.int .u32 (r.getD 0), .int .i64 (if r.isSome then 0 else 5)])
theorem res_fit {T : Array Value} {b : Nat} {x : Int} {W : World} {v0 : Value} {ty : TypeId} (h2 : T[2]? = some (.int .u32 x)) (h3 : T[3]? = some (.pointer (some ⟨b, 0, none⟩))) (hr : W.heap[b]? = some (.cells #[v0] ty (0, 0))) :
    (results Tryd.f25 T).run Tryd.prog W = .ok (.tuple #[.int .u32 x, v0]) W := by
  have y0 := cell_of_row W b 0 _ _ _ hr
  simp only [List.getElem?_toArray, List.getElem?_cons_zero] at y0
  simp [results, Tryd.results25, go_sem, h2, h3, y0]
theorem door_mis {P : Program} {fn : Func} {R : Ending → World → Prop} {w : World} {b : Nat} {T : Array Value} (h : Leaves P fn T R [{ target := Target.fn (Fn.func 41) #[.pointer (some ⟨b, 0, none⟩)], args := #[] }] (.panicking [{ v := misV, recovered := false }]) w) :
    bodyPostD P fn R (.panic [{ v := misV, recovered := false }]) { tmps := T, defers := [{ target := Target.fn (Fn.func 41) #[.pointer (some ⟨b, 0, none⟩)], args := #[] }] } w := h
set_option maxHeartbeats 2000000 in
theorem fit_any (p0 p1 p2 p3 : Value) (r : Option Int) (w : World) (hC : Calls Tryd.prog 26 #[p0, p1, p2, p3] (w.alloc (.cells #[.int .i64 0] 25)) (DonP r (w.alloc (.cells #[.int .i64 0] 25)))) :
    Calls Tryd.prog 25 #[.func (.func 26) #[] #[p0, p1, p2, p3]] w (FitP r w) := by
  have hmf : ∀ (fn : Fn) (first cap : Array Value) (w : World), (Instr.makeFunc fn first cap).run Tryd.prog w = .ok (.func fn first cap) w := fun _ _ _ _ => rfl
  have HB := Lib.hid ((Below.refl w.heap.size w).alloc (Nat.le_refl _) (.cells #[.int .i64 0] 25))
  have HX := Lib.hid (heap_alloc_new w (.cells #[.int .i64 0] 25))
  have HC := Lib.hid hC
  clear hC
  go_enter_defers Tryd.func25, Tryd.ntmps25
  go_wp2_with fail
  refine HC.out.mono ?_
  intro e w1 h1
  cases r with
  | none =>
    obtain ⟨hb, rfl⟩ := h1
    have HB1 := Lib.hid (HB.out.trans (hb.mono HB.out.size))
    have HX1 := Lib.hid ((hb.block _ (Array.getElem?_eq_some_iff.1 HX.out).1).trans HX.out)
    clear hb
    refine door_mis ?_
    refine leaves_cons (f := 41) (args := #[.pointer (some ⟨w.heap.size, 0, none⟩)]) (by simp) (by simp [go_sem]) ?_
    refine (fit_mis w.heap.size _ _ _ HX1.out).mono ?_
    rintro e u' w2 ⟨rfl, rfl, h1, h2⟩
    exact ⟨_, res_fit (b := w.heap.size) rfl rfl h1, HB1.out.trans (h2 _ (Nat.le_refl _)), rfl⟩
  | some x =>
    obtain ⟨hb, rfl⟩ := h1
    have HB1 := Lib.hid (HB.out.trans (hb.mono HB.out.size))
    have HX1 := Lib.hid ((hb.block _ (Array.getElem?_eq_some_iff.1 HX.out).1).trans HX.out)
    clear hb
    have y0 := cell_of_row w1 w.heap.size 0 _ _ _ HX1.out
    simp only [List.getElem?_toArray, List.getElem?_cons_zero] at y0
    have yr := frozen_of_row w1 w.heap.size 0 _ _ HX1.out
    go_wp2
    refine leaves_cons (f := 41) (args := #[.pointer (some ⟨w.heap.size, 0, none⟩)]) (by simp) (by simp [go_sem]) ?_
    refine (fit_idle ⟨w.heap.size, 0, none⟩ _).mono ?_
    rintro e u' w4 ⟨rfl, rfl, rfl⟩
    exact ⟨_, res_fit (b := w.heap.size) rfl rfl (heap_setCell_same _ _ _ _ _ _ HX1.out), below_setNew HB1.out (Nat.le_refl _), rfl⟩
/-- what Relocate answers: a word, and a code -/
def relV (v kind p x : Int) : Int × Int := if mayO (suO v kind) = true then (match doneV v kind p x with
  | some y => (y, 0)
  | none => (0, 5)) else (0, 1)
theorem suO_op {v kind : Int} (h : mayO (suO v kind) = true) : (opOf v).isSome = true := by
  rw [mayO_eq] at h
  simp only [Bool.and_eq_true] at h
  have := h.1.2
  simpa [textB, suO] using this
theorem row1 {W : World} {b : Nat} {v0 : Value} {T : TypeId} (h : W.heap[b]? = some (.cells #[v0] T (0, 0))) : W.cell? ⟨b, 0, none⟩ = some v0 ∧ ∀ o, W.frozen? ⟨b, o, none⟩ = false := by
  have y0 := cell_of_row W b 0 _ _ _ h
  simp only [List.getElem?_toArray, List.getElem?_cons_zero] at y0
  exact ⟨y0, fun o => frozen_of_row W b o _ _ h⟩
theorem four_boxes (w : World) (v0 v1 v2 v3 : Value) (t0 t1 t2 t3 : TypeId) : ∃ W, (((w.alloc (.cells #[v0] t0)).alloc (.cells #[v1] t1)).alloc (.cells #[v2] t2)).alloc (.cells #[v3] t3) = W ∧ W.heap[w.heap.size]? = some (.cells #[v0] t0 (0, 0)) ∧ W.heap[w.heap.size + 1]? = some (.cells #[v1] t1 (0, 0)) ∧ W.heap[w.heap.size + 2]? = some (.cells #[v2] t2 (0, 0)) ∧ W.heap[w.heap.size + 3]? = some (.cells #[v3] t3 (0, 0)) ∧ Below w.heap.size w W ∧ W.heap.size = w.heap.size + 4 := by
  have s1 : (w.alloc (.cells #[v0] t0)).heap.size = w.heap.size + 1 := by simp
  have s2 : ((w.alloc (.cells #[v0] t0)).alloc (.cells #[v1] t1)).heap.size = w.heap.size + 2 := by simp
  have s3 : (((w.alloc (.cells #[v0] t0)).alloc (.cells #[v1] t1)).alloc (.cells #[v2] t2)).heap.size = w.heap.size + 3 := by simp
  have g0 := heap_alloc_new w (.cells #[v0] t0)
  have g1 := heap_alloc_new (w.alloc (.cells #[v0] t0)) (.cells #[v1] t1)
  have g2 := heap_alloc_new ((w.alloc (.cells #[v0] t0)).alloc (.cells #[v1] t1)) (.cells #[v2] t2)
  have g3 := heap_alloc_new (((w.alloc (.cells #[v0] t0)).alloc (.cells #[v1] t1)).alloc (.cells #[v2] t2)) (.cells #[v3] t3)
  rw [s1] at g1
  rw [s2] at g2
  rw [s3] at g3
  refine ⟨_, rfl, ?_, ?_, ?_, g3, (((((Below.refl _ w).alloc (Nat.le_refl _) _).alloc (by omega) _).alloc (by omega) _).alloc (by omega) _), by simp⟩
  · rw [heap_alloc_old _ _ (by omega), heap_alloc_old _ _ (by omega), heap_alloc_old _ _ (by omega)]; exact g0
  · rw [heap_alloc_old _ _ (by omega), heap_alloc_old _ _ (by omega)]; exact g1
  · rw [heap_alloc_old _ _ (by omega)]; exact g2
def RelP (r : Int × Int) (w : World) (e : Ending) (w' : World) : Prop := Below w.heap.size w w' ∧ e = .returned (.tuple #[.int .u32 r.1, .int .i64 r.2])
set_option maxHeartbeats 2000000 in
theorem boxed_done (v kind p x : Int) (hv : IsW v) (hop : (opOf v).isSome = true) (hp : IsU p) (hx : IsU x) (b0 b1 b2 b3 : Nat) (w : World) (hT : Tabs w) (h0 : w.cell? ⟨b0, 0, none⟩ = some (.int .u32 v)) (h1 : w.cell? ⟨b1, 0, none⟩ = some (.int .i64 kind)) (h2 : w.cell? ⟨b2, 0, none⟩ = some (.int .u64 p)) (h3 : w.cell? ⟨b3, 0, none⟩ = some (.int .u64 x)) :
    Calls Tryd.prog 26 #[.pointer (some ⟨b0, 0, none⟩), .pointer (some ⟨b1, 0, none⟩), .pointer (some ⟨b2, 0, none⟩), .pointer (some ⟨b3, 0, none⟩)] w (DonP (doneV v kind p x) w) := by
  have HD := Lib.hid (done_any v kind p x hv hop hp hx w hT)
  clear hv hop hp hx hT
  go_enter Tryd.func26, Tryd.ntmps26
  go_wp2_with fail
  refine HD.out.mono ?_
  intro e w1 h
  cases hr : doneV v kind p x with
  | none =>
    rw [hr] at h
    obtain ⟨hb, rfl⟩ := h
    have HB := Lib.hid hb
    clear hb
    exact ⟨rfl, DonP.no (by first | rfl | exact hr) HB.out⟩
  | some y =>
    rw [hr] at h
    obtain ⟨hb, rfl⟩ := h
    have HB := Lib.hid hb
    have HQ := Lib.hid hr
    clear hb hr
    go_wp2
    go_ret
    exact DonP.yes (by first | rfl | exact HQ.out) HB.out
set_option maxHeartbeats 4000000 in
theorem relocate_any (v kind p x : Int) (hv : IsW v) (hk : IsI kind) (hp : IsU p) (hx : IsU x) (w : World) (hT : Tabs w) :
    Calls Tryd.prog 9 #[.int .u32 v, .int .i64 kind, .int .u64 p, .int .u64 x] w (RelP (relV v kind p x) w) := by
  have hmf : ∀ (fn : Fn) (first cap : Array Value) (w : World), (Instr.makeFunc fn first cap).run Tryd.prog w = .ok (.func fn first cap) w := fun _ _ _ _ => rfl
  obtain ⟨W, hWW, e0, e1, e2, e3, hbW, hsz⟩ := four_boxes w (.int .u32 v) (.int .i64 kind) (.int .u64 p) (.int .u64 x) 22 3 24 24
  have HB0 := Lib.hid hbW
  have HE := Lib.hid (And.intro e0 (And.intro e1 (And.intro e2 e3)))
  have y0 := (row1 e0).1
  have y1 := (row1 e1).1
  have y2 := (row1 e2).1
  have y3 := (row1 e3).1
  have HT := Lib.hid hT
  have HU := Lib.hid (And.intro hv (And.intro hk (And.intro hp hx)))
  clear hv hk hp hx hT e0 e1 e2 e3 hbW
  go_enter Tryd.func9, Tryd.ntmps9
  go_upto_region 1 with fail
  clear hWW
  go_wp2_with fail
  refine (suits8_any v kind HU.out.1 HU.out.2.1 W (HT.out.below HB0.out)).mono ?_
  rintro e w1 ⟨rfl, hb⟩
  have HB1 := Lib.hid (HB0.out.trans (hb.mono HB0.out.size))
  have x0 := (hb.cell (p := ⟨w.heap.size, 0, none⟩) (block_lt y0)).trans y0
  have x1 := (hb.cell (p := ⟨w.heap.size + 1, 0, none⟩) (block_lt y1)).trans y1
  have x2 := (hb.cell (p := ⟨w.heap.size + 2, 0, none⟩) (block_lt y2)).trans y2
  have x3 := (hb.cell (p := ⟨w.heap.size + 3, 0, none⟩) (block_lt y3)).trans y3
  clear hb y0 y1 y2 y3
  cases hm : mayO (suO v kind) with
  | false =>
    have HR := Lib.hid (show relV v kind p x = (0, 1) by unfold relV; rw [if_neg (by rw [hm]; simp)])
    clear hm
    go_wp2
    go_ret2
    exact ⟨HB1.out, by rw [HR.out]; rfl⟩
  | true =>
    have HO := Lib.hid (suO_op hm)
    have HR := Lib.hid (show relV v kind p x = (match doneV v kind p x with
      | some y => (y, 0)
      | none => (0, 5)) by unfold relV; rw [if_pos hm])
    have hbx := (Below.refl w1.heap.size w1).alloc (Nat.le_refl _) (.cells #[.int .i64 0] 25)
    have HC := Lib.hid (fit_any (.pointer (some ⟨w.heap.size, 0, none⟩)) (.pointer (some ⟨w.heap.size + 1, 0, none⟩)) (.pointer (some ⟨w.heap.size + 2, 0, none⟩)) (.pointer (some ⟨w.heap.size + 3, 0, none⟩)) (doneV v kind p x) w1
      (boxed_done v kind p x HU.out.1 HO.out HU.out.2.2.1 HU.out.2.2.2 _ _ _ _ _ ((HT.out.below HB1.out).below hbx)
        ((hbx.cell (p := ⟨w.heap.size, 0, none⟩) (block_lt x0)).trans x0) ((hbx.cell (p := ⟨w.heap.size + 1, 0, none⟩) (block_lt x1)).trans x1)
        ((hbx.cell (p := ⟨w.heap.size + 2, 0, none⟩) (block_lt x2)).trans x2) ((hbx.cell (p := ⟨w.heap.size + 3, 0, none⟩) (block_lt x3)).trans x3)))
    clear hm hbx x0 x1 x2 x3
    go_wp2_with fail
    refine HC.out.mono ?_
    rintro e w2 ⟨hb, rfl⟩
    have HB2 := Lib.hid (HB1.out.trans (hb.mono HB1.out.size))
    clear hb
    cases hd : doneV v kind p x with
    | none =>
      have HR2 := Lib.hid (show relV v kind p x = (0, 5) by rw [HR.out, hd])
      clear hd
      go_wp2
      go_ret2
      exact ⟨HB2.out, by rw [HR2.out]; rfl⟩
    | some y =>
      have HR2 := Lib.hid (show relV v kind p x = (y, 0) by rw [HR.out, hd])
      clear hd
      go_wp2
      go_ret2
      exact ⟨HB2.out, by rw [HR2.out]; rfl⟩
end Go.Proofs.YtjngkifoaljmaaaDoor
