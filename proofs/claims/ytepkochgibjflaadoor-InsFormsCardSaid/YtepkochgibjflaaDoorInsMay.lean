/- Layer 2: what May of package ins answers. Conditions: the two tables read as they should. -/
import Derived.Test.YtepkochgibjflaaDoorIns
import Derived.Deep.RegionHeld3
import Derived.OpenShut
import Derived.Deep.WholeRow
namespace Go.Proofs.YtepkochgibjflaaDoor
open Go.RowKit
set_option linter.unusedVariables false

theorem fits_at (r : Int) (has b : Bool) (w : World) (h : IsI r) (hb : fitB r has = b) :
    Calls Tryd.prog 10 #[.int .i64 r, .bool has] w fun e w' => e = .returned (.bool b) ∧ w' = w := by
  subst hb
  exact (fits_any r has w h).mono fun _ _ ⟨h1, h2⟩ => ⟨h1, h2.symm⟩
theorem quiet_same {P : Program} {f : FuncId} {args : Array Value} {w : World} {n : Nat} {v : Value}
    (h : Calls P f args (w.drewN n) fun e w' => e = .returned v ∧ w' = w.drewN n) : Calls P f args (w.drewN n) fun e w'' => e = .returned v ∧ ∃ m, w'' = w.drewN m := Calls.quiet_of_same h
/-- an instruction, by value -/
def insA (op rd r1 r2 imm : Int) : Array Value := #[.int .i64 op, .int .i64 rd, .int .i64 r1, .int .i64 r2, .int .i64 imm]
/-- is it an instruction of operation n? -/
def mayB (n : Nat) (rd r1 r2 imm : Int) : Bool :=
  fitB rd (lRd (opS n)) && fitB r1 (lR1 (opS n)) && fitB r2 (lR2 (opS n)) && (numberI (spreadI imm (opS n)) (opS n) == imm)
/-- the row of a shape, cell by cell -/
def LayAt (w : World) (b o s : Nat) : Prop := ∀ j, j < 19 → w.cell? ⟨b, o + j, none⟩ = some (nthV (layCells s) j)
theorem Tabs.layAt {w : World} (h : Tabs w) {s : Nat} (hs : s < 8) : LayAt w 0 (s * 19) s := fun j hj => h.2 s hs j hj

theorem add_off (b o j : Nat) : (⟨b, o, none⟩ : Addr).add j = ⟨b, o + j, none⟩ := by unfold Addr.add; split <;> simp_all
theorem run_load_lay {w : World} {b o s : Nat} (h : LayAt w b o s) : (loadVar 39 ⟨b, o, none⟩).run Tryd.prog w = .ok (.agg (layA s)) w := by
  have hl : (loadCells ⟨b, o, none⟩ (layCells s).length).run Tryd.prog w = .ok (layCells s).toArray w :=
    run_loadCells_list (P := Tryd.prog) w ⟨b, o, none⟩ (layCells s) (fun j v hv => by
      rw [add_off]
      have hj : j < 19 := by
        have := (List.getElem?_eq_some_iff.1 hv).1
        exact this
      rw [h j hj]
      unfold nthV
      rw [List.getD_eq_getElem?_getD, hv]
      rfl)
  have hagg : (isAgg 39).run Tryd.prog w = .ok true w := by
    unfold isAgg
    rw [Sem.run_bind, run_underlying Tryd.underlying39 w]
    rfl
  have hl' : (loadCells ⟨b, o, none⟩ 19).run Tryd.prog w = .ok (layA s) w := hl
  have hsz : (sizeOf 39).run Tryd.prog w = .ok 19 w := by kernel_rfl
  unfold loadVar
  simp only [Sem.run_bind, hagg, hsz, hl', Result.andThen_ok, if_true, Sem.run_pure]
theorem wpList_load_lay {w : World} {ops : Array Oper} {rest : List Oper} {o : Oper} {a : Act} {Q : Exit → Act → World → Prop} (hgd : o.guard = none) (x : Operand) (ho : o.op = .load 39 x)
    (b off s : Nat) (hx : a.eval x = .pointer (some ⟨b, off, none⟩)) (hc : LayAt w b off s)
    (h : wpList Tryd.prog ops Q rest (a.put o.dst (.agg #[.string (letS s), .bool (lRd s), .bool (lR1 s), .bool (lR2 s), .bool (lKd s), .int .i64 (lRest s), .int .i64 (lSg s),
  .int .i64 (pF s 0), .int .i64 (pN s 0), .int .i64 (pA s 0), .int .i64 (pF s 1), .int .i64 (pN s 1), .int .i64 (pA s 1), .int .i64 (pF s 2), .int .i64 (pN s 2), .int .i64 (pA s 2), .int .i64 (pF s 3), .int .i64 (pN s 3), .int .i64 (pA s 3)])) w) : wpList Tryd.prog ops Q (o :: rest) a w :=
  wpList_plain hgd fun K hK => by
    unfold Oper.wp execOp
    simp only [ho, hx, Instr.loadAt, Instr.sureAddr, Sem.run_bind, Sem.run_pure, Result.andThen_ok, run_load_lay hc]
    exact hK _ _ h

theorem layInfo : (Tryd.prog.info? 39).map (·.size) = some 19 := by kernel_rfl
theorem wpList_store_new {P : Program} {ops : Array Oper} {rest : List Oper} {o : Oper} {a : Act} {Q : Exit → Act → World → Prop} (hgd : o.guard = none) (ty : TypeId) (x y : Operand) (ho : o.op = .store ty x y)
    (w0 : World) (c c' : Array Value) (g : Nat) (hx : a.eval x = .pointer (some ⟨g, 0, none⟩)) (hy : a.eval y = .agg c') (hi : (P.info? ty).map (·.size) = some c'.size) (hs : c.size = c'.size) (h1 : c'.all (·.oneCell') = true)
    (hd : o.dst = none) (hg : w0.heap.size = g) (h : wpList P ops Q rest a (w0.alloc (.cells c' ty))) : wpList P ops Q (o :: rest) a (w0.alloc (.cells c ty)) :=
  wpList_plain hgd fun K hK => by
    subst hg
    unfold Oper.wp execOp
    simp only [ho, hx, hy, run_storeAt_new w0 ty c c' hi hs h1, Sem.run_bind, Result.andThen_ok, Sem.run_pure]
    have e : a.put o.dst undef = a := by rw [hd]; rfl
    rw [← e] at h
    exact hK _ _ h

/-- block b begins with the row of shape s; with an instruction -/
abbrev LayC (w : World) (b s : Nat) : Prop := w.cell? ⟨b, 0, none⟩ = some (.string (letS s)) ∧ w.cell? ⟨b, 1, none⟩ = some (.bool (lRd s)) ∧ w.cell? ⟨b, 2, none⟩ = some (.bool (lR1 s)) ∧ w.cell? ⟨b, 3, none⟩ = some (.bool (lR2 s)) ∧ w.cell? ⟨b, 4, none⟩ = some (.bool (lKd s)) ∧ w.cell? ⟨b, 5, none⟩ = some (.int .i64 (lRest s)) ∧ w.cell? ⟨b, 6, none⟩ = some (.int .i64 (lSg s)) ∧ w.cell? ⟨b, 7, none⟩ = some (.int .i64 (pF s 0)) ∧ w.cell? ⟨b, 8, none⟩ = some (.int .i64 (pN s 0)) ∧ w.cell? ⟨b, 9, none⟩ = some (.int .i64 (pA s 0)) ∧ w.cell? ⟨b, 10, none⟩ = some (.int .i64 (pF s 1)) ∧ w.cell? ⟨b, 11, none⟩ = some (.int .i64 (pN s 1)) ∧ w.cell? ⟨b, 12, none⟩ = some (.int .i64 (pA s 1)) ∧ w.cell? ⟨b, 13, none⟩ = some (.int .i64 (pF s 2)) ∧ w.cell? ⟨b, 14, none⟩ = some (.int .i64 (pN s 2)) ∧ w.cell? ⟨b, 15, none⟩ = some (.int .i64 (pA s 2)) ∧ w.cell? ⟨b, 16, none⟩ = some (.int .i64 (pF s 3)) ∧ w.cell? ⟨b, 17, none⟩ = some (.int .i64 (pN s 3)) ∧ w.cell? ⟨b, 18, none⟩ = some (.int .i64 (pA s 3))
abbrev InsC (w : World) (b : Nat) (op rd r1 r2 imm : Int) : Prop := w.cell? ⟨b, 0, none⟩ = some (.int .i64 op) ∧ w.cell? ⟨b, 1, none⟩ = some (.int .i64 rd) ∧ w.cell? ⟨b, 2, none⟩ = some (.int .i64 r1) ∧ w.cell? ⟨b, 3, none⟩ = some (.int .i64 r2) ∧ w.cell? ⟨b, 4, none⟩ = some (.int .i64 imm)
theorem layC_iff {w : World} {b s : Nat} : LayC w b s ↔ LayAt w b 0 s := by
  constructor
  · rintro ⟨h0, h1, h2, h3, h4, h5, h6, h7, h8, h9, h10, h11, h12, h13, h14, h15, h16, h17, h18⟩ j hj
    rw [Nat.zero_add]
    match j, hj with
    | 0, _ => exact h0
    | 1, _ => exact h1
    | 2, _ => exact h2
    | 3, _ => exact h3
    | 4, _ => exact h4
    | 5, _ => exact h5
    | 6, _ => exact h6
    | 7, _ => exact h7
    | 8, _ => exact h8
    | 9, _ => exact h9
    | 10, _ => exact h10
    | 11, _ => exact h11
    | 12, _ => exact h12
    | 13, _ => exact h13
    | 14, _ => exact h14
    | 15, _ => exact h15
    | 16, _ => exact h16
    | 17, _ => exact h17
    | 18, _ => exact h18
    | j + 19, h => exact absurd h (by omega)
  · intro h
    have h' : ∀ j, j < 19 → w.cell? ⟨b, j, none⟩ = some (nthV (layCells s) j) := fun j hj => by
      have := h j hj
      rwa [Nat.zero_add] at this
    exact ⟨h' 0 (by omega), h' 1 (by omega), h' 2 (by omega), h' 3 (by omega), h' 4 (by omega), h' 5 (by omega), h' 6 (by omega), h' 7 (by omega), h' 8 (by omega), h' 9 (by omega), h' 10 (by omega), h' 11 (by omega), h' 12 (by omega), h' 13 (by omega), h' 14 (by omega), h' 15 (by omega), h' 16 (by omega), h' 17 (by omega), h' 18 (by omega)⟩
theorem cell_kept {w w' : World} {b o : Nat} {v : Value} (hb : Below w.heap.size w w') (h : w.cell? ⟨b, o, none⟩ = some v) : w'.cell? ⟨b, o, none⟩ = some v := by
  have lt : b < w.heap.size := by
    rcases Nat.lt_or_ge b w.heap.size with h1 | h1
    · exact h1
    · simp [World.cell?, Array.getElem?_eq_none h1] at h
  rw [hb.cell (p := ⟨b, o, none⟩) lt]; exact h
theorem LayAt.below {w w' : World} {b o s : Nat} (h : LayAt w b o s) (hb : Below w.heap.size w w') : LayAt w' b o s := fun j hj => cell_kept hb (h j hj)
theorem LayC.below {w w' : World} {b s : Nat} (h : LayC w b s) (hb : Below w.heap.size w w') : LayC w' b s := layC_iff.2 ((layC_iff.1 h).below hb)
theorem InsC.below {w w' : World} {b : Nat} {op rd r1 r2 imm : Int} (h : InsC w b op rd r1 r2 imm) (hb : Below w.heap.size w w') : InsC w' b op rd r1 r2 imm :=
  ⟨cell_kept hb h.1, cell_kept hb h.2.1, cell_kept hb h.2.2.1, cell_kept hb h.2.2.2.1, cell_kept hb h.2.2.2.2⟩
theorem layC_new {w : World} {s : Nat} {t : TypeId} : LayC (w.alloc (.cells (layA s) t)) w.heap.size s := by
  refine layC_iff.2 fun j hj => ?_
  rw [Nat.zero_add, World.cell?_alloc_new]
  have : (layA s)[j]? = (layCells s)[j]? := by show (layCells s).toArray[j]? = _; simp
  rw [this]
  have hl : j < (layCells s).length := hj
  rw [List.getElem?_eq_getElem hl]
  unfold nthV
  rw [List.getD_eq_getElem?_getD, List.getElem?_eq_getElem hl]
  rfl
theorem insC_new {w : World} {op rd r1 r2 imm : Int} {t : TypeId} : InsC (w.alloc (.cells (insA op rd r1 r2 imm) t)) w.heap.size op rd r1 r2 imm := by
  refine ⟨?_, ?_, ?_, ?_, ?_⟩ <;> simp [insA]
/-- the load of a whole row, shut: so that a region takes it at once, not cell by cell -/
def layLoad (v : Value) : Sem Value := Instr.loadAt 39 v
theorem loadAt_lay (v : Value) : Instr.loadAt 39 v = layLoad v := rfl
/-- what a region over an instruction in block b and a shape's row in block c may count on: a few cells, and the whole row at once -/
abbrev HeldL (w : World) (c s : Nat) : Prop := w.cell? ⟨c, 1, none⟩ = some (.bool (lRd s)) ∧ w.cell? ⟨c, 2, none⟩ = some (.bool (lR1 s)) ∧ w.cell? ⟨c, 3, none⟩ = some (.bool (lR2 s)) ∧ w.cell? ⟨c, 4, none⟩ = some (.bool (lKd s)) ∧ w.cell? ⟨c, 5, none⟩ = some (.int .i64 (lRest s)) ∧
  (layLoad (.pointer (some ⟨c, 0, none⟩))).run Tryd.prog w = .ok (.agg #[.string (letS s), .bool (lRd s), .bool (lR1 s), .bool (lR2 s), .bool (lKd s), .int .i64 (lRest s), .int .i64 (lSg s),
  .int .i64 (pF s 0), .int .i64 (pN s 0), .int .i64 (pA s 0), .int .i64 (pF s 1), .int .i64 (pN s 1), .int .i64 (pA s 1), .int .i64 (pF s 2), .int .i64 (pN s 2), .int .i64 (pA s 2), .int .i64 (pF s 3), .int .i64 (pN s 3), .int .i64 (pA s 3)]) w
theorem heldL_of {w : World} {c s : Nat} (h : LayAt w c 0 s) : HeldL w c s := by
  have hc : ∀ j, j < 19 → w.cell? ⟨c, j, none⟩ = some (nthV (layCells s) j) := fun j hj => by
    have := h j hj
    rwa [Nat.zero_add] at this
  refine ⟨hc 1 (by omega), hc 2 (by omega), hc 3 (by omega), hc 4 (by omega), hc 5 (by omega), ?_⟩
  unfold layLoad
  simp only [Instr.loadAt, Instr.sureAddr, Sem.run_bind, Sem.run_pure, Result.andThen_ok]
  exact run_load_lay h
abbrev Held (w0 w : World) (b c s : Nat) (op rd r1 r2 imm : Int) : Prop := InsC w b op rd r1 r2 imm ∧ HeldL w c s ∧ LayAt w c 0 s ∧ Below w0.heap.size w0 w
theorem held_below {w0 w w' : World} {b c s : Nat} {op rd r1 r2 imm : Int} (h : Held w0 w b c s op rd r1 r2 imm) (hb : Below w.heap.size w w') : Held w0 w' b c s op rd r1 r2 imm :=
  ⟨InsC.below h.1 hb, heldL_of (h.2.2.1.below hb), h.2.2.1.below hb, h.2.2.2.trans (hb.mono h.2.2.2.size)⟩
theorem held_drew {w0 w : World} {b c s : Nat} {op rd r1 r2 imm : Int} (h : Held w0 w b c s op rd r1 r2 imm) : Held w0 w.drew b c s op rd r1 r2 imm :=
  held_below h (Below.drew (Below.refl _ _))
theorem held_drewN {w0 w : World} {b c s : Nat} {op rd r1 r2 imm : Int} (h : Held w0 w b c s op rd r1 r2 imm) (n : Nat) : Held w0 (w.drewN n) b c s op rd r1 r2 imm :=
  held_below h (below_drewN (Below.refl _ _) n)
theorem held_bel {w0 w : World} {b c s : Nat} {op rd r1 r2 imm : Int} (h : Held w0 w b c s op rd r1 r2 imm) : Below w0.heap.size w0 w := h.2.2.2
theorem held_start {w : World} {s : Nat} {op rd r1 r2 imm : Int} {t u : TypeId} : Held w ((w.alloc (.cells (insA op rd r1 r2 imm) t)).alloc (.cells (layA s) u)) w.heap.size (w.heap.size + 1) s op rd r1 r2 imm := by
  have e : w.heap.size + 1 = (w.alloc (.cells (insA op rd r1 r2 imm) t)).heap.size := by simp
  have hl : LayAt ((w.alloc (.cells (insA op rd r1 r2 imm) t)).alloc (.cells (layA s) u)) (w.heap.size + 1) 0 s := by
    rw [e]; exact layC_iff.1 layC_new
  exact ⟨InsC.below insC_new ((Below.refl _ _).alloc (Nat.le_refl _) _), heldL_of hl, hl, ((Below.refl _ _).alloc (Nat.le_refl _) _).alloc (by simp) _⟩

theorem isW_spread (x : Int) (s : Nat) : IsW (spreadI x s) := by unfold spreadI IsW; omega
theorem spread_at (x : Int) (s : Nat) (hs : s < 8) (w : World) :
    Calls Tryd.prog 12 #[.int .i64 x, .agg #[.string (letS s), .bool (lRd s), .bool (lR1 s), .bool (lR2 s), .bool (lKd s), .int .i64 (lRest s), .int .i64 (lSg s),
  .int .i64 (pF s 0), .int .i64 (pN s 0), .int .i64 (pA s 0), .int .i64 (pF s 1), .int .i64 (pN s 1), .int .i64 (pA s 1), .int .i64 (pF s 2), .int .i64 (pN s 2), .int .i64 (pA s 2), .int .i64 (pF s 3), .int .i64 (pN s 3), .int .i64 (pA s 3)]] w fun e w' => e = .returned (.int .u32 (spreadI x s)) ∧ Below w.heap.size w w' := spread_any x s hs w
theorem number_at (v : Int) (s : Nat) (hv : IsW v) (hs : s < 8) (w : World) :
    Calls Tryd.prog 11 #[.int .u32 v, .agg #[.string (letS s), .bool (lRd s), .bool (lR1 s), .bool (lR2 s), .bool (lKd s), .int .i64 (lRest s), .int .i64 (lSg s),
  .int .i64 (pF s 0), .int .i64 (pN s 0), .int .i64 (pA s 0), .int .i64 (pF s 1), .int .i64 (pN s 1), .int .i64 (pA s 1), .int .i64 (pF s 2), .int .i64 (pN s 2), .int .i64 (pA s 2), .int .i64 (pF s 3), .int .i64 (pN s 3), .int .i64 (pA s 3)]] w fun e w' => e = .returned (.int .i64 (numberI v s)) ∧ Below w.heap.size w w' := number_any v s hv hs w
attribute [local go_sem ↓] loadAt_lay
theorem may_no (op rd r1 r2 imm : Int) (w : World) (h : op < 0 ∨ 43 ≤ op) :
    Calls Tryd.prog 6 #[.agg (insA op rd r1 r2 imm)] w fun e w' => e = .returned (.bool false) ∧ Below w.heap.size w w' := by
  unfold insA
  have H := Lib.hid h
  clear h
  go_enter Tryd.func6, Tryd.ntmps6
  go_wp2_with (go_at_call 9; refine (known_no _ _ H.out).mono ?_; rintro e w' ⟨rfl, rfl⟩)
  go_ret
  exact ⟨rfl, (Below.refl _ _).alloc (Nat.le_refl _) _⟩
set_option maxHeartbeats 1000000 in
theorem may_any (n : Nat) (rd r1 r2 imm : Int) (w : World) (hn : n < 43) (hT : Tabs w) (i0 : IsI rd) (i1 : IsI r1) (i2 : IsI r2) :
    Calls Tryd.prog 6 #[.agg (insA n rd r1 r2 imm)] w fun e w' => e = .returned (.bool (mayB n rd r1 r2 imm)) ∧ Below w.heap.size w w' := by
  unfold insA
  have h0 : (0 : Int) ≤ n := by omega
  have h2 : (n : Int) < 43 := by omega
  have h3 : (0 : Int) ≤ opS n := by omega
  have h4 : ((opS n : Nat) : Int) < 8 := by have := opS_lt hn; omega
  have hT1 := hT.alloc (.cells #[.int .i64 n, .int .i64 rd, .int .i64 r1, .int .i64 r2, .int .i64 imm] 25)
  have c0 := hT.shape hn
  have L := Lib.hid (hT1.layAt (opS_lt hn))
  have hs := opS_lt hn
  generalize hm : mayB n rd r1 r2 imm = M
  unfold mayB at hm
  have HM := Lib.hid hm
  clear hm
  generalize opS n = s at *
  have HT := Lib.hid hT1
  have z1 : 1 < w.heap.size := hT.size
  have z0 : 0 < w.heap.size := by omega
  clear hT1 hT
  go_enter Tryd.func6, Tryd.ntmps6
  go_wp2_with (first | (go_at_call 9; refine (known_yes _ _ h0 h2).mono ?_; rintro e w' ⟨rfl, rfl⟩) | (refine wpList_load_lay rfl _ rfl _ _ s rfl L.out ?_) | (refine wpList_store_new rfl 39 _ _ rfl _ _ _ _ rfl rfl ?hi ?hs ?h1 rfl ?hg ?_; (case hi => exact layInfo); (case hs => exact rfl); (case h1 => simp [Value.oneCell']); (case hg => simp)))
  have HS := held_start (w := w) (s := s) (op := n) (rd := rd) (r1 := r1) (r2 := r2) (imm := imm) (t := 25) (u := 39)
  unfold insA layA at HS
  generalize (w.alloc (.cells #[.int .i64 n, .int .i64 rd, .int .i64 r1, .int .i64 r2, .int .i64 imm] 25)).alloc _ = W at HS ⊢
  clear HT L c0 h0 h2
  have HH := Lib.hid HS
  obtain ⟨⟨x0, x1, x2, x3, x4⟩, ⟨y1, y2, y3, _, _, _⟩, _, HB⟩ := HS
  have HBel := Lib.hid HB
  clear HB
  cases e0 : fitB rd (lRd s) with
  | false =>
    have hM : false = M := by have := HM.out; rw [e0] at this; exact this
    subst hM
    go_quiet ((go_at_call 10; exact Calls.quiet_of_same (fits_at _ _ _ _ i0 e0)))
    go_wp2
    go_ret
    exact ⟨rfl, below_drewN HBel.out _⟩
  | true =>
    cases e1 : fitB r1 (lR1 s) with
    | false =>
      have hM : false = M := by have := HM.out; rw [e0, e1] at this; exact this
      subst hM
      go_quiet ((first | (go_at_call 10; (with_reducible refine quiet_same (fits_at rd (lRd s) true _ i0 e0))) | (go_at_call 10; (with_reducible refine quiet_same (fits_at r1 (lR1 s) false _ i1 e1)))))
      go_wp2
      go_ret
      exact ⟨rfl, below_drewN HBel.out _⟩
    | true =>
      cases e2 : fitB r2 (lR2 s) with
      | false =>
        have hM : false = M := by have := HM.out; rw [e0, e1, e2] at this; exact this
        subst hM
        go_quiet ((first | (go_at_call 10; (with_reducible refine quiet_same (fits_at rd (lRd s) true _ i0 e0))) | (go_at_call 10; (with_reducible refine quiet_same (fits_at r1 (lR1 s) true _ i1 e1))) | (go_at_call 10; (with_reducible refine quiet_same (fits_at r2 (lR2 s) false _ i2 e2)))))
        go_wp2
        go_ret
        exact ⟨rfl, below_drewN HBel.out _⟩
      | true =>
        have hW := isW_spread imm s
        have hF := HH.out
        clear x0 x1 x2 x3 x4 y1 y2 y3 HH HBel
        go_region_held3 (fun w' => InsC w' w.heap.size n rd r1 r2 imm ∧ HeldL w' (w.heap.size + 1) s ∧ LayAt w' (w.heap.size + 1) 0 s ∧ Below w.heap.size w w') (first | assumption | (with_reducible apply held_drew; assumption) | (with_reducible apply held_drewN; assumption) | (apply held_below; assumption; assumption))
          (first
          | (go_at_call 10; (with_reducible refine (fits_at rd (lRd s) true _ i0 e0).mono ?_); rintro e w' ⟨rfl, rfl⟩)
          | (go_at_call 10; (with_reducible refine (fits_at r1 (lR1 s) true _ i1 e1).mono ?_); rintro e w' ⟨rfl, rfl⟩)
          | (go_at_call 10; (with_reducible refine (fits_at r2 (lR2 s) true _ i2 e2).mono ?_); rintro e w' ⟨rfl, rfl⟩)
          | (go_at_call 12; (with_reducible refine (spread_at imm s hs _).mono ?_); rintro e w' ⟨rfl, hb⟩)
          | (go_at_call 11; (with_reducible refine (number_at _ s hW hs _).mono ?_); rintro e w' ⟨rfl, hb⟩))
        have hM := Lib.hid (show (numberI (spreadI imm s) s == imm) = M by have := HM.out; rw [e0, e1, e2] at this; exact this)
        go_wp2
        go_ret
        refine ⟨ret_bool hM.out, ?_⟩
        apply held_bel
        assumption
end Go.Proofs.YtepkochgibjflaaDoor
