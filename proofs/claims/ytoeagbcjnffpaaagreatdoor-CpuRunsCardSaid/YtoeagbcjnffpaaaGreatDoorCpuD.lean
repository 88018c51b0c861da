/- Layer 5: what instruction of package cpu answers; what its methods upper, upperFromHere, jump, jumpTo, stop, branch, two and one do. Conditions: the tables of packages ins and alu read as they should.
   Layer 5: what jumpTo, two, one and branch of package cpu do. Conditions: the tables of package alu read as they should. -/
import Derived.Test.YtoeagbcjnffpaaaGreatDoorCpuC
import Derived.Test.YtoeagbcjnffpaaaGreatDoorAluM
namespace Go.Proofs.YtoeagbcjnffpaaaGreatDoor
set_option maxRecDepth 100000
open Go.RowKit Go.Maps
set_option linter.unusedVariables false

/-- F, but one block -/
def NB (F : Nat → Prop) (g : Nat) (b : Nat) : Prop := F b ∧ b ≠ g
section
variable {w w' w1 w2 : World} {K : CK} {ve vl : Value} {st : St} {F : Nat → Prop}
theorem CpuIs.own_lt (h : CpuIs w K ve vl st) : K.c < w.heap.size ∧ (∀ i, i < K.n → K.G i < w.heap.size) ∧ (∀ b, ve.ownBlock = some b → b < w.heap.size) ∧ ∀ b, vl.ownBlock = some b → b < w.heap.size :=
  ⟨h.blk.lt, fun i hi => (h.mem.rows i hi).lt, fun b hb => (ownBlock_lt h.evr hb).1, fun b hb => (ownBlock_lt h.lkr hb).1⟩
theorem CpuAt.narrow (h : CpuAt w K F st) (o : Obj) : CpuAt (w.alloc o) K (NB F w.heap.size) st := by
  obtain ⟨ve, vl, hC, hF⟩ := h
  obtain ⟨o1, o2, o3, o4⟩ := hC.own_lt
  refine ⟨ve, vl, hC.below ((Below.refl _ _).alloc (Nat.le_refl _) _), ⟨hF.1, by omega⟩, fun i hi => ⟨hF.2.1 i hi, by have := o2 i hi; omega⟩, fun b hb => ⟨hF.2.2.1 b hb, by have := o3 b hb; omega⟩, fun b hb => ⟨hF.2.2.2.1 b hb, by have := o4 b hb; omega⟩, fun b hb => ?_⟩
  simp at hb
  exact ⟨hF.2.2.2.2 b (by omega), by omega⟩
theorem CpuAt.widen {g : Nat} (h : CpuAt w K (NB F g) st) : CpuAt w K F st := by
  obtain ⟨ve, vl, hC, h1, h2, h3, h4, h5⟩ := h
  exact ⟨ve, vl, hC, h1.1, fun i hi => (h2 i hi).1, fun b hb => (h3 b hb).1, fun b hb => (h4 b hb).1, fun b hb => (h5 b hb).1⟩
theorem Out.widen {g : Nat} (h : Out (NB F g) w w') : Out F w w' := ⟨h.os, h.tape, h.output, h.size, fun k hk hn => h.block k hk (fun e => hn e.1)⟩
theorem Out.boxed {o : Obj} (h : Out (NB F w.heap.size) (w.alloc o) w') : Out F w w' := (Out.of_below ((Below.refl _ w).alloc (Nat.le_refl _) o)).trans h.widen
theorem Out.cell {g k : Nat} {v : Value} (h : Out (NB F g) w w') (hc : w.cell? ⟨g, k, none⟩ = some v) : w'.cell? ⟨g, k, none⟩ = some v := by
  rw [World.cell?_of_block (h.block _ (block_lt hc) (fun e => e.2 rfl))]; exact hc
theorem InsC.out {g : Nat} {a b c d e : Int} (h : InsC w g a b c d e) (o : Out (NB F g) w w') : InsC w' g a b c d e := ⟨o.cell h.1, o.cell h.2.1, o.cell h.2.2.1, o.cell h.2.2.2.1, o.cell h.2.2.2.2⟩
theorem Env.narrow (h : Env w F) (o : Obj) (g : Nat) : Env (w.alloc o) (NB F g) :=
  have h' := h.out (F := F) (Out.of_below ((Below.refl _ w).alloc (Nat.le_refl _) o))
  ⟨h'.tabs, h'.taba, fun e => h.ops e.1, fun e => h.lays e.1, fun e => h.two e.1⟩
theorem CpuAt.wf (h : CpuAt w K F st) : CsW st.s := by obtain ⟨_, _, h, _⟩ := h; exact h.wf
theorem ShowP.box {o : Obj} {e : Ending} (h : e = .returned (.tuple #[])) (hA : CpuAt w' K (NB F w.heap.size) st) (hO : Out (NB F w.heap.size) (w.alloc o) w') : ShowP w K F st e w' := ⟨h, hA.widen, hO.boxed⟩
end
theorem cwrite (K : CK) (F : Nat → Prop) (st : St) (r v : Int) (h0 : 0 ≤ r) (h1 : r < 32) (hv : IsU v) (w : World) (hA : CpuAt w K F st) :
    Calls Tryz.prog 123 #[.pointer (some ⟨K.c, 0, none⟩), .int .i64 r, .int .u64 v] w (ShowP w K F (writeC st r v)) := by
  obtain ⟨ve, vl, hC, hF⟩ := hA
  refine (write_any K.c K.m _ st.s ve vl K.md r v h0 h1 w hC.blk).mono ?_
  rintro e w' ⟨rfl, hT⟩
  exact ⟨rfl, CpuAt.state hC hF hT ((hC.wf.setR h0 h1 hv).goTo (isU_modU' _))⟩
theorem cleap (K : CK) (F : Nat → Prop) (st : St) (r p : Int) (h0 : 0 ≤ r) (h1 : r < 32) (hp : IsU p) (w : World) (hA : CpuAt w K F st) :
    Calls Tryz.prog 129 #[.pointer (some ⟨K.c, 0, none⟩), .int .i64 r, .int .u64 p] w (ShowP w K F (leapC st r p)) := by
  obtain ⟨ve, vl, hC, hF⟩ := hA
  refine (leap_any K.c K.m _ st.s ve vl K.md r p h0 h1 w hC.blk).mono ?_
  rintro e w' ⟨rfl, hT⟩
  exact ⟨rfl, CpuAt.state hC hF hT ((hC.wf.setR h0 h1 (isU_modU' _)).goTo hp)⟩
theorem cread (K : CK) (F : Nat → Prop) (st : St) (r : Int) (h0 : 0 ≤ r) (h1 : r < 32) (w : World) (hA : CpuAt w K F st) :
    Calls Tryz.prog 126 #[.pointer (some ⟨K.c, 0, none⟩), .int .i64 r] w fun e w' => e = .returned (.int .u64 (reg st.s r)) ∧ w' = w := by
  obtain ⟨ve, vl, hC, hF⟩ := hA
  exact read_any K.c K.m _ st.s ve vl K.md r h0 h1 w hC.blk
theorem cfar (K : CK) (F : Nat → Prop) (st : St) (n : Int) (w : World) (hA : CpuAt w K F st) :
    Calls Tryz.prog 128 #[.pointer (some ⟨K.c, 0, none⟩), .int .i64 n] w fun e w' => e = .returned (.int .u64 (farP st.s n)) ∧ w' = w := by
  obtain ⟨ve, vl, hC, hF⟩ := hA
  exact far_any K.c K.m _ st.s ve vl K.md n w hC.blk
theorem cnext (K : CK) (F : Nat → Prop) (st : St) (w : World) (hA : CpuAt w K F st) :
    Calls Tryz.prog 127 #[.pointer (some ⟨K.c, 0, none⟩)] w fun e w' => e = .returned (.int .u64 (nextP st.s)) ∧ w' = w := by
  obtain ⟨ve, vl, hC, hF⟩ := hA
  exact next_any K.c K.m _ st.s ve vl K.md w hC.blk
theorem CpuAt.drewN {w : World} {K : CK} {F : Nat → Prop} {st : St} (h : CpuAt w K F st) (n : Nat) : CpuAt (w.drewN n) K F st := h.below (bel_drewN (Below.refl _ _) n)
theorem out_drewN {F : Nat → Prop} {w : World} (n : Nat) : Out F w (w.drewN n) := .of_below (bel_drewN (Below.refl _ _) n)
section
variable (K : CK) (F : Nat → Prop) (st : St) (op rd r1 r2 imm : Int) (w : World)
theorem do_upper (h0 : 0 ≤ rd) (h1 : rd < 32) (hA : CpuAt w K F st) :
    Calls Tryz.prog 71 #[.pointer (some ⟨K.c, 0, none⟩), .agg #[.int .i64 op, .int .i64 rd, .int .i64 r1, .int .i64 r2, .int .i64 imm]] w (ShowP w K F (writeC st rd (modU imm))) := by
  have HA := Lib.hid (hA.narrow (.cells #[.int .i64 op, .int .i64 rd, .int .i64 r1, .int .i64 r2, .int .i64 imm] 74))
  have HU := Lib.hid (IntKind.wrap_u64 imm)
  clear hA
  go_enter Tryz.func71, Tryz.ntmps71
  go_wp2_with fail
  rw [HU.out]
  refine (cwrite K _ st rd (modU imm) h0 h1 (isU_modU' _) _ HA.out).mono ?_
  rintro e w' ⟨rfl, hA', hO'⟩
  have HX := Lib.hid (ShowP.box rfl hA' hO' : ShowP w K F _ _ w')
  clear hA' hO'
  go_wp2
  go_end0
  exact HX.out
theorem do_stop (hA : CpuAt w K F st) :
    Calls Tryz.prog 75 #[.pointer (some ⟨K.c, 0, none⟩), .agg #[.int .i64 op, .int .i64 rd, .int .i64 r1, .int .i64 r2, .int .i64 imm]] w (ShowP w K F (withS st (doneS st.s 1))) := by
  obtain ⟨ve, vl, hC, hF⟩ := hA.narrow (.cells #[.int .i64 op, .int .i64 rd, .int .i64 r1, .int .i64 r2, .int .i64 imm] 74)
  have h1 := hC.blk.dn
  have h2 := hC.blk.free 36
  have lt := hA
  obtain ⟨_, _, hC0, _⟩ := lt
  have lt := hC0.blk.lt
  have hX := CpuAt.state hC hF ⟨hC.blk.setDn 1, grown_setCell _ K.c 36 _⟩ (hC.wf.done (.inr (.inl rfl)))
  rw [World.setCell_alloc_past _ _ _ _ lt] at hX
  have HX := Lib.hid hX
  clear hC hF hA hC0 hX
  go_enter Tryz.func75, Tryz.ntmps75
  go_wp2
  go_end0
  exact ⟨rfl, HX.out.1.widen, (Out.of_below ((Below.refl _ w).alloc (Nat.le_refl _) _)).trans HX.out.2.widen⟩
theorem do_far (h0 : 0 ≤ rd) (h1 : rd < 32) (hA : CpuAt w K F st) :
    Calls Tryz.prog 72 #[.pointer (some ⟨K.c, 0, none⟩), .agg #[.int .i64 op, .int .i64 rd, .int .i64 r1, .int .i64 r2, .int .i64 imm]] w (ShowP w K F (writeC st rd (farP st.s imm))) := by
  have HA := Lib.hid ((hA.narrow (.cells #[.int .i64 op, .int .i64 rd, .int .i64 r1, .int .i64 r2, .int .i64 imm] 74)).drewN 1)
  have HO := Lib.hid (show Out F w (w.alloc (.cells #[.int .i64 op, .int .i64 rd, .int .i64 r1, .int .i64 r2, .int .i64 imm] 74)).drew from Out.of_below (bel_drewN ((Below.refl _ w).alloc (Nat.le_refl _) _) 1))
  obtain ⟨x0, x1, x2, x3, x4⟩ := insC_new (w := w) (op := op) (rd := rd) (r1 := r1) (r2 := r2) (imm := imm) (t := 74)
  clear hA
  go_enter Tryz.func72, Tryz.ntmps72
  go_wp2
  refine wp_region_still_tail 7 (by kernel_rfl) (by kernel_rfl) ?_
  simp only [List.take_succ_cons, List.take_zero, List.drop_succ_cons, List.drop_zero]
  change wpStill _ _ (World.drew _) (fun a' => wpList _ _ _ _ a' (World.drew _)) _ _
  repeat still_step
  still_call (cfar K _ st imm _ HA.out)
  refine wpStill_nil ?_
  go_wp2_with fail
  refine (cwrite K _ st rd (farP st.s imm) h0 h1 (isU_modU' _) _ HA.out).mono ?_
  rintro e w' ⟨rfl, hA', hO'⟩
  have HX := Lib.hid (show ShowP w K F (writeC st rd (farP st.s imm)) (.returned (.tuple #[])) w' from ⟨rfl, hA'.widen, HO.out.trans hO'.widen⟩)
  clear hA' hO'
  go_wp2
  go_end0
  exact HX.out
theorem do_jump (h0 : 0 ≤ rd) (h1 : rd < 32) (hA : CpuAt w K F st) :
    Calls Tryz.prog 73 #[.pointer (some ⟨K.c, 0, none⟩), .agg #[.int .i64 op, .int .i64 rd, .int .i64 r1, .int .i64 r2, .int .i64 imm]] w (ShowP w K F (leapC st rd (farP st.s imm))) := by
  have HA := Lib.hid ((hA.narrow (.cells #[.int .i64 op, .int .i64 rd, .int .i64 r1, .int .i64 r2, .int .i64 imm] 74)).drewN 1)
  have HO := Lib.hid (show Out F w (w.alloc (.cells #[.int .i64 op, .int .i64 rd, .int .i64 r1, .int .i64 r2, .int .i64 imm] 74)).drew from Out.of_below (bel_drewN ((Below.refl _ w).alloc (Nat.le_refl _) _) 1))
  obtain ⟨x0, x1, x2, x3, x4⟩ := insC_new (w := w) (op := op) (rd := rd) (r1 := r1) (r2 := r2) (imm := imm) (t := 74)
  clear hA
  go_enter Tryz.func73, Tryz.ntmps73
  go_wp2
  refine wp_region_still_tail 7 (by kernel_rfl) (by kernel_rfl) ?_
  simp only [List.take_succ_cons, List.take_zero, List.drop_succ_cons, List.drop_zero]
  change wpStill _ _ (World.drew _) (fun a' => wpList _ _ _ _ a' (World.drew _)) _ _
  repeat still_step
  still_call (cfar K _ st imm _ HA.out)
  refine wpStill_nil ?_
  go_wp2_with fail
  refine (cleap K _ st rd (farP st.s imm) h0 h1 (isU_modU' _) _ HA.out).mono ?_
  rintro e w' ⟨rfl, hA', hO'⟩
  have HX := Lib.hid (show ShowP w K F (leapC st rd (farP st.s imm)) (.returned (.tuple #[])) w' from ⟨rfl, hA'.widen, HO.out.trans hO'.widen⟩)
  clear hA' hO'
  go_wp2
  go_end0
  exact HX.out
end
end Go.Proofs.YtoeagbcjnffpaaaGreatDoor
namespace Go.Proofs.YtoeagbcjnffpaaaGreatDoor
set_option maxRecDepth 100000
open Go.RowKit Go.Maps
set_option linter.unusedVariables false
theorem csum (K : CK) (F : Nat → Prop) (st : St) (x : X) (hx : XW x) (w : World) (hA : CpuAt w K F st) :
    Calls Tryz.prog 130 #[.pointer (some ⟨K.c, 0, none⟩), .agg #[.int .i64 x.op, .int .i64 x.rd, .int .i64 x.r1, .int .i64 x.r2, .int .i64 x.imm]] w fun e w' => e = .returned (.int .u64 (sumP st.s x)) ∧ Below w.heap.size w w' := by
  obtain ⟨ve, vl, hC, hF⟩ := hA
  exact sum_any K.c K.m _ st.s ve vl K.md x hx w hC.blk
section
variable (K : CK) (F : Nat → Prop) (st : St) (x : X) (w : World)
theorem do_jalr (hx : XW x) (hA : CpuAt w K F st) :
    Calls Tryz.prog 74 #[.pointer (some ⟨K.c, 0, none⟩), .agg #[.int .i64 x.op, .int .i64 x.rd, .int .i64 x.r1, .int .i64 x.r2, .int .i64 x.imm]] w (ShowP w K F (leapC st x.rd (sumP st.s x - sumP st.s x % 2))) := by
  have HA := Lib.hid ((hA.narrow (.cells #[.int .i64 x.op, .int .i64 x.rd, .int .i64 x.r1, .int .i64 x.r2, .int .i64 x.imm] 74)).drewN 1)
  have HO := Lib.hid (show Out F w (w.alloc (.cells #[.int .i64 x.op, .int .i64 x.rd, .int .i64 x.r1, .int .i64 x.r2, .int .i64 x.imm] 74)).drew from Out.of_below (bel_drewN ((Below.refl _ w).alloc (Nat.le_refl _) _) 1))
  obtain ⟨x0, x1, x2, x3, x4⟩ := insC_new (w := w) (op := x.op) (rd := x.rd) (r1 := x.r1) (r2 := x.r2) (imm := x.imm) (t := 74)
  have HX := Lib.hid hx
  obtain ⟨_, ⟨h0, h1⟩, _⟩ := hx
  clear hA
  go_enter Tryz.func74, Tryz.ntmps74
  go_wp2
  have HE := Lib.hid (andNot_one (isU_modU' (reg st.s x.r1 + x.imm)))
  have HP := Lib.hid (show IsU (bits .andNot .u64 (sumP st.s x) 1) by unfold sumP; rw [HE.out]; have := isU_modU' (reg st.s x.r1 + x.imm); exact ⟨by have := this.1; omega, by have := this.2; have := this; omega⟩)
  go_region_with (first | (go_at_call 130; refine (csum K _ st x HX.out _ HA.out).mono ?_; rintro e w2 ⟨rfl, hb⟩; have y1 := (hb.cell (p := ⟨w.heap.size, 1, none⟩) (by simp)).trans x1; have HA2 := Lib.hid (HA.out.below hb); have HO2 := Lib.hid (HO.out.trans (.of_below hb)); clear hb) | (go_at_call 129; refine (cleap K _ st x.rd _ h0 h1 HP.out _ HA2.out).mono ?_; rintro e w3 ⟨rfl, hA3, hO3⟩; have HZ := Lib.hid (show ShowP w K F (leapC st x.rd (bits .andNot .u64 (sumP st.s x) 1)) (.returned (.tuple #[])) w3 from ⟨rfl, hA3.widen, HO2.out.trans hO3.widen⟩); clear hA3 hO3))
  all_goals
    go_end0
    have := HZ.out
    unfold sumP at this ⊢
    rw [HE.out] at this
    exact this
end
/-- under way within a method: the instruction lies in its box -/
structure Mid (w0 w : World) (K : CK) (F : Nat → Prop) (x : X) (st : St) : Prop where
  ins : InsC w w0.heap.size x.op x.rd x.r1 x.r2 x.imm
  cpu : CpuAt w K (NB F w0.heap.size) st
  out : Out F w0 w
  lt : w0.heap.size < w.heap.size
section
variable {w0 w w' : World} {K : CK} {F : Nat → Prop} {x : X} {st st' : St}
theorem Mid.start (h : CpuAt w0 K F st) : Mid w0 (w0.alloc (.cells #[.int .i64 x.op, .int .i64 x.rd, .int .i64 x.r1, .int .i64 x.r2, .int .i64 x.imm] 74)) K F x st :=
  ⟨insC_new, h.narrow _, .of_below ((Below.refl _ _).alloc (Nat.le_refl _) _), by simp⟩
theorem Mid.step (h : Mid w0 w K F x st) (hA : CpuAt w' K (NB F w0.heap.size) st') (hO : Out (NB F w0.heap.size) w w') : Mid w0 w' K F x st' :=
  ⟨h.ins.out hO, hA, h.out.trans hO.widen, Nat.lt_of_lt_of_le h.lt hO.size⟩
theorem Mid.below (h : Mid w0 w K F x st) (hb : Below w.heap.size w w') : Mid w0 w' K F x st := h.step (h.cpu.below hb) (.of_below hb)
theorem Mid.drewN (h : Mid w0 w K F x st) (n : Nat) : Mid w0 (w.drewN n) K F x st := h.below (bel_drewN (Below.refl _ _) n)
theorem Mid.drew (h : Mid w0 w K F x st) : Mid w0 w.drew K F x st := h.drewN 1
theorem Mid.fin (h : Mid w0 w K F x st) {e : Ending} (he : e = .returned (.tuple #[])) : ShowP w0 K F st e w := ⟨he, h.cpu.widen, h.out⟩
end
section
variable (K : CK) (F : Nat → Prop) (st : St) (x : X) (w : World)
set_option maxHeartbeats 1000000 in
theorem do_two (hop : x.op < 16) (hx : XW x) (hA : CpuAt w K F st) (hl : st.lk.length < 100000000) :
    Calls Tryz.prog 76 #[.pointer (some ⟨K.c, 0, none⟩), .agg #[.int .i64 x.op, .int .i64 x.rd, .int .i64 x.r1, .int .i64 x.r2, .int .i64 x.imm]] w (ShowP w K F (execC K.T x st)) := by
  have HW := Lib.hid hA.wf
  have HM := Lib.hid (Mid.start (x := x) hA)
  obtain ⟨x0, x1, x2, x3, x4⟩ := HM.out.ins
  obtain ⟨_, ⟨h0, h1⟩, ⟨h2, h3⟩, ⟨h4, h5⟩, _⟩ := hx
  have HL := Lib.hid hl
  have HV := Lib.hid (twoV_u x.op _ _ (reg_isU hA.wf x.r1) (reg_isU hA.wf x.r2))
  have HRd := Lib.hid (fun n r (k0 : 0 ≤ r) (k1 : r < 32) => cread K (NB F w.heap.size) st r k0 k1 _ (HM.out.drewN n).cpu)
  cases hv : varB x.op with
  | true =>
    have HE := Lib.hid (show execC K.T x st = writeC (showC st 2 (reg st.s x.r1) (reg st.s x.r2)) x.rd (twoV x.op (reg st.s x.r1) (reg st.s x.r2)) by unfold execC; rw [if_pos hop, hv]; rfl)
    have HB := Lib.hid (fun w => hv ▸ var_any x.op w)
    clear hA hl hv hop
    go_enter Tryz.func76, Tryz.ntmps76
    go_wp2
    go_quiet ((go_at_call 126; exact Calls.quiet_of_same (HRd.out _ _ (by assumption) (by assumption))))
    go_wp2_with fail
    refine (HB.out _).mono ?_
    rintro e w' ⟨rfl, rfl⟩
    have HM1 := Lib.hid (HM.out.drewN nq)
    go_wp2_with fail
    refine (show_any K _ st 2 _ _ _ HM1.out.cpu HL.out).mono ?_
    rintro e w2 ⟨rfl, hA2, hO2⟩
    have HM2 := Lib.hid (HM1.out.step hA2 hO2)
    clear hA2 hO2 x0 x1 x2 x3 x4 HM HM1 HRd
    obtain ⟨x0, x1, x2, x3, x4⟩ := HM2.out.ins
    go_wp2_with fail
    refine (two_any x.op _ _ (reg_isU HW.out x.r1) (reg_isU HW.out x.r2) _).mono ?_
    rintro e w3 ⟨rfl, hb⟩
    have HM3 := Lib.hid (HM2.out.below hb)
    clear hb x0 x1 x2 x3 x4 HM2
    obtain ⟨x0, x1, x2, x3, x4⟩ := HM3.out.ins
    go_wp2_with fail
    refine (cwrite K _ _ x.rd _ h0 h1 HV.out _ HM3.out.cpu).mono ?_
    rintro e w4 ⟨rfl, hA4, hO4⟩
    have HZ := Lib.hid ((HM3.out.step hA4 hO4).fin rfl)
    clear hA4 hO4
    go_wp2
    go_end0
    rw [HE.out]
    exact HZ.out
  | false =>
    have HE := Lib.hid (show execC K.T x st = writeC st x.rd (twoV x.op (reg st.s x.r1) (reg st.s x.r2)) by unfold execC; rw [if_pos hop, hv]; rfl)
    have HB := Lib.hid (fun w => hv ▸ var_any x.op w)
    clear hA hl hv hop
    go_enter Tryz.func76, Tryz.ntmps76
    go_wp2
    go_quiet ((go_at_call 126; exact Calls.quiet_of_same (HRd.out _ _ (by assumption) (by assumption))))
    go_wp2_with fail
    refine (HB.out _).mono ?_
    rintro e w' ⟨rfl, rfl⟩
    have HM2 := Lib.hid (HM.out.drewN nq)
    go_wp2_with fail
    refine (two_any x.op _ _ (reg_isU HW.out x.r1) (reg_isU HW.out x.r2) _).mono ?_
    rintro e w3 ⟨rfl, hb⟩
    have HM3 := Lib.hid (HM2.out.below hb)
    clear hb x0 x1 x2 x3 x4 HM2 HM HRd
    obtain ⟨x0, x1, x2, x3, x4⟩ := HM3.out.ins
    go_wp2_with fail
    refine (cwrite K _ _ x.rd _ h0 h1 HV.out _ HM3.out.cpu).mono ?_
    rintro e w4 ⟨rfl, hA4, hO4⟩
    have HZ := Lib.hid ((HM3.out.step hA4 hO4).fin rfl)
    clear hA4 hO4
    go_wp2
    go_end0
    rw [HE.out]
    exact HZ.out
end
/-- the same, whatever is drawn -/
abbrev SM (w0 : World) (K : CK) (F : Nat → Prop) (x : X) (st : St) (w : World) : Prop := InsC w w0.heap.size x.op x.rd x.r1 x.r2 x.imm ∧ Mid w0 w K F x st
section
variable {w0 w w' : World} {K : CK} {F : Nat → Prop} {x : X} {st : St}
theorem sm_of (h : Mid w0 w K F x st) : SM w0 K F x st w := ⟨h.ins, h⟩
theorem sm_drew (h : SM w0 K F x st w) : SM w0 K F x st w.drew := sm_of h.2.drew
theorem sm_drewN (h : SM w0 K F x st w) (n : Nat) : SM w0 K F x st (w.drewN n) := sm_of (h.2.drewN n)
theorem sm_below (h : SM w0 K F x st w) (hb : Below w.heap.size w w') : SM w0 K F x st w' := sm_of (h.2.below hb)
theorem sm_same (h : SM w0 K F x st w) (e : w' = w) : SM w0 K F x st w' := e ▸ h
theorem sm_env (h : SM w0 K F x st w) (he : Env w0 F) : TabA w := (he.out h.2.out).taba
theorem sm_env' (h : SM w0 K F x st w) (he : Env w0 F) : TabA w.drew := sm_env (sm_drew h) he
theorem sm_cpu (h : SM w0 K F x st w) : CpuAt w K (NB F w0.heap.size) st := h.2.cpu
theorem sm_cpu' (h : SM w0 K F x st w) : CpuAt w.drew K (NB F w0.heap.size) st := (sm_drew h).2.cpu
end
section
variable (K : CK) (F : Nat → Prop) (st : St) (x : X) (w : World)
set_option maxHeartbeats 1000000 in
theorem do_one (h16 : 16 ≤ x.op) (hop : x.op < 25) (hx : XW x) (hA : CpuAt w K F st) (hV : Env w F) :
    Calls Tryz.prog 77 #[.pointer (some ⟨K.c, 0, none⟩), .agg #[.int .i64 x.op, .int .i64 x.rd, .int .i64 x.r1, .int .i64 x.r2, .int .i64 x.imm]] w (ShowP w K F (execC K.T x st)) := by
  have HW := Lib.hid hA.wf
  have hS : SM w K F x st _ := sm_of (Mid.start (x := x) hA)
  obtain ⟨_, ⟨h0, h1⟩, ⟨h2, h3⟩, _⟩ := hx
  have HV := Lib.hid (oneV_u x.op _ x.imm (reg_isU hA.wf x.r1))
  have HEn := Lib.hid hV
  have HRd := Lib.hid (fun w' (h : SM w K F x st w') => cread K (NB F w.heap.size) st x.r1 h2 h3 w' h.2.cpu)
  have HOn := Lib.hid (fun w' (h : SM w K F x st w') => one_any x.op (reg st.s x.r1) x.imm (reg_isU HW.out x.r1) w' (sm_env h HEn.out))
  have HE := Lib.hid (show execC K.T x st = writeC st x.rd (oneV x.op (reg st.s x.r1) x.imm) by unfold execC; rw [if_neg (by omega), if_pos hop])
  clear hA hop h16 hV
  go_enter Tryz.func77, Tryz.ntmps77
  go_wp2
  go_region_held3 (fun w' => SM w K F x st w') (first | (with_reducible assumption) | ((with_reducible apply sm_drew); (with_reducible assumption)) | ((with_reducible apply sm_drewN); (with_reducible assumption)) | ((with_reducible apply sm_below); (with_reducible assumption); (with_reducible assumption)) | ((with_reducible apply sm_same); (with_reducible assumption); (with_reducible assumption)))
    (first
    | (go_at_call 126; (with_reducible refine (HRd.out _ ?hm).mono ?_); (case hm => (first | (with_reducible assumption) | ((with_reducible apply sm_drew); (with_reducible assumption)))); rintro e w' ⟨rfl, hsame⟩)
    | (go_at_call 133; (with_reducible refine (HOn.out _ ?hm).mono ?_); (case hm => (first | (with_reducible assumption) | ((with_reducible apply sm_drew); (with_reducible assumption)))); rintro e w' ⟨rfl, hb⟩))
  rename_i hh
  have HM3 := Lib.hid hh.2
  obtain ⟨⟨x0, x1, x2, x3, x4⟩, _⟩ := hh
  clear hS
  go_wp2_with fail
  refine (cwrite K _ _ x.rd _ h0 h1 HV.out _ HM3.out.cpu).mono ?_
  rintro e w4 ⟨rfl, hA4, hO4⟩
  have HZ := Lib.hid ((HM3.out.step hA4 hO4).fin rfl)
  clear hA4 hO4
  go_wp2
  go_end0
  rw [HE.out]
  exact HZ.out
set_option maxHeartbeats 2000000 in
theorem do_branch (h16 : 32 ≤ x.op) (hop : x.op < 38) (hx : XW x) (hA : CpuAt w K F st) :
    Calls Tryz.prog 78 #[.pointer (some ⟨K.c, 0, none⟩), .agg #[.int .i64 x.op, .int .i64 x.rd, .int .i64 x.r1, .int .i64 x.r2, .int .i64 x.imm]] w (ShowP w K F (execC K.T x st)) := by
  have HW := Lib.hid hA.wf
  have hS : SM w K F x st _ := sm_of (Mid.start (x := x) hA)
  obtain ⟨_, ⟨h0, h1⟩, ⟨h2, h3⟩, ⟨h4, h5⟩, _⟩ := hx
  have HRd := Lib.hid (fun w' r (k0 : 0 ≤ r) (k1 : r < 32) (h : SM w K F x st w') => cread K (NB F w.heap.size) st r k0 k1 w' h.2.cpu)
  cases ht : takV x.op (reg st.s x.r1) (reg st.s x.r2) with
  | true =>
    have HTk := Lib.hid (fun w' (h : SM w K F x st w') => ht ▸ tak_any x.op (reg st.s x.r1) (reg st.s x.r2) w')
    have HE := Lib.hid (show execC K.T x st = withS st (goTo st.s (farP st.s x.imm)) by unfold execC; rw [if_neg (by omega), if_neg (by omega), if_neg (by omega), if_neg (by omega), if_pos hop, ht]; rfl)
    clear hA hop h16 ht
    go_enter Tryz.func78, Tryz.ntmps78
    go_wp2
    go_region_held3 (fun w' => SM w K F x st w') (first | (with_reducible assumption) | ((with_reducible apply sm_drew); (with_reducible assumption)) | ((with_reducible apply sm_drewN); (with_reducible assumption)) | ((with_reducible apply sm_below); (with_reducible assumption); (with_reducible assumption)) | ((with_reducible apply sm_same); (with_reducible assumption); (with_reducible assumption)))
      (first
      | (go_at_call 126; (with_reducible refine (HRd.out _ _ (by assumption) (by assumption) ?hm).mono ?_); (case hm => (first | (with_reducible assumption) | ((with_reducible apply sm_drew); (with_reducible assumption)))); rintro e w' ⟨rfl, hsame⟩)
      | (go_at_call 134; (with_reducible refine (HTk.out _ ?hm).mono ?_); (case hm => (first | (with_reducible assumption) | ((with_reducible apply sm_drew); (with_reducible assumption)))); rintro e w' ⟨rfl, hb⟩))
    rename_i hh
    obtain ⟨ve, vl, hC, hF⟩ := hh.2.cpu
    have HC := Lib.hid hC
    have HF := Lib.hid hF
    have HH := Lib.hid hh.2
    obtain ⟨⟨x0, x1, x2, x3, x4⟩, _⟩ := hh
    clear hC hF hS
    go_wp2_with fail
    refine (cfar K _ st x.imm _ HH.out.cpu).mono ?_
    rintro e w2 ⟨rfl, rfl⟩
    have h34 := HC.out.blk.pc
    have hfr := HC.out.blk.free 34
    have HX := Lib.hid (CpuAt.state HC.out HF.out ⟨HC.out.blk.setPc (farP st.s x.imm), grown_setCell _ K.c 34 _⟩ (HW.out.goTo (isU_modU' _)))
    go_wp2
    go_end0
    rw [HE.out]
    exact (HH.out.step HX.out.1 HX.out.2).fin rfl
  | false =>
    have HTk := Lib.hid (fun w' (h : SM w K F x st w') => ht ▸ tak_any x.op (reg st.s x.r1) (reg st.s x.r2) w')
    have HE := Lib.hid (show execC K.T x st = withS st (goTo st.s (nextP st.s)) by unfold execC; rw [if_neg (by omega), if_neg (by omega), if_neg (by omega), if_neg (by omega), if_pos hop, ht]; rfl)
    clear hA hop h16 ht
    go_enter Tryz.func78, Tryz.ntmps78
    go_wp2
    go_region_held3 (fun w' => SM w K F x st w') (first | (with_reducible assumption) | ((with_reducible apply sm_drew); (with_reducible assumption)) | ((with_reducible apply sm_drewN); (with_reducible assumption)) | ((with_reducible apply sm_below); (with_reducible assumption); (with_reducible assumption)) | ((with_reducible apply sm_same); (with_reducible assumption); (with_reducible assumption)))
      (first
      | (go_at_call 126; (with_reducible refine (HRd.out _ _ (by assumption) (by assumption) ?hm).mono ?_); (case hm => (first | (with_reducible assumption) | ((with_reducible apply sm_drew); (with_reducible assumption)))); rintro e w' ⟨rfl, hsame⟩)
      | (go_at_call 134; (with_reducible refine (HTk.out _ ?hm).mono ?_); (case hm => (first | (with_reducible assumption) | ((with_reducible apply sm_drew); (with_reducible assumption)))); rintro e w' ⟨rfl, hb⟩))
    rename_i hh
    obtain ⟨ve, vl, hC, hF⟩ := hh.2.cpu
    have HC := Lib.hid hC
    have HF := Lib.hid hF
    have HH := Lib.hid hh.2
    obtain ⟨⟨x0, x1, x2, x3, x4⟩, _⟩ := hh
    clear hC hF hS
    go_wp2_with fail
    refine (cnext K _ st _ HH.out.cpu).mono ?_
    rintro e w2 ⟨rfl, rfl⟩
    have h34 := HC.out.blk.pc
    have hfr := HC.out.blk.free 34
    have HX := Lib.hid (CpuAt.state HC.out HF.out ⟨HC.out.blk.setPc (nextP st.s), grown_setCell _ K.c 34 _⟩ (HW.out.goTo (isU_modU' _)))
    go_wp2
    go_end0
    rw [HE.out]
    exact (HH.out.step HX.out.1 HX.out.2).fin rfl
end
end Go.Proofs.YtoeagbcjnffpaaaGreatDoor
