/- Layer 5's reference: what Step of its processor does, class by class of operations. -/
import Derived.Test.YtoeagbcjnffpaaaGreatDoorRCpuE
import Derived.Test.YtoeagbcjnffpaaaGreatDoorAluRTwo
namespace Go.Proofs.YtoeagbcjnffpaaaGreatDoor
set_option maxRecDepth 100000
open Go.RowKit Go.Maps
set_option linter.unusedVariables false
/-- register and place are set: the step's end -/
theorem rfin_yes {w : World} {K : RK} {F : Nat → Prop} {st : St} {kd : Nat} {v p : Int} (hA : RCpuAt w K F st) (h0 : kd ≠ 0) (hk : kd < 32) (hv : IsU v) (hp : IsU p) :
    RCpuAt ((w.setCell ⟨K.c, 2 + kd, none⟩ (.int .u64 v)).setCell ⟨K.c, 34, none⟩ (.int .u64 p)) K F (withS st (goTo (setR st.s kd v) p)) ∧ Out F w ((w.setCell ⟨K.c, 2 + kd, none⟩ (.int .u64 v)).setCell ⟨K.c, 34, none⟩ (.int .u64 p)) := by
  obtain ⟨ve, vl, hC, hF⟩ := hA
  exact RCpuAt.state hC hF ⟨(hC.blk.setReg h0 hk v).setPc p, grown_trans (grown_setCell w K.c _ _) (grown_setCell _ K.c _ _)⟩ ((hC.wf.setR (by omega) (by omega) hv).goTo hp)
theorem rfin_no {w : World} {K : RK} {F : Nat → Prop} {st : St} {v p : Int} (hA : RCpuAt w K F st) (hp : IsU p) :
    RCpuAt (w.setCell ⟨K.c, 34, none⟩ (.int .u64 p)) K F (withS st (goTo (setR st.s 0 v) p)) ∧ Out F w (w.setCell ⟨K.c, 34, none⟩ (.int .u64 p)) := by
  obtain ⟨ve, vl, hC, hF⟩ := hA
  rw [setR_zero]
  exact RCpuAt.state hC hF ⟨hC.blk.setPc p, grown_setCell w K.c _ _⟩ (hC.wf.goTo hp)
theorem rfin_dn {w : World} {K : RK} {F : Nat → Prop} {st : St} (hA : RCpuAt w K F st) :
    RCpuAt (w.setCell ⟨K.c, 36, none⟩ (.int .i64 1)) K F (withS st (doneS st.s 1)) ∧ Out F w (w.setCell ⟨K.c, 36, none⟩ (.int .i64 1)) := by
  obtain ⟨ve, vl, hC, hF⟩ := hA
  exact RCpuAt.state hC hF ⟨hC.blk.setDn 1, grown_setCell w K.c _ _⟩ (hC.wf.done (.inr (.inl rfl)))
theorem RBrokeP.box {w0 w w' : World} {K : RK} {F : Nat → Prop} {op rd r1 r2 imm : Int} {st st' : St} (h : RMid w0 w K F op rd r1 r2 imm st) (k : RCpuAt w' K (NB F w0.heap.size) st' ∧ Out (NB F w0.heap.size) w w') : RCpuAt w' K F st' ∧ Out F w0 w' := ⟨k.1.widen, h.out.trans k.2.widen⟩
/-- the cells that a step reads -/
structure RRd (w : World) (g : Nat) (K : RK) (op kd k1 k2 : Nat) (imm : Int) (s : CS) : Prop where
  x : InsC w g op kd k1 k2 imm
  pc : w.cell? ⟨K.c, 34, none⟩ = some (.int .u64 s.pc)
  a : w.cell? ⟨K.c, 2 + k1, none⟩ = some (.int .u64 (nth s.R k1))
  b : w.cell? ⟨K.c, 2 + k2, none⟩ = some (.int .u64 (nth s.R k2))
  d : w.cell? ⟨K.c, 2 + kd, none⟩ = some (.int .u64 (nth s.R kd))
theorem RMid.rd {w0 w : World} {K : RK} {F : Nat → Prop} {op kd k1 k2 : Nat} {imm : Int} {st : St} (h : RMid w0 w K F op kd k1 k2 imm st) (hd : kd < 32) (h1 : k1 < 32) (h2 : k2 < 32) : RRd w w0.heap.size K op kd k1 k2 imm st.s := by
  obtain ⟨ve, vl, hC, hF⟩ := h.cpu
  exact ⟨h.ins, hC.blk.pc, hC.blk.reg h1, hC.blk.reg h2, hC.blk.reg hd⟩
theorem nth_U {s : CS} (h : CsW s) (k : Nat) : IsU (nth s.R k) := by have h := reg_isU h k; unfold reg at h; simpa using h
theorem reg_nat (s : CS) (k : Nat) : reg s (k : Int) = nth s.R k := by unfold reg; simp
section
variable (K : RK) (F : Nat → Prop) (st st1 : St) (v : Int) (w : World)
theorem rtouch_ld (op kd k1 k2 : Nat) (imm : Int) (h : 25 ≤ op) (h' : op < 29) (hk : k1 < 32) (hA : RCpuAt w K F st) (hl : st.lk.length < 100000000) :
    Calls Tryz.prog 86 #[.pointer (some ⟨K.c, 0, none⟩), .agg #[.int .i64 op, .int .i64 kd, .int .i64 k1, .int .i64 k2, .int .i64 imm]] w (RTouchP w K F op (loadM K.T st.B (sumP st.s ⟨op, kd, k1, k2, imm⟩) (lenOf op) st.s.own 1) (showC st 1 (sumP st.s ⟨op, kd, k1, k2, imm⟩) 0)) := by
  have e : ∀ n : Nat, modU (nth st.s.R k1 + imm) = sumP st.s ⟨n, kd, k1, k2, imm⟩ := fun n => by unfold sumP; simp only [reg_nat]
  obtain rfl | rfl | rfl | rfl : op = 25 ∨ op = 26 ∨ op = 27 ∨ op = 28 := by omega
  · exact rtl25 K F st w kd k2 imm k1 hk _ (e 25) _ rfl hA hl
  · exact rtl26 K F st w kd k2 imm k1 hk _ (e 26) _ rfl hA hl
  · exact rtl27 K F st w kd k2 imm k1 hk _ (e 27) _ rfl hA hl
  · exact rtl28 K F st w kd k2 imm k1 hk _ (e 28) _ rfl hA hl
theorem rtouch_st (op kd k1 k2 : Nat) (imm : Int) (h : 29 ≤ op) (h' : op < 32) (hk : k1 < 32) (hk2 : k2 < 32) (hA : RCpuAt w K F st) (hl : st.lk.length < 100000000) :
    Calls Tryz.prog 86 #[.pointer (some ⟨K.c, 0, none⟩), .agg #[.int .i64 op, .int .i64 kd, .int .i64 k1, .int .i64 k2, .int .i64 imm]] w (RStoreT w K F (storeM K.T st.B (sumP st.s ⟨op, kd, k1, k2, imm⟩) (lenOf op) st.s.own (nth st.s.R k2)) (showC st 1 (sumP st.s ⟨op, kd, k1, k2, imm⟩) 0)) := by
  have e : ∀ n : Nat, modU (nth st.s.R k1 + imm) = sumP st.s ⟨n, kd, k1, k2, imm⟩ := fun n => by unfold sumP; simp only [reg_nat]
  obtain rfl | rfl | rfl : op = 29 ∨ op = 30 ∨ op = 31 := by omega
  · exact rts29 K F st w kd imm k1 k2 hk hk2 _ (e 29) _ rfl hA hl
  · exact rts30 K F st w kd imm k1 k2 hk hk2 _ (e 30) _ rfl hA hl
  · exact rts31 K F st w kd imm k1 k2 hk hk2 _ (e 31) _ rfl hA hl
set_option maxHeartbeats 4000000 in
theorem rstep_two (op : Nat) (kd : Nat) (k1 k2 : Nat) (imm : Int) (hd : st.s.dn = 0) (hA : RCpuAt w K F st)
    (hfe : Calls Tryz.prog 81 #[.pointer (some ⟨K.c, 0, none⟩)] w (RFetP w K F v true st1))
    (hde : ∀ w, Calls Tryz.prog 55 #[.int .u32 v] w fun e w' => e = .returned (.tuple #[.agg #[.int .i64 op, .int .i64 kd, .int .i64 k1, .int .i64 k2, .int .i64 imm], .int .i64 0]) ∧ Below w.heap.size w w')
    (h1 : k1 < 32) (h2 : k2 < 32) (hkd : kd < 32) (hi : IsI imm) (hl : st1.lk.length < 90000000) (hlo : 0 ≤ op) (hhi : op < 12) :
    Calls Tryz.prog 40 #[.pointer (some ⟨K.c, 0, none⟩)] w (RBrokeP w K F (execC K.T ⟨op, kd, k1, k2, imm⟩ (showC st1 0 st1.s.pc 0))) := by
  have HEx := (show execC K.T ⟨op, kd, k1, k2, imm⟩ (showC st1 0 st1.s.pc 0) = withS (showC st1 0 st1.s.pc 0) (goTo (setR st1.s kd (twoV op (nth st1.s.R k1) (nth st1.s.R k2))) (nextP st1.s)) from by
    have e : (showC st1 0 st1.s.pc 0).s = st1.s := by unfold showC; split <;> rfl
    have e2 : (showC st1 0 st1.s.pc 0).B = st1.B := by unfold showC; split <;> rfl
    unfold execC
    rw [if_pos (show op < 16 by omega)]
    rw [show varB (op : Int) = false by unfold varB; simp; omega]
    skip
    unfold writeC
    simp only [Bool.false_eq_true, if_false, e, reg_nat])
  have o1 : (0 : Int) ≤ op := by omega
  have o2 : (op : Int) ≤ 15 := by omega
  have o3 : (op : Int) ≤ 24 := by omega
  have o4 : (op : Int) ≤ 31 := by omega
  have o5 : (op : Int) ≤ 37 := by omega
  have o6 : ¬ (op : Int) ≥ 12 := by omega
  have o7 : ((op : Int) == 38) = false := by rw [beq_eq_false_iff_ne]; omega
  have o8 : ((op : Int) == 39) = false := by rw [beq_eq_false_iff_ne]; omega
  have o9 : ((op : Int) == 40) = false := by rw [beq_eq_false_iff_ne]; omega
  have o10 : ((op : Int) == 41) = false := by rw [beq_eq_false_iff_ne]; omega
  have o11 : ((op : Int) == 42) = false := by rw [beq_eq_false_iff_ne]; omega
  have hdn : w.cell? ⟨K.c, 36, none⟩ = some (.int .i64 0) := by obtain ⟨_, _, hC, _⟩ := hA; rw [← hd]; exact hC.blk.dn
  obtain ⟨st2, hst⟩ : ∃ st2, st2 = showC st1 0 st1.s.pc 0 := ⟨_, rfl⟩
  have HS := Lib.hid hst
  have HSs := Lib.hid (show st2.s = st1.s ∧ st2.B = st1.B ∧ st2.lk.length ≤ st1.lk.length + 1 by rw [hst]; unfold showC; split <;> simp)
  rw [← hst] at HEx ⊢
  replace HEx := Lib.hid HEx
  have HFe := Lib.hid hfe
  have HDe := Lib.hid hde
  have HL := Lib.hid hl
  have HK := Lib.hid (And.intro (show kd < 32 from hkd) (And.intro h1 h2))
  have HI := Lib.hid hi
  clear hst hd hA hfe hde hl hi
  go_enter Tryz.func40, Tryz.ntmps40
  go_wp2_with fail
  refine HFe.out.mono ?_
  rintro e w1 ⟨rfl, hA1, hO1⟩
  have HA1 := Lib.hid hA1
  have HO1 := Lib.hid hO1
  clear hA1 hO1 hdn
  go_wp2_with fail
  refine (HDe.out w1).mono ?_
  rintro e w2 ⟨rfl, hb2⟩
  have HA2 := Lib.hid (HA1.out.below hb2)
  have HO2 := Lib.hid (HO1.out.trans (Out.of_below (F := F) hb2))
  have HM := Lib.hid (RMid.start (op := op) (rd := kd) (r1 := k1) (r2 := k2) (imm := imm) HA2.out)
  have HW := Lib.hid HA2.out.wf
  have hrd := HM.out.rd HK.out.1 HK.out.2.1 HK.out.2.2
  obtain ⟨⟨x0, x1, x2, x3, x4⟩, c34, ca, cb, cd⟩ := hrd
  clear hb2 HA1 HO1
  go_wp2_with fail
  clear x0 x1 x2 x3 x4 c34 ca cb cd
  refine (rshow_any K _ st1 0 st1.s.pc 0 _ HM.out.cpu (by have := HL.out; omega)).mono ?_
  rw [← HS.out]
  rintro e w3 ⟨rfl, hA3, hO3⟩
  have HM3 := Lib.hid (HM.out.step hA3 hO3)
  have hrd := HM3.out.rd HK.out.1 HK.out.2.1 HK.out.2.2
  obtain ⟨⟨x0, x1, x2, x3, x4⟩, c34, ca, cb, cd⟩ := hrd
  rw [HSs.out.1] at c34 ca cb cd
  clear hA3 hO3 HM HA2
  have q1 : (0 : Int) ≤ k1 := by omega
  have q2 : (k1 : Int) < 32 := by omega
  have q3 : (0 : Int) ≤ k2 := by omega
  have q4 : (k2 : Int) < 32 := by omega
  have q5 : (0 : Int) ≤ kd := by omega
  have q6 : (kd : Int) < 32 := by omega
  go_wp2
  go_quiet (fail)
  go_wp2
  go_quiet (fail)
  go_wp2
  go_quiet (fail)
  go_wp2_with fail
  clear x0 x1 x2 x3 x4 c34 ca cb cd
  refine (rtwo_any op _ _ (nth_U HW.out k1) (nth_U HW.out k2) _).mono ?_
  rintro e w4 ⟨rfl, hw4⟩
  have HM4 := Lib.hid (show RMid w2 w4 K F op kd k1 k2 imm st2 from hw4 ▸ HM3.out.drewN _)
  have HNx := Lib.hid (show IntKind.u64.wrap (st1.s.pc + 4) = nextP st1.s from IntKind.wrap_u64 _)
  rw [HNx.out]
  have HV := Lib.hid (twoV_u op _ _ (nth_U HW.out k1) (nth_U HW.out k2))
  have HP := Lib.hid (show IsU (nextP st1.s) from isU_modU' _)
  clear hw4 HM3
  by_cases hz : kd = 0
  · subst hz
    have HZ := Lib.hid (RBrokeP.box HM4.out (rfin_no (v := twoV op (nth st1.s.R k1) (nth st1.s.R k2)) HM4.out.cpu HP.out))
    obtain ⟨⟨x0, x1, x2, x3, x4⟩, c34, ca, cb, cd⟩ := HM4.out.rd HK.out.1 HK.out.2.1 HK.out.2.2
    have f34 : w4.frozen? ⟨K.c, 34, none⟩ = false := by obtain ⟨_, _, hC, _⟩ := HM4.out.cpu; exact hC.blk.free 34
    go_wp2
    go_ret
    exact ⟨rfl, by rw [HEx.out]; have h := HZ.out.1; rw [HSs.out.1] at h; exact h, HO2.out.trans HZ.out.2⟩
  · have hz1 : ((kd : Int) != 0) = true := by rw [bne_iff_ne]; omega
    have HZ := Lib.hid (RBrokeP.box (HM4.out.drewN 1) (rfin_yes (HM4.out.drewN 1).cpu hz HK.out.1 HV.out HP.out))
    obtain ⟨⟨x0, x1, x2, x3, x4⟩, c34, ca, cb, cd⟩ := HM4.out.rd HK.out.1 HK.out.2.1 HK.out.2.2
    have f34 : w4.frozen? ⟨K.c, 34, none⟩ = false := by obtain ⟨_, _, hC, _⟩ := HM4.out.cpu; exact hC.blk.free 34
    have fkd : w4.frozen? ⟨K.c, 2 + kd, none⟩ = false := by obtain ⟨_, _, hC, _⟩ := HM4.out.cpu; exact hC.blk.free (2 + kd)
    go_wp2
    go_region
    go_wp2
    go_ret
    exact ⟨rfl, by rw [HEx.out]; have h := HZ.out.1; rw [HSs.out.1] at h; exact h, HO2.out.trans HZ.out.2⟩
set_option maxHeartbeats 4000000 in
theorem rstep_div (op : Nat) (kd : Nat) (k1 k2 : Nat) (imm : Int) (hd : st.s.dn = 0) (hA : RCpuAt w K F st)
    (hfe : Calls Tryz.prog 81 #[.pointer (some ⟨K.c, 0, none⟩)] w (RFetP w K F v true st1))
    (hde : ∀ w, Calls Tryz.prog 55 #[.int .u32 v] w fun e w' => e = .returned (.tuple #[.agg #[.int .i64 op, .int .i64 kd, .int .i64 k1, .int .i64 k2, .int .i64 imm], .int .i64 0]) ∧ Below w.heap.size w w')
    (h1 : k1 < 32) (h2 : k2 < 32) (hkd : kd < 32) (hi : IsI imm) (hl : st1.lk.length < 90000000) (hlo : 12 ≤ op) (hhi : op < 16) :
    Calls Tryz.prog 40 #[.pointer (some ⟨K.c, 0, none⟩)] w (RBrokeP w K F (execC K.T ⟨op, kd, k1, k2, imm⟩ (showC st1 0 st1.s.pc 0))) := by
  have HEx := (show execC K.T ⟨op, kd, k1, k2, imm⟩ (showC st1 0 st1.s.pc 0) = withS (showC (showC st1 0 st1.s.pc 0) 2 (nth st1.s.R k1) (nth st1.s.R k2)) (goTo (setR st1.s kd (twoV op (nth st1.s.R k1) (nth st1.s.R k2))) (nextP st1.s)) from by
    have e : (showC st1 0 st1.s.pc 0).s = st1.s := by unfold showC; split <;> rfl
    have e2 : (showC st1 0 st1.s.pc 0).B = st1.B := by unfold showC; split <;> rfl
    unfold execC
    rw [if_pos (show op < 16 by omega)]
    rw [show varB (op : Int) = true by unfold varB; simp; omega]
    have e3 : (showC (showC st1 0 st1.s.pc 0) 2 (nth st1.s.R k1) (nth st1.s.R k2)).s = st1.s := by rw [← e]; unfold showC; split <;> rfl
    unfold writeC
    simp only [if_true, e, e3, reg_nat])
  have o1 : (0 : Int) ≤ op := by omega
  have o2 : (op : Int) ≤ 15 := by omega
  have o3 : (op : Int) ≤ 24 := by omega
  have o4 : (op : Int) ≤ 31 := by omega
  have o5 : (op : Int) ≤ 37 := by omega
  have o6 : (op : Int) ≥ 12 := by omega
  have o7 : ((op : Int) == 38) = false := by rw [beq_eq_false_iff_ne]; omega
  have o8 : ((op : Int) == 39) = false := by rw [beq_eq_false_iff_ne]; omega
  have o9 : ((op : Int) == 40) = false := by rw [beq_eq_false_iff_ne]; omega
  have o10 : ((op : Int) == 41) = false := by rw [beq_eq_false_iff_ne]; omega
  have o11 : ((op : Int) == 42) = false := by rw [beq_eq_false_iff_ne]; omega
  have hdn : w.cell? ⟨K.c, 36, none⟩ = some (.int .i64 0) := by obtain ⟨_, _, hC, _⟩ := hA; rw [← hd]; exact hC.blk.dn
  obtain ⟨st2, hst⟩ : ∃ st2, st2 = showC st1 0 st1.s.pc 0 := ⟨_, rfl⟩
  have HS := Lib.hid hst
  have HSs := Lib.hid (show st2.s = st1.s ∧ st2.B = st1.B ∧ st2.lk.length ≤ st1.lk.length + 1 by rw [hst]; unfold showC; split <;> simp)
  rw [← hst] at HEx ⊢
  replace HEx := Lib.hid HEx
  have HFe := Lib.hid hfe
  have HDe := Lib.hid hde
  have HL := Lib.hid hl
  have HK := Lib.hid (And.intro (show kd < 32 from hkd) (And.intro h1 h2))
  have HI := Lib.hid hi
  clear hst hd hA hfe hde hl hi
  go_enter Tryz.func40, Tryz.ntmps40
  go_wp2_with fail
  refine HFe.out.mono ?_
  rintro e w1 ⟨rfl, hA1, hO1⟩
  have HA1 := Lib.hid hA1
  have HO1 := Lib.hid hO1
  clear hA1 hO1 hdn
  go_wp2_with fail
  refine (HDe.out w1).mono ?_
  rintro e w2 ⟨rfl, hb2⟩
  have HA2 := Lib.hid (HA1.out.below hb2)
  have HO2 := Lib.hid (HO1.out.trans (Out.of_below (F := F) hb2))
  have HM := Lib.hid (RMid.start (op := op) (rd := kd) (r1 := k1) (r2 := k2) (imm := imm) HA2.out)
  have HW := Lib.hid HA2.out.wf
  have hrd := HM.out.rd HK.out.1 HK.out.2.1 HK.out.2.2
  obtain ⟨⟨x0, x1, x2, x3, x4⟩, c34, ca, cb, cd⟩ := hrd
  clear hb2 HA1 HO1
  go_wp2_with fail
  clear x0 x1 x2 x3 x4 c34 ca cb cd
  refine (rshow_any K _ st1 0 st1.s.pc 0 _ HM.out.cpu (by have := HL.out; omega)).mono ?_
  rw [← HS.out]
  rintro e w3 ⟨rfl, hA3, hO3⟩
  have HM3 := Lib.hid (HM.out.step hA3 hO3)
  have hrd := HM3.out.rd HK.out.1 HK.out.2.1 HK.out.2.2
  obtain ⟨⟨x0, x1, x2, x3, x4⟩, c34, ca, cb, cd⟩ := hrd
  rw [HSs.out.1] at c34 ca cb cd
  clear hA3 hO3 HM HA2
  have q1 : (0 : Int) ≤ k1 := by omega
  have q2 : (k1 : Int) < 32 := by omega
  have q3 : (0 : Int) ≤ k2 := by omega
  have q4 : (k2 : Int) < 32 := by omega
  have q5 : (0 : Int) ≤ kd := by omega
  have q6 : (kd : Int) < 32 := by omega
  go_wp2
  go_quiet (fail)
  go_wp2
  go_quiet (fail)
  go_wp2
  go_quiet (fail)
  go_wp2_with fail
  clear x0 x1 x2 x3 x4 c34 ca cb cd
  refine (rshow_any K _ st2 2 (nth st1.s.R k1) (nth st1.s.R k2) _ (HM3.out.drewN _).cpu (by have := HL.out; have := HSs.out.2.2; omega)).mono ?_
  rintro e w4 ⟨rfl, hA4, hO4⟩
  have HM4 := Lib.hid ((HM3.out.drewN _).step hA4 hO4)
  have HS3 := Lib.hid (show (showC st2 2 (nth st1.s.R k1) (nth st1.s.R k2)).s = st1.s by rw [← HSs.out.1]; unfold showC; split <;> rfl)
  generalize showC st2 2 (nth st1.s.R k1) (nth st1.s.R k2) = st3 at *
  obtain ⟨⟨x0, x1, x2, x3, x4⟩, c34, ca, cb, cd⟩ := HM4.out.rd HK.out.1 HK.out.2.1 HK.out.2.2
  clear hA4 hO4 HM3
  go_wp2_with fail
  clear x0 x1 x2 x3 x4 c34 ca cb cd
  refine (rtwo_any op _ _ (nth_U HW.out k1) (nth_U HW.out k2) _).mono ?_
  rintro e w5 ⟨rfl, rfl⟩
  have HNx := Lib.hid (show IntKind.u64.wrap (st1.s.pc + 4) = nextP st1.s from IntKind.wrap_u64 _)
  rw [HNx.out]
  have HV := Lib.hid (twoV_u op _ _ (nth_U HW.out k1) (nth_U HW.out k2))
  have HP := Lib.hid (show IsU (nextP st1.s) from isU_modU' _)
  by_cases hz : kd = 0
  · subst hz
    have HZ := Lib.hid (RBrokeP.box HM4.out (rfin_no (v := twoV op (nth st1.s.R k1) (nth st1.s.R k2)) HM4.out.cpu HP.out))
    obtain ⟨⟨x0, x1, x2, x3, x4⟩, c34, ca, cb, cd⟩ := HM4.out.rd HK.out.1 HK.out.2.1 HK.out.2.2
    have f34 : w4.frozen? ⟨K.c, 34, none⟩ = false := by obtain ⟨_, _, hC, _⟩ := HM4.out.cpu; exact hC.blk.free 34
    go_wp2
    go_ret
    exact ⟨rfl, by rw [HEx.out]; have h := HZ.out.1; rw [HS3.out] at h; exact h, HO2.out.trans HZ.out.2⟩
  · have hz1 : ((kd : Int) != 0) = true := by rw [bne_iff_ne]; omega
    have HZ := Lib.hid (RBrokeP.box (HM4.out.drewN 1) (rfin_yes (HM4.out.drewN 1).cpu hz HK.out.1 HV.out HP.out))
    obtain ⟨⟨x0, x1, x2, x3, x4⟩, c34, ca, cb, cd⟩ := HM4.out.rd HK.out.1 HK.out.2.1 HK.out.2.2
    have f34 : w4.frozen? ⟨K.c, 34, none⟩ = false := by obtain ⟨_, _, hC, _⟩ := HM4.out.cpu; exact hC.blk.free 34
    have fkd : w4.frozen? ⟨K.c, 2 + kd, none⟩ = false := by obtain ⟨_, _, hC, _⟩ := HM4.out.cpu; exact hC.blk.free (2 + kd)
    go_wp2
    go_region
    go_wp2
    go_ret
    exact ⟨rfl, by rw [HEx.out]; have h := HZ.out.1; rw [HS3.out] at h; exact h, HO2.out.trans HZ.out.2⟩
set_option maxHeartbeats 4000000 in
theorem rstep_one (op : Nat) (kd : Nat) (k1 k2 : Nat) (imm : Int) (hd : st.s.dn = 0) (hA : RCpuAt w K F st)
    (hfe : Calls Tryz.prog 81 #[.pointer (some ⟨K.c, 0, none⟩)] w (RFetP w K F v true st1))
    (hde : ∀ w, Calls Tryz.prog 55 #[.int .u32 v] w fun e w' => e = .returned (.tuple #[.agg #[.int .i64 op, .int .i64 kd, .int .i64 k1, .int .i64 k2, .int .i64 imm], .int .i64 0]) ∧ Below w.heap.size w w')
    (h1 : k1 < 32) (h2 : k2 < 32) (hkd : kd < 32) (hi : IsI imm) (hl : st1.lk.length < 90000000) (hlo : 16 ≤ op) (hhi : op < 25) :
    Calls Tryz.prog 40 #[.pointer (some ⟨K.c, 0, none⟩)] w (RBrokeP w K F (execC K.T ⟨op, kd, k1, k2, imm⟩ (showC st1 0 st1.s.pc 0))) := by
  have HEx := (show execC K.T ⟨op, kd, k1, k2, imm⟩ (showC st1 0 st1.s.pc 0) = withS (showC st1 0 st1.s.pc 0) (goTo (setR st1.s kd (oneV op (nth st1.s.R k1) imm)) (nextP st1.s)) from by
    have e : (showC st1 0 st1.s.pc 0).s = st1.s := by unfold showC; split <;> rfl
    have e2 : (showC st1 0 st1.s.pc 0).B = st1.B := by unfold showC; split <;> rfl
    unfold execC
    rw [if_neg (show ¬ op < 16 by omega), if_pos (show op < 25 by omega)]
    unfold writeC
    simp only [e, reg_nat])
  have o1 : (0 : Int) ≤ op := by omega
  have o2 : ¬ (op : Int) ≤ 15 := by omega
  have o3 : (op : Int) ≤ 24 := by omega
  have o4 : (op : Int) ≤ 31 := by omega
  have o5 : (op : Int) ≤ 37 := by omega
  have o6 : ((op : Int) == 38) = false := by rw [beq_eq_false_iff_ne]; omega
  have o7 : ((op : Int) == 39) = false := by rw [beq_eq_false_iff_ne]; omega
  have o8 : ((op : Int) == 40) = false := by rw [beq_eq_false_iff_ne]; omega
  have o9 : ((op : Int) == 41) = false := by rw [beq_eq_false_iff_ne]; omega
  have o10 : ((op : Int) == 42) = false := by rw [beq_eq_false_iff_ne]; omega
  have hdn : w.cell? ⟨K.c, 36, none⟩ = some (.int .i64 0) := by obtain ⟨_, _, hC, _⟩ := hA; rw [← hd]; exact hC.blk.dn
  obtain ⟨st2, hst⟩ : ∃ st2, st2 = showC st1 0 st1.s.pc 0 := ⟨_, rfl⟩
  have HS := Lib.hid hst
  have HSs := Lib.hid (show st2.s = st1.s ∧ st2.B = st1.B ∧ st2.lk.length ≤ st1.lk.length + 1 by rw [hst]; unfold showC; split <;> simp)
  rw [← hst] at HEx ⊢
  replace HEx := Lib.hid HEx
  have HFe := Lib.hid hfe
  have HDe := Lib.hid hde
  have HL := Lib.hid hl
  have HK := Lib.hid (And.intro (show kd < 32 from hkd) (And.intro h1 h2))
  have HI := Lib.hid hi
  clear hst hd hA hfe hde hl hi
  go_enter Tryz.func40, Tryz.ntmps40
  go_wp2_with fail
  refine HFe.out.mono ?_
  rintro e w1 ⟨rfl, hA1, hO1⟩
  have HA1 := Lib.hid hA1
  have HO1 := Lib.hid hO1
  clear hA1 hO1 hdn
  go_wp2_with fail
  refine (HDe.out w1).mono ?_
  rintro e w2 ⟨rfl, hb2⟩
  have HA2 := Lib.hid (HA1.out.below hb2)
  have HO2 := Lib.hid (HO1.out.trans (Out.of_below (F := F) hb2))
  have HM := Lib.hid (RMid.start (op := op) (rd := kd) (r1 := k1) (r2 := k2) (imm := imm) HA2.out)
  have HW := Lib.hid HA2.out.wf
  have hrd := HM.out.rd HK.out.1 HK.out.2.1 HK.out.2.2
  obtain ⟨⟨x0, x1, x2, x3, x4⟩, c34, ca, cb, cd⟩ := hrd
  clear hb2 HA1 HO1
  go_wp2_with fail
  clear x0 x1 x2 x3 x4 c34 ca cb cd
  refine (rshow_any K _ st1 0 st1.s.pc 0 _ HM.out.cpu (by have := HL.out; omega)).mono ?_
  rw [← HS.out]
  rintro e w3 ⟨rfl, hA3, hO3⟩
  have HM3 := Lib.hid (HM.out.step hA3 hO3)
  have hrd := HM3.out.rd HK.out.1 HK.out.2.1 HK.out.2.2
  obtain ⟨⟨x0, x1, x2, x3, x4⟩, c34, ca, cb, cd⟩ := hrd
  rw [HSs.out.1] at c34 ca cb cd
  clear hA3 hO3 HM HA2
  have q1 : (0 : Int) ≤ k1 := by omega
  have q2 : (k1 : Int) < 32 := by omega
  have q3 : (0 : Int) ≤ k2 := by omega
  have q4 : (k2 : Int) < 32 := by omega
  have q5 : (0 : Int) ≤ kd := by omega
  have q6 : (kd : Int) < 32 := by omega
  go_wp2
  go_quiet (fail)
  go_wp2
  go_quiet (fail)
  go_wp2
  go_quiet (fail)
  go_wp2_with fail
  clear x0 x1 x2 x3 x4 c34 ca cb cd
  refine (rone_any op _ imm (nth_U HW.out k1) _).mono ?_
  rintro e w4 ⟨rfl, hb4⟩
  have HM4 := Lib.hid ((HM3.out.drewN _).below hb4)
  have HNx := Lib.hid (show IntKind.u64.wrap (st1.s.pc + 4) = nextP st1.s from IntKind.wrap_u64 _)
  rw [HNx.out]
  have HV := Lib.hid (oneV_u op _ imm (nth_U HW.out k1))
  have HP := Lib.hid (show IsU (nextP st1.s) from isU_modU' _)
  clear hb4 HM3
  by_cases hz : kd = 0
  · subst hz
    have HZ := Lib.hid (RBrokeP.box HM4.out (rfin_no (v := oneV op (nth st1.s.R k1) imm) HM4.out.cpu HP.out))
    obtain ⟨⟨x0, x1, x2, x3, x4⟩, c34, ca, cb, cd⟩ := HM4.out.rd HK.out.1 HK.out.2.1 HK.out.2.2
    have f34 : w4.frozen? ⟨K.c, 34, none⟩ = false := by obtain ⟨_, _, hC, _⟩ := HM4.out.cpu; exact hC.blk.free 34
    go_wp2
    go_ret
    exact ⟨rfl, by rw [HEx.out]; have h := HZ.out.1; rw [HSs.out.1] at h; exact h, HO2.out.trans HZ.out.2⟩
  · have hz1 : ((kd : Int) != 0) = true := by rw [bne_iff_ne]; omega
    have HZ := Lib.hid (RBrokeP.box (HM4.out.drewN 1) (rfin_yes (HM4.out.drewN 1).cpu hz HK.out.1 HV.out HP.out))
    obtain ⟨⟨x0, x1, x2, x3, x4⟩, c34, ca, cb, cd⟩ := HM4.out.rd HK.out.1 HK.out.2.1 HK.out.2.2
    have f34 : w4.frozen? ⟨K.c, 34, none⟩ = false := by obtain ⟨_, _, hC, _⟩ := HM4.out.cpu; exact hC.blk.free 34
    have fkd : w4.frozen? ⟨K.c, 2 + kd, none⟩ = false := by obtain ⟨_, _, hC, _⟩ := HM4.out.cpu; exact hC.blk.free (2 + kd)
    go_wp2
    go_region
    go_wp2
    go_ret
    exact ⟨rfl, by rw [HEx.out]; have h := HZ.out.1; rw [HSs.out.1] at h; exact h, HO2.out.trans HZ.out.2⟩
set_option maxHeartbeats 4000000 in
theorem rstep_take (op : Nat) (k1 k2 : Nat) (imm : Int) (hd : st.s.dn = 0) (hA : RCpuAt w K F st)
    (hfe : Calls Tryz.prog 81 #[.pointer (some ⟨K.c, 0, none⟩)] w (RFetP w K F v true st1))
    (hde : ∀ w, Calls Tryz.prog 55 #[.int .u32 v] w fun e w' => e = .returned (.tuple #[.agg #[.int .i64 op, .int .i64 0, .int .i64 k1, .int .i64 k2, .int .i64 imm], .int .i64 0]) ∧ Below w.heap.size w w')
    (h1 : k1 < 32) (h2 : k2 < 32) (hi : IsI imm) (hl : st1.lk.length < 90000000) (hlo : 32 ≤ op) (hhi : op < 38) :
    Calls Tryz.prog 40 #[.pointer (some ⟨K.c, 0, none⟩)] w (RBrokeP w K F (execC K.T ⟨op, 0, k1, k2, imm⟩ (showC st1 0 st1.s.pc 0))) := by
  have HEx := (show execC K.T ⟨op, 0, k1, k2, imm⟩ (showC st1 0 st1.s.pc 0) = withS (showC st1 0 st1.s.pc 0) (goTo st1.s (if takV op (nth st1.s.R k1) (nth st1.s.R k2) then farP st1.s imm else nextP st1.s)) from by
    have e : (showC st1 0 st1.s.pc 0).s = st1.s := by unfold showC; split <;> rfl
    have e2 : (showC st1 0 st1.s.pc 0).B = st1.B := by unfold showC; split <;> rfl
    unfold execC
    rw [if_neg (show ¬ op < 16 by omega), if_neg (show ¬ op < 25 by omega), if_neg (show ¬ op < 29 by omega), if_neg (show ¬ op < 32 by omega), if_pos (show op < 38 by omega)]
    simp only [e, reg_nat])
  obtain ⟨kd, hkd⟩ : ∃ kd : Nat, kd = 0 := ⟨0, rfl⟩
  have o1 : (0 : Int) ≤ op := by omega
  have o2 : ¬ (op : Int) ≤ 15 := by omega
  have o3 : ¬ (op : Int) ≤ 24 := by omega
  have o4 : ¬ (op : Int) ≤ 31 := by omega
  have o5 : (op : Int) ≤ 37 := by omega
  have o6 : ((op : Int) == 38) = false := by rw [beq_eq_false_iff_ne]; omega
  have o7 : ((op : Int) == 39) = false := by rw [beq_eq_false_iff_ne]; omega
  have o8 : ((op : Int) == 40) = false := by rw [beq_eq_false_iff_ne]; omega
  have o9 : ((op : Int) == 41) = false := by rw [beq_eq_false_iff_ne]; omega
  have o10 : ((op : Int) == 42) = false := by rw [beq_eq_false_iff_ne]; omega
  have hdn : w.cell? ⟨K.c, 36, none⟩ = some (.int .i64 0) := by obtain ⟨_, _, hC, _⟩ := hA; rw [← hd]; exact hC.blk.dn
  obtain ⟨st2, hst⟩ : ∃ st2, st2 = showC st1 0 st1.s.pc 0 := ⟨_, rfl⟩
  have HS := Lib.hid hst
  have HSs := Lib.hid (show st2.s = st1.s ∧ st2.B = st1.B ∧ st2.lk.length ≤ st1.lk.length + 1 by rw [hst]; unfold showC; split <;> simp)
  rw [← hst] at HEx ⊢
  replace HEx := Lib.hid HEx
  have HFe := Lib.hid hfe
  have HDe := Lib.hid hde
  have HL := Lib.hid hl
  have HK := Lib.hid (And.intro (show 0 < 32 from (by omega)) (And.intro h1 h2))
  have HI := Lib.hid hi
  clear hst hd hA hfe hde hl hi
  go_enter Tryz.func40, Tryz.ntmps40
  go_wp2_with fail
  refine HFe.out.mono ?_
  rintro e w1 ⟨rfl, hA1, hO1⟩
  have HA1 := Lib.hid hA1
  have HO1 := Lib.hid hO1
  clear hA1 hO1 hdn
  go_wp2_with fail
  refine (HDe.out w1).mono ?_
  rintro e w2 ⟨rfl, hb2⟩
  have HA2 := Lib.hid (HA1.out.below hb2)
  have HO2 := Lib.hid (HO1.out.trans (Out.of_below (F := F) hb2))
  have HM := Lib.hid (RMid.start (op := op) (rd := 0) (r1 := k1) (r2 := k2) (imm := imm) HA2.out)
  have HW := Lib.hid HA2.out.wf
  have hrd := HM.out.rd HK.out.1 HK.out.2.1 HK.out.2.2
  obtain ⟨⟨x0, x1, x2, x3, x4⟩, c34, ca, cb, cd⟩ := hrd
  clear hb2 HA1 HO1
  go_wp2_with fail
  clear x0 x1 x2 x3 x4 c34 ca cb cd
  refine (rshow_any K _ st1 0 st1.s.pc 0 _ HM.out.cpu (by have := HL.out; omega)).mono ?_
  rw [← HS.out]
  rintro e w3 ⟨rfl, hA3, hO3⟩
  have HM3 := Lib.hid (HM.out.step hA3 hO3)
  have hrd := HM3.out.rd HK.out.1 HK.out.2.1 HK.out.2.2
  obtain ⟨⟨x0, x1, x2, x3, x4⟩, c34, ca, cb, cd⟩ := hrd
  rw [HSs.out.1] at c34 ca cb cd
  clear hA3 hO3 HM HA2
  have q1 : (0 : Int) ≤ k1 := by omega
  have q2 : (k1 : Int) < 32 := by omega
  have q3 : (0 : Int) ≤ k2 := by omega
  have q4 : (k2 : Int) < 32 := by omega
  go_wp2
  go_quiet (fail)
  go_wp2
  go_quiet (fail)
  go_wp2
  go_quiet (fail)
  go_wp2_with fail
  clear x0 x1 x2 x3 x4 c34 ca cb cd
  refine (rtak_any op _ _ (nth_U HW.out k1) (nth_U HW.out k2) _).mono ?_
  rintro e w4 ⟨rfl, hw4⟩
  have HM4 := Lib.hid (show RMid w2 w4 K F op (0 : Nat) k1 k2 imm st2 from hw4 ▸ HM3.out.drewN _)
  clear hw4 HM3
  have HNx := Lib.hid (show IntKind.u64.wrap (st1.s.pc + 4) = nextP st1.s from IntKind.wrap_u64 _)
  rw [HNx.out]
  cases htk : takV op (nth st1.s.R k1) (nth st1.s.R k2) with
  | false =>
    rw [htk] at HEx
    have HP := Lib.hid (show IsU (nextP st1.s) from isU_modU' _)
    clear htk
    have HZ := Lib.hid (RBrokeP.box HM4.out (rfin_no (v := 0) HM4.out.cpu HP.out))
    obtain ⟨⟨x0, x1, x2, x3, x4⟩, c34, ca, cb, cd⟩ := HM4.out.rd HK.out.1 HK.out.2.1 HK.out.2.2
    have f34 : w4.frozen? ⟨K.c, 34, none⟩ = false := by obtain ⟨_, _, hC, _⟩ := HM4.out.cpu; exact hC.blk.free 34
    go_wp2
    go_ret
    exact ⟨rfl, by rw [HEx.out]; have h := HZ.out.1; rw [HSs.out.1] at h; rw [setR_zero] at h; exact h, HO2.out.trans HZ.out.2⟩
  | true =>
    rw [htk] at HEx
    have HP := Lib.hid (show IsU (farP st1.s imm) from isU_modU' _)
    have HFp := Lib.hid (show IntKind.u64.wrap (st1.s.pc + IntKind.u64.wrap imm) = farP st1.s imm by rw [IntKind.wrap_u64, IntKind.wrap_u64]; unfold farP modU; omega)
    obtain ⟨⟨x0, x1, x2, x3, x4⟩, c34, ca, cb, cd⟩ := HM4.out.rd HK.out.1 HK.out.2.1 HK.out.2.2
    rw [HSs.out.1] at c34 ca cb cd
    clear htk
    go_wp2
    go_quiet (fail)
    rw [HFp.out]
    clear x0 x1 x2 x3 x4 c34 ca cb cd
    have HM5 := Lib.hid (HM4.out.drewN nq)
    generalize w4.drewN nq = w5 at *
    clear HM4
    have HZ := Lib.hid (RBrokeP.box HM5.out (rfin_no (v := 0) HM5.out.cpu HP.out))
    obtain ⟨⟨x0, x1, x2, x3, x4⟩, c34, ca, cb, cd⟩ := HM5.out.rd HK.out.1 HK.out.2.1 HK.out.2.2
    have f34 : w5.frozen? ⟨K.c, 34, none⟩ = false := by obtain ⟨_, _, hC, _⟩ := HM5.out.cpu; exact hC.blk.free 34
    go_wp2
    go_ret
    exact ⟨rfl, by rw [HEx.out]; have h := HZ.out.1; rw [HSs.out.1] at h; rw [setR_zero] at h; exact h, HO2.out.trans HZ.out.2⟩
set_option maxHeartbeats 4000000 in
theorem rstep_lui (op : Nat) (kd : Nat) (k1 k2 : Nat) (imm : Int) (hd : st.s.dn = 0) (hA : RCpuAt w K F st)
    (hfe : Calls Tryz.prog 81 #[.pointer (some ⟨K.c, 0, none⟩)] w (RFetP w K F v true st1))
    (hde : ∀ w, Calls Tryz.prog 55 #[.int .u32 v] w fun e w' => e = .returned (.tuple #[.agg #[.int .i64 op, .int .i64 kd, .int .i64 k1, .int .i64 k2, .int .i64 imm], .int .i64 0]) ∧ Below w.heap.size w w')
    (h1 : k1 < 32) (h2 : k2 < 32) (hkd : kd < 32) (hi : IsI imm) (hl : st1.lk.length < 90000000) (hlo : 38 ≤ op) (hhi : op < 39) :
    Calls Tryz.prog 40 #[.pointer (some ⟨K.c, 0, none⟩)] w (RBrokeP w K F (execC K.T ⟨op, kd, k1, k2, imm⟩ (showC st1 0 st1.s.pc 0))) := by
  have HEx := (show execC K.T ⟨op, kd, k1, k2, imm⟩ (showC st1 0 st1.s.pc 0) = withS (showC st1 0 st1.s.pc 0) (goTo (setR st1.s kd (IntKind.u64.wrap imm)) (IntKind.u64.wrap (st1.s.pc + 4))) from by
    have e : (showC st1 0 st1.s.pc 0).s = st1.s := by unfold showC; split <;> rfl
    have e2 : (showC st1 0 st1.s.pc 0).B = st1.B := by unfold showC; split <;> rfl
    unfold execC
    rw [if_neg (show ¬ op < 16 by omega), if_neg (show ¬ op < 25 by omega), if_neg (show ¬ op < 29 by omega), if_neg (show ¬ op < 32 by omega), if_neg (show ¬ op < 38 by omega), if_pos (show op = 38 by omega)]
    have w1 : IntKind.u64.wrap imm = modU imm := IntKind.wrap_u64 _
    have w2 : IntKind.u64.wrap (st1.s.pc + 4) = nextP st1.s := IntKind.wrap_u64 _
    have w3 : IntKind.u64.wrap (st1.s.pc + IntKind.u64.wrap imm) = farP st1.s imm := by rw [IntKind.wrap_u64, IntKind.wrap_u64]; unfold farP modU; omega
    have w4 : IntKind.u64.wrap (nth st1.s.R k1 + IntKind.u64.wrap imm) = sumP st1.s ⟨op, kd, k1, k2, imm⟩ := by rw [IntKind.wrap_u64, IntKind.wrap_u64]; unfold sumP modU; simp only [reg_nat]; omega
    unfold writeC
    simp only [e]
    rw [w1, w2])
  have o1 : (0 : Int) ≤ op := by omega
  have o2 : ¬ (op : Int) ≤ 15 := by omega
  have o3 : ¬ (op : Int) ≤ 24 := by omega
  have o4 : ¬ (op : Int) ≤ 31 := by omega
  have o5 : ¬ (op : Int) ≤ 37 := by omega
  have o6 : ((op : Int) == 38) = true := by rw [beq_iff_eq]; omega
  have o7 : ((op : Int) == 39) = false := by rw [beq_eq_false_iff_ne]; omega
  have o8 : ((op : Int) == 40) = false := by rw [beq_eq_false_iff_ne]; omega
  have o9 : ((op : Int) == 41) = false := by rw [beq_eq_false_iff_ne]; omega
  have o10 : ((op : Int) == 42) = false := by rw [beq_eq_false_iff_ne]; omega
  have hdn : w.cell? ⟨K.c, 36, none⟩ = some (.int .i64 0) := by obtain ⟨_, _, hC, _⟩ := hA; rw [← hd]; exact hC.blk.dn
  obtain ⟨st2, hst⟩ : ∃ st2, st2 = showC st1 0 st1.s.pc 0 := ⟨_, rfl⟩
  have HS := Lib.hid hst
  have HSs := Lib.hid (show st2.s = st1.s ∧ st2.B = st1.B ∧ st2.lk.length ≤ st1.lk.length + 1 by rw [hst]; unfold showC; split <;> simp)
  rw [← hst] at HEx ⊢
  replace HEx := Lib.hid HEx
  have HFe := Lib.hid hfe
  have HDe := Lib.hid hde
  have HL := Lib.hid hl
  have HK := Lib.hid (And.intro (show kd < 32 from hkd) (And.intro h1 h2))
  have HI := Lib.hid hi
  clear hst hd hA hfe hde hl hi
  go_enter Tryz.func40, Tryz.ntmps40
  go_wp2_with fail
  refine HFe.out.mono ?_
  rintro e w1 ⟨rfl, hA1, hO1⟩
  have HA1 := Lib.hid hA1
  have HO1 := Lib.hid hO1
  clear hA1 hO1 hdn
  go_wp2_with fail
  refine (HDe.out w1).mono ?_
  rintro e w2 ⟨rfl, hb2⟩
  have HA2 := Lib.hid (HA1.out.below hb2)
  have HO2 := Lib.hid (HO1.out.trans (Out.of_below (F := F) hb2))
  have HM := Lib.hid (RMid.start (op := op) (rd := kd) (r1 := k1) (r2 := k2) (imm := imm) HA2.out)
  have HW := Lib.hid HA2.out.wf
  have hrd := HM.out.rd HK.out.1 HK.out.2.1 HK.out.2.2
  obtain ⟨⟨x0, x1, x2, x3, x4⟩, c34, ca, cb, cd⟩ := hrd
  clear hb2 HA1 HO1
  go_wp2_with fail
  clear x0 x1 x2 x3 x4 c34 ca cb cd
  refine (rshow_any K _ st1 0 st1.s.pc 0 _ HM.out.cpu (by have := HL.out; omega)).mono ?_
  rw [← HS.out]
  rintro e w3 ⟨rfl, hA3, hO3⟩
  have HM3 := Lib.hid (HM.out.step hA3 hO3)
  have hrd := HM3.out.rd HK.out.1 HK.out.2.1 HK.out.2.2
  obtain ⟨⟨x0, x1, x2, x3, x4⟩, c34, ca, cb, cd⟩ := hrd
  rw [HSs.out.1] at c34 ca cb cd
  clear hA3 hO3 HM HA2
  have q1 : (0 : Int) ≤ k1 := by omega
  have q2 : (k1 : Int) < 32 := by omega
  have q3 : (0 : Int) ≤ k2 := by omega
  have q4 : (k2 : Int) < 32 := by omega
  have q5 : (0 : Int) ≤ kd := by omega
  have q6 : (kd : Int) < 32 := by omega
  go_wp2
  go_quiet (fail)
  go_wp2
  go_quiet (fail)
  go_wp2
  go_quiet (fail)
  have HNx := Lib.hid (show IntKind.u64.wrap (st1.s.pc + 4) = nextP st1.s from IntKind.wrap_u64 _)
  have HV := Lib.hid (show IsU (IntKind.u64.wrap imm) from by rw [IntKind.wrap_u64]; exact isU_modU' _)
  have HP := Lib.hid (show IsU (IntKind.u64.wrap (st1.s.pc + 4)) from by rw [IntKind.wrap_u64]; exact isU_modU' _)
  clear x0 x1 x2 x3 x4 c34 ca cb cd
  by_cases hz : kd = 0
  · subst hz
    have HZ := Lib.hid (fun n => RBrokeP.box (HM3.out.drewN n) (rfin_no (v := IntKind.u64.wrap imm) (HM3.out.drewN n).cpu HP.out))
    obtain ⟨⟨x0, x1, x2, x3, x4⟩, c34, ca, cb, cd⟩ := HM3.out.rd HK.out.1 HK.out.2.1 HK.out.2.2
    rw [HSs.out.1] at c34 ca cb cd
    have f34 : w3.frozen? ⟨K.c, 34, none⟩ = false := by obtain ⟨_, _, hC, _⟩ := HM3.out.cpu; exact hC.blk.free 34
    go_wp2
    go_ret
    exact ⟨rfl, by rw [HEx.out]; have h := fun n => (HZ.out n).1; rw [HSs.out.1] at h; exact h _, HO2.out.trans (HZ.out _).2⟩
  · have hz1 : ((kd : Int) != 0) = true := by rw [bne_iff_ne]; omega
    have HZ := Lib.hid (fun n => RBrokeP.box ((HM3.out.drewN n).drewN 1) (rfin_yes ((HM3.out.drewN n).drewN 1).cpu hz HK.out.1 HV.out HP.out))
    obtain ⟨⟨x0, x1, x2, x3, x4⟩, c34, ca, cb, cd⟩ := HM3.out.rd HK.out.1 HK.out.2.1 HK.out.2.2
    rw [HSs.out.1] at c34 ca cb cd
    have f34 : w3.frozen? ⟨K.c, 34, none⟩ = false := by obtain ⟨_, _, hC, _⟩ := HM3.out.cpu; exact hC.blk.free 34
    have fkd : w3.frozen? ⟨K.c, 2 + kd, none⟩ = false := by obtain ⟨_, _, hC, _⟩ := HM3.out.cpu; exact hC.blk.free (2 + kd)
    go_wp2
    go_region
    go_wp2
    go_ret
    exact ⟨rfl, by rw [HEx.out]; have h := fun n => (HZ.out n).1; rw [HSs.out.1] at h; exact h _, HO2.out.trans (HZ.out _).2⟩
set_option maxHeartbeats 4000000 in
theorem rstep_auipc (op : Nat) (kd : Nat) (k1 k2 : Nat) (imm : Int) (hd : st.s.dn = 0) (hA : RCpuAt w K F st)
    (hfe : Calls Tryz.prog 81 #[.pointer (some ⟨K.c, 0, none⟩)] w (RFetP w K F v true st1))
    (hde : ∀ w, Calls Tryz.prog 55 #[.int .u32 v] w fun e w' => e = .returned (.tuple #[.agg #[.int .i64 op, .int .i64 kd, .int .i64 k1, .int .i64 k2, .int .i64 imm], .int .i64 0]) ∧ Below w.heap.size w w')
    (h1 : k1 < 32) (h2 : k2 < 32) (hkd : kd < 32) (hi : IsI imm) (hl : st1.lk.length < 90000000) (hlo : 39 ≤ op) (hhi : op < 40) :
    Calls Tryz.prog 40 #[.pointer (some ⟨K.c, 0, none⟩)] w (RBrokeP w K F (execC K.T ⟨op, kd, k1, k2, imm⟩ (showC st1 0 st1.s.pc 0))) := by
  have HEx := (show execC K.T ⟨op, kd, k1, k2, imm⟩ (showC st1 0 st1.s.pc 0) = withS (showC st1 0 st1.s.pc 0) (goTo (setR st1.s kd (IntKind.u64.wrap (st1.s.pc + IntKind.u64.wrap imm))) (IntKind.u64.wrap (st1.s.pc + 4))) from by
    have e : (showC st1 0 st1.s.pc 0).s = st1.s := by unfold showC; split <;> rfl
    have e2 : (showC st1 0 st1.s.pc 0).B = st1.B := by unfold showC; split <;> rfl
    unfold execC
    rw [if_neg (show ¬ op < 16 by omega), if_neg (show ¬ op < 25 by omega), if_neg (show ¬ op < 29 by omega), if_neg (show ¬ op < 32 by omega), if_neg (show ¬ op < 38 by omega), if_neg (show ¬ op = 38 by omega), if_pos (show op = 39 by omega)]
    have w1 : IntKind.u64.wrap imm = modU imm := IntKind.wrap_u64 _
    have w2 : IntKind.u64.wrap (st1.s.pc + 4) = nextP st1.s := IntKind.wrap_u64 _
    have w3 : IntKind.u64.wrap (st1.s.pc + IntKind.u64.wrap imm) = farP st1.s imm := by rw [IntKind.wrap_u64, IntKind.wrap_u64]; unfold farP modU; omega
    have w4 : IntKind.u64.wrap (nth st1.s.R k1 + IntKind.u64.wrap imm) = sumP st1.s ⟨op, kd, k1, k2, imm⟩ := by rw [IntKind.wrap_u64, IntKind.wrap_u64]; unfold sumP modU; simp only [reg_nat]; omega
    unfold writeC
    simp only [e]
    rw [w3, w2])
  have o1 : (0 : Int) ≤ op := by omega
  have o2 : ¬ (op : Int) ≤ 15 := by omega
  have o3 : ¬ (op : Int) ≤ 24 := by omega
  have o4 : ¬ (op : Int) ≤ 31 := by omega
  have o5 : ¬ (op : Int) ≤ 37 := by omega
  have o6 : ((op : Int) == 38) = false := by rw [beq_eq_false_iff_ne]; omega
  have o7 : ((op : Int) == 39) = true := by rw [beq_iff_eq]; omega
  have o8 : ((op : Int) == 40) = false := by rw [beq_eq_false_iff_ne]; omega
  have o9 : ((op : Int) == 41) = false := by rw [beq_eq_false_iff_ne]; omega
  have o10 : ((op : Int) == 42) = false := by rw [beq_eq_false_iff_ne]; omega
  have hdn : w.cell? ⟨K.c, 36, none⟩ = some (.int .i64 0) := by obtain ⟨_, _, hC, _⟩ := hA; rw [← hd]; exact hC.blk.dn
  obtain ⟨st2, hst⟩ : ∃ st2, st2 = showC st1 0 st1.s.pc 0 := ⟨_, rfl⟩
  have HS := Lib.hid hst
  have HSs := Lib.hid (show st2.s = st1.s ∧ st2.B = st1.B ∧ st2.lk.length ≤ st1.lk.length + 1 by rw [hst]; unfold showC; split <;> simp)
  rw [← hst] at HEx ⊢
  replace HEx := Lib.hid HEx
  have HFe := Lib.hid hfe
  have HDe := Lib.hid hde
  have HL := Lib.hid hl
  have HK := Lib.hid (And.intro (show kd < 32 from hkd) (And.intro h1 h2))
  have HI := Lib.hid hi
  clear hst hd hA hfe hde hl hi
  go_enter Tryz.func40, Tryz.ntmps40
  go_wp2_with fail
  refine HFe.out.mono ?_
  rintro e w1 ⟨rfl, hA1, hO1⟩
  have HA1 := Lib.hid hA1
  have HO1 := Lib.hid hO1
  clear hA1 hO1 hdn
  go_wp2_with fail
  refine (HDe.out w1).mono ?_
  rintro e w2 ⟨rfl, hb2⟩
  have HA2 := Lib.hid (HA1.out.below hb2)
  have HO2 := Lib.hid (HO1.out.trans (Out.of_below (F := F) hb2))
  have HM := Lib.hid (RMid.start (op := op) (rd := kd) (r1 := k1) (r2 := k2) (imm := imm) HA2.out)
  have HW := Lib.hid HA2.out.wf
  have hrd := HM.out.rd HK.out.1 HK.out.2.1 HK.out.2.2
  obtain ⟨⟨x0, x1, x2, x3, x4⟩, c34, ca, cb, cd⟩ := hrd
  clear hb2 HA1 HO1
  go_wp2_with fail
  clear x0 x1 x2 x3 x4 c34 ca cb cd
  refine (rshow_any K _ st1 0 st1.s.pc 0 _ HM.out.cpu (by have := HL.out; omega)).mono ?_
  rw [← HS.out]
  rintro e w3 ⟨rfl, hA3, hO3⟩
  have HM3 := Lib.hid (HM.out.step hA3 hO3)
  have hrd := HM3.out.rd HK.out.1 HK.out.2.1 HK.out.2.2
  obtain ⟨⟨x0, x1, x2, x3, x4⟩, c34, ca, cb, cd⟩ := hrd
  rw [HSs.out.1] at c34 ca cb cd
  clear hA3 hO3 HM HA2
  have q1 : (0 : Int) ≤ k1 := by omega
  have q2 : (k1 : Int) < 32 := by omega
  have q3 : (0 : Int) ≤ k2 := by omega
  have q4 : (k2 : Int) < 32 := by omega
  have q5 : (0 : Int) ≤ kd := by omega
  have q6 : (kd : Int) < 32 := by omega
  go_wp2
  go_quiet (fail)
  go_wp2
  go_quiet (fail)
  go_wp2
  go_quiet (fail)
  have HNx := Lib.hid (show IntKind.u64.wrap (st1.s.pc + 4) = nextP st1.s from IntKind.wrap_u64 _)
  have HV := Lib.hid (show IsU (IntKind.u64.wrap (st1.s.pc + IntKind.u64.wrap imm)) from by rw [IntKind.wrap_u64]; exact isU_modU' _)
  have HP := Lib.hid (show IsU (IntKind.u64.wrap (st1.s.pc + 4)) from by rw [IntKind.wrap_u64]; exact isU_modU' _)
  go_wp2
  go_quiet (fail)
  clear x0 x1 x2 x3 x4 c34 ca cb cd
  by_cases hz : kd = 0
  · subst hz
    have HZ := Lib.hid (fun n => RBrokeP.box (HM3.out.drewN n) (rfin_no (v := IntKind.u64.wrap (st1.s.pc + IntKind.u64.wrap imm)) (HM3.out.drewN n).cpu HP.out))
    obtain ⟨⟨x0, x1, x2, x3, x4⟩, c34, ca, cb, cd⟩ := HM3.out.rd HK.out.1 HK.out.2.1 HK.out.2.2
    rw [HSs.out.1] at c34 ca cb cd
    have f34 : w3.frozen? ⟨K.c, 34, none⟩ = false := by obtain ⟨_, _, hC, _⟩ := HM3.out.cpu; exact hC.blk.free 34
    go_wp2
    go_ret
    exact ⟨rfl, by rw [HEx.out]; have h := fun n => (HZ.out n).1; rw [HSs.out.1] at h; exact h _, HO2.out.trans (HZ.out _).2⟩
  · have hz1 : ((kd : Int) != 0) = true := by rw [bne_iff_ne]; omega
    have HZ := Lib.hid (fun n => RBrokeP.box ((HM3.out.drewN n).drewN 1) (rfin_yes ((HM3.out.drewN n).drewN 1).cpu hz HK.out.1 HV.out HP.out))
    obtain ⟨⟨x0, x1, x2, x3, x4⟩, c34, ca, cb, cd⟩ := HM3.out.rd HK.out.1 HK.out.2.1 HK.out.2.2
    rw [HSs.out.1] at c34 ca cb cd
    have f34 : w3.frozen? ⟨K.c, 34, none⟩ = false := by obtain ⟨_, _, hC, _⟩ := HM3.out.cpu; exact hC.blk.free 34
    have fkd : w3.frozen? ⟨K.c, 2 + kd, none⟩ = false := by obtain ⟨_, _, hC, _⟩ := HM3.out.cpu; exact hC.blk.free (2 + kd)
    go_wp2
    go_region
    go_wp2
    go_ret
    exact ⟨rfl, by rw [HEx.out]; have h := fun n => (HZ.out n).1; rw [HSs.out.1] at h; exact h _, HO2.out.trans (HZ.out _).2⟩
set_option maxHeartbeats 4000000 in
theorem rstep_jal (op : Nat) (kd : Nat) (k1 k2 : Nat) (imm : Int) (hd : st.s.dn = 0) (hA : RCpuAt w K F st)
    (hfe : Calls Tryz.prog 81 #[.pointer (some ⟨K.c, 0, none⟩)] w (RFetP w K F v true st1))
    (hde : ∀ w, Calls Tryz.prog 55 #[.int .u32 v] w fun e w' => e = .returned (.tuple #[.agg #[.int .i64 op, .int .i64 kd, .int .i64 k1, .int .i64 k2, .int .i64 imm], .int .i64 0]) ∧ Below w.heap.size w w')
    (h1 : k1 < 32) (h2 : k2 < 32) (hkd : kd < 32) (hi : IsI imm) (hl : st1.lk.length < 90000000) (hlo : 40 ≤ op) (hhi : op < 41) :
    Calls Tryz.prog 40 #[.pointer (some ⟨K.c, 0, none⟩)] w (RBrokeP w K F (execC K.T ⟨op, kd, k1, k2, imm⟩ (showC st1 0 st1.s.pc 0))) := by
  have HEx := (show execC K.T ⟨op, kd, k1, k2, imm⟩ (showC st1 0 st1.s.pc 0) = withS (showC st1 0 st1.s.pc 0) (goTo (setR st1.s kd (IntKind.u64.wrap (st1.s.pc + 4))) (IntKind.u64.wrap (st1.s.pc + IntKind.u64.wrap imm))) from by
    have e : (showC st1 0 st1.s.pc 0).s = st1.s := by unfold showC; split <;> rfl
    have e2 : (showC st1 0 st1.s.pc 0).B = st1.B := by unfold showC; split <;> rfl
    unfold execC
    rw [if_neg (show ¬ op < 16 by omega), if_neg (show ¬ op < 25 by omega), if_neg (show ¬ op < 29 by omega), if_neg (show ¬ op < 32 by omega), if_neg (show ¬ op < 38 by omega), if_neg (show ¬ op = 38 by omega), if_neg (show ¬ op = 39 by omega), if_pos (show op = 40 by omega)]
    have w1 : IntKind.u64.wrap imm = modU imm := IntKind.wrap_u64 _
    have w2 : IntKind.u64.wrap (st1.s.pc + 4) = nextP st1.s := IntKind.wrap_u64 _
    have w3 : IntKind.u64.wrap (st1.s.pc + IntKind.u64.wrap imm) = farP st1.s imm := by rw [IntKind.wrap_u64, IntKind.wrap_u64]; unfold farP modU; omega
    have w4 : IntKind.u64.wrap (nth st1.s.R k1 + IntKind.u64.wrap imm) = sumP st1.s ⟨op, kd, k1, k2, imm⟩ := by rw [IntKind.wrap_u64, IntKind.wrap_u64]; unfold sumP modU; simp only [reg_nat]; omega
    unfold leapC
    simp only [e]
    rw [w3, w2])
  have o1 : (0 : Int) ≤ op := by omega
  have o2 : ¬ (op : Int) ≤ 15 := by omega
  have o3 : ¬ (op : Int) ≤ 24 := by omega
  have o4 : ¬ (op : Int) ≤ 31 := by omega
  have o5 : ¬ (op : Int) ≤ 37 := by omega
  have o6 : ((op : Int) == 38) = false := by rw [beq_eq_false_iff_ne]; omega
  have o7 : ((op : Int) == 39) = false := by rw [beq_eq_false_iff_ne]; omega
  have o8 : ((op : Int) == 40) = true := by rw [beq_iff_eq]; omega
  have o9 : ((op : Int) == 41) = false := by rw [beq_eq_false_iff_ne]; omega
  have o10 : ((op : Int) == 42) = false := by rw [beq_eq_false_iff_ne]; omega
  have hdn : w.cell? ⟨K.c, 36, none⟩ = some (.int .i64 0) := by obtain ⟨_, _, hC, _⟩ := hA; rw [← hd]; exact hC.blk.dn
  obtain ⟨st2, hst⟩ : ∃ st2, st2 = showC st1 0 st1.s.pc 0 := ⟨_, rfl⟩
  have HS := Lib.hid hst
  have HSs := Lib.hid (show st2.s = st1.s ∧ st2.B = st1.B ∧ st2.lk.length ≤ st1.lk.length + 1 by rw [hst]; unfold showC; split <;> simp)
  rw [← hst] at HEx ⊢
  replace HEx := Lib.hid HEx
  have HFe := Lib.hid hfe
  have HDe := Lib.hid hde
  have HL := Lib.hid hl
  have HK := Lib.hid (And.intro (show kd < 32 from hkd) (And.intro h1 h2))
  have HI := Lib.hid hi
  clear hst hd hA hfe hde hl hi
  go_enter Tryz.func40, Tryz.ntmps40
  go_wp2_with fail
  refine HFe.out.mono ?_
  rintro e w1 ⟨rfl, hA1, hO1⟩
  have HA1 := Lib.hid hA1
  have HO1 := Lib.hid hO1
  clear hA1 hO1 hdn
  go_wp2_with fail
  refine (HDe.out w1).mono ?_
  rintro e w2 ⟨rfl, hb2⟩
  have HA2 := Lib.hid (HA1.out.below hb2)
  have HO2 := Lib.hid (HO1.out.trans (Out.of_below (F := F) hb2))
  have HM := Lib.hid (RMid.start (op := op) (rd := kd) (r1 := k1) (r2 := k2) (imm := imm) HA2.out)
  have HW := Lib.hid HA2.out.wf
  have hrd := HM.out.rd HK.out.1 HK.out.2.1 HK.out.2.2
  obtain ⟨⟨x0, x1, x2, x3, x4⟩, c34, ca, cb, cd⟩ := hrd
  clear hb2 HA1 HO1
  go_wp2_with fail
  clear x0 x1 x2 x3 x4 c34 ca cb cd
  refine (rshow_any K _ st1 0 st1.s.pc 0 _ HM.out.cpu (by have := HL.out; omega)).mono ?_
  rw [← HS.out]
  rintro e w3 ⟨rfl, hA3, hO3⟩
  have HM3 := Lib.hid (HM.out.step hA3 hO3)
  have hrd := HM3.out.rd HK.out.1 HK.out.2.1 HK.out.2.2
  obtain ⟨⟨x0, x1, x2, x3, x4⟩, c34, ca, cb, cd⟩ := hrd
  rw [HSs.out.1] at c34 ca cb cd
  clear hA3 hO3 HM HA2
  have q1 : (0 : Int) ≤ k1 := by omega
  have q2 : (k1 : Int) < 32 := by omega
  have q3 : (0 : Int) ≤ k2 := by omega
  have q4 : (k2 : Int) < 32 := by omega
  have q5 : (0 : Int) ≤ kd := by omega
  have q6 : (kd : Int) < 32 := by omega
  go_wp2
  go_quiet (fail)
  go_wp2
  go_quiet (fail)
  go_wp2
  go_quiet (fail)
  have HNx := Lib.hid (show IntKind.u64.wrap (st1.s.pc + 4) = nextP st1.s from IntKind.wrap_u64 _)
  have HV := Lib.hid (show IsU (IntKind.u64.wrap (st1.s.pc + 4)) from by rw [IntKind.wrap_u64]; exact isU_modU' _)
  have HP := Lib.hid (show IsU (IntKind.u64.wrap (st1.s.pc + IntKind.u64.wrap imm)) from by rw [IntKind.wrap_u64]; exact isU_modU' _)
  go_wp2
  go_quiet (fail)
  clear x0 x1 x2 x3 x4 c34 ca cb cd
  by_cases hz : kd = 0
  · subst hz
    have HZ := Lib.hid (fun n => RBrokeP.box (HM3.out.drewN n) (rfin_no (v := IntKind.u64.wrap (st1.s.pc + 4)) (HM3.out.drewN n).cpu HP.out))
    obtain ⟨⟨x0, x1, x2, x3, x4⟩, c34, ca, cb, cd⟩ := HM3.out.rd HK.out.1 HK.out.2.1 HK.out.2.2
    rw [HSs.out.1] at c34 ca cb cd
    have f34 : w3.frozen? ⟨K.c, 34, none⟩ = false := by obtain ⟨_, _, hC, _⟩ := HM3.out.cpu; exact hC.blk.free 34
    go_wp2
    go_ret
    exact ⟨rfl, by rw [HEx.out]; have h := fun n => (HZ.out n).1; rw [HSs.out.1] at h; exact h _, HO2.out.trans (HZ.out _).2⟩
  · have hz1 : ((kd : Int) != 0) = true := by rw [bne_iff_ne]; omega
    have HZ := Lib.hid (fun n => RBrokeP.box ((HM3.out.drewN n).drewN 1) (rfin_yes ((HM3.out.drewN n).drewN 1).cpu hz HK.out.1 HV.out HP.out))
    obtain ⟨⟨x0, x1, x2, x3, x4⟩, c34, ca, cb, cd⟩ := HM3.out.rd HK.out.1 HK.out.2.1 HK.out.2.2
    rw [HSs.out.1] at c34 ca cb cd
    have f34 : w3.frozen? ⟨K.c, 34, none⟩ = false := by obtain ⟨_, _, hC, _⟩ := HM3.out.cpu; exact hC.blk.free 34
    have fkd : w3.frozen? ⟨K.c, 2 + kd, none⟩ = false := by obtain ⟨_, _, hC, _⟩ := HM3.out.cpu; exact hC.blk.free (2 + kd)
    go_wp2
    go_region
    go_wp2
    go_ret
    exact ⟨rfl, by rw [HEx.out]; have h := fun n => (HZ.out n).1; rw [HSs.out.1] at h; exact h _, HO2.out.trans (HZ.out _).2⟩
set_option maxHeartbeats 4000000 in
theorem rstep_jalr (op : Nat) (kd : Nat) (k1 k2 : Nat) (imm : Int) (hd : st.s.dn = 0) (hA : RCpuAt w K F st)
    (hfe : Calls Tryz.prog 81 #[.pointer (some ⟨K.c, 0, none⟩)] w (RFetP w K F v true st1))
    (hde : ∀ w, Calls Tryz.prog 55 #[.int .u32 v] w fun e w' => e = .returned (.tuple #[.agg #[.int .i64 op, .int .i64 kd, .int .i64 k1, .int .i64 k2, .int .i64 imm], .int .i64 0]) ∧ Below w.heap.size w w')
    (h1 : k1 < 32) (h2 : k2 < 32) (hkd : kd < 32) (hi : IsI imm) (hl : st1.lk.length < 90000000) (hlo : 41 ≤ op) (hhi : op < 42) :
    Calls Tryz.prog 40 #[.pointer (some ⟨K.c, 0, none⟩)] w (RBrokeP w K F (execC K.T ⟨op, kd, k1, k2, imm⟩ (showC st1 0 st1.s.pc 0))) := by
  have HEx := (show execC K.T ⟨op, kd, k1, k2, imm⟩ (showC st1 0 st1.s.pc 0) = withS (showC st1 0 st1.s.pc 0) (goTo (setR st1.s kd (IntKind.u64.wrap (st1.s.pc + 4))) (IntKind.u64.wrap (IntKind.u64.wrap (nth st1.s.R k1 + IntKind.u64.wrap imm) - (IntKind.u64.wrap (nth st1.s.R k1 + IntKind.u64.wrap imm)).tmod 2))) from by
    have e : (showC st1 0 st1.s.pc 0).s = st1.s := by unfold showC; split <;> rfl
    have e2 : (showC st1 0 st1.s.pc 0).B = st1.B := by unfold showC; split <;> rfl
    unfold execC
    rw [if_neg (show ¬ op < 16 by omega), if_neg (show ¬ op < 25 by omega), if_neg (show ¬ op < 29 by omega), if_neg (show ¬ op < 32 by omega), if_neg (show ¬ op < 38 by omega), if_neg (show ¬ op = 38 by omega), if_neg (show ¬ op = 39 by omega), if_neg (show ¬ op = 40 by omega), if_pos (show op = 41 by omega)]
    have w1 : IntKind.u64.wrap imm = modU imm := IntKind.wrap_u64 _
    have w2 : IntKind.u64.wrap (st1.s.pc + 4) = nextP st1.s := IntKind.wrap_u64 _
    have w3 : IntKind.u64.wrap (st1.s.pc + IntKind.u64.wrap imm) = farP st1.s imm := by rw [IntKind.wrap_u64, IntKind.wrap_u64]; unfold farP modU; omega
    have w4 : IntKind.u64.wrap (nth st1.s.R k1 + IntKind.u64.wrap imm) = sumP st1.s ⟨op, kd, k1, k2, imm⟩ := by rw [IntKind.wrap_u64, IntKind.wrap_u64]; unfold sumP modU; simp only [reg_nat]; omega
    have w5 : IntKind.u64.wrap (sumP st1.s ⟨op, kd, k1, k2, imm⟩ - (sumP st1.s ⟨op, kd, k1, k2, imm⟩).tmod 2) = sumP st1.s ⟨op, kd, k1, k2, imm⟩ - sumP st1.s ⟨op, kd, k1, k2, imm⟩ % 2 := by
      have h : IsU (sumP st1.s ⟨op, kd, k1, k2, imm⟩) := isU_modU' _
      obtain ⟨h0, h1⟩ := h
      rw [Int.tmod_eq_emod_of_nonneg h0, IntKind.wrap_u64]
      omega
    unfold leapC
    simp only [e]
    rw [w4, w2, w5])
  have o1 : (0 : Int) ≤ op := by omega
  have o2 : ¬ (op : Int) ≤ 15 := by omega
  have o3 : ¬ (op : Int) ≤ 24 := by omega
  have o4 : ¬ (op : Int) ≤ 31 := by omega
  have o5 : ¬ (op : Int) ≤ 37 := by omega
  have o6 : ((op : Int) == 38) = false := by rw [beq_eq_false_iff_ne]; omega
  have o7 : ((op : Int) == 39) = false := by rw [beq_eq_false_iff_ne]; omega
  have o8 : ((op : Int) == 40) = false := by rw [beq_eq_false_iff_ne]; omega
  have o9 : ((op : Int) == 41) = true := by rw [beq_iff_eq]; omega
  have o10 : ((op : Int) == 42) = false := by rw [beq_eq_false_iff_ne]; omega
  have hdn : w.cell? ⟨K.c, 36, none⟩ = some (.int .i64 0) := by obtain ⟨_, _, hC, _⟩ := hA; rw [← hd]; exact hC.blk.dn
  obtain ⟨st2, hst⟩ : ∃ st2, st2 = showC st1 0 st1.s.pc 0 := ⟨_, rfl⟩
  have HS := Lib.hid hst
  have HSs := Lib.hid (show st2.s = st1.s ∧ st2.B = st1.B ∧ st2.lk.length ≤ st1.lk.length + 1 by rw [hst]; unfold showC; split <;> simp)
  rw [← hst] at HEx ⊢
  replace HEx := Lib.hid HEx
  have HFe := Lib.hid hfe
  have HDe := Lib.hid hde
  have HL := Lib.hid hl
  have HK := Lib.hid (And.intro (show kd < 32 from hkd) (And.intro h1 h2))
  have HI := Lib.hid hi
  clear hst hd hA hfe hde hl hi
  go_enter Tryz.func40, Tryz.ntmps40
  go_wp2_with fail
  refine HFe.out.mono ?_
  rintro e w1 ⟨rfl, hA1, hO1⟩
  have HA1 := Lib.hid hA1
  have HO1 := Lib.hid hO1
  clear hA1 hO1 hdn
  go_wp2_with fail
  refine (HDe.out w1).mono ?_
  rintro e w2 ⟨rfl, hb2⟩
  have HA2 := Lib.hid (HA1.out.below hb2)
  have HO2 := Lib.hid (HO1.out.trans (Out.of_below (F := F) hb2))
  have HM := Lib.hid (RMid.start (op := op) (rd := kd) (r1 := k1) (r2 := k2) (imm := imm) HA2.out)
  have HW := Lib.hid HA2.out.wf
  have hrd := HM.out.rd HK.out.1 HK.out.2.1 HK.out.2.2
  obtain ⟨⟨x0, x1, x2, x3, x4⟩, c34, ca, cb, cd⟩ := hrd
  clear hb2 HA1 HO1
  go_wp2_with fail
  clear x0 x1 x2 x3 x4 c34 ca cb cd
  refine (rshow_any K _ st1 0 st1.s.pc 0 _ HM.out.cpu (by have := HL.out; omega)).mono ?_
  rw [← HS.out]
  rintro e w3 ⟨rfl, hA3, hO3⟩
  have HM3 := Lib.hid (HM.out.step hA3 hO3)
  have hrd := HM3.out.rd HK.out.1 HK.out.2.1 HK.out.2.2
  obtain ⟨⟨x0, x1, x2, x3, x4⟩, c34, ca, cb, cd⟩ := hrd
  rw [HSs.out.1] at c34 ca cb cd
  clear hA3 hO3 HM HA2
  have q1 : (0 : Int) ≤ k1 := by omega
  have q2 : (k1 : Int) < 32 := by omega
  have q3 : (0 : Int) ≤ k2 := by omega
  have q4 : (k2 : Int) < 32 := by omega
  have q5 : (0 : Int) ≤ kd := by omega
  have q6 : (kd : Int) < 32 := by omega
  go_wp2
  go_quiet (fail)
  go_wp2
  go_quiet (fail)
  go_wp2
  go_quiet (fail)
  have HNx := Lib.hid (show IntKind.u64.wrap (st1.s.pc + 4) = nextP st1.s from IntKind.wrap_u64 _)
  have HV := Lib.hid (show IsU (IntKind.u64.wrap (st1.s.pc + 4)) from by rw [IntKind.wrap_u64]; exact isU_modU' _)
  have HP := Lib.hid (show IsU (IntKind.u64.wrap (IntKind.u64.wrap (nth st1.s.R k1 + IntKind.u64.wrap imm) - (IntKind.u64.wrap (nth st1.s.R k1 + IntKind.u64.wrap imm)).tmod 2)) from by rw [IntKind.wrap_u64]; exact isU_modU' _)
  clear x0 x1 x2 x3 x4 c34 ca cb cd
  by_cases hz : kd = 0
  · subst hz
    have HZ := Lib.hid (fun n => RBrokeP.box (HM3.out.drewN n) (rfin_no (v := IntKind.u64.wrap (st1.s.pc + 4)) (HM3.out.drewN n).cpu HP.out))
    obtain ⟨⟨x0, x1, x2, x3, x4⟩, c34, ca, cb, cd⟩ := HM3.out.rd HK.out.1 HK.out.2.1 HK.out.2.2
    rw [HSs.out.1] at c34 ca cb cd
    have f34 : w3.frozen? ⟨K.c, 34, none⟩ = false := by obtain ⟨_, _, hC, _⟩ := HM3.out.cpu; exact hC.blk.free 34
    go_wp2
    go_ret
    exact ⟨rfl, by rw [HEx.out]; have h := fun n => (HZ.out n).1; rw [HSs.out.1] at h; exact h _, HO2.out.trans (HZ.out _).2⟩
  · have hz1 : ((kd : Int) != 0) = true := by rw [bne_iff_ne]; omega
    have HZ := Lib.hid (fun n => RBrokeP.box ((HM3.out.drewN n).drewN 1) (rfin_yes ((HM3.out.drewN n).drewN 1).cpu hz HK.out.1 HV.out HP.out))
    obtain ⟨⟨x0, x1, x2, x3, x4⟩, c34, ca, cb, cd⟩ := HM3.out.rd HK.out.1 HK.out.2.1 HK.out.2.2
    rw [HSs.out.1] at c34 ca cb cd
    have f34 : w3.frozen? ⟨K.c, 34, none⟩ = false := by obtain ⟨_, _, hC, _⟩ := HM3.out.cpu; exact hC.blk.free 34
    have fkd : w3.frozen? ⟨K.c, 2 + kd, none⟩ = false := by obtain ⟨_, _, hC, _⟩ := HM3.out.cpu; exact hC.blk.free (2 + kd)
    go_wp2
    go_region
    go_wp2
    go_ret
    exact ⟨rfl, by rw [HEx.out]; have h := fun n => (HZ.out n).1; rw [HSs.out.1] at h; exact h _, HO2.out.trans (HZ.out _).2⟩
set_option maxHeartbeats 4000000 in
theorem rstep_stop (op : Nat) (kd : Nat) (k1 k2 : Nat) (imm : Int) (hd : st.s.dn = 0) (hA : RCpuAt w K F st)
    (hfe : Calls Tryz.prog 81 #[.pointer (some ⟨K.c, 0, none⟩)] w (RFetP w K F v true st1))
    (hde : ∀ w, Calls Tryz.prog 55 #[.int .u32 v] w fun e w' => e = .returned (.tuple #[.agg #[.int .i64 op, .int .i64 kd, .int .i64 k1, .int .i64 k2, .int .i64 imm], .int .i64 0]) ∧ Below w.heap.size w w')
    (h1 : k1 < 32) (h2 : k2 < 32) (hkd : kd < 32) (hi : IsI imm) (hl : st1.lk.length < 90000000) (hlo : 42 ≤ op) (hhi : op < 43) :
    Calls Tryz.prog 40 #[.pointer (some ⟨K.c, 0, none⟩)] w (RBrokeP w K F (execC K.T ⟨op, kd, k1, k2, imm⟩ (showC st1 0 st1.s.pc 0))) := by
  have HEx := (show execC K.T ⟨op, kd, k1, k2, imm⟩ (showC st1 0 st1.s.pc 0) = withS (showC st1 0 st1.s.pc 0) (doneS st1.s 1) from by
    have e : (showC st1 0 st1.s.pc 0).s = st1.s := by unfold showC; split <;> rfl
    have e2 : (showC st1 0 st1.s.pc 0).B = st1.B := by unfold showC; split <;> rfl
    unfold execC
    rw [if_neg (show ¬ op < 16 by omega), if_neg (show ¬ op < 25 by omega), if_neg (show ¬ op < 29 by omega), if_neg (show ¬ op < 32 by omega), if_neg (show ¬ op < 38 by omega), if_neg (show ¬ op = 38 by omega), if_neg (show ¬ op = 39 by omega), if_neg (show ¬ op = 40 by omega), if_neg (show ¬ op = 41 by omega)]
    simp only [e])
  have o1 : (0 : Int) ≤ op := by omega
  have o2 : ¬ (op : Int) ≤ 15 := by omega
  have o3 : ¬ (op : Int) ≤ 24 := by omega
  have o4 : ¬ (op : Int) ≤ 31 := by omega
  have o5 : ¬ (op : Int) ≤ 37 := by omega
  have o6 : ((op : Int) == 38) = false := by rw [beq_eq_false_iff_ne]; omega
  have o7 : ((op : Int) == 39) = false := by rw [beq_eq_false_iff_ne]; omega
  have o8 : ((op : Int) == 40) = false := by rw [beq_eq_false_iff_ne]; omega
  have o9 : ((op : Int) == 41) = false := by rw [beq_eq_false_iff_ne]; omega
  have o10 : ((op : Int) == 42) = true := by rw [beq_iff_eq]; omega
  have hdn : w.cell? ⟨K.c, 36, none⟩ = some (.int .i64 0) := by obtain ⟨_, _, hC, _⟩ := hA; rw [← hd]; exact hC.blk.dn
  obtain ⟨st2, hst⟩ : ∃ st2, st2 = showC st1 0 st1.s.pc 0 := ⟨_, rfl⟩
  have HS := Lib.hid hst
  have HSs := Lib.hid (show st2.s = st1.s ∧ st2.B = st1.B ∧ st2.lk.length ≤ st1.lk.length + 1 by rw [hst]; unfold showC; split <;> simp)
  rw [← hst] at HEx ⊢
  replace HEx := Lib.hid HEx
  have HFe := Lib.hid hfe
  have HDe := Lib.hid hde
  have HL := Lib.hid hl
  have HK := Lib.hid (And.intro (show kd < 32 from hkd) (And.intro h1 h2))
  have HI := Lib.hid hi
  clear hst hd hA hfe hde hl hi
  go_enter Tryz.func40, Tryz.ntmps40
  go_wp2_with fail
  refine HFe.out.mono ?_
  rintro e w1 ⟨rfl, hA1, hO1⟩
  have HA1 := Lib.hid hA1
  have HO1 := Lib.hid hO1
  clear hA1 hO1 hdn
  go_wp2_with fail
  refine (HDe.out w1).mono ?_
  rintro e w2 ⟨rfl, hb2⟩
  have HA2 := Lib.hid (HA1.out.below hb2)
  have HO2 := Lib.hid (HO1.out.trans (Out.of_below (F := F) hb2))
  have HM := Lib.hid (RMid.start (op := op) (rd := kd) (r1 := k1) (r2 := k2) (imm := imm) HA2.out)
  have HW := Lib.hid HA2.out.wf
  have hrd := HM.out.rd HK.out.1 HK.out.2.1 HK.out.2.2
  obtain ⟨⟨x0, x1, x2, x3, x4⟩, c34, ca, cb, cd⟩ := hrd
  clear hb2 HA1 HO1
  go_wp2_with fail
  clear x0 x1 x2 x3 x4 c34 ca cb cd
  refine (rshow_any K _ st1 0 st1.s.pc 0 _ HM.out.cpu (by have := HL.out; omega)).mono ?_
  rw [← HS.out]
  rintro e w3 ⟨rfl, hA3, hO3⟩
  have HM3 := Lib.hid (HM.out.step hA3 hO3)
  have hrd := HM3.out.rd HK.out.1 HK.out.2.1 HK.out.2.2
  obtain ⟨⟨x0, x1, x2, x3, x4⟩, c34, ca, cb, cd⟩ := hrd
  rw [HSs.out.1] at c34 ca cb cd
  clear hA3 hO3 HM HA2
  have HZ := Lib.hid (RBrokeP.box HM3.out (rfin_dn HM3.out.cpu))
  have f36 : w3.frozen? ⟨K.c, 36, none⟩ = false := by obtain ⟨_, _, hC, _⟩ := HM3.out.cpu; exact hC.blk.free 36
  obtain ⟨y36, c36⟩ : ∃ y, w3.cell? ⟨K.c, 36, none⟩ = some y := by obtain ⟨_, _, hC, _⟩ := HM3.out.cpu; exact ⟨_, hC.blk.dn⟩
  go_wp2
  go_ret
  exact ⟨rfl, by rw [HEx.out]; have h := HZ.out.1; rw [HSs.out.1] at h; exact h, HO2.out.trans HZ.out.2⟩
set_option maxHeartbeats 4000000 in
theorem rstep_load (op : Nat) (kd : Nat) (k1 k2 : Nat) (imm : Int) (hd : st.s.dn = 0) (hA : RCpuAt w K F st)
    (hfe : Calls Tryz.prog 81 #[.pointer (some ⟨K.c, 0, none⟩)] w (RFetP w K F v true st1))
    (hde : ∀ w, Calls Tryz.prog 55 #[.int .u32 v] w fun e w' => e = .returned (.tuple #[.agg #[.int .i64 op, .int .i64 kd, .int .i64 k1, .int .i64 k2, .int .i64 imm], .int .i64 0]) ∧ Below w.heap.size w w')
    (h1 : k1 < 32) (h2 : k2 < 32) (hkd : kd < 32) (hi : IsI imm) (hl : st1.lk.length < 90000000) (hlo : 25 ≤ op) (hhi : op < 29) :
    Calls Tryz.prog 40 #[.pointer (some ⟨K.c, 0, none⟩)] w (RBrokeP w K F (execC K.T ⟨op, kd, k1, k2, imm⟩ (showC st1 0 st1.s.pc 0))) := by
  have HEx := (show execC K.T ⟨op, kd, k1, k2, imm⟩ (showC st1 0 st1.s.pc 0) = (match loadM K.T st1.B (sumP st1.s ⟨op, kd, k1, k2, imm⟩) (lenOf op) st1.s.own 1 with | none => broke (showC (showC st1 0 st1.s.pc 0) 1 (sumP st1.s ⟨op, kd, k1, k2, imm⟩) 0) | some y => withS (showC (showC st1 0 st1.s.pc 0) 1 (sumP st1.s ⟨op, kd, k1, k2, imm⟩) 0) (goTo (setR st1.s kd (loadV op y)) (nextP st1.s))) from by
    have e : (showC st1 0 st1.s.pc 0).s = st1.s := by unfold showC; split <;> rfl
    have e2 : (showC st1 0 st1.s.pc 0).B = st1.B := by unfold showC; split <;> rfl
    unfold execC
    rw [if_neg (show ¬ op < 16 by omega), if_neg (show ¬ op < 25 by omega), if_pos (show op < 29 by omega)]
    have e3 : ∀ a b c, (showC (showC st1 0 st1.s.pc 0) a b c).s = st1.s := fun a b c => by rw [← e]; unfold showC; split <;> rfl
    unfold writeC
    simp only [e, e2, e3]
    generalize loadM K.T st1.B (sumP st1.s ⟨op, kd, k1, k2, imm⟩) (lenOf op) st1.s.own 1 = o
    cases o <;> rfl)
  have o1 : (0 : Int) ≤ op := by omega
  have o2 : ¬ (op : Int) ≤ 15 := by omega
  have o3 : ¬ (op : Int) ≤ 24 := by omega
  have o4 : (op : Int) ≤ 31 := by omega
  have o5 : (op : Int) ≤ 37 := by omega
  have o6 : (op : Int) ≤ 28 := by omega
  have o7 : ((op : Int) == 38) = false := by rw [beq_eq_false_iff_ne]; omega
  have o8 : ((op : Int) == 39) = false := by rw [beq_eq_false_iff_ne]; omega
  have o9 : ((op : Int) == 40) = false := by rw [beq_eq_false_iff_ne]; omega
  have o10 : ((op : Int) == 41) = false := by rw [beq_eq_false_iff_ne]; omega
  have o11 : ((op : Int) == 42) = false := by rw [beq_eq_false_iff_ne]; omega
  have hdn : w.cell? ⟨K.c, 36, none⟩ = some (.int .i64 0) := by obtain ⟨_, _, hC, _⟩ := hA; rw [← hd]; exact hC.blk.dn
  obtain ⟨st2, hst⟩ : ∃ st2, st2 = showC st1 0 st1.s.pc 0 := ⟨_, rfl⟩
  have HS := Lib.hid hst
  have HSs := Lib.hid (show st2.s = st1.s ∧ st2.B = st1.B ∧ st2.lk.length ≤ st1.lk.length + 1 by rw [hst]; unfold showC; split <;> simp)
  rw [← hst] at HEx ⊢
  replace HEx := Lib.hid HEx
  have HFe := Lib.hid hfe
  have HDe := Lib.hid hde
  have HL := Lib.hid hl
  have HK := Lib.hid (And.intro (show kd < 32 from hkd) (And.intro h1 h2))
  have HI := Lib.hid hi
  clear hst hd hA hfe hde hl hi
  go_enter Tryz.func40, Tryz.ntmps40
  go_wp2_with fail
  refine HFe.out.mono ?_
  rintro e w1 ⟨rfl, hA1, hO1⟩
  have HA1 := Lib.hid hA1
  have HO1 := Lib.hid hO1
  clear hA1 hO1 hdn
  go_wp2_with fail
  refine (HDe.out w1).mono ?_
  rintro e w2 ⟨rfl, hb2⟩
  have HA2 := Lib.hid (HA1.out.below hb2)
  have HO2 := Lib.hid (HO1.out.trans (Out.of_below (F := F) hb2))
  have HM := Lib.hid (RMid.start (op := op) (rd := kd) (r1 := k1) (r2 := k2) (imm := imm) HA2.out)
  have HW := Lib.hid HA2.out.wf
  have hrd := HM.out.rd HK.out.1 HK.out.2.1 HK.out.2.2
  obtain ⟨⟨x0, x1, x2, x3, x4⟩, c34, ca, cb, cd⟩ := hrd
  clear hb2 HA1 HO1
  go_wp2_with fail
  clear x0 x1 x2 x3 x4 c34 ca cb cd
  refine (rshow_any K _ st1 0 st1.s.pc 0 _ HM.out.cpu (by have := HL.out; omega)).mono ?_
  rw [← HS.out]
  rintro e w3 ⟨rfl, hA3, hO3⟩
  have HM3 := Lib.hid (HM.out.step hA3 hO3)
  have hrd := HM3.out.rd HK.out.1 HK.out.2.1 HK.out.2.2
  obtain ⟨⟨x0, x1, x2, x3, x4⟩, c34, ca, cb, cd⟩ := hrd
  rw [HSs.out.1] at c34 ca cb cd
  clear hA3 hO3 HM HA2
  have q1 : (0 : Int) ≤ k1 := by omega
  have q2 : (k1 : Int) < 32 := by omega
  have q3 : (0 : Int) ≤ k2 := by omega
  have q4 : (k2 : Int) < 32 := by omega
  have q5 : (0 : Int) ≤ kd := by omega
  have q6 : (kd : Int) < 32 := by omega
  go_wp2
  go_quiet (fail)
  go_wp2
  go_quiet (fail)
  go_wp2
  go_quiet (fail)
  go_wp2_with fail
  clear x0 x1 x2 x3 x4 c34 ca cb cd
  refine (rtouch_ld K _ st2 _ op kd k1 k2 imm (by omega) (by omega) HK.out.2.1 (HM3.out.drewN _).cpu (by have := HL.out; have := HSs.out.2.2; omega)).mono ?_
  rw [HSs.out.1, HSs.out.2.1]
  have HS3 := Lib.hid (show (showC st2 1 (sumP st1.s ⟨op, kd, k1, k2, imm⟩) 0).s = st1.s by rw [← HSs.out.1]; unfold showC; split <;> rfl)
  generalize showC st2 1 (sumP st1.s ⟨op, kd, k1, k2, imm⟩) 0 = st3 at *
  cases ho : loadM K.T st1.B (sumP st1.s ⟨op, kd, k1, k2, imm⟩) (lenOf op) st1.s.own 1 with
  | none =>
    rw [ho] at HEx
    rintro e w4 ⟨y, rfl, hy, hA4, hO4⟩
    have HM4 := Lib.hid ((HM3.out.drewN _).step hA4 hO4)
    clear hA4 hO4 HM3 hy ho
    go_wp2_with fail
    refine (rbroken_any K _ st3 _ HM4.out.cpu).mono ?_
    rintro e w5 ⟨rfl, hA5, hO5⟩
    have HZ := Lib.hid (RBrokeP.box HM4.out ⟨hA5, hO5⟩)
    clear hA5 hO5
    go_wp2
    go_ret
    exact ⟨rfl, by rw [HEx.out]; exact HZ.out.1, HO2.out.trans HZ.out.2⟩
  | some y =>
    rw [ho] at HEx
    rintro e w4 ⟨z, rfl, hy, hA4, hO4⟩
    obtain rfl := hy y rfl
    have HM4 := Lib.hid ((HM3.out.drewN _).step hA4 hO4)
    have HV := Lib.hid (show IsU (loadV op y) from isU_modU' _)
    have HP := Lib.hid (show IsU (nextP st1.s) from isU_modU' _)
    have HNx := Lib.hid (show IntKind.u64.wrap (st1.s.pc + 4) = nextP st1.s from IntKind.wrap_u64 _)
    rw [HNx.out]
    clear hA4 hO4 HM3 hy ho
    by_cases hz : kd = 0
    · subst hz
      have HZ := Lib.hid (RBrokeP.box HM4.out (rfin_no (v := loadV op y) HM4.out.cpu HP.out))
      obtain ⟨⟨x0, x1, x2, x3, x4⟩, c34, ca, cb, cd⟩ := HM4.out.rd HK.out.1 HK.out.2.1 HK.out.2.2
      have f34 : w4.frozen? ⟨K.c, 34, none⟩ = false := by obtain ⟨_, _, hC, _⟩ := HM4.out.cpu; exact hC.blk.free 34
      go_wp2
      go_ret
      exact ⟨rfl, by rw [HEx.out]; have h := HZ.out.1; rw [HS3.out] at h; exact h, HO2.out.trans HZ.out.2⟩
    · have hz1 : ((kd : Int) != 0) = true := by rw [bne_iff_ne]; omega
      have HZ := Lib.hid (RBrokeP.box (HM4.out.drewN 1) (rfin_yes (HM4.out.drewN 1).cpu hz HK.out.1 HV.out HP.out))
      obtain ⟨⟨x0, x1, x2, x3, x4⟩, c34, ca, cb, cd⟩ := HM4.out.rd HK.out.1 HK.out.2.1 HK.out.2.2
      have f34 : w4.frozen? ⟨K.c, 34, none⟩ = false := by obtain ⟨_, _, hC, _⟩ := HM4.out.cpu; exact hC.blk.free 34
      have fkd : w4.frozen? ⟨K.c, 2 + kd, none⟩ = false := by obtain ⟨_, _, hC, _⟩ := HM4.out.cpu; exact hC.blk.free (2 + kd)
      go_wp2
      go_region
      go_wp2
      go_ret
      exact ⟨rfl, by rw [HEx.out]; have h := HZ.out.1; rw [HS3.out] at h; exact h, HO2.out.trans HZ.out.2⟩
set_option maxHeartbeats 4000000 in
theorem rstep_store (op : Nat) (k1 k2 : Nat) (imm : Int) (hd : st.s.dn = 0) (hA : RCpuAt w K F st)
    (hfe : Calls Tryz.prog 81 #[.pointer (some ⟨K.c, 0, none⟩)] w (RFetP w K F v true st1))
    (hde : ∀ w, Calls Tryz.prog 55 #[.int .u32 v] w fun e w' => e = .returned (.tuple #[.agg #[.int .i64 op, .int .i64 0, .int .i64 k1, .int .i64 k2, .int .i64 imm], .int .i64 0]) ∧ Below w.heap.size w w')
    (h1 : k1 < 32) (h2 : k2 < 32) (hi : IsI imm) (hl : st1.lk.length < 90000000) (hlo : 29 ≤ op) (hhi : op < 32) :
    Calls Tryz.prog 40 #[.pointer (some ⟨K.c, 0, none⟩)] w (RBrokeP w K F (execC K.T ⟨op, 0, k1, k2, imm⟩ (showC st1 0 st1.s.pc 0))) := by
  have HEx := (show execC K.T ⟨op, 0, k1, k2, imm⟩ (showC st1 0 st1.s.pc 0) = (match storeM K.T st1.B (sumP st1.s ⟨op, 0, k1, k2, imm⟩) (lenOf op) st1.s.own (nth st1.s.R k2) with | none => broke (showC (showC st1 0 st1.s.pc 0) 1 (sumP st1.s ⟨op, 0, k1, k2, imm⟩) 0) | some B' => withS (withB (showC (showC st1 0 st1.s.pc 0) 1 (sumP st1.s ⟨op, 0, k1, k2, imm⟩) 0) B') (goTo st1.s (nextP st1.s))) from by
    have e : (showC st1 0 st1.s.pc 0).s = st1.s := by unfold showC; split <;> rfl
    have e2 : (showC st1 0 st1.s.pc 0).B = st1.B := by unfold showC; split <;> rfl
    unfold execC
    rw [if_neg (show ¬ op < 16 by omega), if_neg (show ¬ op < 25 by omega), if_neg (show ¬ op < 29 by omega), if_pos (show op < 32 by omega)]
    have e3 : ∀ a b c, (showC (showC st1 0 st1.s.pc 0) a b c).s = st1.s := fun a b c => by rw [← e]; unfold showC; split <;> rfl
    simp only [e, e2, reg_nat]
    generalize storeM K.T st1.B (sumP st1.s ⟨op, 0, k1, k2, imm⟩) (lenOf op) st1.s.own (nth st1.s.R k2) = o
    cases o <;> rfl)
  obtain ⟨kd, hkd⟩ : ∃ kd : Nat, kd = 0 := ⟨0, rfl⟩
  have o1 : (0 : Int) ≤ op := by omega
  have o2 : ¬ (op : Int) ≤ 15 := by omega
  have o3 : ¬ (op : Int) ≤ 24 := by omega
  have o4 : (op : Int) ≤ 31 := by omega
  have o5 : (op : Int) ≤ 37 := by omega
  have o6 : ¬ (op : Int) ≤ 28 := by omega
  have o7 : ((op : Int) == 38) = false := by rw [beq_eq_false_iff_ne]; omega
  have o8 : ((op : Int) == 39) = false := by rw [beq_eq_false_iff_ne]; omega
  have o9 : ((op : Int) == 40) = false := by rw [beq_eq_false_iff_ne]; omega
  have o10 : ((op : Int) == 41) = false := by rw [beq_eq_false_iff_ne]; omega
  have o11 : ((op : Int) == 42) = false := by rw [beq_eq_false_iff_ne]; omega
  have hdn : w.cell? ⟨K.c, 36, none⟩ = some (.int .i64 0) := by obtain ⟨_, _, hC, _⟩ := hA; rw [← hd]; exact hC.blk.dn
  obtain ⟨st2, hst⟩ : ∃ st2, st2 = showC st1 0 st1.s.pc 0 := ⟨_, rfl⟩
  have HS := Lib.hid hst
  have HSs := Lib.hid (show st2.s = st1.s ∧ st2.B = st1.B ∧ st2.lk.length ≤ st1.lk.length + 1 by rw [hst]; unfold showC; split <;> simp)
  rw [← hst] at HEx ⊢
  replace HEx := Lib.hid HEx
  have HFe := Lib.hid hfe
  have HDe := Lib.hid hde
  have HL := Lib.hid hl
  have HK := Lib.hid (And.intro (show 0 < 32 from (by omega)) (And.intro h1 h2))
  have HI := Lib.hid hi
  clear hst hd hA hfe hde hl hi
  go_enter Tryz.func40, Tryz.ntmps40
  go_wp2_with fail
  refine HFe.out.mono ?_
  rintro e w1 ⟨rfl, hA1, hO1⟩
  have HA1 := Lib.hid hA1
  have HO1 := Lib.hid hO1
  clear hA1 hO1 hdn
  go_wp2_with fail
  refine (HDe.out w1).mono ?_
  rintro e w2 ⟨rfl, hb2⟩
  have HA2 := Lib.hid (HA1.out.below hb2)
  have HO2 := Lib.hid (HO1.out.trans (Out.of_below (F := F) hb2))
  have HM := Lib.hid (RMid.start (op := op) (rd := 0) (r1 := k1) (r2 := k2) (imm := imm) HA2.out)
  have HW := Lib.hid HA2.out.wf
  have hrd := HM.out.rd HK.out.1 HK.out.2.1 HK.out.2.2
  obtain ⟨⟨x0, x1, x2, x3, x4⟩, c34, ca, cb, cd⟩ := hrd
  clear hb2 HA1 HO1
  go_wp2_with fail
  clear x0 x1 x2 x3 x4 c34 ca cb cd
  refine (rshow_any K _ st1 0 st1.s.pc 0 _ HM.out.cpu (by have := HL.out; omega)).mono ?_
  rw [← HS.out]
  rintro e w3 ⟨rfl, hA3, hO3⟩
  have HM3 := Lib.hid (HM.out.step hA3 hO3)
  have hrd := HM3.out.rd HK.out.1 HK.out.2.1 HK.out.2.2
  obtain ⟨⟨x0, x1, x2, x3, x4⟩, c34, ca, cb, cd⟩ := hrd
  rw [HSs.out.1] at c34 ca cb cd
  clear hA3 hO3 HM HA2
  have q1 : (0 : Int) ≤ k1 := by omega
  have q2 : (k1 : Int) < 32 := by omega
  have q3 : (0 : Int) ≤ k2 := by omega
  have q4 : (k2 : Int) < 32 := by omega
  go_wp2
  go_quiet (fail)
  go_wp2
  go_quiet (fail)
  go_wp2
  go_quiet (fail)
  go_wp2_with fail
  clear x0 x1 x2 x3 x4 c34 ca cb cd
  refine (rtouch_st K _ st2 _ op 0 k1 k2 imm (by omega) (by omega) HK.out.2.1 HK.out.2.2 (HM3.out.drewN _).cpu (by have := HL.out; have := HSs.out.2.2; omega)).mono ?_
  rw [HSs.out.1, HSs.out.2.1]
  have HS3 := Lib.hid (show (showC st2 1 (sumP st1.s ⟨op, 0, k1, k2, imm⟩) 0).s = st1.s by rw [← HSs.out.1]; unfold showC; split <;> rfl)
  generalize showC st2 1 (sumP st1.s ⟨op, 0, k1, k2, imm⟩) 0 = st3 at *
  cases ho : storeM K.T st1.B (sumP st1.s ⟨op, 0, k1, k2, imm⟩) (lenOf op) st1.s.own (nth st1.s.R k2) with
  | none =>
    rw [ho] at HEx
    rintro e w4 ⟨rfl, hA4, hO4⟩
    have HM4 := Lib.hid ((HM3.out.drewN _).step hA4 hO4)
    clear hA4 hO4 HM3 ho
    go_wp2_with fail
    refine (rbroken_any K _ st3 _ HM4.out.cpu).mono ?_
    rintro e w5 ⟨rfl, hA5, hO5⟩
    have HZ := Lib.hid (RBrokeP.box HM4.out ⟨hA5, hO5⟩)
    clear hA5 hO5
    go_wp2
    go_ret
    exact ⟨rfl, by rw [HEx.out]; exact HZ.out.1, HO2.out.trans HZ.out.2⟩
  | some B' =>
    rw [ho] at HEx
    rintro e w4 ⟨rfl, hA4, hO4⟩
    have HM4 := Lib.hid (show RMid w2 w4 K F op (0 : Nat) k1 k2 imm (withB st3 B') from (HM3.out.drewN _).step hA4 hO4)
    have HP := Lib.hid (show IsU (nextP st1.s) from isU_modU' _)
    have HNx := Lib.hid (show IntKind.u64.wrap (st1.s.pc + 4) = nextP st1.s from IntKind.wrap_u64 _)
    have HS4 := Lib.hid (show (withB st3 B').s = st1.s from HS3.out)
    rw [HNx.out]
    clear hA4 hO4 HM3 ho
    have HZ := Lib.hid (RBrokeP.box HM4.out (rfin_no (v := 0) HM4.out.cpu HP.out))
    obtain ⟨⟨x0, x1, x2, x3, x4⟩, c34, ca, cb, cd⟩ := HM4.out.rd HK.out.1 HK.out.2.1 HK.out.2.2
    have f34 : w4.frozen? ⟨K.c, 34, none⟩ = false := by obtain ⟨_, _, hC, _⟩ := HM4.out.cpu; exact hC.blk.free 34
    go_wp2
    go_ret
    exact ⟨rfl, by rw [HEx.out]; have h := HZ.out.1; rw [HS4.out] at h; rw [setR_zero] at h; exact h, HO2.out.trans HZ.out.2⟩
end
end Go.Proofs.YtoeagbcjnffpaaaGreatDoor
