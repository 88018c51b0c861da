/- Layer 5's reference: what touch of its processor does. -/
import Derived.Test.YtoeagbcjnffpaaaGreatDoorRCpuD
import Derived.Test.YtoeagbcjnffpaaaGreatDoorCpuE
import Derived.Test.YtoeagbcjnffpaaaGreatDoorBitA
namespace Go.Proofs.YtoeagbcjnffpaaaGreatDoor
set_option maxRecDepth 100000
open Go.RowKit Go.Maps
set_option linter.unusedVariables false
section
variable {w w' w1 w2 w0 : World} {K : RK} {ve vl : Value} {st st' : St} {F : Nat → Prop} {x : X}
theorem RCpuAt.narrow (h : RCpuAt w K F st) (o : Obj) : RCpuAt (w.alloc o) K (NB F w.heap.size) st := by
  obtain ⟨ve, vl, hC, hF⟩ := h
  have o1 := hC.blk.lt
  have o2 := hC.mem.1.row.lt
  have o3 := fun b hb => (ownBlock_lt hC.evr (b := b) hb).1
  have o4 := fun b hb => (ownBlock_lt hC.lkr (b := b) hb).1
  refine ⟨ve, vl, hC.below ((Below.refl _ _).alloc (Nat.le_refl _) _), ⟨hF.1, by omega⟩, ⟨hF.2.1, by omega⟩, fun b hb => ⟨hF.2.2.1 b hb, by have := o3 b hb; omega⟩, fun b hb => ⟨hF.2.2.2.1 b hb, by have := o4 b hb; omega⟩, fun b hb => ?_⟩
  simp at hb
  exact ⟨hF.2.2.2.2 b (by omega), by omega⟩
theorem RCpuAt.widen {g : Nat} (h : RCpuAt w K (NB F g) st) : RCpuAt w K F st := by
  obtain ⟨ve, vl, hC, h1, h2, h3, h4, h5⟩ := h
  exact ⟨ve, vl, hC, h1.1, h2.1, fun b hb => (h3 b hb).1, fun b hb => (h4 b hb).1, fun b hb => (h5 b hb).1⟩
/-- an instruction's box and the processor -/
structure RMid (w0 w : World) (K : RK) (F : Nat → Prop) (op rd r1 r2 imm : Int) (st : St) : Prop where
  ins : InsC w w0.heap.size op rd r1 r2 imm
  cpu : RCpuAt w K (NB F w0.heap.size) st
  out : Out F w0 w
variable {op rd r1 r2 imm : Int}
theorem RMid.start (h : RCpuAt w0 K F st) : RMid w0 (w0.alloc (.cells #[.int .i64 op, .int .i64 rd, .int .i64 r1, .int .i64 r2, .int .i64 imm] 74)) K F op rd r1 r2 imm st :=
  ⟨insC_new, h.narrow _, Out.of_below ((Below.refl _ w0).alloc (Nat.le_refl _) _)⟩
theorem RMid.step (h : RMid w0 w K F op rd r1 r2 imm st) (hA : RCpuAt w' K (NB F w0.heap.size) st') (hO : Out (NB F w0.heap.size) w w') : RMid w0 w' K F op rd r1 r2 imm st' := ⟨h.ins.out hO, hA, h.out.trans hO.widen⟩
theorem RMid.below (h : RMid w0 w K F op rd r1 r2 imm st) (hb : Below w.heap.size w w') : RMid w0 w' K F op rd r1 r2 imm st := h.step (h.cpu.below hb) (.of_below hb)
theorem RMid.drewN (h : RMid w0 w K F op rd r1 r2 imm st) (n : Nat) : RMid w0 (w.drewN n) K F op rd r1 r2 imm st := h.below (bel_drewN (Below.refl _ _) n)
end
theorem modU_sgn64 {v : Int} (h : IsU v) : modU (sgn v 64) = v := by
  obtain ⟨h0, h1⟩ := h
  unfold sgn modU
  rw [show (64 : Int).toNat = 64 from rfl, show (2 : Nat) ^ 64 = 18446744073709551616 from rfl]
  split <;> omega
abbrev RS5 (w0 : World) (K : RK) (F : Nat → Prop) (op rd r1 r2 imm : Int) (ve vl : Value) (st : St) (ow : Bool) (w : World) : Prop :=
  (w.cell? ⟨K.c, 0, none⟩ = some (.pointer (some ⟨K.r, 0, none⟩)) ∧ w.cell? ⟨K.c, 35, none⟩ = some (.bool ow)) ∧ RMid w0 w K F op rd r1 r2 imm st ∧ RCpuIs w K ve vl st ∧ st.s.own = ow
section
variable {w w' w0 : World} {K : RK} {ve vl : Value} {st : St} {F : Nat → Prop} {op rd r1 r2 imm : Int} {ow : Bool}
theorem rs5_of (hM : RMid w0 w K F op rd r1 r2 imm st) (hC : RCpuIs w K ve vl st) (ho : st.s.own = ow) : RS5 w0 K F op rd r1 r2 imm ve vl st ow w := ⟨⟨hC.blk.mem, by rw [← ho]; exact hC.blk.own⟩, hM, hC, ho⟩
theorem rs5_below (h : RS5 w0 K F op rd r1 r2 imm ve vl st ow w) (hb : Below w.heap.size w w') : RS5 w0 K F op rd r1 r2 imm ve vl st ow w' := rs5_of (h.2.1.below hb) (h.2.2.1.below hb) h.2.2.2
theorem rs5_drew (h : RS5 w0 K F op rd r1 r2 imm ve vl st ow w) : RS5 w0 K F op rd r1 r2 imm ve vl st ow w.drew := rs5_below h (bel_drewN (Below.refl _ _) 1)
theorem rs5_drewN (h : RS5 w0 K F op rd r1 r2 imm ve vl st ow w) (n : Nat) : RS5 w0 K F op rd r1 r2 imm ve vl st ow (w.drewN n) := rs5_below h (bel_drewN (Below.refl _ _) n)
theorem rs5_mem (h : RS5 w0 K F op rd r1 r2 imm ve vl st ow w) : RFl w K.r K.tb K.to K.tc K.bb K.bc K.n K.T st.B := h.2.2.1.mem
theorem rs5_mem' (h : RS5 w0 K F op rd r1 r2 imm ve vl st ow w) : RFl w.drew K.r K.tb K.to K.tc K.bb K.bc K.n K.T st.B := (rs5_drew h).2.2.1.mem
end
/-- what touch answers -/
def RTouchP (w : World) (K : RK) (F : Nat → Prop) (op : Nat) (o : Option Int) (st : St) (e : Ending) (w' : World) : Prop :=
  ∃ y, e = .returned (.tuple #[.int .u64 y, .bool o.isSome]) ∧ (∀ v, o = some v → y = loadV op v) ∧ RCpuAt w' K F st ∧ Out F w w'
theorem ret_t {a b : Int} {c : Bool} (h : a = b) : Ending.returned (.tuple #[.int .u64 a, .bool c]) = Ending.returned (.tuple #[.int .u64 b, .bool c]) := by rw [h]
section
variable (K : RK) (F : Nat → Prop) (st : St) (w : World)
set_option maxHeartbeats 2000000 in
theorem rtl25 (rd r2 imm : Int) (k1 : Nat) (hk : k1 < 32) (P : Int) (hP : modU (nth st.s.R k1 + imm) = P) (o : Option Int) (ho : loadM K.T st.B P 1 st.s.own 1 = o) (hA : RCpuAt w K F st) (hl : st.lk.length < 100000000) :
    Calls Tryz.prog 86 #[.pointer (some ⟨K.c, 0, none⟩), .agg #[.int .i64 25, .int .i64 rd, .int .i64 k1, .int .i64 r2, .int .i64 imm]] w (RTouchP w K F 25 o (showC st 1 P 0)) := by
  have HM := Lib.hid (RMid.start (op := 25) (rd := rd) (r1 := k1) (r2 := r2) (imm := imm) hA)
  have HP := Lib.hid (show IsU P by rw [← hP]; exact isU_modU' _)
  have HE := Lib.hid (show IntKind.u64.wrap (nth st.s.R k1 + IntKind.u64.wrap imm) = P by rw [IntKind.wrap_u64, IntKind.wrap_u64, ← hP]; unfold modU; omega)
  have a0 : (w.alloc (.cells #[.int .i64 25, .int .i64 rd, .int .i64 k1, .int .i64 r2, .int .i64 imm] 74)).cell? ⟨K.c, 2 + k1, none⟩ = some (.int .u64 (nth st.s.R k1)) := by
    obtain ⟨_, _, hC, _⟩ := HM.out.cpu
    exact hC.blk.reg hk
  have a1 : (0 : Int) ≤ k1 := by omega
  have a2 : (k1 : Int) < 32 := by omega
  obtain ⟨x0, x1, x2, x3, x4⟩ := HM.out.ins
  have HL := Lib.hid hl
  obtain ⟨st1, hst⟩ : ∃ st1, st1 = showC st 1 P 0 := ⟨_, rfl⟩
  have HS := Lib.hid hst
  have HSs := Lib.hid (show st1.s = st.s ∧ st1.B = st.B by rw [hst]; unfold showC; split <;> exact ⟨rfl, rfl⟩)
  rw [← hst]
  obtain ⟨ow, how⟩ : ∃ ow, st.s.own = ow := ⟨_, rfl⟩
  have HOw := Lib.hid how
  clear hst hP hk how
  cases o with
  | none =>
    have HLd := Lib.hid (fun w' (h : RFl w' K.r K.tb K.to K.tc K.bb K.bc K.n K.T st1.B) => rload_is P 1 st1.s.own HP.out (by omega) w' h)
    rw [HSs.out.1, HSs.out.2, ho, HOw.out, ← HSs.out.2] at HLd
    clear hA hl ho
    go_enter Tryz.func86, Tryz.ntmps86
    go_wp2
    go_quiet (fail)
    go_wp2_with fail
    rw [HE.out]
    refine (rshow_any K _ st 1 P 0 _ (HM.out.drewN _).cpu HL.out).mono ?_
    rw [← HS.out]
    rintro e w2 ⟨rfl, hA2, hO2⟩
    have HM2 := Lib.hid ((HM.out.drewN _).step hA2 hO2)
    obtain ⟨ve, vl, hC2, hF2⟩ := hA2
    have HC2 := Lib.hid hC2
    clear hO2 a0 a1 a2 x0 x1 x2 x3 x4 HM hF2 hC2
    have hbb : Below w2.heap.size w2 (w2.alloc (.cells #[.int .i64 1, .int .i64 1, .int .i64 4, .int .i64 8, .int .i64 1, .int .i64 4, .int .i64 8] 3)) := (Below.refl _ _).alloc (Nat.le_refl _) _
    have HM3 := Lib.hid (HM2.out.below hbb)
    have HC3 := Lib.hid (HC2.out.below hbb)
    clear HM2 HC2 hbb
    obtain ⟨x0, x1, x2, x3, x4⟩ := HM3.out.ins
    go_wp2
    clear x0 x1 x2 x3 x4
    generalize (w2.alloc (.cells #[.int .i64 1, .int .i64 1, .int .i64 4, .int .i64 8, .int .i64 1, .int .i64 4, .int .i64 8] 3)) = w3 at *
    have hS : RS5 w K F 25 rd k1 r2 imm ve vl st1 ow w3 := rs5_of HM3.out HC3.out (by rw [HSs.out.1]; exact HOw.out)
    clear HM3 HC3
    go_region_held3 (fun w' => RS5 w K F 25 rd k1 r2 imm ve vl st1 ow w') (first | (with_reducible assumption) | ((with_reducible apply rs5_drew); (with_reducible assumption)) | ((with_reducible apply rs5_drewN); (with_reducible assumption)) | ((with_reducible apply rs5_below); (with_reducible assumption); (with_reducible assumption)))
      (first | (go_at_call 144; (with_reducible refine (HLd.out _ ?hm).mono ?_); (case hm => (first | ((with_reducible apply rs5_mem); (with_reducible assumption)) | ((with_reducible apply rs5_mem'); (with_reducible assumption)))); rintro e w' ⟨rfl, hb⟩))
    rename_i hh
    have HM4 := Lib.hid hh.2.1
    clear hh hS
    obtain ⟨x0, x1, x2, x3, x4⟩ := HM4.out.ins
    go_wp2_with fail
    refine (rsign_yes _ 8 (show IsU 0 from ⟨by omega, by omega⟩) (by omega) (by omega) _).mono ?_
    rintro e v2 ⟨rfl, rfl⟩
    go_wp2
    go_ret2
    exact ⟨_, rfl, (fun v h => by cases h), HM4.out.cpu.widen, HM4.out.out⟩
  | some v =>
    have HU := Lib.hid (rloadM_u (show RFl w K.r K.tb K.to K.tc K.bb K.bc K.n K.T st.B by obtain ⟨_, _, hC, _⟩ := hA; exact hC.mem) ho)
    have HV := Lib.hid (show IntKind.u64.wrap (sgn v 8) = loadV 25 v from by rw [IntKind.wrap_u64]; rfl)
    have HLd := Lib.hid (fun w' (h : RFl w' K.r K.tb K.to K.tc K.bb K.bc K.n K.T st1.B) => rload_is P 1 st1.s.own HP.out (by omega) w' h)
    rw [HSs.out.1, HSs.out.2, ho, HOw.out, ← HSs.out.2] at HLd
    clear hA hl ho
    go_enter Tryz.func86, Tryz.ntmps86
    go_wp2
    go_quiet (fail)
    go_wp2_with fail
    rw [HE.out]
    refine (rshow_any K _ st 1 P 0 _ (HM.out.drewN _).cpu HL.out).mono ?_
    rw [← HS.out]
    rintro e w2 ⟨rfl, hA2, hO2⟩
    have HM2 := Lib.hid ((HM.out.drewN _).step hA2 hO2)
    obtain ⟨ve, vl, hC2, hF2⟩ := hA2
    have HC2 := Lib.hid hC2
    clear hO2 a0 a1 a2 x0 x1 x2 x3 x4 HM hF2 hC2
    have hbb : Below w2.heap.size w2 (w2.alloc (.cells #[.int .i64 1, .int .i64 1, .int .i64 4, .int .i64 8, .int .i64 1, .int .i64 4, .int .i64 8] 3)) := (Below.refl _ _).alloc (Nat.le_refl _) _
    have HM3 := Lib.hid (HM2.out.below hbb)
    have HC3 := Lib.hid (HC2.out.below hbb)
    clear HM2 HC2 hbb
    obtain ⟨x0, x1, x2, x3, x4⟩ := HM3.out.ins
    go_wp2
    clear x0 x1 x2 x3 x4
    generalize (w2.alloc (.cells #[.int .i64 1, .int .i64 1, .int .i64 4, .int .i64 8, .int .i64 1, .int .i64 4, .int .i64 8] 3)) = w3 at *
    have hS : RS5 w K F 25 rd k1 r2 imm ve vl st1 ow w3 := rs5_of HM3.out HC3.out (by rw [HSs.out.1]; exact HOw.out)
    clear HM3 HC3
    go_region_held3 (fun w' => RS5 w K F 25 rd k1 r2 imm ve vl st1 ow w') (first | (with_reducible assumption) | ((with_reducible apply rs5_drew); (with_reducible assumption)) | ((with_reducible apply rs5_drewN); (with_reducible assumption)) | ((with_reducible apply rs5_below); (with_reducible assumption); (with_reducible assumption)))
      (first | (go_at_call 144; (with_reducible refine (HLd.out _ ?hm).mono ?_); (case hm => (first | ((with_reducible apply rs5_mem); (with_reducible assumption)) | ((with_reducible apply rs5_mem'); (with_reducible assumption)))); rintro e w' ⟨rfl, hb⟩))
    rename_i hh
    have HM4 := Lib.hid hh.2.1
    clear hh hS
    obtain ⟨x0, x1, x2, x3, x4⟩ := HM4.out.ins
    go_wp2_with fail
    refine (rsign_yes _ 8 HU.out (by omega) (by omega) _).mono ?_
    rintro e v2 ⟨rfl, rfl⟩
    go_wp2
    go_ret2
    exact ⟨_, rfl, (fun u h => by cases h; exact HV.out), HM4.out.cpu.widen, HM4.out.out⟩
set_option maxHeartbeats 2000000 in
theorem rtl26 (rd r2 imm : Int) (k1 : Nat) (hk : k1 < 32) (P : Int) (hP : modU (nth st.s.R k1 + imm) = P) (o : Option Int) (ho : loadM K.T st.B P 1 st.s.own 1 = o) (hA : RCpuAt w K F st) (hl : st.lk.length < 100000000) :
    Calls Tryz.prog 86 #[.pointer (some ⟨K.c, 0, none⟩), .agg #[.int .i64 26, .int .i64 rd, .int .i64 k1, .int .i64 r2, .int .i64 imm]] w (RTouchP w K F 26 o (showC st 1 P 0)) := by
  have HM := Lib.hid (RMid.start (op := 26) (rd := rd) (r1 := k1) (r2 := r2) (imm := imm) hA)
  have HP := Lib.hid (show IsU P by rw [← hP]; exact isU_modU' _)
  have HE := Lib.hid (show IntKind.u64.wrap (nth st.s.R k1 + IntKind.u64.wrap imm) = P by rw [IntKind.wrap_u64, IntKind.wrap_u64, ← hP]; unfold modU; omega)
  have a0 : (w.alloc (.cells #[.int .i64 26, .int .i64 rd, .int .i64 k1, .int .i64 r2, .int .i64 imm] 74)).cell? ⟨K.c, 2 + k1, none⟩ = some (.int .u64 (nth st.s.R k1)) := by
    obtain ⟨_, _, hC, _⟩ := HM.out.cpu
    exact hC.blk.reg hk
  have a1 : (0 : Int) ≤ k1 := by omega
  have a2 : (k1 : Int) < 32 := by omega
  obtain ⟨x0, x1, x2, x3, x4⟩ := HM.out.ins
  have HL := Lib.hid hl
  obtain ⟨st1, hst⟩ : ∃ st1, st1 = showC st 1 P 0 := ⟨_, rfl⟩
  have HS := Lib.hid hst
  have HSs := Lib.hid (show st1.s = st.s ∧ st1.B = st.B by rw [hst]; unfold showC; split <;> exact ⟨rfl, rfl⟩)
  rw [← hst]
  obtain ⟨ow, how⟩ : ∃ ow, st.s.own = ow := ⟨_, rfl⟩
  have HOw := Lib.hid how
  clear hst hP hk how
  cases o with
  | none =>
    have HLd := Lib.hid (fun w' (h : RFl w' K.r K.tb K.to K.tc K.bb K.bc K.n K.T st1.B) => rload_is P 1 st1.s.own HP.out (by omega) w' h)
    rw [HSs.out.1, HSs.out.2, ho, HOw.out, ← HSs.out.2] at HLd
    clear hA hl ho
    go_enter Tryz.func86, Tryz.ntmps86
    go_wp2
    go_quiet (fail)
    go_wp2_with fail
    rw [HE.out]
    refine (rshow_any K _ st 1 P 0 _ (HM.out.drewN _).cpu HL.out).mono ?_
    rw [← HS.out]
    rintro e w2 ⟨rfl, hA2, hO2⟩
    have HM2 := Lib.hid ((HM.out.drewN _).step hA2 hO2)
    obtain ⟨ve, vl, hC2, hF2⟩ := hA2
    have HC2 := Lib.hid hC2
    clear hO2 a0 a1 a2 x0 x1 x2 x3 x4 HM hF2 hC2
    have hbb : Below w2.heap.size w2 (w2.alloc (.cells #[.int .i64 1, .int .i64 1, .int .i64 4, .int .i64 8, .int .i64 1, .int .i64 4, .int .i64 8] 3)) := (Below.refl _ _).alloc (Nat.le_refl _) _
    have HM3 := Lib.hid (HM2.out.below hbb)
    have HC3 := Lib.hid (HC2.out.below hbb)
    clear HM2 HC2 hbb
    obtain ⟨x0, x1, x2, x3, x4⟩ := HM3.out.ins
    go_wp2
    clear x0 x1 x2 x3 x4
    generalize (w2.alloc (.cells #[.int .i64 1, .int .i64 1, .int .i64 4, .int .i64 8, .int .i64 1, .int .i64 4, .int .i64 8] 3)) = w3 at *
    have hS : RS5 w K F 26 rd k1 r2 imm ve vl st1 ow w3 := rs5_of HM3.out HC3.out (by rw [HSs.out.1]; exact HOw.out)
    clear HM3 HC3
    go_region_held3 (fun w' => RS5 w K F 26 rd k1 r2 imm ve vl st1 ow w') (first | (with_reducible assumption) | ((with_reducible apply rs5_drew); (with_reducible assumption)) | ((with_reducible apply rs5_drewN); (with_reducible assumption)) | ((with_reducible apply rs5_below); (with_reducible assumption); (with_reducible assumption)))
      (first | (go_at_call 144; (with_reducible refine (HLd.out _ ?hm).mono ?_); (case hm => (first | ((with_reducible apply rs5_mem); (with_reducible assumption)) | ((with_reducible apply rs5_mem'); (with_reducible assumption)))); rintro e w' ⟨rfl, hb⟩))
    rename_i hh
    have HM4 := Lib.hid hh.2.1
    clear hh hS
    obtain ⟨x0, x1, x2, x3, x4⟩ := HM4.out.ins
    go_wp2
    go_ret2
    exact ⟨_, rfl, (fun v h => by cases h), HM4.out.cpu.widen, HM4.out.out⟩
  | some v =>
    have HU := Lib.hid (rloadM_u (show RFl w K.r K.tb K.to K.tc K.bb K.bc K.n K.T st.B by obtain ⟨_, _, hC, _⟩ := hA; exact hC.mem) ho)
    have HV := Lib.hid (show v = loadV 26 v from (modU_sgn64 HU.out).symm)
    have HLd := Lib.hid (fun w' (h : RFl w' K.r K.tb K.to K.tc K.bb K.bc K.n K.T st1.B) => rload_is P 1 st1.s.own HP.out (by omega) w' h)
    rw [HSs.out.1, HSs.out.2, ho, HOw.out, ← HSs.out.2] at HLd
    clear hA hl ho
    go_enter Tryz.func86, Tryz.ntmps86
    go_wp2
    go_quiet (fail)
    go_wp2_with fail
    rw [HE.out]
    refine (rshow_any K _ st 1 P 0 _ (HM.out.drewN _).cpu HL.out).mono ?_
    rw [← HS.out]
    rintro e w2 ⟨rfl, hA2, hO2⟩
    have HM2 := Lib.hid ((HM.out.drewN _).step hA2 hO2)
    obtain ⟨ve, vl, hC2, hF2⟩ := hA2
    have HC2 := Lib.hid hC2
    clear hO2 a0 a1 a2 x0 x1 x2 x3 x4 HM hF2 hC2
    have hbb : Below w2.heap.size w2 (w2.alloc (.cells #[.int .i64 1, .int .i64 1, .int .i64 4, .int .i64 8, .int .i64 1, .int .i64 4, .int .i64 8] 3)) := (Below.refl _ _).alloc (Nat.le_refl _) _
    have HM3 := Lib.hid (HM2.out.below hbb)
    have HC3 := Lib.hid (HC2.out.below hbb)
    clear HM2 HC2 hbb
    obtain ⟨x0, x1, x2, x3, x4⟩ := HM3.out.ins
    go_wp2
    clear x0 x1 x2 x3 x4
    generalize (w2.alloc (.cells #[.int .i64 1, .int .i64 1, .int .i64 4, .int .i64 8, .int .i64 1, .int .i64 4, .int .i64 8] 3)) = w3 at *
    have hS : RS5 w K F 26 rd k1 r2 imm ve vl st1 ow w3 := rs5_of HM3.out HC3.out (by rw [HSs.out.1]; exact HOw.out)
    clear HM3 HC3
    go_region_held3 (fun w' => RS5 w K F 26 rd k1 r2 imm ve vl st1 ow w') (first | (with_reducible assumption) | ((with_reducible apply rs5_drew); (with_reducible assumption)) | ((with_reducible apply rs5_drewN); (with_reducible assumption)) | ((with_reducible apply rs5_below); (with_reducible assumption); (with_reducible assumption)))
      (first | (go_at_call 144; (with_reducible refine (HLd.out _ ?hm).mono ?_); (case hm => (first | ((with_reducible apply rs5_mem); (with_reducible assumption)) | ((with_reducible apply rs5_mem'); (with_reducible assumption)))); rintro e w' ⟨rfl, hb⟩))
    rename_i hh
    have HM4 := Lib.hid hh.2.1
    clear hh hS
    obtain ⟨x0, x1, x2, x3, x4⟩ := HM4.out.ins
    go_wp2
    go_ret2
    exact ⟨_, rfl, (fun u h => by cases h; exact HV.out), HM4.out.cpu.widen, HM4.out.out⟩
set_option maxHeartbeats 2000000 in
theorem rtl27 (rd r2 imm : Int) (k1 : Nat) (hk : k1 < 32) (P : Int) (hP : modU (nth st.s.R k1 + imm) = P) (o : Option Int) (ho : loadM K.T st.B P 4 st.s.own 1 = o) (hA : RCpuAt w K F st) (hl : st.lk.length < 100000000) :
    Calls Tryz.prog 86 #[.pointer (some ⟨K.c, 0, none⟩), .agg #[.int .i64 27, .int .i64 rd, .int .i64 k1, .int .i64 r2, .int .i64 imm]] w (RTouchP w K F 27 o (showC st 1 P 0)) := by
  have HM := Lib.hid (RMid.start (op := 27) (rd := rd) (r1 := k1) (r2 := r2) (imm := imm) hA)
  have HP := Lib.hid (show IsU P by rw [← hP]; exact isU_modU' _)
  have HE := Lib.hid (show IntKind.u64.wrap (nth st.s.R k1 + IntKind.u64.wrap imm) = P by rw [IntKind.wrap_u64, IntKind.wrap_u64, ← hP]; unfold modU; omega)
  have a0 : (w.alloc (.cells #[.int .i64 27, .int .i64 rd, .int .i64 k1, .int .i64 r2, .int .i64 imm] 74)).cell? ⟨K.c, 2 + k1, none⟩ = some (.int .u64 (nth st.s.R k1)) := by
    obtain ⟨_, _, hC, _⟩ := HM.out.cpu
    exact hC.blk.reg hk
  have a1 : (0 : Int) ≤ k1 := by omega
  have a2 : (k1 : Int) < 32 := by omega
  obtain ⟨x0, x1, x2, x3, x4⟩ := HM.out.ins
  have HL := Lib.hid hl
  obtain ⟨st1, hst⟩ : ∃ st1, st1 = showC st 1 P 0 := ⟨_, rfl⟩
  have HS := Lib.hid hst
  have HSs := Lib.hid (show st1.s = st.s ∧ st1.B = st.B by rw [hst]; unfold showC; split <;> exact ⟨rfl, rfl⟩)
  rw [← hst]
  obtain ⟨ow, how⟩ : ∃ ow, st.s.own = ow := ⟨_, rfl⟩
  have HOw := Lib.hid how
  clear hst hP hk how
  cases o with
  | none =>
    have HLd := Lib.hid (fun w' (h : RFl w' K.r K.tb K.to K.tc K.bb K.bc K.n K.T st1.B) => rload_is P 4 st1.s.own HP.out (by omega) w' h)
    rw [HSs.out.1, HSs.out.2, ho, HOw.out, ← HSs.out.2] at HLd
    clear hA hl ho
    go_enter Tryz.func86, Tryz.ntmps86
    go_wp2
    go_quiet (fail)
    go_wp2_with fail
    rw [HE.out]
    refine (rshow_any K _ st 1 P 0 _ (HM.out.drewN _).cpu HL.out).mono ?_
    rw [← HS.out]
    rintro e w2 ⟨rfl, hA2, hO2⟩
    have HM2 := Lib.hid ((HM.out.drewN _).step hA2 hO2)
    obtain ⟨ve, vl, hC2, hF2⟩ := hA2
    have HC2 := Lib.hid hC2
    clear hO2 a0 a1 a2 x0 x1 x2 x3 x4 HM hF2 hC2
    have hbb : Below w2.heap.size w2 (w2.alloc (.cells #[.int .i64 1, .int .i64 1, .int .i64 4, .int .i64 8, .int .i64 1, .int .i64 4, .int .i64 8] 3)) := (Below.refl _ _).alloc (Nat.le_refl _) _
    have HM3 := Lib.hid (HM2.out.below hbb)
    have HC3 := Lib.hid (HC2.out.below hbb)
    clear HM2 HC2 hbb
    obtain ⟨x0, x1, x2, x3, x4⟩ := HM3.out.ins
    go_wp2
    clear x0 x1 x2 x3 x4
    generalize (w2.alloc (.cells #[.int .i64 1, .int .i64 1, .int .i64 4, .int .i64 8, .int .i64 1, .int .i64 4, .int .i64 8] 3)) = w3 at *
    have hS : RS5 w K F 27 rd k1 r2 imm ve vl st1 ow w3 := rs5_of HM3.out HC3.out (by rw [HSs.out.1]; exact HOw.out)
    clear HM3 HC3
    go_region_held3 (fun w' => RS5 w K F 27 rd k1 r2 imm ve vl st1 ow w') (first | (with_reducible assumption) | ((with_reducible apply rs5_drew); (with_reducible assumption)) | ((with_reducible apply rs5_drewN); (with_reducible assumption)) | ((with_reducible apply rs5_below); (with_reducible assumption); (with_reducible assumption)))
      (first | (go_at_call 144; (with_reducible refine (HLd.out _ ?hm).mono ?_); (case hm => (first | ((with_reducible apply rs5_mem); (with_reducible assumption)) | ((with_reducible apply rs5_mem'); (with_reducible assumption)))); rintro e w' ⟨rfl, hb⟩))
    rename_i hh
    have HM4 := Lib.hid hh.2.1
    clear hh hS
    obtain ⟨x0, x1, x2, x3, x4⟩ := HM4.out.ins
    go_wp2_with fail
    refine (rsign_yes _ 32 (show IsU 0 from ⟨by omega, by omega⟩) (by omega) (by omega) _).mono ?_
    rintro e v2 ⟨rfl, rfl⟩
    go_wp2
    go_ret2
    exact ⟨_, rfl, (fun v h => by cases h), HM4.out.cpu.widen, HM4.out.out⟩
  | some v =>
    have HU := Lib.hid (rloadM_u (show RFl w K.r K.tb K.to K.tc K.bb K.bc K.n K.T st.B by obtain ⟨_, _, hC, _⟩ := hA; exact hC.mem) ho)
    have HV := Lib.hid (show IntKind.u64.wrap (sgn v 32) = loadV 27 v from by rw [IntKind.wrap_u64]; rfl)
    have HLd := Lib.hid (fun w' (h : RFl w' K.r K.tb K.to K.tc K.bb K.bc K.n K.T st1.B) => rload_is P 4 st1.s.own HP.out (by omega) w' h)
    rw [HSs.out.1, HSs.out.2, ho, HOw.out, ← HSs.out.2] at HLd
    clear hA hl ho
    go_enter Tryz.func86, Tryz.ntmps86
    go_wp2
    go_quiet (fail)
    go_wp2_with fail
    rw [HE.out]
    refine (rshow_any K _ st 1 P 0 _ (HM.out.drewN _).cpu HL.out).mono ?_
    rw [← HS.out]
    rintro e w2 ⟨rfl, hA2, hO2⟩
    have HM2 := Lib.hid ((HM.out.drewN _).step hA2 hO2)
    obtain ⟨ve, vl, hC2, hF2⟩ := hA2
    have HC2 := Lib.hid hC2
    clear hO2 a0 a1 a2 x0 x1 x2 x3 x4 HM hF2 hC2
    have hbb : Below w2.heap.size w2 (w2.alloc (.cells #[.int .i64 1, .int .i64 1, .int .i64 4, .int .i64 8, .int .i64 1, .int .i64 4, .int .i64 8] 3)) := (Below.refl _ _).alloc (Nat.le_refl _) _
    have HM3 := Lib.hid (HM2.out.below hbb)
    have HC3 := Lib.hid (HC2.out.below hbb)
    clear HM2 HC2 hbb
    obtain ⟨x0, x1, x2, x3, x4⟩ := HM3.out.ins
    go_wp2
    clear x0 x1 x2 x3 x4
    generalize (w2.alloc (.cells #[.int .i64 1, .int .i64 1, .int .i64 4, .int .i64 8, .int .i64 1, .int .i64 4, .int .i64 8] 3)) = w3 at *
    have hS : RS5 w K F 27 rd k1 r2 imm ve vl st1 ow w3 := rs5_of HM3.out HC3.out (by rw [HSs.out.1]; exact HOw.out)
    clear HM3 HC3
    go_region_held3 (fun w' => RS5 w K F 27 rd k1 r2 imm ve vl st1 ow w') (first | (with_reducible assumption) | ((with_reducible apply rs5_drew); (with_reducible assumption)) | ((with_reducible apply rs5_drewN); (with_reducible assumption)) | ((with_reducible apply rs5_below); (with_reducible assumption); (with_reducible assumption)))
      (first | (go_at_call 144; (with_reducible refine (HLd.out _ ?hm).mono ?_); (case hm => (first | ((with_reducible apply rs5_mem); (with_reducible assumption)) | ((with_reducible apply rs5_mem'); (with_reducible assumption)))); rintro e w' ⟨rfl, hb⟩))
    rename_i hh
    have HM4 := Lib.hid hh.2.1
    clear hh hS
    obtain ⟨x0, x1, x2, x3, x4⟩ := HM4.out.ins
    go_wp2_with fail
    refine (rsign_yes _ 32 HU.out (by omega) (by omega) _).mono ?_
    rintro e v2 ⟨rfl, rfl⟩
    go_wp2
    go_ret2
    exact ⟨_, rfl, (fun u h => by cases h; exact HV.out), HM4.out.cpu.widen, HM4.out.out⟩
set_option maxHeartbeats 2000000 in
theorem rtl28 (rd r2 imm : Int) (k1 : Nat) (hk : k1 < 32) (P : Int) (hP : modU (nth st.s.R k1 + imm) = P) (o : Option Int) (ho : loadM K.T st.B P 8 st.s.own 1 = o) (hA : RCpuAt w K F st) (hl : st.lk.length < 100000000) :
    Calls Tryz.prog 86 #[.pointer (some ⟨K.c, 0, none⟩), .agg #[.int .i64 28, .int .i64 rd, .int .i64 k1, .int .i64 r2, .int .i64 imm]] w (RTouchP w K F 28 o (showC st 1 P 0)) := by
  have HM := Lib.hid (RMid.start (op := 28) (rd := rd) (r1 := k1) (r2 := r2) (imm := imm) hA)
  have HP := Lib.hid (show IsU P by rw [← hP]; exact isU_modU' _)
  have HE := Lib.hid (show IntKind.u64.wrap (nth st.s.R k1 + IntKind.u64.wrap imm) = P by rw [IntKind.wrap_u64, IntKind.wrap_u64, ← hP]; unfold modU; omega)
  have a0 : (w.alloc (.cells #[.int .i64 28, .int .i64 rd, .int .i64 k1, .int .i64 r2, .int .i64 imm] 74)).cell? ⟨K.c, 2 + k1, none⟩ = some (.int .u64 (nth st.s.R k1)) := by
    obtain ⟨_, _, hC, _⟩ := HM.out.cpu
    exact hC.blk.reg hk
  have a1 : (0 : Int) ≤ k1 := by omega
  have a2 : (k1 : Int) < 32 := by omega
  obtain ⟨x0, x1, x2, x3, x4⟩ := HM.out.ins
  have HL := Lib.hid hl
  obtain ⟨st1, hst⟩ : ∃ st1, st1 = showC st 1 P 0 := ⟨_, rfl⟩
  have HS := Lib.hid hst
  have HSs := Lib.hid (show st1.s = st.s ∧ st1.B = st.B by rw [hst]; unfold showC; split <;> exact ⟨rfl, rfl⟩)
  rw [← hst]
  obtain ⟨ow, how⟩ : ∃ ow, st.s.own = ow := ⟨_, rfl⟩
  have HOw := Lib.hid how
  clear hst hP hk how
  cases o with
  | none =>
    have HLd := Lib.hid (fun w' (h : RFl w' K.r K.tb K.to K.tc K.bb K.bc K.n K.T st1.B) => rload_is P 8 st1.s.own HP.out (by omega) w' h)
    rw [HSs.out.1, HSs.out.2, ho, HOw.out, ← HSs.out.2] at HLd
    clear hA hl ho
    go_enter Tryz.func86, Tryz.ntmps86
    go_wp2
    go_quiet (fail)
    go_wp2_with fail
    rw [HE.out]
    refine (rshow_any K _ st 1 P 0 _ (HM.out.drewN _).cpu HL.out).mono ?_
    rw [← HS.out]
    rintro e w2 ⟨rfl, hA2, hO2⟩
    have HM2 := Lib.hid ((HM.out.drewN _).step hA2 hO2)
    obtain ⟨ve, vl, hC2, hF2⟩ := hA2
    have HC2 := Lib.hid hC2
    clear hO2 a0 a1 a2 x0 x1 x2 x3 x4 HM hF2 hC2
    have hbb : Below w2.heap.size w2 (w2.alloc (.cells #[.int .i64 1, .int .i64 1, .int .i64 4, .int .i64 8, .int .i64 1, .int .i64 4, .int .i64 8] 3)) := (Below.refl _ _).alloc (Nat.le_refl _) _
    have HM3 := Lib.hid (HM2.out.below hbb)
    have HC3 := Lib.hid (HC2.out.below hbb)
    clear HM2 HC2 hbb
    obtain ⟨x0, x1, x2, x3, x4⟩ := HM3.out.ins
    go_wp2
    clear x0 x1 x2 x3 x4
    generalize (w2.alloc (.cells #[.int .i64 1, .int .i64 1, .int .i64 4, .int .i64 8, .int .i64 1, .int .i64 4, .int .i64 8] 3)) = w3 at *
    have hS : RS5 w K F 28 rd k1 r2 imm ve vl st1 ow w3 := rs5_of HM3.out HC3.out (by rw [HSs.out.1]; exact HOw.out)
    clear HM3 HC3
    go_region_held3 (fun w' => RS5 w K F 28 rd k1 r2 imm ve vl st1 ow w') (first | (with_reducible assumption) | ((with_reducible apply rs5_drew); (with_reducible assumption)) | ((with_reducible apply rs5_drewN); (with_reducible assumption)) | ((with_reducible apply rs5_below); (with_reducible assumption); (with_reducible assumption)))
      (first | (go_at_call 144; (with_reducible refine (HLd.out _ ?hm).mono ?_); (case hm => (first | ((with_reducible apply rs5_mem); (with_reducible assumption)) | ((with_reducible apply rs5_mem'); (with_reducible assumption)))); rintro e w' ⟨rfl, hb⟩))
    rename_i hh
    have HM4 := Lib.hid hh.2.1
    clear hh hS
    obtain ⟨x0, x1, x2, x3, x4⟩ := HM4.out.ins
    go_wp2
    go_ret2
    exact ⟨_, rfl, (fun v h => by cases h), HM4.out.cpu.widen, HM4.out.out⟩
  | some v =>
    have HU := Lib.hid (rloadM_u (show RFl w K.r K.tb K.to K.tc K.bb K.bc K.n K.T st.B by obtain ⟨_, _, hC, _⟩ := hA; exact hC.mem) ho)
    have HV := Lib.hid (show v = loadV 28 v from (modU_sgn64 HU.out).symm)
    have HLd := Lib.hid (fun w' (h : RFl w' K.r K.tb K.to K.tc K.bb K.bc K.n K.T st1.B) => rload_is P 8 st1.s.own HP.out (by omega) w' h)
    rw [HSs.out.1, HSs.out.2, ho, HOw.out, ← HSs.out.2] at HLd
    clear hA hl ho
    go_enter Tryz.func86, Tryz.ntmps86
    go_wp2
    go_quiet (fail)
    go_wp2_with fail
    rw [HE.out]
    refine (rshow_any K _ st 1 P 0 _ (HM.out.drewN _).cpu HL.out).mono ?_
    rw [← HS.out]
    rintro e w2 ⟨rfl, hA2, hO2⟩
    have HM2 := Lib.hid ((HM.out.drewN _).step hA2 hO2)
    obtain ⟨ve, vl, hC2, hF2⟩ := hA2
    have HC2 := Lib.hid hC2
    clear hO2 a0 a1 a2 x0 x1 x2 x3 x4 HM hF2 hC2
    have hbb : Below w2.heap.size w2 (w2.alloc (.cells #[.int .i64 1, .int .i64 1, .int .i64 4, .int .i64 8, .int .i64 1, .int .i64 4, .int .i64 8] 3)) := (Below.refl _ _).alloc (Nat.le_refl _) _
    have HM3 := Lib.hid (HM2.out.below hbb)
    have HC3 := Lib.hid (HC2.out.below hbb)
    clear HM2 HC2 hbb
    obtain ⟨x0, x1, x2, x3, x4⟩ := HM3.out.ins
    go_wp2
    clear x0 x1 x2 x3 x4
    generalize (w2.alloc (.cells #[.int .i64 1, .int .i64 1, .int .i64 4, .int .i64 8, .int .i64 1, .int .i64 4, .int .i64 8] 3)) = w3 at *
    have hS : RS5 w K F 28 rd k1 r2 imm ve vl st1 ow w3 := rs5_of HM3.out HC3.out (by rw [HSs.out.1]; exact HOw.out)
    clear HM3 HC3
    go_region_held3 (fun w' => RS5 w K F 28 rd k1 r2 imm ve vl st1 ow w') (first | (with_reducible assumption) | ((with_reducible apply rs5_drew); (with_reducible assumption)) | ((with_reducible apply rs5_drewN); (with_reducible assumption)) | ((with_reducible apply rs5_below); (with_reducible assumption); (with_reducible assumption)))
      (first | (go_at_call 144; (with_reducible refine (HLd.out _ ?hm).mono ?_); (case hm => (first | ((with_reducible apply rs5_mem); (with_reducible assumption)) | ((with_reducible apply rs5_mem'); (with_reducible assumption)))); rintro e w' ⟨rfl, hb⟩))
    rename_i hh
    have HM4 := Lib.hid hh.2.1
    clear hh hS
    obtain ⟨x0, x1, x2, x3, x4⟩ := HM4.out.ins
    go_wp2
    go_ret2
    exact ⟨_, rfl, (fun u h => by cases h; exact HV.out), HM4.out.cpu.widen, HM4.out.out⟩
end
/-- what a store leaves -/
def storedC (o : Option (Nat → List Int)) (st : St) : St := match o with
  | none => st
  | some B' => withB st B'
def RStoreT (w : World) (K : RK) (F : Nat → Prop) (o : Option (Nat → List Int)) (st : St) (e : Ending) (w' : World) : Prop :=
  e = .returned (.tuple #[.int .u64 0, .bool o.isSome]) ∧ RCpuAt w' K F (storedC o st) ∧ Out F w w'
theorem rcstore (K : RK) (F : Nat → Prop) (st : St) (p q : Int) (own : Bool) (v : Int) (o : Option (Nat → List Int)) (w : World) (hp : IsU p) (hv : IsU v) (hq : q = 1 ∨ q = 4 ∨ q = 8) (hA : RCpuAt w K F st) (h : storeM K.T st.B p q own v = o) :
    Calls Tryz.prog 143 #[.pointer (some ⟨K.r, 0, none⟩), .int .u64 p, .int .i64 q, .bool own, .int .u64 v] w fun e w' => e = .returned (.int .i64 (if o.isSome then 0 else 13)) ∧ RCpuAt w' K F (storedC o st) ∧ Out F w w' := by
  cases o with
  | none =>
    have hM : RFl w K.r K.tb K.to K.tc K.bb K.bc K.n K.T st.B := by obtain ⟨_, _, hC, _⟩ := hA; exact hC.mem
    refine (rstore_none p q own v hp hq w hM h).mono ?_
    rintro e w' ⟨rfl, rfl⟩
    exact ⟨rfl, hA, .refl _ _⟩
  | some B' =>
    obtain ⟨ve, vl, hC, hF⟩ := hA
    refine (rstore_some p q own v hp hv hq w hC.mem h).mono ?_
    rintro e w' ⟨rfl, hM, hg⟩
    exact ⟨rfl, ⟨ve, vl, hC.stored hM hg, hF.mono hg.size⟩, .of_grown hg (fun g e => by cases e; exact hF.2.1)⟩
abbrev RS6 (g c r : Nat) (op rd k1 : Int) (k2 : Nat) (imm : Int) (ow : Bool) (v : Int) (w : World) : Prop :=
  (w.cell? ⟨c, 0, none⟩ = some (.pointer (some ⟨r, 0, none⟩)) ∧ w.cell? ⟨c, 35, none⟩ = some (.bool ow) ∧ w.cell? ⟨c, 2 + k2, none⟩ = some (.int .u64 v)) ∧ InsC w g op rd k1 k2 imm
section
variable {w w' w0 : World} {K : RK} {st : St} {F : Nat → Prop} {g c r k2 : Nat} {op rd r1 imm v : Int} {ow : Bool}
theorem rs6_of (hM : RMid w0 w K F op rd r1 k2 imm st) (ho : st.s.own = ow) (hk : k2 < 32) (hv : nth st.s.R k2 = v) : RS6 w0.heap.size K.c K.r op rd r1 k2 imm ow v w := by
  obtain ⟨ve, vl, hC, hF⟩ := hM.cpu
  exact ⟨⟨hC.blk.mem, by rw [← ho]; exact hC.blk.own, by rw [← hv]; exact hC.blk.reg hk⟩, hM.ins⟩
theorem rs6_drew (h : RS6 g c r op rd r1 k2 imm ow v w) : RS6 g c r op rd r1 k2 imm ow v w.drew := h
theorem rs6_drewN (h : RS6 g c r op rd r1 k2 imm ow v w) (n : Nat) : RS6 g c r op rd r1 k2 imm ow v (w.drewN n) := h
end
section
variable (K : RK) (F : Nat → Prop) (st : St) (w : World)
set_option maxHeartbeats 2000000 in
theorem rts29 (rd imm : Int) (k1 k2 : Nat) (hk : k1 < 32) (hk2 : k2 < 32) (P : Int) (hP : modU (nth st.s.R k1 + imm) = P) (o : Option (Nat → List Int)) (ho : storeM K.T st.B P 1 st.s.own (nth st.s.R k2) = o) (hA : RCpuAt w K F st) (hl : st.lk.length < 100000000) :
    Calls Tryz.prog 86 #[.pointer (some ⟨K.c, 0, none⟩), .agg #[.int .i64 29, .int .i64 rd, .int .i64 k1, .int .i64 k2, .int .i64 imm]] w (RStoreT w K F o (showC st 1 P 0)) := by
  have HM := Lib.hid (RMid.start (op := 29) (rd := rd) (r1 := k1) (r2 := k2) (imm := imm) hA)
  have HP := Lib.hid (show IsU P by rw [← hP]; exact isU_modU' _)
  have HV := Lib.hid (show IsU (nth st.s.R k2) by have h := reg_isU hA.wf k2; unfold reg at h; simpa using h)
  have HE := Lib.hid (show IntKind.u64.wrap (nth st.s.R k1 + IntKind.u64.wrap imm) = P by rw [IntKind.wrap_u64, IntKind.wrap_u64, ← hP]; unfold modU; omega)
  have a0 : (w.alloc (.cells #[.int .i64 29, .int .i64 rd, .int .i64 k1, .int .i64 k2, .int .i64 imm] 74)).cell? ⟨K.c, 2 + k1, none⟩ = some (.int .u64 (nth st.s.R k1)) := by
    obtain ⟨_, _, hC, _⟩ := HM.out.cpu
    exact hC.blk.reg hk
  have a1 : (0 : Int) ≤ k1 := by omega
  have a2 : (k1 : Int) < 32 := by omega
  obtain ⟨x0, x1, x2, x3, x4⟩ := HM.out.ins
  have HL := Lib.hid hl
  have HK := Lib.hid hk2
  obtain ⟨st1, hst⟩ : ∃ st1, st1 = showC st 1 P 0 := ⟨_, rfl⟩
  have HS := Lib.hid hst
  have HSs := Lib.hid (show st1.s = st.s ∧ st1.B = st.B by rw [hst]; unfold showC; split <;> exact ⟨rfl, rfl⟩)
  rw [← hst]
  obtain ⟨ow, how⟩ : ∃ ow, st.s.own = ow := ⟨_, rfl⟩
  have HOw := Lib.hid how
  rw [how] at ho
  have HO := Lib.hid ho
  clear hst hP hk hk2 how hA hl ho
  cases o with
  | none =>
    have HSt := Lib.hid (fun w' (h : RCpuAt w' K (NB F w.heap.size) st1) => rcstore K (NB F w.heap.size) st1 P 1 ow (nth st.s.R k2) none w' HP.out HV.out (by omega) h (by rw [HSs.out.2]; exact HO.out))
    have HSo := Lib.hid (show (storedC none st1).s.own = st.s.own from by show st1.s.own = _; rw [HSs.out.1])
    have HSr := Lib.hid (show nth (storedC none st1).s.R k2 = nth st.s.R k2 from by show nth st1.s.R k2 = _; rw [HSs.out.1])
    clear HO
    go_enter Tryz.func86, Tryz.ntmps86
    go_wp2
    go_quiet (fail)
    go_wp2_with fail
    rw [HE.out]
    refine (rshow_any K _ st 1 P 0 _ (HM.out.drewN _).cpu HL.out).mono ?_
    rw [← HS.out]
    rintro e w2 ⟨rfl, hA2, hO2⟩
    have HM2 := Lib.hid ((HM.out.drewN _).step hA2 hO2)
    have hbb : Below w2.heap.size w2 (w2.alloc (.cells #[.int .i64 1, .int .i64 1, .int .i64 4, .int .i64 8, .int .i64 1, .int .i64 4, .int .i64 8] 3)) := (Below.refl _ _).alloc (Nat.le_refl _) _
    have HM3 := Lib.hid (HM2.out.below hbb)
    clear hO2 hA2 a0 a1 a2 x0 x1 x2 x3 x4 HM HM2 hbb
    obtain ⟨x0, x1, x2, x3, x4⟩ := HM3.out.ins
    go_wp2
    clear x0 x1 x2 x3 x4
    generalize (w2.alloc (.cells #[.int .i64 1, .int .i64 1, .int .i64 4, .int .i64 8, .int .i64 1, .int .i64 4, .int .i64 8] 3)) = w3 at *
    have hS : RS6 w.heap.size K.c K.r 29 rd k1 k2 imm ow (nth st.s.R k2) w3 := rs6_of HM3.out (by rw [HSs.out.1]; exact HOw.out) HK.out (by rw [HSs.out.1])
    have HMd := Lib.hid (show RMid w w3.drew K F 29 rd k1 k2 imm st1 from HM3.out.drewN 1)
    have b1 : (0 : Int) ≤ k2 := by omega
    have b2 : (k2 : Int) < 32 := by have := HK.out; omega
    go_region_held3 (fun u => RS6 w.heap.size K.c K.r 29 rd k1 k2 imm ow (nth st.s.R k2) u) (first | (with_reducible assumption) | ((with_reducible apply rs6_drew); (with_reducible assumption)) | ((with_reducible apply rs6_drewN); (with_reducible assumption)))
      (first | (go_at_call 143; (with_reducible refine (HSt.out _ HMd.out.cpu).mono ?_); rintro e w' ⟨rfl, hA4, hO4⟩; have hS4 := rs6_of (HMd.out.step hA4 hO4) (HSo.out.trans HOw.out) HK.out HSr.out))
    have HM4 := Lib.hid (HMd.out.step hA4 hO4)
    clear hS hA4 hO4 HM3
    go_wp2
    go_ret2
    exact ⟨rfl, HM4.out.cpu.widen, HM4.out.out⟩
  | some B' =>
    have HSt := Lib.hid (fun w' (h : RCpuAt w' K (NB F w.heap.size) st1) => rcstore K (NB F w.heap.size) st1 P 1 ow (nth st.s.R k2) (some B') w' HP.out HV.out (by omega) h (by rw [HSs.out.2]; exact HO.out))
    have HSo := Lib.hid (show (storedC (some B') st1).s.own = st.s.own from by show st1.s.own = _; rw [HSs.out.1])
    have HSr := Lib.hid (show nth (storedC (some B') st1).s.R k2 = nth st.s.R k2 from by show nth st1.s.R k2 = _; rw [HSs.out.1])
    clear HO
    go_enter Tryz.func86, Tryz.ntmps86
    go_wp2
    go_quiet (fail)
    go_wp2_with fail
    rw [HE.out]
    refine (rshow_any K _ st 1 P 0 _ (HM.out.drewN _).cpu HL.out).mono ?_
    rw [← HS.out]
    rintro e w2 ⟨rfl, hA2, hO2⟩
    have HM2 := Lib.hid ((HM.out.drewN _).step hA2 hO2)
    have hbb : Below w2.heap.size w2 (w2.alloc (.cells #[.int .i64 1, .int .i64 1, .int .i64 4, .int .i64 8, .int .i64 1, .int .i64 4, .int .i64 8] 3)) := (Below.refl _ _).alloc (Nat.le_refl _) _
    have HM3 := Lib.hid (HM2.out.below hbb)
    clear hO2 hA2 a0 a1 a2 x0 x1 x2 x3 x4 HM HM2 hbb
    obtain ⟨x0, x1, x2, x3, x4⟩ := HM3.out.ins
    go_wp2
    clear x0 x1 x2 x3 x4
    generalize (w2.alloc (.cells #[.int .i64 1, .int .i64 1, .int .i64 4, .int .i64 8, .int .i64 1, .int .i64 4, .int .i64 8] 3)) = w3 at *
    have hS : RS6 w.heap.size K.c K.r 29 rd k1 k2 imm ow (nth st.s.R k2) w3 := rs6_of HM3.out (by rw [HSs.out.1]; exact HOw.out) HK.out (by rw [HSs.out.1])
    have HMd := Lib.hid (show RMid w w3.drew K F 29 rd k1 k2 imm st1 from HM3.out.drewN 1)
    have b1 : (0 : Int) ≤ k2 := by omega
    have b2 : (k2 : Int) < 32 := by have := HK.out; omega
    go_region_held3 (fun u => RS6 w.heap.size K.c K.r 29 rd k1 k2 imm ow (nth st.s.R k2) u) (first | (with_reducible assumption) | ((with_reducible apply rs6_drew); (with_reducible assumption)) | ((with_reducible apply rs6_drewN); (with_reducible assumption)))
      (first | (go_at_call 143; (with_reducible refine (HSt.out _ HMd.out.cpu).mono ?_); rintro e w' ⟨rfl, hA4, hO4⟩; have hS4 := rs6_of (HMd.out.step hA4 hO4) (HSo.out.trans HOw.out) HK.out HSr.out))
    have HM4 := Lib.hid (HMd.out.step hA4 hO4)
    clear hS hA4 hO4 HM3
    go_wp2
    go_ret2
    exact ⟨rfl, HM4.out.cpu.widen, HM4.out.out⟩
set_option maxHeartbeats 2000000 in
theorem rts30 (rd imm : Int) (k1 k2 : Nat) (hk : k1 < 32) (hk2 : k2 < 32) (P : Int) (hP : modU (nth st.s.R k1 + imm) = P) (o : Option (Nat → List Int)) (ho : storeM K.T st.B P 4 st.s.own (nth st.s.R k2) = o) (hA : RCpuAt w K F st) (hl : st.lk.length < 100000000) :
    Calls Tryz.prog 86 #[.pointer (some ⟨K.c, 0, none⟩), .agg #[.int .i64 30, .int .i64 rd, .int .i64 k1, .int .i64 k2, .int .i64 imm]] w (RStoreT w K F o (showC st 1 P 0)) := by
  have HM := Lib.hid (RMid.start (op := 30) (rd := rd) (r1 := k1) (r2 := k2) (imm := imm) hA)
  have HP := Lib.hid (show IsU P by rw [← hP]; exact isU_modU' _)
  have HV := Lib.hid (show IsU (nth st.s.R k2) by have h := reg_isU hA.wf k2; unfold reg at h; simpa using h)
  have HE := Lib.hid (show IntKind.u64.wrap (nth st.s.R k1 + IntKind.u64.wrap imm) = P by rw [IntKind.wrap_u64, IntKind.wrap_u64, ← hP]; unfold modU; omega)
  have a0 : (w.alloc (.cells #[.int .i64 30, .int .i64 rd, .int .i64 k1, .int .i64 k2, .int .i64 imm] 74)).cell? ⟨K.c, 2 + k1, none⟩ = some (.int .u64 (nth st.s.R k1)) := by
    obtain ⟨_, _, hC, _⟩ := HM.out.cpu
    exact hC.blk.reg hk
  have a1 : (0 : Int) ≤ k1 := by omega
  have a2 : (k1 : Int) < 32 := by omega
  obtain ⟨x0, x1, x2, x3, x4⟩ := HM.out.ins
  have HL := Lib.hid hl
  have HK := Lib.hid hk2
  obtain ⟨st1, hst⟩ : ∃ st1, st1 = showC st 1 P 0 := ⟨_, rfl⟩
  have HS := Lib.hid hst
  have HSs := Lib.hid (show st1.s = st.s ∧ st1.B = st.B by rw [hst]; unfold showC; split <;> exact ⟨rfl, rfl⟩)
  rw [← hst]
  obtain ⟨ow, how⟩ : ∃ ow, st.s.own = ow := ⟨_, rfl⟩
  have HOw := Lib.hid how
  rw [how] at ho
  have HO := Lib.hid ho
  clear hst hP hk hk2 how hA hl ho
  cases o with
  | none =>
    have HSt := Lib.hid (fun w' (h : RCpuAt w' K (NB F w.heap.size) st1) => rcstore K (NB F w.heap.size) st1 P 4 ow (nth st.s.R k2) none w' HP.out HV.out (by omega) h (by rw [HSs.out.2]; exact HO.out))
    have HSo := Lib.hid (show (storedC none st1).s.own = st.s.own from by show st1.s.own = _; rw [HSs.out.1])
    have HSr := Lib.hid (show nth (storedC none st1).s.R k2 = nth st.s.R k2 from by show nth st1.s.R k2 = _; rw [HSs.out.1])
    clear HO
    go_enter Tryz.func86, Tryz.ntmps86
    go_wp2
    go_quiet (fail)
    go_wp2_with fail
    rw [HE.out]
    refine (rshow_any K _ st 1 P 0 _ (HM.out.drewN _).cpu HL.out).mono ?_
    rw [← HS.out]
    rintro e w2 ⟨rfl, hA2, hO2⟩
    have HM2 := Lib.hid ((HM.out.drewN _).step hA2 hO2)
    have hbb : Below w2.heap.size w2 (w2.alloc (.cells #[.int .i64 1, .int .i64 1, .int .i64 4, .int .i64 8, .int .i64 1, .int .i64 4, .int .i64 8] 3)) := (Below.refl _ _).alloc (Nat.le_refl _) _
    have HM3 := Lib.hid (HM2.out.below hbb)
    clear hO2 hA2 a0 a1 a2 x0 x1 x2 x3 x4 HM HM2 hbb
    obtain ⟨x0, x1, x2, x3, x4⟩ := HM3.out.ins
    go_wp2
    clear x0 x1 x2 x3 x4
    generalize (w2.alloc (.cells #[.int .i64 1, .int .i64 1, .int .i64 4, .int .i64 8, .int .i64 1, .int .i64 4, .int .i64 8] 3)) = w3 at *
    have hS : RS6 w.heap.size K.c K.r 30 rd k1 k2 imm ow (nth st.s.R k2) w3 := rs6_of HM3.out (by rw [HSs.out.1]; exact HOw.out) HK.out (by rw [HSs.out.1])
    have HMd := Lib.hid (show RMid w w3.drew K F 30 rd k1 k2 imm st1 from HM3.out.drewN 1)
    have b1 : (0 : Int) ≤ k2 := by omega
    have b2 : (k2 : Int) < 32 := by have := HK.out; omega
    go_region_held3 (fun u => RS6 w.heap.size K.c K.r 30 rd k1 k2 imm ow (nth st.s.R k2) u) (first | (with_reducible assumption) | ((with_reducible apply rs6_drew); (with_reducible assumption)) | ((with_reducible apply rs6_drewN); (with_reducible assumption)))
      (first | (go_at_call 143; (with_reducible refine (HSt.out _ HMd.out.cpu).mono ?_); rintro e w' ⟨rfl, hA4, hO4⟩; have hS4 := rs6_of (HMd.out.step hA4 hO4) (HSo.out.trans HOw.out) HK.out HSr.out))
    have HM4 := Lib.hid (HMd.out.step hA4 hO4)
    clear hS hA4 hO4 HM3
    go_wp2
    go_ret2
    exact ⟨rfl, HM4.out.cpu.widen, HM4.out.out⟩
  | some B' =>
    have HSt := Lib.hid (fun w' (h : RCpuAt w' K (NB F w.heap.size) st1) => rcstore K (NB F w.heap.size) st1 P 4 ow (nth st.s.R k2) (some B') w' HP.out HV.out (by omega) h (by rw [HSs.out.2]; exact HO.out))
    have HSo := Lib.hid (show (storedC (some B') st1).s.own = st.s.own from by show st1.s.own = _; rw [HSs.out.1])
    have HSr := Lib.hid (show nth (storedC (some B') st1).s.R k2 = nth st.s.R k2 from by show nth st1.s.R k2 = _; rw [HSs.out.1])
    clear HO
    go_enter Tryz.func86, Tryz.ntmps86
    go_wp2
    go_quiet (fail)
    go_wp2_with fail
    rw [HE.out]
    refine (rshow_any K _ st 1 P 0 _ (HM.out.drewN _).cpu HL.out).mono ?_
    rw [← HS.out]
    rintro e w2 ⟨rfl, hA2, hO2⟩
    have HM2 := Lib.hid ((HM.out.drewN _).step hA2 hO2)
    have hbb : Below w2.heap.size w2 (w2.alloc (.cells #[.int .i64 1, .int .i64 1, .int .i64 4, .int .i64 8, .int .i64 1, .int .i64 4, .int .i64 8] 3)) := (Below.refl _ _).alloc (Nat.le_refl _) _
    have HM3 := Lib.hid (HM2.out.below hbb)
    clear hO2 hA2 a0 a1 a2 x0 x1 x2 x3 x4 HM HM2 hbb
    obtain ⟨x0, x1, x2, x3, x4⟩ := HM3.out.ins
    go_wp2
    clear x0 x1 x2 x3 x4
    generalize (w2.alloc (.cells #[.int .i64 1, .int .i64 1, .int .i64 4, .int .i64 8, .int .i64 1, .int .i64 4, .int .i64 8] 3)) = w3 at *
    have hS : RS6 w.heap.size K.c K.r 30 rd k1 k2 imm ow (nth st.s.R k2) w3 := rs6_of HM3.out (by rw [HSs.out.1]; exact HOw.out) HK.out (by rw [HSs.out.1])
    have HMd := Lib.hid (show RMid w w3.drew K F 30 rd k1 k2 imm st1 from HM3.out.drewN 1)
    have b1 : (0 : Int) ≤ k2 := by omega
    have b2 : (k2 : Int) < 32 := by have := HK.out; omega
    go_region_held3 (fun u => RS6 w.heap.size K.c K.r 30 rd k1 k2 imm ow (nth st.s.R k2) u) (first | (with_reducible assumption) | ((with_reducible apply rs6_drew); (with_reducible assumption)) | ((with_reducible apply rs6_drewN); (with_reducible assumption)))
      (first | (go_at_call 143; (with_reducible refine (HSt.out _ HMd.out.cpu).mono ?_); rintro e w' ⟨rfl, hA4, hO4⟩; have hS4 := rs6_of (HMd.out.step hA4 hO4) (HSo.out.trans HOw.out) HK.out HSr.out))
    have HM4 := Lib.hid (HMd.out.step hA4 hO4)
    clear hS hA4 hO4 HM3
    go_wp2
    go_ret2
    exact ⟨rfl, HM4.out.cpu.widen, HM4.out.out⟩
set_option maxHeartbeats 2000000 in
theorem rts31 (rd imm : Int) (k1 k2 : Nat) (hk : k1 < 32) (hk2 : k2 < 32) (P : Int) (hP : modU (nth st.s.R k1 + imm) = P) (o : Option (Nat → List Int)) (ho : storeM K.T st.B P 8 st.s.own (nth st.s.R k2) = o) (hA : RCpuAt w K F st) (hl : st.lk.length < 100000000) :
    Calls Tryz.prog 86 #[.pointer (some ⟨K.c, 0, none⟩), .agg #[.int .i64 31, .int .i64 rd, .int .i64 k1, .int .i64 k2, .int .i64 imm]] w (RStoreT w K F o (showC st 1 P 0)) := by
  have HM := Lib.hid (RMid.start (op := 31) (rd := rd) (r1 := k1) (r2 := k2) (imm := imm) hA)
  have HP := Lib.hid (show IsU P by rw [← hP]; exact isU_modU' _)
  have HV := Lib.hid (show IsU (nth st.s.R k2) by have h := reg_isU hA.wf k2; unfold reg at h; simpa using h)
  have HE := Lib.hid (show IntKind.u64.wrap (nth st.s.R k1 + IntKind.u64.wrap imm) = P by rw [IntKind.wrap_u64, IntKind.wrap_u64, ← hP]; unfold modU; omega)
  have a0 : (w.alloc (.cells #[.int .i64 31, .int .i64 rd, .int .i64 k1, .int .i64 k2, .int .i64 imm] 74)).cell? ⟨K.c, 2 + k1, none⟩ = some (.int .u64 (nth st.s.R k1)) := by
    obtain ⟨_, _, hC, _⟩ := HM.out.cpu
    exact hC.blk.reg hk
  have a1 : (0 : Int) ≤ k1 := by omega
  have a2 : (k1 : Int) < 32 := by omega
  obtain ⟨x0, x1, x2, x3, x4⟩ := HM.out.ins
  have HL := Lib.hid hl
  have HK := Lib.hid hk2
  obtain ⟨st1, hst⟩ : ∃ st1, st1 = showC st 1 P 0 := ⟨_, rfl⟩
  have HS := Lib.hid hst
  have HSs := Lib.hid (show st1.s = st.s ∧ st1.B = st.B by rw [hst]; unfold showC; split <;> exact ⟨rfl, rfl⟩)
  rw [← hst]
  obtain ⟨ow, how⟩ : ∃ ow, st.s.own = ow := ⟨_, rfl⟩
  have HOw := Lib.hid how
  rw [how] at ho
  have HO := Lib.hid ho
  clear hst hP hk hk2 how hA hl ho
  cases o with
  | none =>
    have HSt := Lib.hid (fun w' (h : RCpuAt w' K (NB F w.heap.size) st1) => rcstore K (NB F w.heap.size) st1 P 8 ow (nth st.s.R k2) none w' HP.out HV.out (by omega) h (by rw [HSs.out.2]; exact HO.out))
    have HSo := Lib.hid (show (storedC none st1).s.own = st.s.own from by show st1.s.own = _; rw [HSs.out.1])
    have HSr := Lib.hid (show nth (storedC none st1).s.R k2 = nth st.s.R k2 from by show nth st1.s.R k2 = _; rw [HSs.out.1])
    clear HO
    go_enter Tryz.func86, Tryz.ntmps86
    go_wp2
    go_quiet (fail)
    go_wp2_with fail
    rw [HE.out]
    refine (rshow_any K _ st 1 P 0 _ (HM.out.drewN _).cpu HL.out).mono ?_
    rw [← HS.out]
    rintro e w2 ⟨rfl, hA2, hO2⟩
    have HM2 := Lib.hid ((HM.out.drewN _).step hA2 hO2)
    have hbb : Below w2.heap.size w2 (w2.alloc (.cells #[.int .i64 1, .int .i64 1, .int .i64 4, .int .i64 8, .int .i64 1, .int .i64 4, .int .i64 8] 3)) := (Below.refl _ _).alloc (Nat.le_refl _) _
    have HM3 := Lib.hid (HM2.out.below hbb)
    clear hO2 hA2 a0 a1 a2 x0 x1 x2 x3 x4 HM HM2 hbb
    obtain ⟨x0, x1, x2, x3, x4⟩ := HM3.out.ins
    go_wp2
    clear x0 x1 x2 x3 x4
    generalize (w2.alloc (.cells #[.int .i64 1, .int .i64 1, .int .i64 4, .int .i64 8, .int .i64 1, .int .i64 4, .int .i64 8] 3)) = w3 at *
    have hS : RS6 w.heap.size K.c K.r 31 rd k1 k2 imm ow (nth st.s.R k2) w3 := rs6_of HM3.out (by rw [HSs.out.1]; exact HOw.out) HK.out (by rw [HSs.out.1])
    have HMd := Lib.hid (show RMid w w3.drew K F 31 rd k1 k2 imm st1 from HM3.out.drewN 1)
    have b1 : (0 : Int) ≤ k2 := by omega
    have b2 : (k2 : Int) < 32 := by have := HK.out; omega
    go_region_held3 (fun u => RS6 w.heap.size K.c K.r 31 rd k1 k2 imm ow (nth st.s.R k2) u) (first | (with_reducible assumption) | ((with_reducible apply rs6_drew); (with_reducible assumption)) | ((with_reducible apply rs6_drewN); (with_reducible assumption)))
      (first | (go_at_call 143; (with_reducible refine (HSt.out _ HMd.out.cpu).mono ?_); rintro e w' ⟨rfl, hA4, hO4⟩; have hS4 := rs6_of (HMd.out.step hA4 hO4) (HSo.out.trans HOw.out) HK.out HSr.out))
    have HM4 := Lib.hid (HMd.out.step hA4 hO4)
    clear hS hA4 hO4 HM3
    go_wp2
    go_ret2
    exact ⟨rfl, HM4.out.cpu.widen, HM4.out.out⟩
  | some B' =>
    have HSt := Lib.hid (fun w' (h : RCpuAt w' K (NB F w.heap.size) st1) => rcstore K (NB F w.heap.size) st1 P 8 ow (nth st.s.R k2) (some B') w' HP.out HV.out (by omega) h (by rw [HSs.out.2]; exact HO.out))
    have HSo := Lib.hid (show (storedC (some B') st1).s.own = st.s.own from by show st1.s.own = _; rw [HSs.out.1])
    have HSr := Lib.hid (show nth (storedC (some B') st1).s.R k2 = nth st.s.R k2 from by show nth st1.s.R k2 = _; rw [HSs.out.1])
    clear HO
    go_enter Tryz.func86, Tryz.ntmps86
    go_wp2
    go_quiet (fail)
    go_wp2_with fail
    rw [HE.out]
    refine (rshow_any K _ st 1 P 0 _ (HM.out.drewN _).cpu HL.out).mono ?_
    rw [← HS.out]
    rintro e w2 ⟨rfl, hA2, hO2⟩
    have HM2 := Lib.hid ((HM.out.drewN _).step hA2 hO2)
    have hbb : Below w2.heap.size w2 (w2.alloc (.cells #[.int .i64 1, .int .i64 1, .int .i64 4, .int .i64 8, .int .i64 1, .int .i64 4, .int .i64 8] 3)) := (Below.refl _ _).alloc (Nat.le_refl _) _
    have HM3 := Lib.hid (HM2.out.below hbb)
    clear hO2 hA2 a0 a1 a2 x0 x1 x2 x3 x4 HM HM2 hbb
    obtain ⟨x0, x1, x2, x3, x4⟩ := HM3.out.ins
    go_wp2
    clear x0 x1 x2 x3 x4
    generalize (w2.alloc (.cells #[.int .i64 1, .int .i64 1, .int .i64 4, .int .i64 8, .int .i64 1, .int .i64 4, .int .i64 8] 3)) = w3 at *
    have hS : RS6 w.heap.size K.c K.r 31 rd k1 k2 imm ow (nth st.s.R k2) w3 := rs6_of HM3.out (by rw [HSs.out.1]; exact HOw.out) HK.out (by rw [HSs.out.1])
    have HMd := Lib.hid (show RMid w w3.drew K F 31 rd k1 k2 imm st1 from HM3.out.drewN 1)
    have b1 : (0 : Int) ≤ k2 := by omega
    have b2 : (k2 : Int) < 32 := by have := HK.out; omega
    go_region_held3 (fun u => RS6 w.heap.size K.c K.r 31 rd k1 k2 imm ow (nth st.s.R k2) u) (first | (with_reducible assumption) | ((with_reducible apply rs6_drew); (with_reducible assumption)) | ((with_reducible apply rs6_drewN); (with_reducible assumption)))
      (first | (go_at_call 143; (with_reducible refine (HSt.out _ HMd.out.cpu).mono ?_); rintro e w' ⟨rfl, hA4, hO4⟩; have hS4 := rs6_of (HMd.out.step hA4 hO4) (HSo.out.trans HOw.out) HK.out HSr.out))
    have HM4 := Lib.hid (HMd.out.step hA4 hO4)
    clear hS hA4 hO4 HM3
    go_wp2
    go_ret2
    exact ⟨rfl, HM4.out.cpu.widen, HM4.out.out⟩
end
end Go.Proofs.YtoeagbcjnffpaaaGreatDoor
