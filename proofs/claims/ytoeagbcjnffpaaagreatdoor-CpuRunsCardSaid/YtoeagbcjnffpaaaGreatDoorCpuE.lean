/- Layer 5: what a load and a store of package cpu do.
   Layer 5: what a store of package cpu does. -/
import Derived.Test.YtoeagbcjnffpaaaGreatDoorCpuD
namespace Go.Proofs.YtoeagbcjnffpaaaGreatDoor
set_option maxRecDepth 100000
open Go.RowKit Go.Maps
set_option linter.unusedVariables false

/-- an access in its box -/
abbrev AccC (w : World) (g c : Nat) (b s : Int) : Prop := w.cell? ⟨g, 0, none⟩ = some (.pointer (some ⟨c, 0, none⟩)) ∧ w.cell? ⟨g, 1, none⟩ = some (.int .i64 b) ∧ w.cell? ⟨g, 2, none⟩ = some (.int .i64 s)
theorem accC_new {w : World} {c : Nat} {b s : Int} {t : TypeId} : AccC (w.alloc (.cells #[.pointer (some ⟨c, 0, none⟩), .int .i64 b, .int .i64 s] t)) w.heap.size c b s := by
  refine ⟨?_, ?_, ?_⟩ <;> simp [go_sem]
theorem AccC.out {w w' : World} {F : Nat → Prop} {g c : Nat} {b s : Int} (h : AccC w g c b s) (o : Out F w w') (hg : ¬ F g) : AccC w' g c b s := by
  have key : ∀ {k : Nat} {v : Value}, w.cell? ⟨g, k, none⟩ = some v → w'.cell? ⟨g, k, none⟩ = some v := fun hc => by
    rw [World.cell?_of_block (o.block _ (block_lt hc) hg)]; exact hc
  exact ⟨key h.1, key h.2.1, key h.2.2⟩
/-- F, but two blocks -/
abbrev NB2 (F : Nat → Prop) (g : Nat) : Nat → Prop := NB (NB F g) (g + 1)
/-- under way within a method of an access: it and the instruction lie in their boxes -/
structure Two (w0 w : World) (K : CK) (F : Nat → Prop) (b s : Int) (x : X) (st : St) : Prop where
  acc : AccC w w0.heap.size K.c b s
  ins : InsC w (w0.heap.size + 1) x.op x.rd x.r1 x.r2 x.imm
  cpu : CpuAt w K (NB2 F w0.heap.size) st
  out : Out F w0 w
  lt : w0.heap.size + 1 < w.heap.size
section
variable {w0 w w' : World} {K : CK} {F : Nat → Prop} {b s : Int} {x : X} {st st' : St} {ve vl : Value}
theorem Two.start (h : CpuAt w0 K F st) : Two w0 ((w0.alloc (.cells #[.pointer (some ⟨K.c, 0, none⟩), .int .i64 b, .int .i64 s] 137)).alloc (.cells #[.int .i64 x.op, .int .i64 x.rd, .int .i64 x.r1, .int .i64 x.r2, .int .i64 x.imm] 74)) K F b s x st := by
  have e : (w0.alloc (.cells #[.pointer (some ⟨K.c, 0, none⟩), .int .i64 b, .int .i64 s] 137)).heap.size = w0.heap.size + 1 := by simp
  have hN := (h.narrow (.cells #[.pointer (some ⟨K.c, 0, none⟩), .int .i64 b, .int .i64 s] 137)).narrow (.cells #[.int .i64 x.op, .int .i64 x.rd, .int .i64 x.r1, .int .i64 x.r2, .int .i64 x.imm] 74)
  have hI := insC_new (w := w0.alloc (.cells #[.pointer (some ⟨K.c, 0, none⟩), .int .i64 b, .int .i64 s] 137)) (op := x.op) (rd := x.rd) (r1 := x.r1) (r2 := x.r2) (imm := x.imm) (t := 74)
  have hb := (Below.refl (w0.alloc (.cells #[.pointer (some ⟨K.c, 0, none⟩), .int .i64 b, .int .i64 s] 137)).heap.size (w0.alloc (.cells #[.pointer (some ⟨K.c, 0, none⟩), .int .i64 b, .int .i64 s] 137))).alloc (Nat.le_refl _) (.cells #[.int .i64 x.op, .int .i64 x.rd, .int .i64 x.r1, .int .i64 x.r2, .int .i64 x.imm] 74)
  rw [e] at hN hI
  refine ⟨?_, hI, hN, .of_below (((Below.refl _ w0).alloc (Nat.le_refl _) _).trans (hb.mono (by simp))), by simp⟩
  exact (accC_new (w := w0) (c := K.c) (b := b) (s := s) (t := 137)).out (Out.of_below (F := fun _ => False) hb) (fun h => h)
theorem Two.step (h : Two w0 w K F b s x st) (hA : CpuAt w' K (NB2 F w0.heap.size) st') (hO : Out (NB2 F w0.heap.size) w w') : Two w0 w' K F b s x st' :=
  ⟨h.acc.out hO (fun e => e.1.2 rfl), h.ins.out hO, hA, h.out.trans hO.widen.widen, Nat.lt_of_lt_of_le h.lt hO.size⟩
theorem Two.below (h : Two w0 w K F b s x st) (hb : Below w.heap.size w w') : Two w0 w' K F b s x st := h.step (h.cpu.below hb) (.of_below hb)
theorem Two.drewN (h : Two w0 w K F b s x st) (n : Nat) : Two w0 (w.drewN n) K F b s x st := h.below (bel_drewN (Below.refl _ _) n)
theorem Two.fin (h : Two w0 w K F b s x st) {e : Ending} (he : e = .returned (.tuple #[])) : ShowP w0 K F st e w := ⟨he, h.cpu.widen.widen, h.out⟩
end
/-- what touch answers -/
def TouP (w : World) (K : CK) (F : Nat → Prop) (v : Int) (st : St) (e : Ending) (w' : World) : Prop := e = .returned (.int .u64 v) ∧ CpuAt w' K F st ∧ Out F w w'
section
variable (K : CK) (F : Nat → Prop) (b s : Int) (st : St) (x : X) (w : World)
set_option maxHeartbeats 1000000 in
theorem do_touch (hx : XW x) (hA : CpuAt w K F st) (hl : st.lk.length < 100000000) :
    Calls Tryz.prog 121 #[.agg #[.pointer (some ⟨K.c, 0, none⟩), .int .i64 b, .int .i64 s], .agg #[.int .i64 x.op, .int .i64 x.rd, .int .i64 x.r1, .int .i64 x.r2, .int .i64 x.imm]] w (TouP w K F (sumP st.s x) (showC st 1 (sumP st.s x) 0)) := by
  have HM := Lib.hid (Two.start (b := b) (s := s) (x := x) hA)
  obtain ⟨a0, a1, a2⟩ := HM.out.acc
  obtain ⟨x0, x1, x2, x3, x4⟩ := HM.out.ins
  have HX := Lib.hid hx
  have HL := Lib.hid hl
  clear hA hx hl
  go_enter Tryz.func121, Tryz.ntmps121
  go_wp2_with fail
  refine (csum K _ st x HX.out _ HM.out.cpu).mono ?_
  rintro e w2 ⟨rfl, hb⟩
  have HM2 := Lib.hid (HM.out.below hb)
  clear hb a0 a1 a2 x0 x1 x2 x3 x4 HM
  obtain ⟨a0, a1, a2⟩ := HM2.out.acc
  go_wp2_with fail
  refine (show_any K _ st 1 (sumP st.s x) 0 _ HM2.out.cpu HL.out).mono ?_
  rintro e w3 ⟨rfl, hA3, hO3⟩
  have HM3 := Lib.hid (HM2.out.step hA3 hO3)
  clear hA3 hO3 a0 a1 a2 HM2
  go_wp2
  go_ret
  exact ⟨rfl, HM3.out.cpu.widen.widen, HM3.out.out⟩
end
abbrev S4 (w0 : World) (K : CK) (F : Nat → Prop) (b s : Int) (ve vl : Value) (x : X) (st : St) (w : World) : Prop :=
  AccC w w0.heap.size K.c b s ∧ InsC w (w0.heap.size + 1) x.op x.rd x.r1 x.r2 x.imm ∧ C3 w K st ∧ CpuIs w K ve vl st ∧ FootIs w K (NB2 F w0.heap.size) ve vl ∧ Two w0 w K F b s x st
section
variable {w0 w w' : World} {K : CK} {F : Nat → Prop} {b s : Int} {x : X} {st : St} {ve vl : Value}
theorem s4_of (h : Two w0 w K F b s x st) (hC : CpuIs w K ve vl st) (hF : FootIs w K (NB2 F w0.heap.size) ve vl) : S4 w0 K F b s ve vl x st w := ⟨h.acc, h.ins, ⟨hC.blk.mem, hC.blk.pc, hC.blk.own⟩, hC, hF, h⟩
theorem s4_below (h : S4 w0 K F b s ve vl x st w) (hb : Below w.heap.size w w') : S4 w0 K F b s ve vl x st w' := s4_of (h.2.2.2.2.2.below hb) (h.2.2.2.1.below hb) (h.2.2.2.2.1.mono hb.size)
theorem s4_drew (h : S4 w0 K F b s ve vl x st w) : S4 w0 K F b s ve vl x st w.drew := s4_below h (bel_drewN (Below.refl _ _) 1)
theorem s4_drewN (h : S4 w0 K F b s ve vl x st w) (n : Nat) : S4 w0 K F b s ve vl x st (w.drewN n) := s4_below h (bel_drewN (Below.refl _ _) n)
end
section
variable (K : CK) (F : Nat → Prop) (b s : Int) (st : St) (x : X) (w : World)
set_option maxHeartbeats 2000000 in
theorem do_load (h25 : 25 ≤ x.op) (hop : x.op < 29) (hb1 : lenOf x.op = b) (hs1 : bitsOf x.op = s) (hx : XW x) (hA : CpuAt w K F st) (hl : st.lk.length < 100000000) :
    Calls Tryz.prog 69 #[.agg #[.pointer (some ⟨K.c, 0, none⟩), .int .i64 b, .int .i64 s], .agg #[.int .i64 x.op, .int .i64 x.rd, .int .i64 x.r1, .int .i64 x.r2, .int .i64 x.imm]] w (ShowP w K F (execC K.T x st)) := by
  have HM := Lib.hid (Two.start (b := b) (s := s) (x := x) hA)
  have HW := Lib.hid hA.wf
  obtain ⟨a0, a1, a2⟩ := HM.out.acc
  obtain ⟨x0, x1, x2, x3, x4⟩ := HM.out.ins
  have HX := Lib.hid hx
  have HL := Lib.hid hl
  have HI := Lib.hid (show IsI b ∧ 1 ≤ s ∧ s ≤ 64 by rw [← hb1, ← hs1]; unfold lenOf bitsOf IsI; refine ⟨?_, ?_, ?_⟩ <;> (repeat' split) <;> omega)
  obtain ⟨_, ⟨h0, h1⟩, _⟩ := hx
  obtain ⟨st1, hst⟩ : ∃ st1, st1 = showC st 1 (sumP st.s x) 0 := ⟨_, rfl⟩
  have HS := Lib.hid hst
  have HSs := Lib.hid (show st1.s = st.s ∧ st1.B = st.B by rw [hst]; unfold showC; split <;> exact ⟨rfl, rfl⟩)
  have HP := Lib.hid (show IsU (sumP st.s x) from isU_modU' _)
  have HEx := Lib.hid (show execC K.T x st = (match loadM K.T st.B (sumP st.s x) b st.s.own 1 with | none => broke st1 | some y => writeC st1 x.rd (modU (sgn y s))) by
    unfold execC; rw [if_neg (by omega), if_neg (by omega), if_pos hop, hb1, hst, ← hs1]; rfl)
  clear hA hl hst hb1 hs1
  go_enter Tryz.func69, Tryz.ntmps69
  go_wp2_with fail
  refine (do_touch K _ b s st x _ HX.out HM.out.cpu HL.out).mono ?_
  rw [← HS.out]
  rintro e w2 ⟨rfl, hA2, hO2⟩
  have HM2 := Lib.hid (HM.out.step hA2 hO2)
  obtain ⟨ve, vl, hC2, hF2⟩ := hA2
  have hS : S4 w K F b s ve vl x st1 w2 := s4_of HM2.out hC2 hF2
  clear hO2 a0 a1 a2 x0 x1 x2 x3 x4 HM HM2 hF2 hC2
  cases hv : loadM K.T st.B (sumP st.s x) b st.s.own 1 with
  | none =>
    have HLd := Lib.hid (show ∀ w', S4 w K F b s ve vl x st1 w' → Calls Tryz.prog 122 #[.pointer (some ⟨K.m, 0, none⟩), .int .u64 (sumP st.s x), .int .i64 b, .bool st1.s.own] w' fun e w'' => e = .returned (.tuple #[.int .u64 0, .int .i64 13]) ∧ Below w'.heap.size w' w'' from fun w' h => by
      have := load_is (sumP st.s x) b st1.s.own HP.out HI.out.1 w' h.2.2.2.1.mem
      rw [HSs.out.1, HSs.out.2, hv] at this
      rw [HSs.out.1]
      exact this)
    rw [hv] at HEx
    clear hv
    go_wp2
    go_region_held3 (fun w' => S4 w K F b s ve vl x st1 w') (first | (with_reducible assumption) | ((with_reducible apply s4_drew); (with_reducible assumption)) | ((with_reducible apply s4_drewN); (with_reducible assumption)) | ((with_reducible apply s4_below); (with_reducible assumption); (with_reducible assumption)))
      (first | (go_at_call 122; (with_reducible refine (HLd.out _ ?hm).mono ?_); (case hm => (first | (with_reducible assumption) | ((with_reducible apply s4_drew); (with_reducible assumption)))); rintro e w' ⟨rfl, hb⟩))
    rename_i hh
    have HH := Lib.hid hh.2.2.2.2.2
    have HF := Lib.hid hh.2.2.2.2.1
    obtain ⟨⟨a0, a1, a2⟩, _, _, hC, _⟩ := hh
    have HC := Lib.hid hC
    have h36 := hC.blk.dn
    have hfr := hC.blk.free 36
    have HZ := Lib.hid (CpuAt.state HC.out HF.out ⟨HC.out.blk.setDn 2, grown_setCell _ K.c 36 _⟩ (hC.wf.done (.inr (.inr rfl))))
    clear hS hC
    go_wp2
    go_end0
    rw [HEx.out]
    exact (HH.out.step HZ.out.1 HZ.out.2).fin rfl
  | some y =>
    have HY := Lib.hid (loadM_u (hS.2.2.2.1.mem) (show loadM K.T st1.B (sumP st.s x) b st.s.own 1 = some y by rw [HSs.out.2]; exact hv))
    have HLd := Lib.hid (show ∀ w', S4 w K F b s ve vl x st1 w' → Calls Tryz.prog 122 #[.pointer (some ⟨K.m, 0, none⟩), .int .u64 (sumP st.s x), .int .i64 b, .bool st1.s.own] w' fun e w'' => e = .returned (.tuple #[.int .u64 y, .int .i64 0]) ∧ Below w'.heap.size w' w'' from fun w' h => by
      have := load_is (sumP st.s x) b st1.s.own HP.out HI.out.1 w' h.2.2.2.1.mem
      rw [HSs.out.1, HSs.out.2, hv] at this
      rw [HSs.out.1]
      exact this)
    rw [hv] at HEx
    clear hv
    go_wp2
    go_region_held3 (fun w' => S4 w K F b s ve vl x st1 w') (first | (with_reducible assumption) | ((with_reducible apply s4_drew); (with_reducible assumption)) | ((with_reducible apply s4_drewN); (with_reducible assumption)) | ((with_reducible apply s4_below); (with_reducible assumption); (with_reducible assumption)))
      (first | (go_at_call 122; (with_reducible refine (HLd.out _ ?hm).mono ?_); (case hm => (first | (with_reducible assumption) | ((with_reducible apply s4_drew); (with_reducible assumption)))); rintro e w' ⟨rfl, hb⟩))
    rename_i hh
    have HH := Lib.hid hh.2.2.2.2.2
    obtain ⟨⟨a0, a1, a2⟩, ⟨x0, x1, x2, x3, x4⟩, _, _⟩ := hh
    have HU := Lib.hid (IntKind.wrap_u64 (sgn y s))
    clear hS
    go_wp2
    refine wp_region_still_tail 9 (by kernel_rfl) (by kernel_rfl) ?_
    simp only [List.take_succ_cons, List.take_zero, List.drop_succ_cons, List.drop_zero]
    change wpStill _ _ (World.drew _) (fun a' => wpList _ _ _ _ a' (World.drew _)) _ _
    repeat still_step
    still_call ((sign_yes y s HY.out HI.out.2.1 HI.out.2.2 _).mono (fun _ _ h => ⟨h.1, h.2.symm⟩))
    repeat still_step
    refine wpStill_nil ?_
    go_wp2_with fail
    rw [HU.out]
    refine (cwrite K _ st1 x.rd (modU (sgn y s)) h0 h1 (isU_modU' _) _ (HH.out.drewN 1).cpu).mono ?_
    rintro e w4 ⟨rfl, hA4, hO4⟩
    have HZ := Lib.hid (((HH.out.drewN 1).step hA4 hO4).fin rfl)
    clear hA4 hO4
    go_wp2
    go_end0
    rw [HEx.out]
    exact HZ.out
end
end Go.Proofs.YtoeagbcjnffpaaaGreatDoor
namespace Go.Proofs.YtoeagbcjnffpaaaGreatDoor
set_option maxRecDepth 100000
open Go.RowKit Go.Maps
set_option linter.unusedVariables false
theorem storeM_yes {T : List Rg} {B B' : Nat → List Int} {p q v : Int} {own : Bool} (h : storeM T B p q own v = some B') : ∃ i, AllYes T p q own 2 i ∧ B' = setB B i (splice (B i) (p - rlo (nthR T i)).toNat (bytesL v q.toNat)) := by
  unfold storeM at h
  rw [Option.map_eq_some_iff] at h
  obtain ⟨i, hi, h⟩ := h
  exact ⟨i, allI_is hi, h.symm⟩
theorem storeM_no {T : List Rg} {B : Nat → List Int} {p q v : Int} {own : Bool} (h : storeM T B p q own v = none) : AllNo T p q own 2 := by
  unfold storeM at h
  rw [Option.map_eq_none_iff] at h
  exact allI_not h
section
variable (K : CK) (F : Nat → Prop) (st : St) (p q : Int) (own : Bool) (v : Int) (w : World)
theorem cstore_no (hp : IsU p) (hq : IsI q) (hA : CpuAt w K F st) (h : storeM K.T st.B p q own v = none) :
    Calls Tryz.prog 125 #[.pointer (some ⟨K.m, 0, none⟩), .int .u64 p, .int .i64 q, .bool own, .int .u64 v] w fun e w' => e = .returned (.int .i64 13) ∧ CpuAt w' K F st ∧ Out F w w' := by
  have hM : MemIs w 0 K.m K.tb K.tc K.hb K.n K.T K.G st.B := by obtain ⟨_, _, hC, _⟩ := hA; exact hC.mem
  refine (store_no 0 K.m K.tb K.tc K.hb K.n K.T K.G st.B p q own v hp hq w hM (storeM_no h)).mono ?_
  rintro e w' ⟨rfl, hb⟩
  exact ⟨rfl, hA.below hb, .of_below hb⟩
theorem cstore_yes (B' : Nat → List Int) (hp : IsU p) (hq : IsI q) (hv : IsU v) (hA : CpuAt w K F st) (h : storeM K.T st.B p q own v = some B') :
    Calls Tryz.prog 125 #[.pointer (some ⟨K.m, 0, none⟩), .int .u64 p, .int .i64 q, .bool own, .int .u64 v] w fun e w' => e = .returned (.int .i64 0) ∧ CpuAt w' K F (withB st B') ∧ Out F w w' := by
  obtain ⟨ve, vl, hC, hF⟩ := hA
  obtain ⟨i, hY, rfl⟩ := storeM_yes h
  have hi := (hC.mem.spot hY.2.1).1
  refine (store_yes 0 K.m K.tb K.tc K.hb K.n K.T K.G st.B p q own v i hp hq hv w hC.mem hY).mono ?_
  rintro e w' ⟨rfl, hM, hg⟩
  exact ⟨rfl, ⟨ve, vl, hC.stored hi hM hg, hF.mono hg.size⟩, .of_grown hg (fun g e => by cases e; exact hF.2.1 i hi)⟩
end
section
variable (K : CK) (F : Nat → Prop) (b s : Int) (st : St) (x : X) (w : World)
set_option maxHeartbeats 2000000 in
theorem do_store (h25 : 29 ≤ x.op) (hop : x.op < 32) (hb1 : lenOf x.op = b) (hx : XW x) (hA : CpuAt w K F st) (hl : st.lk.length < 100000000) :
    Calls Tryz.prog 70 #[.agg #[.pointer (some ⟨K.c, 0, none⟩), .int .i64 b, .int .i64 s], .agg #[.int .i64 x.op, .int .i64 x.rd, .int .i64 x.r1, .int .i64 x.r2, .int .i64 x.imm]] w (ShowP w K F (execC K.T x st)) := by
  have HM := Lib.hid (Two.start (b := b) (s := s) (x := x) hA)
  have HW := Lib.hid hA.wf
  obtain ⟨a0, a1, a2⟩ := HM.out.acc
  obtain ⟨x0, x1, x2, x3, x4⟩ := HM.out.ins
  have HX := Lib.hid hx
  have HL := Lib.hid hl
  have HI := Lib.hid (show IsI b by rw [← hb1]; unfold lenOf IsI; refine ⟨?_, ?_⟩ <;> (repeat' split) <;> omega)
  obtain ⟨_, _, _, ⟨h4, h5⟩, _⟩ := hx
  obtain ⟨st1, hst⟩ : ∃ st1, st1 = showC st 1 (sumP st.s x) 0 := ⟨_, rfl⟩
  have HS := Lib.hid hst
  have HSs := Lib.hid (show st1.s = st.s ∧ st1.B = st.B by rw [hst]; unfold showC; split <;> exact ⟨rfl, rfl⟩)
  have HP := Lib.hid (show IsU (sumP st.s x) from isU_modU' _)
  have HV := Lib.hid (reg_isU hA.wf x.r2)
  have HEx := Lib.hid (show execC K.T x st = (match storeM K.T st.B (sumP st.s x) b st.s.own (reg st.s x.r2) with | none => broke st1 | some B' => withS (withB st1 B') (goTo st.s (nextP st.s))) by
    unfold execC; rw [if_neg (by omega), if_neg (by omega), if_neg (by omega), if_pos hop, hb1, hst]; rfl)
  clear hA hl hst hb1
  go_enter Tryz.func70, Tryz.ntmps70
  go_wp2_with fail
  refine (do_touch K _ b s st x _ HX.out HM.out.cpu HL.out).mono ?_
  rw [← HS.out]
  rintro e w2 ⟨rfl, hA2, hO2⟩
  have HM2 := Lib.hid (HM.out.step hA2 hO2)
  obtain ⟨ve, vl, hC2, hF2⟩ := hA2
  have hS : S4 w K F b s ve vl x st1 w2 := s4_of HM2.out hC2 hF2
  clear hO2 a0 a1 a2 x0 x1 x2 x3 x4 HM hF2 hC2
  cases hv : storeM K.T st.B (sumP st.s x) b st.s.own (reg st.s x.r2) with
  | none =>
    have HSt := Lib.hid (show ∀ w', CpuAt w' K (NB2 F w.heap.size) st1 → _ from fun w' h => cstore_no K (NB2 F w.heap.size) st1 (sumP st.s x) b st.s.own (reg st.s x.r2) w' HP.out HI.out h (by rw [HSs.out.2]; exact hv))
    rw [hv] at HEx
    have HH := Lib.hid HM2.out
    obtain ⟨⟨a0, a1, a2⟩, ⟨x0, x1, x2, x3, x4⟩, ⟨c0, c1, c2⟩, _⟩ := hS
    have HR := Lib.hid (cread K _ st1 x.r2 h4 h5 _ (HM2.out.drewN 1).cpu)
    clear hv
    rw [HSs.out.1] at c2 HR
    have C2 := Lib.hid c2
    generalize st.s.own = ow at *
    go_wp2
    refine wp_region_still_tail 19 (by kernel_rfl) (by kernel_rfl) ?_
    simp only [List.take_succ_cons, List.take_zero, List.drop_succ_cons, List.drop_zero]
    change wpStill _ _ (World.drew _) (fun a' => wpList _ _ _ _ a' (World.drew _)) _ _
    repeat still_step
    still_call HR.out
    refine wpStill_nil ?_
    go_wp2_with fail
    refine (HSt.out _ (HM2.out.drewN 1).cpu).mono ?_
    rintro e w3 ⟨rfl, hA3, hO3⟩
    have HM3 := Lib.hid ((HM2.out.drewN 1).step hA3 hO3)
    obtain ⟨ve3, vl3, hC, hF⟩ := hA3
    have h36 := hC.blk.dn
    have hfr := hC.blk.free 36
    have HZ := Lib.hid (CpuAt.state hC hF ⟨hC.blk.setDn 2, grown_setCell _ K.c 36 _⟩ (hC.wf.done (.inr (.inr rfl))))
    clear a0 a1 a2 x0 x1 x2 x3 x4 c0 c1 c2 hO3 hC hF
    obtain ⟨a0, a1, a2⟩ := HM3.out.acc
    go_wp2
    go_end0
    rw [HEx.out]
    exact (HM3.out.step HZ.out.1 HZ.out.2).fin rfl
  | some B' =>
    have HSt := Lib.hid (show ∀ w', CpuAt w' K (NB2 F w.heap.size) st1 → _ from fun w' h => cstore_yes K (NB2 F w.heap.size) st1 (sumP st.s x) b st.s.own (reg st.s x.r2) w' B' HP.out HI.out HV.out h (by rw [HSs.out.2]; exact hv))
    rw [hv] at HEx
    have HH := Lib.hid HM2.out
    obtain ⟨⟨a0, a1, a2⟩, ⟨x0, x1, x2, x3, x4⟩, ⟨c0, c1, c2⟩, _⟩ := hS
    have HR := Lib.hid (cread K _ st1 x.r2 h4 h5 _ (HM2.out.drewN 1).cpu)
    clear hv
    rw [HSs.out.1] at c2 HR
    have C2 := Lib.hid c2
    generalize st.s.own = ow at *
    go_wp2
    refine wp_region_still_tail 19 (by kernel_rfl) (by kernel_rfl) ?_
    simp only [List.take_succ_cons, List.take_zero, List.drop_succ_cons, List.drop_zero]
    change wpStill _ _ (World.drew _) (fun a' => wpList _ _ _ _ a' (World.drew _)) _ _
    repeat still_step
    still_call HR.out
    refine wpStill_nil ?_
    go_wp2_with fail
    refine (HSt.out _ (HM2.out.drewN 1).cpu).mono ?_
    rintro e w3 ⟨rfl, hA3, hO3⟩
    have HM3 := Lib.hid ((HM2.out.drewN 1).step hA3 hO3)
    have HN := Lib.hid (cnext K _ (withB st1 B') _ (HM3.out.drewN 1).cpu)
    obtain ⟨ve3, vl3, hC, hF⟩ := HM3.out.cpu
    have h34 := hC.blk.pc
    have hfr := hC.blk.free 34
    have hC := hC.below (bel_drewN (Below.refl _ _) 1)
    have hF := hF.mono (w' := w3.drewN 1) (Nat.le_refl _)
    have HZ := Lib.hid (CpuAt.state hC hF ⟨hC.blk.setPc (nextP st1.s), grown_setCell _ K.c 34 _⟩ (hC.wf.goTo (isU_modU' _)))
    clear a0 a1 a2 x0 x1 x2 x3 x4 c0 c1 c2 hA3 hO3 hC hF
    obtain ⟨a0, a1, a2⟩ := HM3.out.acc
    go_wp2
    refine wp_region_still_tail 8 (by kernel_rfl) (by kernel_rfl) ?_
    simp only [List.take_succ_cons, List.take_zero, List.drop_succ_cons, List.drop_zero]
    change wpStill _ _ (World.drew _) (fun a' => wpList _ _ _ _ a' (World.drew _)) _ _
    repeat still_step
    still_call HN.out
    repeat still_step
    refine wpStill_nil ?_
    go_wp2
    go_end0
    rw [HEx.out, ← HSs.out.1]
    exact ((HM3.out.drewN 1).step HZ.out.1 HZ.out.2).fin rfl
end
end Go.Proofs.YtoeagbcjnffpaaaGreatDoor
