/- Layer 5's reference: what fetch of its processor does. -/
import Derived.Test.YtoeagbcjnffpaaaGreatDoorRCpuA
namespace Go.Proofs.YtoeagbcjnffpaaaGreatDoor
set_option maxRecDepth 100000
open Go.RowKit Go.Maps
set_option linter.unusedVariables false
/-- what fetch answers -/
def RFetP (w : World) (K : RK) (F : Nat → Prop) (x : Int) (b : Bool) (st : St) (e : Ending) (w' : World) : Prop := e = .returned (.tuple #[.int .u32 x, .bool b]) ∧ RCpuAt w' K F st ∧ Out F w w'
abbrev R3 (w : World) (K : RK) (st : St) : Prop := w.cell? ⟨K.c, 0, none⟩ = some (.pointer (some ⟨K.r, 0, none⟩)) ∧ w.cell? ⟨K.c, 34, none⟩ = some (.int .u64 st.s.pc) ∧ w.cell? ⟨K.c, 35, none⟩ = some (.bool st.s.own)
abbrev RS3 (w0 : World) (K : RK) (ve vl : Value) (st : St) (w : World) : Prop := R3 w K st ∧ RCpuIs w K ve vl st ∧ Below w0.heap.size w0 w
section
variable {w0 w w' : World} {K : RK} {ve vl : Value} {st : St} {F : Nat → Prop}
theorem rs3_of (h : RCpuIs w K ve vl st) (hb : Below w0.heap.size w0 w) : RS3 w0 K ve vl st w := ⟨⟨h.blk.mem, h.blk.pc, h.blk.own⟩, h, hb⟩
theorem rs3_below (h : RS3 w0 K ve vl st w) (hb : Below w.heap.size w w') : RS3 w0 K ve vl st w' := rs3_of (h.2.1.below hb) (h.2.2.trans (hb.mono h.2.2.size))
theorem rs3_drew (h : RS3 w0 K ve vl st w) : RS3 w0 K ve vl st w.drew := rs3_below h (bel_drewN (Below.refl _ _) 1)
theorem rs3_drewN (h : RS3 w0 K ve vl st w) (n : Nat) : RS3 w0 K ve vl st (w.drewN n) := rs3_below h (bel_drewN (Below.refl _ _) n)
theorem rs3_mem (h : RS3 w0 K ve vl st w) : RFl w K.r K.tb K.to K.tc K.bb K.bc K.n K.T st.B := h.2.1.mem
theorem rs3_mem' (h : RS3 w0 K ve vl st w) : RFl w.drew K.r K.tb K.to K.tc K.bb K.bc K.n K.T st.B := (rs3_drew h).2.1.mem
theorem rfet_end {w w' : World} (hF : RFootIs w K F ve vl) (h : RS3 w K ve vl st w') : RCpuAt w' K F st ∧ Out F w w' := ⟨⟨ve, vl, h.2.1, hF.mono h.2.2.size⟩, .of_below h.2.2⟩
end
section
variable (K : RK) (F : Nat → Prop) (st : St) (x : Int) (w : World)
set_option maxHeartbeats 1000000 in
theorem rfetch_own (hA : RCpuAt w K F st) (h1 : loadM K.T st.B st.s.pc 4 st.s.own 4 = some x) :
    Calls Tryz.prog 81 #[.pointer (some ⟨K.c, 0, none⟩)] w (RFetP w K F x true st) := by
  obtain ⟨ve, vl, hC, hF⟩ := hA
  have HPc := Lib.hid hC.wf.2.2.2.1
  have HFe := Lib.hid (show ∀ w, RFl w K.r K.tb K.to K.tc K.bb K.bc K.n K.T st.B → Calls Tryz.prog 136 #[.pointer (some ⟨K.r, 0, none⟩), .int .u64 st.s.pc, .bool st.s.own] w fun e w' => e = .returned (.tuple #[.int .u32 x, .int .i64 0]) ∧ Below w.heap.size w w' from fun w hM => by
    have := rfetch_is st.s.pc st.s.own HPc.out w hM
    rw [h1] at this
    exact this)
  have HF := Lib.hid hF
  have hS : RS3 w K ve vl st w := rs3_of hC (Below.refl _ _)
  clear hC hF h1
  go_enter Tryz.func81, Tryz.ntmps81
  go_wp2
  go_region_held3 (fun w' => RS3 w K ve vl st w') (first | (with_reducible assumption) | ((with_reducible apply rs3_drew); (with_reducible assumption)) | ((with_reducible apply rs3_drewN); (with_reducible assumption)) | ((with_reducible apply rs3_below); (with_reducible assumption); (with_reducible assumption)))
    (first | (go_at_call 136; (with_reducible refine (HFe.out _ ?hm).mono ?_); (case hm => (first | ((with_reducible apply rs3_mem); (with_reducible assumption)) | ((with_reducible apply rs3_mem'); (with_reducible assumption)))); rintro e w' ⟨rfl, hb⟩))
  rename_i hh
  have HH := Lib.hid hh
  clear hh hS
  go_wp2
  go_ret2
  exact ⟨rfl, rfet_end HF.out HH.out⟩
set_option maxHeartbeats 1000000 in
theorem rfetch_none (hA : RCpuAt w K F st) (h1 : loadM K.T st.B st.s.pc 4 st.s.own 4 = none) (h3 : loadM K.T st.B st.s.pc 4 (!st.s.own) 4 = none) :
    Calls Tryz.prog 81 #[.pointer (some ⟨K.c, 0, none⟩)] w (RFetP w K F 0 false st) := by
  obtain ⟨ve, vl, hC, hF⟩ := hA
  have HPc := Lib.hid hC.wf.2.2.2.1
  have HFe := Lib.hid (show ∀ w, RFl w K.r K.tb K.to K.tc K.bb K.bc K.n K.T st.B → Calls Tryz.prog 136 #[.pointer (some ⟨K.r, 0, none⟩), .int .u64 st.s.pc, .bool st.s.own] w fun e w' => e = .returned (.tuple #[.int .u32 0, .int .i64 13]) ∧ Below w.heap.size w w' from fun w hM => by
    have := rfetch_is st.s.pc st.s.own HPc.out w hM
    rw [h1] at this
    exact this)
  have HFf := Lib.hid (show ∀ w, RFl w K.r K.tb K.to K.tc K.bb K.bc K.n K.T st.B → Calls Tryz.prog 136 #[.pointer (some ⟨K.r, 0, none⟩), .int .u64 st.s.pc, .bool (!st.s.own)] w fun e w' => e = .returned (.tuple #[.int .u32 0, .int .i64 13]) ∧ Below w.heap.size w w' from fun w hM => by
    have := rfetch_is st.s.pc (!st.s.own) HPc.out w hM
    rw [h3] at this
    exact this)
  have HF := Lib.hid hF
  have hS : RS3 w K ve vl st w := rs3_of hC (Below.refl _ _)
  clear hC hF h1 h3
  go_enter Tryz.func81, Tryz.ntmps81
  go_wp2
  go_region_held3 (fun w' => RS3 w K ve vl st w') (first | (with_reducible assumption) | ((with_reducible apply rs3_drew); (with_reducible assumption)) | ((with_reducible apply rs3_drewN); (with_reducible assumption)) | ((with_reducible apply rs3_below); (with_reducible assumption); (with_reducible assumption)))
    (first | (go_at_call 136; (with_reducible refine (HFe.out _ ?hm).mono ?_); (case hm => (first | ((with_reducible apply rs3_mem); (with_reducible assumption)) | ((with_reducible apply rs3_mem'); (with_reducible assumption)))); rintro e w' ⟨rfl, hb⟩))
  rename_i hh
  clear hS
  go_wp2
  go_region_held3 (fun w' => RS3 w K ve vl st w') (first | (with_reducible assumption) | ((with_reducible apply rs3_drew); (with_reducible assumption)) | ((with_reducible apply rs3_drewN); (with_reducible assumption)) | ((with_reducible apply rs3_below); (with_reducible assumption); (with_reducible assumption)))
    (first | (go_at_call 136; (with_reducible refine (HFf.out _ ?hm).mono ?_); (case hm => (first | ((with_reducible apply rs3_mem); (with_reducible assumption)) | ((with_reducible apply rs3_mem'); (with_reducible assumption)))); rintro e w' ⟨rfl, hb⟩))
  rename_i hh2
  have HH := Lib.hid hh2
  clear hh hh2
  go_wp2
  go_ret2
  exact ⟨rfl, rfet_end HF.out HH.out⟩
end
/-- with who runs told -/
abbrev RS3o (w0 : World) (K : RK) (ve vl : Value) (st : St) (ow : Bool) (w : World) : Prop := (w.cell? ⟨K.c, 0, none⟩ = some (.pointer (some ⟨K.r, 0, none⟩)) ∧ w.cell? ⟨K.c, 34, none⟩ = some (.int .u64 st.s.pc) ∧ w.cell? ⟨K.c, 35, none⟩ = some (.bool ow)) ∧ (RCpuIs w K ve vl st ∧ st.s.own = ow) ∧ Below w0.heap.size w0 w
section
variable {w0 w w' : World} {K : RK} {ve vl : Value} {st : St} {F : Nat → Prop} {ow : Bool}
theorem rs3o_of (h : RCpuIs w K ve vl st) (ho : st.s.own = ow) (hb : Below w0.heap.size w0 w) : RS3o w0 K ve vl st ow w := ⟨⟨h.blk.mem, h.blk.pc, by rw [← ho]; exact h.blk.own⟩, ⟨h, ho⟩, hb⟩
theorem rs3o_below (h : RS3o w0 K ve vl st ow w) (hb : Below w.heap.size w w') : RS3o w0 K ve vl st ow w' := rs3o_of (h.2.1.1.below hb) h.2.1.2 (h.2.2.trans (hb.mono h.2.2.size))
theorem rs3o_drew (h : RS3o w0 K ve vl st ow w) : RS3o w0 K ve vl st ow w.drew := rs3o_below h (bel_drewN (Below.refl _ _) 1)
theorem rs3o_drewN (h : RS3o w0 K ve vl st ow w) (n : Nat) : RS3o w0 K ve vl st ow (w.drewN n) := rs3o_below h (bel_drewN (Below.refl _ _) n)
theorem rs3o_mem (h : RS3o w0 K ve vl st ow w) : RFl w K.r K.tb K.to K.tc K.bb K.bc K.n K.T st.B := h.2.1.1.mem
theorem rs3o_mem' (h : RS3o w0 K ve vl st ow w) : RFl w.drew K.r K.tb K.to K.tc K.bb K.bc K.n K.T st.B := (rs3o_drew h).2.1.1.mem
theorem rfet_endo {w w' : World} (hF : RFootIs w K F ve vl) (h : RS3o w K ve vl st ow w') : RCpuAt w' K F st ∧ Out F w w' := ⟨⟨ve, vl, h.2.1.1, hF.mono h.2.2.size⟩, .of_below h.2.2⟩
end
section
variable (K : RK) (F : Nat → Prop) (st : St) (x : Int) (w : World)
set_option maxHeartbeats 1000000 in
theorem rfetch_shut (hA : RCpuAt w K F st) (h1 : loadM K.T st.B st.s.pc 4 st.s.own 4 = none) (h2 : (st.s.own || hasE K.E st.s.pc) = false) (h3 : loadM K.T st.B st.s.pc 4 (!st.s.own) 4 = some x) :
    Calls Tryz.prog 81 #[.pointer (some ⟨K.c, 0, none⟩)] w (RFetP w K F 0 false st) := by
  obtain ⟨ve, vl, hC, hF⟩ := hA
  have HPc := Lib.hid hC.wf.2.2.2.1
  have ho : st.s.own = false := by cases h : st.s.own with | false => rfl | true => rw [h] at h2; simp at h2
  have hE : hasE K.E st.s.pc = false := by cases h : hasE K.E st.s.pc with | false => rfl | true => rw [h] at h2; simp at h2
  have HFe := Lib.hid (show ∀ w, RFl w K.r K.tb K.to K.tc K.bb K.bc K.n K.T st.B → Calls Tryz.prog 136 #[.pointer (some ⟨K.r, 0, none⟩), .int .u64 st.s.pc, .bool false] w fun e w' => e = .returned (.tuple #[.int .u32 0, .int .i64 13]) ∧ Below w.heap.size w w' from fun w hM => by
    have := rfetch_is st.s.pc st.s.own HPc.out w hM
    rw [h1, ho] at this
    exact this)
  have HFf := Lib.hid (show ∀ w, RFl w K.r K.tb K.to K.tc K.bb K.bc K.n K.T st.B → Calls Tryz.prog 136 #[.pointer (some ⟨K.r, 0, none⟩), .int .u64 st.s.pc, .bool true] w fun e w' => e = .returned (.tuple #[.int .u32 x, .int .i64 0]) ∧ Below w.heap.size w w' from fun w hM => by
    have := rfetch_is st.s.pc (!st.s.own) HPc.out w hM
    rw [h3, ho] at this
    exact this)
  have HEn := Lib.hid (fun w (h : RCpuIs w K ve vl st) => hE ▸ rentry_any K ve vl st st.s.pc w h)
  have HF := Lib.hid hF
  have hS : RS3o w K ve vl st false w := rs3o_of hC ho (Below.refl _ _)
  clear hC hF h1 h2 h3 ho hE
  go_enter Tryz.func81, Tryz.ntmps81
  go_wp2
  go_region_held3 (fun w' => RS3o w K ve vl st false w') (first | (with_reducible assumption) | ((with_reducible apply rs3o_drew); (with_reducible assumption)) | ((with_reducible apply rs3o_drewN); (with_reducible assumption)) | ((with_reducible apply rs3o_below); (with_reducible assumption); (with_reducible assumption)))
    (first | (go_at_call 136; (with_reducible refine (HFe.out _ ?hm).mono ?_); (case hm => (first | ((with_reducible apply rs3o_mem); (with_reducible assumption)) | ((with_reducible apply rs3o_mem'); (with_reducible assumption)))); rintro e w' ⟨rfl, hb⟩))
  rename_i hh
  clear hS
  go_wp2
  go_region_held3 (fun w' => RS3o w K ve vl st false w') (first | (with_reducible assumption) | ((with_reducible apply rs3o_drew); (with_reducible assumption)) | ((with_reducible apply rs3o_drewN); (with_reducible assumption)) | ((with_reducible apply rs3o_below); (with_reducible assumption); (with_reducible assumption)))
    (first | (go_at_call 136; (with_reducible refine (HFf.out _ ?hm).mono ?_); (case hm => (first | ((with_reducible apply rs3o_mem); (with_reducible assumption)) | ((with_reducible apply rs3o_mem'); (with_reducible assumption)))); rintro e w' ⟨rfl, hb⟩))
  rename_i hh2
  have HH := Lib.hid hh2
  obtain ⟨⟨c0, c1, c2⟩, _⟩ := hh2
  clear hh
  go_wp2_with fail
  refine (HEn.out _ HH.out.2.1.1).mono ?_
  rintro e w2 ⟨rfl, rfl⟩
  go_wp2
  go_ret2
  exact ⟨rfl, rfet_endo HF.out HH.out⟩
end
end Go.Proofs.YtoeagbcjnffpaaaGreatDoor
