/- Layer 5's reference: what fetch of its processor does where who runs changes. -/
import Derived.Test.YtoeagbcjnffpaaaGreatDoorRCpuC
import Derived.IntWalk
namespace Go.Proofs.YtoeagbcjnffpaaaGreatDoor
set_option maxRecDepth 100000
open Go.RowKit Go.Maps
set_option linter.unusedVariables false
/-- a change's cells, with the first k registers there -/
def evK (ow : Bool) (pc : Int) (R : List Int) (k : Nat) : List Value := .bool ow :: .int .u64 pc :: (List.range 8).map (fun i => Value.int .u64 (if i < k then nth R (10 + i) else 0))
theorem evK_0 (ow : Bool) (pc : Int) (R : List Int) : evK ow pc R 0 = [.bool ow, .int .u64 pc, .int .u64 0, .int .u64 0, .int .u64 0, .int .u64 0, .int .u64 0, .int .u64 0, .int .u64 0, .int .u64 0] := by
  simp [evK, List.range_succ_eq_map]
theorem evK_8 (ow : Bool) (pc : Int) (R : List Int) : evK ow pc R 8 = .bool ow :: .int .u64 pc :: argsL R := by
  simp [evK, argsL, List.range_succ_eq_map]
theorem evK_len (ow : Bool) (pc : Int) (R : List Int) (k : Nat) : (evK ow pc R k).length = 10 := by simp [evK]
theorem evK_set (ow : Bool) (pc : Int) (R : List Int) (k : Nat) (hk : k < 8) : (evK ow pc R k).set (2 + k) (.int .u64 (nth R (10 + k))) = evK ow pc R (k + 1) := by
  obtain rfl | rfl | rfl | rfl | rfl | rfl | rfl | rfl : k = 0 ∨ k = 1 ∨ k = 2 ∨ k = 3 ∨ k = 4 ∨ k = 5 ∨ k = 6 ∨ k = 7 := by omega
  all_goals simp [evK, List.range_succ_eq_map]
/-- under way: the first k registers are put down in block g -/
structure REvU (w0 wr : World) (K : RK) (ve vl : Value) (st : St) (g : Nat) (ow : Bool) (k : Nat) : Prop where
  cpu : RCpuIs wr K ve vl st
  blk : wr.heap[g]? = some (.cells (evK ow st.s.pc st.s.R k).toArray 88 (0, 0))
  bel : Below g w0 wr
  lt : K.c < g
section
variable {w0 wr w' : World} {K : RK} {ve vl : Value} {st : St} {g k : Nat} {ow : Bool}
theorem REvU.step (h : REvU w0 wr K ve vl st g ow k) (hk : k < 8) (hve : ve.ownBlock ≠ some g) (hvl : vl.ownBlock ≠ some g) : REvU w0 (wr.setCell ⟨g, 2 + k, none⟩ (.int .u64 (nth st.s.R (10 + k)))) K ve vl st g ow (k + 1) := by
  refine ⟨h.cpu.grown (grown_setCell wr g _ _) (fun b e => by cases e; exact ⟨h.lt, hve, hvl⟩), ?_, h.bel.setCell (Nat.le_refl _) _, h.lt⟩
  rw [heap_setCell_same wr g _ _ _ _ h.blk, ← evK_set ow st.s.pc st.s.R k hk]
  simp
theorem REvU.drewN (h : REvU w0 wr K ve vl st g ow k) (n : Nat) : REvU w0 (wr.drewN n) K ve vl st g ow k :=
  ⟨h.cpu.below (bel_drewN (Below.refl _ _) n), h.blk, bel_drewN h.bel n, h.lt⟩
theorem RCpuB.argsR {w : World} {c m : Nat} {vE : Value} {s : CS} {ve vl : Value} (h : RCpuB w c m vE s ve vl) {k : Nat} (hk : k < 8) : w.cell? ⟨c, 12 + k, none⟩ = some (.int .u64 (nth s.R (10 + k))) := by
  rw [show 12 + k = 2 + (10 + k) by omega, h.reg (by omega)]
end
theorem rcpu_is {w : World} {K : RK} {ve vl : Value} {a b : St} (e : a = b) (h : RCpuIs w K ve vl a) : RCpuIs w K ve vl b := e ▸ h
section
variable (K : RK) (F : Nat → Prop) (st : St) (x : Int) (w : World)
set_option maxHeartbeats 2000000 in
theorem rfetch_in (hA : RCpuAt w K F st) (hl : st.ev.length < 100000000) (how : st.s.own = false) (h1 : loadM K.T st.B st.s.pc 4 false 4 = none) (h2 : hasE K.E st.s.pc = true) (h3 : loadM K.T st.B st.s.pc 4 true 4 = some x) :
    Calls Tryz.prog 81 #[.pointer (some ⟨K.c, 0, none⟩)] w (RFetP w K F x true (changed st)) := by
  obtain ⟨ve, vl, hC, hF⟩ := hA
  have HPc := Lib.hid hC.wf.2.2.2.1
  have HFe := Lib.hid (show ∀ w, RFl w K.r K.tb K.to K.tc K.bb K.bc K.n K.T st.B → Calls Tryz.prog 136 #[.pointer (some ⟨K.r, 0, none⟩), .int .u64 st.s.pc, .bool false] w fun e w' => e = .returned (.tuple #[.int .u32 0, .int .i64 13]) ∧ Below w.heap.size w w' from fun w hM => by
    have := rfetch_is st.s.pc false HPc.out w hM
    rw [h1] at this
    exact this)
  have HFf := Lib.hid (show ∀ w, RFl w K.r K.tb K.to K.tc K.bb K.bc K.n K.T st.B → Calls Tryz.prog 136 #[.pointer (some ⟨K.r, 0, none⟩), .int .u64 st.s.pc, .bool true] w fun e w' => e = .returned (.tuple #[.int .u32 x, .int .i64 0]) ∧ Below w.heap.size w w' from fun w hM => by
    have := rfetch_is st.s.pc true HPc.out w hM
    rw [h3] at this
    exact this)
  have HEn := Lib.hid (show ∀ w, RCpuIs w K ve vl st → Calls Tryz.prog 137 #[.pointer (some ⟨K.c, 0, none⟩), .int .u64 st.s.pc] w fun e w' => e = .returned (.bool true) ∧ w' = w from fun w h => h2 ▸ rentry_any K ve vl st st.s.pc w h)
  have HF := Lib.hid hF
  have hS : RS3o w K ve vl st false w := rs3o_of hC how (Below.refl _ _)
  have HOw := Lib.hid how
  obtain ⟨st1, hst⟩ : ∃ st1 : St, st1 = withS st { st.s with own := true } := ⟨_, rfl⟩
  have HSt := Lib.hid hst
  have HE := Lib.hid (show ({ st1 with ev := st1.ev ++ [(true, st1.s.pc, (st1.s.R.drop 10).take 8)] } : St) = changed st by rw [hst]; unfold changed; rw [how]; rfl)
  have HL := Lib.hid (show st1.ev.length < 100000000 ∧ st1.s.own = true by rw [hst]; exact ⟨hl, rfl⟩)
  clear hC hF hl h1 h2 h3 how hst
  go_enter Tryz.func81, Tryz.ntmps81
  go_wp2
  go_region_held3 (fun w' => RS3o w K ve vl st false w') (first | (with_reducible assumption) | ((with_reducible apply rs3o_drew); (with_reducible assumption)) | ((with_reducible apply rs3o_drewN); (with_reducible assumption)) | ((with_reducible apply rs3o_below); (with_reducible assumption); (with_reducible assumption)))
    (first | (go_at_call 136; (with_reducible refine (HFe.out _ ?hm).mono ?_); (case hm => (first | ((with_reducible apply rs3o_mem); (with_reducible assumption)) | ((with_reducible apply rs3o_mem'); (with_reducible assumption)))); rintro e w' ⟨rfl, hb⟩))
  rename_i hh
  clear hS
  go_wp2
  go_region_held3 (fun w' => RS3o w K ve vl st false w') (first | (with_reducible assumption) | ((with_reducible apply rs3o_drew); (with_reducible assumption)) | ((with_reducible apply rs3o_drewN); (with_reducible assumption)) | ((with_reducible apply rs3o_below); (with_reducible assumption); (with_reducible assumption)))
    (first | (go_at_call 136; (with_reducible refine (HFf.out _ ?hm).mono ?_); (case hm => (first | ((with_reducible apply rs3o_mem); (with_reducible assumption)) | ((with_reducible apply rs3o_mem'); (with_reducible assumption)))); rintro e w' ⟨rfl, hb⟩))
  rename_i hh2
  have HC1 := Lib.hid hh2.2.1.1
  have HBu := Lib.hid hh2.2.2
  obtain ⟨⟨c0, c1, c2⟩, _⟩ := hh2
  have hf := HC1.out.blk.free 35
  have hT : RCpuTo w' (w'.setCell ⟨K.c, 35, none⟩ (.bool true)) K.c K.r (.slice K.EA K.E.length K.ec) { st.s with own := true } ve vl := ⟨HC1.out.blk.setOwn _, grown_setCell w' K.c 35 _⟩
  have HG := Lib.hid hT.2
  have HC := Lib.hid (show RCpuIs (w'.setCell ⟨K.c, 35, none⟩ (.bool true)) K ve vl st1 from by rw [HSt.out]; exact HC1.out.state hT (HC1.out.wf.own _))
  clear hT hh
  go_wp2_with fail
  refine (HEn.out _ HC1.out).mono ?_
  rintro e v1 ⟨rfl, rfl⟩
  go_wp2
  have h35 := HC.out.blk.own
  rw [HL.out.2] at h35
  have h34 := HC.out.blk.pc
  have lt := HC.out.blk.lt
  generalize v1.setCell ⟨K.c, 35, none⟩ (.bool true) = w1 at *
  clear c0 c1 c2 hf HC1
  have HLt := Lib.hid lt
  go_region
  go_wp2
  have HB1 := Lib.hid (show Below w1.heap.size w1 (w1.alloc (.cells #[.bool true, .int .u64 st1.s.pc, .int .u64 0, .int .u64 0, .int .u64 0, .int .u64 0, .int .u64 0, .int .u64 0, .int .u64 0, .int .u64 0] 88)).drew from bel_drewN ((Below.refl w1.heap.size w1).alloc (Nat.le_refl _) (.cells #[.bool true, .int .u64 st1.s.pc, .int .u64 0, .int .u64 0, .int .u64 0, .int .u64 0, .int .u64 0, .int .u64 0, .int .u64 0, .int .u64 0] 88)) 1)
  have Hg := Lib.hid (show (w1.alloc (.cells #[.bool true, .int .u64 st1.s.pc, .int .u64 0, .int .u64 0, .int .u64 0, .int .u64 0, .int .u64 0, .int .u64 0, .int .u64 0, .int .u64 0] 88)).drew.heap[w1.heap.size]? = some (.cells #[.bool true, .int .u64 st1.s.pc, .int .u64 0, .int .u64 0, .int .u64 0, .int .u64 0, .int .u64 0, .int .u64 0, .int .u64 0, .int .u64 0] 88) from heap_alloc_last w1 (.cells #[.bool true, .int .u64 st1.s.pc, .int .u64 0, .int .u64 0, .int .u64 0, .int .u64 0, .int .u64 0, .int .u64 0, .int .u64 0, .int .u64 0] 88))
  generalize (w1.alloc (.cells #[.bool true, .int .u64 st1.s.pc, .int .u64 0, .int .u64 0, .int .u64 0, .int .u64 0, .int .u64 0, .int .u64 0, .int .u64 0, .int .u64 0] 88)).drew = W2 at *
  have HU0 := Lib.hid (show REvU w1 W2 K ve vl st1 w1.heap.size true 0 from ⟨HC.out.below HB1.out, by rw [evK_0]; exact Hg.out, HB1.out, lt⟩)
  have HVe := Lib.hid (show ve.ownBlock ≠ some w1.heap.size ∧ vl.ownBlock ≠ some w1.heap.size from ⟨fun e => by have := (ownBlock_lt HC.out.evr e).1; omega, fun e => by have := (ownBlock_lt HC.out.lkr e).1; omega⟩)
  clear Hg HB1 h35 h34 lt
  go_loopw [9] (fun i wr => ∃ k : Nat, k ≤ 8 ∧ i = .int .i64 k ∧ REvU w1 wr K ve vl st1 w1.heap.size true k) (fun i _ => 8 - (intOf i).toNat)
  case atStart => exact ⟨0, by omega, rfl, HU0.out⟩
  case round =>
    obtain ⟨k, hk, rfl, hU⟩ := hrel
    have HU := Lib.hid hU
    clear HU0
    by_cases hlt : k < 8
    · have k0 : (0 : Int) ≤ k := by omega
      have k1 : (k : Int) < 8 := by omega
      have a1 := HU.out.cpu.blk.argsR hlt
      rw [show 12 + k = 2 + (10 + k) by omega] at a1
      have HS := Lib.hid (HU.out.step hlt HVe.out.1 HVe.out.2)
      have hbk := HU.out.blk
      have hfr : wr.frozen? ⟨w1.heap.size, 2 + k, none⟩ = false := frozen_of_row wr w1.heap.size (2 + k) _ _ hbk
      obtain ⟨y, hy⟩ : ∃ y, (evK true st1.s.pc st1.s.R k)[2 + k]? = some y := ⟨_, List.getElem?_eq_getElem (by rw [evK_len]; omega)⟩
      have hce : wr.cell? ⟨w1.heap.size, 2 + k, none⟩ = some y := by
        rw [cell_of_row wr w1.heap.size (2 + k) _ _ _ hbk]; simpa using hy
      have hlt' := HU.out.cpu.blk.lt
      clear hU hlt hbk hk hy
      have s1 : IntKind.i64.wrap (10 + (k : Int)) = 10 + (k : Int) := IntWalk.i64_in _ (by omega)
      have s2 : (10 + (k : Int)).toNat = 10 + k := by omega
      go_wp2
      go_roundw
      case rel => exact ⟨k + 1, by omega, by go_num, HS.out⟩
      case measure => simp [intOf]; omega
    · obtain rfl : k = 8 := by omega
      have hbk := HU.out.blk
      rw [evK_8] at hbk
      have HB3 := Lib.hid HU.out.bel
      have HC3 := Lib.hid HU.out.cpu
      clear hU HU hlt hk
      have e0 := cell_of_row wr w1.heap.size 0 _ _ _ hbk
      have e1 := cell_of_row wr w1.heap.size 1 _ _ _ hbk
      have e2 := cell_of_row wr w1.heap.size 2 _ _ _ hbk
      have e3 := cell_of_row wr w1.heap.size 3 _ _ _ hbk
      have e4 := cell_of_row wr w1.heap.size 4 _ _ _ hbk
      have e5 := cell_of_row wr w1.heap.size 5 _ _ _ hbk
      have e6 := cell_of_row wr w1.heap.size 6 _ _ _ hbk
      have e7 := cell_of_row wr w1.heap.size 7 _ _ _ hbk
      have e8 := cell_of_row wr w1.heap.size 8 _ _ _ hbk
      have e9 := cell_of_row wr w1.heap.size 9 _ _ _ hbk
      simp only [argsL, List.getElem?_toArray, List.getElem?_cons_zero, List.getElem?_cons_succ] at e0 e1 e2 e3 e4 e5 e6 e7 e8 e9
      clear hbk
      have hXB := (bel_drewN (Below.refl wr.heap.size wr) 1).alloc (Nat.le_refl _) (.cells #[.bool true, .int .u64 st1.s.pc, .int .u64 (nth st1.s.R 10), .int .u64 (nth st1.s.R 11), .int .u64 (nth st1.s.R 12), .int .u64 (nth st1.s.R 13), .int .u64 (nth st1.s.R 14), .int .u64 (nth st1.s.R 15), .int .u64 (nth st1.s.R 16), .int .u64 (nth st1.s.R 17)] 88)
      have HX := Lib.hid (show RCpuIs (wr.drew.alloc (.cells #[.bool true, .int .u64 st1.s.pc, .int .u64 (nth st1.s.R 10), .int .u64 (nth st1.s.R 11), .int .u64 (nth st1.s.R 12), .int .u64 (nth st1.s.R 13), .int .u64 (nth st1.s.R 14), .int .u64 (nth st1.s.R 15), .int .u64 (nth st1.s.R 16), .int .u64 (nth st1.s.R 17)] 88)) K ve vl st1 from HC3.out.below hXB)
      have HF3 := Lib.hid (HF.out.mono (Nat.le_trans HBu.out.size (Nat.le_trans HG.out.size (HB3.out.trans (hXB.mono HB3.out.size)).size)) : RFootIs (wr.drew.alloc (.cells #[.bool true, .int .u64 st1.s.pc, .int .u64 (nth st1.s.R 10), .int .u64 (nth st1.s.R 11), .int .u64 (nth st1.s.R 12), .int .u64 (nth st1.s.R 13), .int .u64 (nth st1.s.R 14), .int .u64 (nth st1.s.R 15), .int .u64 (nth st1.s.R 16), .int .u64 (nth st1.s.R 17)] 88)) K F ve vl)
      have HW := Lib.hid ((Out.of_below HBu.out).trans ((Out.of_grown (F := F) HG.out (fun g e => by cases e; exact HF.out.1)).trans (Out.of_below (HB3.out.trans (hXB.mono HB3.out.size)))))
      obtain ⟨i0, hi, hz0, hz1, hz2⟩ := info_parts infoEv
      have hev := HL.out.1
      have HN1 := Lib.hid (show st1.ev.length + 1 ≤ maxLen by unfold maxLen; omega)
      have HN2 := Lib.hid (show (st1.ev.length + 1) * 80 ≤ 140737488355328 by omega)
      have HN3 := Lib.hid (show K.c + 1 ≤ (wr.drew.alloc (.cells #[.bool true, .int .u64 st1.s.pc, .int .u64 (nth st1.s.R 10), .int .u64 (nth st1.s.R 11), .int .u64 (nth st1.s.R 12), .int .u64 (nth st1.s.R 13), .int .u64 (nth st1.s.R 14), .int .u64 (nth st1.s.R 15), .int .u64 (nth st1.s.R 16), .int .u64 (nth st1.s.R 17)] 88)).heap.size by have := HLt.out; have := HB3.out.size; simp; omega)
      have HNw := Lib.hid (show ∀ j u, (evC (true, st1.s.pc, (st1.s.R.drop 10).take 8))[j]? = some u → (wr.drew.alloc (.cells #[.bool true, .int .u64 st1.s.pc, .int .u64 (nth st1.s.R 10), .int .u64 (nth st1.s.R 11), .int .u64 (nth st1.s.R 12), .int .u64 (nth st1.s.R 13), .int .u64 (nth st1.s.R 14), .int .u64 (nth st1.s.R 15), .int .u64 (nth st1.s.R 16), .int .u64 (nth st1.s.R 17)] 88)).cell? ((⟨wr.heap.size, 0, none⟩ : Addr).add j) = some u by
        rw [evC_args HC3.out.blk.2]; exact news_new (w := wr.drew))
      have HO := Lib.hid (evC_one (true, st1.s.pc, (st1.s.R.drop 10).take 8))
      have HLe := Lib.hid (show (evC (true, st1.s.pc, (st1.s.R.drop 10).take 8)).length = 1 * 10 by rw [evC_args HC3.out.blk.2]; rfl)
      have hv := HC3.out.blk.evs
      have lt3 : K.c < wr.heap.size := HC3.out.blk.lt
      clear hXB hev
      go_wp2
      go_region_law (first | (refine step_append_at rfl _ _ _ rfl (K.c + 1) 88 i0 _ 10 80 Tryz.underlying44 hi hz0 hz1 hz2 rfl (Nat.succ_pos 9) ve st1.ev.length (evsL st1.ev) ?hs HX.out.evr _ 1 1 (evC (true, st1.s.pc, (st1.s.R.drop 10).take 8)) ?hx HLe.out HNw.out HO.out HN1.out HN2.out HN3.out ?_; (case hs => simp [go_sem]); (case hx => simp [go_sem]); intro v' w2 hr hg hv'; obtain ⟨g, cap, rfl⟩ := row_some hr; have hv2 := (HX.out.blk3 hg).evs; have hf2 := (HX.out.blk3 hg).free 37; have HR := Lib.hid hr; have HG2 := Lib.hid hg; have HV := Lib.hid hv'; clear hr hg hv'))
      all_goals
        have HV' := Lib.hid (row_or HV.out (Nat.le_refl _))
        go_wp2
        go_ret2
        exact ⟨rfl, ⟨_, vl, rcpu_is HE.out (HX.out.evented HG2.out HR.out HL.out.1), (HF3.out.evented (v' := .slice (some ⟨g, 0, none⟩) (st1.ev.length + 1) cap) HG2.out.size HV'.out).mono (by simp [World.setCell])⟩, HW.out.trans (revent_out HF3.out HG2.out _)⟩
set_option maxHeartbeats 2000000 in
theorem rfetch_out (hA : RCpuAt w K F st) (hl : st.ev.length < 100000000) (how : st.s.own = true) (h1 : loadM K.T st.B st.s.pc 4 true 4 = none) (h3 : loadM K.T st.B st.s.pc 4 false 4 = some x) :
    Calls Tryz.prog 81 #[.pointer (some ⟨K.c, 0, none⟩)] w (RFetP w K F x true (changed st)) := by
  obtain ⟨ve, vl, hC, hF⟩ := hA
  have HPc := Lib.hid hC.wf.2.2.2.1
  have HFe := Lib.hid (show ∀ w, RFl w K.r K.tb K.to K.tc K.bb K.bc K.n K.T st.B → Calls Tryz.prog 136 #[.pointer (some ⟨K.r, 0, none⟩), .int .u64 st.s.pc, .bool true] w fun e w' => e = .returned (.tuple #[.int .u32 0, .int .i64 13]) ∧ Below w.heap.size w w' from fun w hM => by
    have := rfetch_is st.s.pc true HPc.out w hM
    rw [h1] at this
    exact this)
  have HFf := Lib.hid (show ∀ w, RFl w K.r K.tb K.to K.tc K.bb K.bc K.n K.T st.B → Calls Tryz.prog 136 #[.pointer (some ⟨K.r, 0, none⟩), .int .u64 st.s.pc, .bool false] w fun e w' => e = .returned (.tuple #[.int .u32 x, .int .i64 0]) ∧ Below w.heap.size w w' from fun w hM => by
    have := rfetch_is st.s.pc false HPc.out w hM
    rw [h3] at this
    exact this)
  have HF := Lib.hid hF
  have hS : RS3o w K ve vl st true w := rs3o_of hC how (Below.refl _ _)
  have HOw := Lib.hid how
  obtain ⟨st1, hst⟩ : ∃ st1 : St, st1 = withS st { st.s with own := false } := ⟨_, rfl⟩
  have HSt := Lib.hid hst
  have HE := Lib.hid (show ({ st1 with ev := st1.ev ++ [(false, st1.s.pc, (st1.s.R.drop 10).take 8)] } : St) = changed st by rw [hst]; unfold changed; rw [how]; rfl)
  have HL := Lib.hid (show st1.ev.length < 100000000 ∧ st1.s.own = false by rw [hst]; exact ⟨hl, rfl⟩)
  clear hC hF hl h1 h3 how hst
  go_enter Tryz.func81, Tryz.ntmps81
  go_wp2
  go_region_held3 (fun w' => RS3o w K ve vl st true w') (first | (with_reducible assumption) | ((with_reducible apply rs3o_drew); (with_reducible assumption)) | ((with_reducible apply rs3o_drewN); (with_reducible assumption)) | ((with_reducible apply rs3o_below); (with_reducible assumption); (with_reducible assumption)))
    (first | (go_at_call 136; (with_reducible refine (HFe.out _ ?hm).mono ?_); (case hm => (first | ((with_reducible apply rs3o_mem); (with_reducible assumption)) | ((with_reducible apply rs3o_mem'); (with_reducible assumption)))); rintro e w' ⟨rfl, hb⟩))
  rename_i hh
  clear hS
  go_wp2
  go_region_held3 (fun w' => RS3o w K ve vl st true w') (first | (with_reducible assumption) | ((with_reducible apply rs3o_drew); (with_reducible assumption)) | ((with_reducible apply rs3o_drewN); (with_reducible assumption)) | ((with_reducible apply rs3o_below); (with_reducible assumption); (with_reducible assumption)))
    (first | (go_at_call 136; (with_reducible refine (HFf.out _ ?hm).mono ?_); (case hm => (first | ((with_reducible apply rs3o_mem); (with_reducible assumption)) | ((with_reducible apply rs3o_mem'); (with_reducible assumption)))); rintro e w' ⟨rfl, hb⟩))
  rename_i hh2
  have HC1 := Lib.hid hh2.2.1.1
  have HBu := Lib.hid hh2.2.2
  obtain ⟨⟨c0, c1, c2⟩, _⟩ := hh2
  have hf := HC1.out.blk.free 35
  have hT : RCpuTo w' (w'.setCell ⟨K.c, 35, none⟩ (.bool false)) K.c K.r (.slice K.EA K.E.length K.ec) { st.s with own := false } ve vl := ⟨HC1.out.blk.setOwn _, grown_setCell w' K.c 35 _⟩
  have HG := Lib.hid hT.2
  have HC := Lib.hid (show RCpuIs (w'.setCell ⟨K.c, 35, none⟩ (.bool false)) K ve vl st1 from by rw [HSt.out]; exact HC1.out.state hT (HC1.out.wf.own _))
  clear hT hh
  go_wp2
  have h35 := HC.out.blk.own
  rw [HL.out.2] at h35
  have h34 := HC.out.blk.pc
  have lt := HC.out.blk.lt
  generalize w'.setCell ⟨K.c, 35, none⟩ (.bool false) = w1 at *
  clear c0 c1 c2 hf HC1
  have HLt := Lib.hid lt
  go_region
  go_wp2
  have HB1 := Lib.hid (show Below w1.heap.size w1 (w1.alloc (.cells #[.bool false, .int .u64 st1.s.pc, .int .u64 0, .int .u64 0, .int .u64 0, .int .u64 0, .int .u64 0, .int .u64 0, .int .u64 0, .int .u64 0] 88)).drew from bel_drewN ((Below.refl w1.heap.size w1).alloc (Nat.le_refl _) (.cells #[.bool false, .int .u64 st1.s.pc, .int .u64 0, .int .u64 0, .int .u64 0, .int .u64 0, .int .u64 0, .int .u64 0, .int .u64 0, .int .u64 0] 88)) 1)
  have Hg := Lib.hid (show (w1.alloc (.cells #[.bool false, .int .u64 st1.s.pc, .int .u64 0, .int .u64 0, .int .u64 0, .int .u64 0, .int .u64 0, .int .u64 0, .int .u64 0, .int .u64 0] 88)).drew.heap[w1.heap.size]? = some (.cells #[.bool false, .int .u64 st1.s.pc, .int .u64 0, .int .u64 0, .int .u64 0, .int .u64 0, .int .u64 0, .int .u64 0, .int .u64 0, .int .u64 0] 88) from heap_alloc_last w1 (.cells #[.bool false, .int .u64 st1.s.pc, .int .u64 0, .int .u64 0, .int .u64 0, .int .u64 0, .int .u64 0, .int .u64 0, .int .u64 0, .int .u64 0] 88))
  generalize (w1.alloc (.cells #[.bool false, .int .u64 st1.s.pc, .int .u64 0, .int .u64 0, .int .u64 0, .int .u64 0, .int .u64 0, .int .u64 0, .int .u64 0, .int .u64 0] 88)).drew = W2 at *
  have HU0 := Lib.hid (show REvU w1 W2 K ve vl st1 w1.heap.size false 0 from ⟨HC.out.below HB1.out, by rw [evK_0]; exact Hg.out, HB1.out, lt⟩)
  have HVe := Lib.hid (show ve.ownBlock ≠ some w1.heap.size ∧ vl.ownBlock ≠ some w1.heap.size from ⟨fun e => by have := (ownBlock_lt HC.out.evr e).1; omega, fun e => by have := (ownBlock_lt HC.out.lkr e).1; omega⟩)
  clear Hg HB1 h35 h34 lt
  go_loopw [9] (fun i wr => ∃ k : Nat, k ≤ 8 ∧ i = .int .i64 k ∧ REvU w1 wr K ve vl st1 w1.heap.size false k) (fun i _ => 8 - (intOf i).toNat)
  case atStart => exact ⟨0, by omega, rfl, HU0.out⟩
  case round =>
    obtain ⟨k, hk, rfl, hU⟩ := hrel
    have HU := Lib.hid hU
    clear HU0
    by_cases hlt : k < 8
    · have k0 : (0 : Int) ≤ k := by omega
      have k1 : (k : Int) < 8 := by omega
      have a1 := HU.out.cpu.blk.argsR hlt
      rw [show 12 + k = 2 + (10 + k) by omega] at a1
      have HS := Lib.hid (HU.out.step hlt HVe.out.1 HVe.out.2)
      have hbk := HU.out.blk
      have hfr : wr.frozen? ⟨w1.heap.size, 2 + k, none⟩ = false := frozen_of_row wr w1.heap.size (2 + k) _ _ hbk
      obtain ⟨y, hy⟩ : ∃ y, (evK false st1.s.pc st1.s.R k)[2 + k]? = some y := ⟨_, List.getElem?_eq_getElem (by rw [evK_len]; omega)⟩
      have hce : wr.cell? ⟨w1.heap.size, 2 + k, none⟩ = some y := by
        rw [cell_of_row wr w1.heap.size (2 + k) _ _ _ hbk]; simpa using hy
      have hlt' := HU.out.cpu.blk.lt
      clear hU hlt hbk hk hy
      have s1 : IntKind.i64.wrap (10 + (k : Int)) = 10 + (k : Int) := IntWalk.i64_in _ (by omega)
      have s2 : (10 + (k : Int)).toNat = 10 + k := by omega
      go_wp2
      go_roundw
      case rel => exact ⟨k + 1, by omega, by go_num, HS.out⟩
      case measure => simp [intOf]; omega
    · obtain rfl : k = 8 := by omega
      have hbk := HU.out.blk
      rw [evK_8] at hbk
      have HB3 := Lib.hid HU.out.bel
      have HC3 := Lib.hid HU.out.cpu
      clear hU HU hlt hk
      have e0 := cell_of_row wr w1.heap.size 0 _ _ _ hbk
      have e1 := cell_of_row wr w1.heap.size 1 _ _ _ hbk
      have e2 := cell_of_row wr w1.heap.size 2 _ _ _ hbk
      have e3 := cell_of_row wr w1.heap.size 3 _ _ _ hbk
      have e4 := cell_of_row wr w1.heap.size 4 _ _ _ hbk
      have e5 := cell_of_row wr w1.heap.size 5 _ _ _ hbk
      have e6 := cell_of_row wr w1.heap.size 6 _ _ _ hbk
      have e7 := cell_of_row wr w1.heap.size 7 _ _ _ hbk
      have e8 := cell_of_row wr w1.heap.size 8 _ _ _ hbk
      have e9 := cell_of_row wr w1.heap.size 9 _ _ _ hbk
      simp only [argsL, List.getElem?_toArray, List.getElem?_cons_zero, List.getElem?_cons_succ] at e0 e1 e2 e3 e4 e5 e6 e7 e8 e9
      clear hbk
      have hXB := (bel_drewN (Below.refl wr.heap.size wr) 1).alloc (Nat.le_refl _) (.cells #[.bool false, .int .u64 st1.s.pc, .int .u64 (nth st1.s.R 10), .int .u64 (nth st1.s.R 11), .int .u64 (nth st1.s.R 12), .int .u64 (nth st1.s.R 13), .int .u64 (nth st1.s.R 14), .int .u64 (nth st1.s.R 15), .int .u64 (nth st1.s.R 16), .int .u64 (nth st1.s.R 17)] 88)
      have HX := Lib.hid (show RCpuIs (wr.drew.alloc (.cells #[.bool false, .int .u64 st1.s.pc, .int .u64 (nth st1.s.R 10), .int .u64 (nth st1.s.R 11), .int .u64 (nth st1.s.R 12), .int .u64 (nth st1.s.R 13), .int .u64 (nth st1.s.R 14), .int .u64 (nth st1.s.R 15), .int .u64 (nth st1.s.R 16), .int .u64 (nth st1.s.R 17)] 88)) K ve vl st1 from HC3.out.below hXB)
      have HF3 := Lib.hid (HF.out.mono (Nat.le_trans HBu.out.size (Nat.le_trans HG.out.size (HB3.out.trans (hXB.mono HB3.out.size)).size)) : RFootIs (wr.drew.alloc (.cells #[.bool false, .int .u64 st1.s.pc, .int .u64 (nth st1.s.R 10), .int .u64 (nth st1.s.R 11), .int .u64 (nth st1.s.R 12), .int .u64 (nth st1.s.R 13), .int .u64 (nth st1.s.R 14), .int .u64 (nth st1.s.R 15), .int .u64 (nth st1.s.R 16), .int .u64 (nth st1.s.R 17)] 88)) K F ve vl)
      have HW := Lib.hid ((Out.of_below HBu.out).trans ((Out.of_grown (F := F) HG.out (fun g e => by cases e; exact HF.out.1)).trans (Out.of_below (HB3.out.trans (hXB.mono HB3.out.size)))))
      obtain ⟨i0, hi, hz0, hz1, hz2⟩ := info_parts infoEv
      have hev := HL.out.1
      have HN1 := Lib.hid (show st1.ev.length + 1 ≤ maxLen by unfold maxLen; omega)
      have HN2 := Lib.hid (show (st1.ev.length + 1) * 80 ≤ 140737488355328 by omega)
      have HN3 := Lib.hid (show K.c + 1 ≤ (wr.drew.alloc (.cells #[.bool false, .int .u64 st1.s.pc, .int .u64 (nth st1.s.R 10), .int .u64 (nth st1.s.R 11), .int .u64 (nth st1.s.R 12), .int .u64 (nth st1.s.R 13), .int .u64 (nth st1.s.R 14), .int .u64 (nth st1.s.R 15), .int .u64 (nth st1.s.R 16), .int .u64 (nth st1.s.R 17)] 88)).heap.size by have := HLt.out; have := HB3.out.size; simp; omega)
      have HNw := Lib.hid (show ∀ j u, (evC (false, st1.s.pc, (st1.s.R.drop 10).take 8))[j]? = some u → (wr.drew.alloc (.cells #[.bool false, .int .u64 st1.s.pc, .int .u64 (nth st1.s.R 10), .int .u64 (nth st1.s.R 11), .int .u64 (nth st1.s.R 12), .int .u64 (nth st1.s.R 13), .int .u64 (nth st1.s.R 14), .int .u64 (nth st1.s.R 15), .int .u64 (nth st1.s.R 16), .int .u64 (nth st1.s.R 17)] 88)).cell? ((⟨wr.heap.size, 0, none⟩ : Addr).add j) = some u by
        rw [evC_args HC3.out.blk.2]; exact news_new (w := wr.drew))
      have HO := Lib.hid (evC_one (false, st1.s.pc, (st1.s.R.drop 10).take 8))
      have HLe := Lib.hid (show (evC (false, st1.s.pc, (st1.s.R.drop 10).take 8)).length = 1 * 10 by rw [evC_args HC3.out.blk.2]; rfl)
      have hv := HC3.out.blk.evs
      have lt3 : K.c < wr.heap.size := HC3.out.blk.lt
      clear hXB hev
      go_wp2
      go_region_law (first | (refine step_append_at rfl _ _ _ rfl (K.c + 1) 88 i0 _ 10 80 Tryz.underlying44 hi hz0 hz1 hz2 rfl (Nat.succ_pos 9) ve st1.ev.length (evsL st1.ev) ?hs HX.out.evr _ 1 1 (evC (false, st1.s.pc, (st1.s.R.drop 10).take 8)) ?hx HLe.out HNw.out HO.out HN1.out HN2.out HN3.out ?_; (case hs => simp [go_sem]); (case hx => simp [go_sem]); intro v' w2 hr hg hv'; obtain ⟨g, cap, rfl⟩ := row_some hr; have hv2 := (HX.out.blk3 hg).evs; have hf2 := (HX.out.blk3 hg).free 37; have HR := Lib.hid hr; have HG2 := Lib.hid hg; have HV := Lib.hid hv'; clear hr hg hv'))
      all_goals
        have HV' := Lib.hid (row_or HV.out (Nat.le_refl _))
        go_wp2
        go_ret2
        exact ⟨rfl, ⟨_, vl, rcpu_is HE.out (HX.out.evented HG2.out HR.out HL.out.1), (HF3.out.evented (v' := .slice (some ⟨g, 0, none⟩) (st1.ev.length + 1) cap) HG2.out.size HV'.out).mono (by simp [World.setCell])⟩, HW.out.trans (revent_out HF3.out HG2.out _)⟩
end
end Go.Proofs.YtoeagbcjnffpaaaGreatDoor
