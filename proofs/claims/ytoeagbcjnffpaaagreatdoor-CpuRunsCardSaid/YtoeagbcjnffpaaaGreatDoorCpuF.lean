/- Layer 5: what operations of package cpu makes: the map of all methods.
   Layer 5: what instruction and Step of package cpu do. Conditions: the tables of packages ins and alu read as they should.
   Layer 5: what Step of package cpu does. Conditions: the tables of packages ins and alu read as they should.
   Layer 5: what Step, Run, State and Mem of package cpu do. Conditions: the tables of packages ins and alu read as they should.
   Layer 5: what State, Mem, Events and Leaks of package cpu answer. -/
import Derived.Test.YtoeagbcjnffpaaaGreatDoorCpuA
import Derived.Carry
import Derived.Test.YtoeagbcjnffpaaaGreatDoorCpuE
namespace Go.Proofs.YtoeagbcjnffpaaaGreatDoor
set_option maxRecDepth 100000
open Go.RowKit Go.Maps
set_option linter.unusedVariables false
theorem opG_4 {k : Nat} (h0 : 0 ≤ k) (h : k < 16) : opG k = (76, none) := by unfold opG; rw [if_pos h]
theorem opG_5 {k : Nat} (h0 : 16 ≤ k) (h : k < 25) : opG k = (77, none) := by unfold opG; rw [if_neg (by omega), if_pos h]
theorem opG_6 {k : Nat} (h0 : 32 ≤ k) (h : k < 38) : opG k = (78, none) := by
  obtain rfl | rfl | rfl | rfl | rfl | rfl : k = 32 ∨ k = 33 ∨ k = 34 ∨ k = 35 ∨ k = 36 ∨ k = 37 := by omega
  all_goals rfl
theorem ops_n {w : World} {b c n m : Nat} {P : Nat → Prop} (e : m = n) (h : OpsK w b c n P) : OpsK w b c m P := e ▸ h
set_option maxHeartbeats 2000000 in
theorem operations_any (c : Nat) (w : World) :
    Calls Tryz.prog 38 #[.pointer (some ⟨c, 0, none⟩)] w fun e w' => ∃ md, e = .returned (.map (some md)) ∧ OpsK w' md c 43 (fun k => k < 43) ∧ w.heap.size ≤ md ∧ Below w.heap.size w w' := by
  have H0 := Lib.hid (OpsK.made w c)
  have B0 := Lib.hid ((Below.refl w.heap.size w).alloc (Nat.le_refl _) (.map #[] 0))
  have hmm := @run_makeMap Tryz.prog
  go_enter Tryz.func38, Tryz.ntmps38
  go_wp2_with (first | (refine wpList_insert_f rfl _ _ _ rfl _ c 0 _ 25 (by omega) (by omega) ?hm ?hx ?hv H0.out ?_; (case hm => rfl); (case hx => rfl); (case hv => rfl); intro w1 h g; have H1 := Lib.hid h; have B1 := Lib.hid (B0.out.grown g B0.out.size (by simp)); clear h g H0 B0) | (refine wpList_insert_f rfl _ _ _ rfl _ c 1 _ 26 (by omega) (by omega) ?hm ?hx ?hv H1.out ?_; (case hm => rfl); (case hx => rfl); (case hv => rfl); intro w2 h g; have H2 := Lib.hid h; have B2 := Lib.hid (B1.out.grown g B1.out.size (by simp)); clear h g H1 B1) | (refine wpList_insert_f rfl _ _ _ rfl _ c 2 _ 27 (by omega) (by omega) ?hm ?hx ?hv H2.out ?_; (case hm => rfl); (case hx => rfl); (case hv => rfl); intro w3 h g; have H3 := Lib.hid h; have B3 := Lib.hid (B2.out.grown g B2.out.size (by simp)); clear h g H2 B2) | (refine wpList_insert_f rfl _ _ _ rfl _ c 3 _ 28 (by omega) (by omega) ?hm ?hx ?hv H3.out ?_; (case hm => rfl); (case hx => rfl); (case hv => rfl); intro w4 h g; have H4 := Lib.hid h; have B4 := Lib.hid (B3.out.grown g B3.out.size (by simp)); clear h g H3 B3) | (refine wpList_insert_f rfl _ _ _ rfl _ c 4 _ 29 (by omega) (by omega) ?hm ?hx ?hv H4.out ?_; (case hm => rfl); (case hx => rfl); (case hv => rfl); intro w5 h g; have H5 := Lib.hid h; have B5 := Lib.hid (B4.out.grown g B4.out.size (by simp)); clear h g H4 B4) | (refine wpList_insert_f rfl _ _ _ rfl _ c 5 _ 30 (by omega) (by omega) ?hm ?hx ?hv H5.out ?_; (case hm => rfl); (case hx => rfl); (case hv => rfl); intro w6 h g; have H6 := Lib.hid h; have B6 := Lib.hid (B5.out.grown g B5.out.size (by simp)); clear h g H5 B5) | (refine wpList_insert_f rfl _ _ _ rfl _ c 6 _ 31 (by omega) (by omega) ?hm ?hx ?hv H6.out ?_; (case hm => rfl); (case hx => rfl); (case hv => rfl); intro w7 h g; have H7 := Lib.hid h; have B7 := Lib.hid (B6.out.grown g B6.out.size (by simp)); clear h g H6 B6) | (refine wpList_insert_f rfl _ _ _ rfl _ c 7 _ 38 (by omega) (by omega) ?hm ?hx ?hv H7.out ?_; (case hm => rfl); (case hx => rfl); (case hv => rfl); intro w8 h g; have H8 := Lib.hid h; have B8 := Lib.hid (B7.out.grown g B7.out.size (by simp)); clear h g H7 B7) | (refine wpList_insert_f rfl _ _ _ rfl _ c 8 _ 39 (by omega) (by omega) ?hm ?hx ?hv H8.out ?_; (case hm => rfl); (case hx => rfl); (case hv => rfl); intro w9 h g; have H9 := Lib.hid h; have B9 := Lib.hid (B8.out.grown g B8.out.size (by simp)); clear h g H8 B8) | (refine wpList_insert_f rfl _ _ _ rfl _ c 9 _ 40 (by omega) (by omega) ?hm ?hx ?hv H9.out ?_; (case hm => rfl); (case hx => rfl); (case hv => rfl); intro w10 h g; have H10 := Lib.hid h; have B10 := Lib.hid (B9.out.grown g B9.out.size (by simp)); clear h g H9 B9) | (refine wpList_insert_f rfl _ _ _ rfl _ c 10 _ 41 (by omega) (by omega) ?hm ?hx ?hv H10.out ?_; (case hm => rfl); (case hx => rfl); (case hv => rfl); intro w11 h g; have H11 := Lib.hid h; have B11 := Lib.hid (B10.out.grown g B10.out.size (by simp)); clear h g H10 B10) | (refine wpList_insert_f rfl _ _ _ rfl _ c 11 _ 42 (by omega) (by omega) ?hm ?hx ?hv H11.out ?_; (case hm => rfl); (case hx => rfl); (case hv => rfl); intro w12 h g; have H12 := Lib.hid h; have B12 := Lib.hid (B11.out.grown g B11.out.size (by simp)); clear h g H11 B11))
  go_loopw [4] (fun i wr => ∃ (k : Nat) (q : Int), q = k ∧ 0 ≤ k ∧ k ≤ 16 ∧ i = .int .i64 q ∧ OpsK wr w.heap.size c (12 + (k - 0)) (fun j => (25 ≤ j ∧ j < 32 ∨ 38 ≤ j ∧ j < 43) ∨ 0 ≤ j ∧ j < k) ∧ Below w.heap.size w wr) (fun i _ => 16 - (intOf i).toNat)
  case atStart => exact ⟨0, 0, rfl, by omega, by omega, rfl, H12.out.mono (fun j hj => by omega), B12.out⟩
  case round =>
    obtain ⟨k, q, hq, hl, hk, rfl, ho, hb⟩ := hrel
    by_cases hlt : k < 16
    · subst hq
      have HO := Lib.hid ho
      have HB := Lib.hid hb
      have HV := Lib.hid (show (.func (.func 76) #[.pointer (some ⟨c, 0, none⟩)] #[] : Value) = opV c k by unfold opV; rw [opG_4 hl hlt]; rfl)
      have k1 : (k : Int) ≤ 15 := by omega
      have k0 : (0 : Int) ≤ k := by omega
      clear ho hb
      go_wp2_with (refine wpList_update_f rfl _ _ _ rfl _ c _ _ k (by omega) (by omega) ?hm ?hx ?hv HO.out ?_; (case hm => rfl); (case hx => rfl); (case hv => exact HV.out); intro w' h g; have HO' := Lib.hid h; have HB' := Lib.hid (HB.out.grown g HB.out.size (by simp)); clear h g HO HB)
      go_roundw
      case rel => exact ⟨k + 1, (k : Int) + 1, by omega, by omega, by omega, rfl, ops_n (show 12 + (k + 1 - 0) = 12 + (k - 0) + 1 by omega) (HO'.out.mono (fun j hj => by omega)), HB'.out⟩
      case measure => simp [intOf]; omega
    · obtain rfl : k = 16 := by omega
      obtain rfl : q = 16 := by omega
      clear hq
      have HO4 := Lib.hid ho
      have HB4 := Lib.hid hb
      clear ho hb hl hk hlt
      go_wp2
      go_loopw [5] (fun i wr => ∃ (k : Nat) (q : Int), q = k ∧ 16 ≤ k ∧ k ≤ 25 ∧ i = .int .i64 q ∧ OpsK wr w.heap.size c (28 + (k - 16)) (fun j => (25 ≤ j ∧ j < 32 ∨ 38 ≤ j ∧ j < 43 ∨ 0 ≤ j ∧ j < 16) ∨ 16 ≤ j ∧ j < k) ∧ Below w.heap.size w wr) (fun i _ => 25 - (intOf i).toNat)
      case atStart => exact ⟨16, 16, rfl, by omega, by omega, rfl, HO4.out.mono (fun j hj => by omega), HB4.out⟩
      case round =>
        obtain ⟨k, q, hq, hl, hk, rfl, ho, hb⟩ := hrel
        by_cases hlt : k < 25
        · subst hq
          have HO := Lib.hid ho
          have HB := Lib.hid hb
          have HV := Lib.hid (show (.func (.func 77) #[.pointer (some ⟨c, 0, none⟩)] #[] : Value) = opV c k by unfold opV; rw [opG_5 hl hlt]; rfl)
          have k1 : (k : Int) ≤ 24 := by omega
          have k0 : (0 : Int) ≤ k := by omega
          clear ho hb
          go_wp2_with (refine wpList_update_f rfl _ _ _ rfl _ c _ _ k (by omega) (by omega) ?hm ?hx ?hv HO.out ?_; (case hm => rfl); (case hx => rfl); (case hv => exact HV.out); intro w' h g; have HO' := Lib.hid h; have HB' := Lib.hid (HB.out.grown g HB.out.size (by simp)); clear h g HO HB)
          go_roundw
          case rel => exact ⟨k + 1, (k : Int) + 1, by omega, by omega, by omega, rfl, ops_n (show 28 + (k + 1 - 16) = 28 + (k - 16) + 1 by omega) (HO'.out.mono (fun j hj => by omega)), HB'.out⟩
          case measure => simp [intOf]; omega
        · obtain rfl : k = 25 := by omega
          obtain rfl : q = 25 := by omega
          clear hq
          have HO5 := Lib.hid ho
          have HB5 := Lib.hid hb
          clear ho hb hl hk hlt
          go_wp2
          go_loopw [6] (fun i wr => ∃ (k : Nat) (q : Int), q = k ∧ 32 ≤ k ∧ k ≤ 38 ∧ i = .int .i64 q ∧ OpsK wr w.heap.size c (37 + (k - 32)) (fun j => (25 ≤ j ∧ j < 32 ∨ 38 ≤ j ∧ j < 43 ∨ 0 ≤ j ∧ j < 16 ∨ 16 ≤ j ∧ j < 25) ∨ 32 ≤ j ∧ j < k) ∧ Below w.heap.size w wr) (fun i _ => 38 - (intOf i).toNat)
          case atStart => exact ⟨32, 32, rfl, by omega, by omega, rfl, HO5.out.mono (fun j hj => by omega), HB5.out⟩
          case round =>
            obtain ⟨k, q, hq, hl, hk, rfl, ho, hb⟩ := hrel
            by_cases hlt : k < 38
            · subst hq
              have HO := Lib.hid ho
              have HB := Lib.hid hb
              have HV := Lib.hid (show (.func (.func 78) #[.pointer (some ⟨c, 0, none⟩)] #[] : Value) = opV c k by unfold opV; rw [opG_6 hl hlt]; rfl)
              have k1 : (k : Int) ≤ 37 := by omega
              have k0 : (0 : Int) ≤ k := by omega
              clear ho hb
              go_wp2_with (refine wpList_update_f rfl _ _ _ rfl _ c _ _ k (by omega) (by omega) ?hm ?hx ?hv HO.out ?_; (case hm => rfl); (case hx => rfl); (case hv => exact HV.out); intro w' h g; have HO' := Lib.hid h; have HB' := Lib.hid (HB.out.grown g HB.out.size (by simp)); clear h g HO HB)
              go_roundw
              case rel => exact ⟨k + 1, (k : Int) + 1, by omega, by omega, by omega, rfl, ops_n (show 37 + (k + 1 - 32) = 37 + (k - 32) + 1 by omega) (HO'.out.mono (fun j hj => by omega)), HB'.out⟩
              case measure => simp [intOf]; omega
            · obtain rfl : k = 38 := by omega
              obtain rfl : q = 38 := by omega
              clear hq
              have HO6 := Lib.hid ho
              have HB6 := Lib.hid hb
              clear ho hb hl hk hlt
              go_wp2
              go_ret
              exact ⟨w.heap.size, rfl, HO6.out.mono (fun j hj => by omega), Nat.le_refl _, HB6.out⟩
end Go.Proofs.YtoeagbcjnffpaaaGreatDoor
namespace Go.Proofs.YtoeagbcjnffpaaaGreatDoor
set_option maxRecDepth 100000
open Go.RowKit Go.Maps
set_option linter.unusedVariables false

/-- what instruction answers -/
def InsR (w : World) (K : CK) (F : Nat → Prop) (op rd r1 r2 imm c : Int) (st : St) (e : Ending) (w' : World) : Prop :=
  e = .returned (.tuple #[.agg #[.int .i64 op, .int .i64 rd, .int .i64 r1, .int .i64 r2, .int .i64 imm], .int .i64 c]) ∧ CpuAt w' K F st ∧ Out F w w'
theorem isW_fetch {w : World} {K : CK} {ve vl : Value} {st st1 : St} {x : Int} (hC : CpuIs w K ve vl st) (h : fetchC K.T K.E st = some (x, st1)) : IsW x := by
  unfold fetchC at h
  cases h1 : loadM K.T st.B st.s.pc 4 st.s.own 4 with
  | some y => rw [h1] at h; cases h; exact loadM_word hC.mem h1
  | none =>
    rw [h1] at h
    cases h2 : (st.s.own || hasE K.E st.s.pc) with
    | false => rw [h2] at h; cases h
    | true =>
      rw [h2] at h
      cases h3 : loadM K.T st.B st.s.pc 4 (!st.s.own) 4 with
      | none => rw [h3] at h; cases h
      | some y => rw [h3] at h; cases h; exact loadM_word hC.mem h3
theorem decI_match {v : Int} {x : X} (h : decI v = some x) : ∃ n, n < 43 ∧ Match v n ∧ x = xOf v n := by
  rcases dec_or v with h' | ⟨n, hn, hM⟩
  · rw [decI_no h'] at h; cases h
  · rw [decI_yes hn hM] at h; cases h; exact ⟨n, hn, hM, rfl⟩
theorem decI_w {v : Int} {x : X} (hv : IsW v) (h : decI v = some x) : XW x := by
  obtain ⟨n, hn, hM, rfl⟩ := decI_match h
  have hr : ∀ (a : Nat) (b : Bool), 0 ≤ regI v a b ∧ regI v a b < 32 := fun a b => by
    obtain ⟨k, rfl⟩ := Int.eq_ofNat_of_zero_le hv.1
    rw [regI_nat]
    have := regN_lt k a b
    omega
  refine ⟨hn, hr 7 _, hr 15 _, hr 20 _, ?_, fun e => ?_⟩
  · obtain ⟨k, rfl⟩ := Int.eq_ofNat_of_zero_le hv.1
    have hs := opS_lt hn
    show IsI (numberI (k : Int) (opS n))
    obtain e | e | e | e | e | e | e | e : opS n = 0 ∨ opS n = 1 ∨ opS n = 2 ∨ opS n = 3 ∨ opS n = 4 ∨ opS n = 5 ∨ opS n = 6 ∨ opS n = 7 := by omega
    all_goals rw [e]
    · exact num_isI (by omega) (dec_num0 k).1
    · exact num_isI (by omega) (dec_num1 k).1
    · exact num_isI (by omega) (dec_num2 k).1
    · exact num_isI (by omega) (dec_num3 k).1
    · exact num_isI (by omega) (dec_num4 k).1
    · exact num_isI (by omega) (dec_num5 k).1
    · exact num_isI (by omega) (dec_num6 k).1
    · exact num_isI (by omega) (dec_num7 k).1
  · show regI v 7 (lRd (opS n)) = 0
    have e : lRd (opS n) = false := e
    rw [e]; rfl
theorem box_free {w w' : World} {F : Nat → Prop} {cs : Array Value} {t : TypeId} (o : Out (NB F w.heap.size) (w.alloc (.cells cs t)) w') (k : Nat) : w'.frozen? ⟨w.heap.size, k, none⟩ = false := by
  rw [World.frozen?_of_block (o.block w.heap.size (by simp) (fun e => e.2 rfl))]
  unfold World.frozen?
  rw [heap_alloc_last]
  simp
/-- the box is written: nothing else turns -/
theorem box_set {w w' w2 : World} {F : Nat → Prop} {K : CK} {st : St} {cs : Array Value} {t : TypeId} (hc : K.c < w.heap.size) (hA : CpuAt w' K (NB F w.heap.size) st) (hO : Out (NB F w.heap.size) (w.alloc (.cells cs t)) w') (hF : F w.heap.size)
    (hg : w'.grownBy w2 (some w.heap.size)) : CpuAt w2 K F st ∧ Out F w w2 := by
  refine ⟨?_, hO.boxed.trans (.of_grown hg (fun g e => by cases e; exact hF))⟩
  obtain ⟨ve, vl, hC, hFt⟩ := hA
  have hb : w'.heap[w.heap.size]? = some (.cells cs t (0, 0)) := by
    rw [hO.block w.heap.size (by simp) (fun e => e.2 rfl)]; exact heap_alloc_last _ _
  refine (show CpuAt w2 K (NB F w.heap.size) st from ⟨ve, vl, hC.grown hg (fun b e => ?_), hFt.mono hg.size⟩).widen
  cases e
  exact ⟨hc, fun e => map_ne_cells (es := #[]) (c := 0) e hb hC.ops, fun e => (hFt.2.2.1 _ e).2 rfl, fun e => (hFt.2.2.2.1 _ e).2 rfl⟩
theorem CpuAt.lt {w : World} {K : CK} {F : Nat → Prop} {st : St} (h : CpuAt w K F st) : K.c < w.heap.size ∧ ∀ b, w.heap.size ≤ b → F b := by
  obtain ⟨_, _, hC, hF⟩ := h
  exact ⟨hC.blk.lt, hF.2.2.2.2⟩
theorem grown_set5 (w : World) (g : Nat) (a b c d e : Value) : w.grownBy (((((w.setCell ⟨g, 0, none⟩ a).setCell ⟨g, 1, none⟩ b).setCell ⟨g, 2, none⟩ c).setCell ⟨g, 3, none⟩ d).setCell ⟨g, 4, none⟩ e) (some g) :=
  grown_trans (grown_trans (grown_trans (grown_trans (grown_setCell w g 0 a) (grown_setCell _ g 1 b)) (grown_setCell _ g 2 c)) (grown_setCell _ g 3 d)) (grown_setCell _ g 4 e)
section
variable (K : CK) (F : Nat → Prop) (st st1 : St) (v : Int) (w : World)
set_option maxHeartbeats 1000000 in
theorem instr_no (hA : CpuAt w K F st) (h : fetchC K.T K.E st = none) :
    Calls Tryz.prog 79 #[.pointer (some ⟨K.c, 0, none⟩)] w (InsR w K F 0 0 0 0 0 13 st) := by
  have HA := Lib.hid (hA.narrow (.cells #[.int .i64 0, .int .i64 0, .int .i64 0, .int .i64 0, .int .i64 0] 74))
  have HH := Lib.hid h
  have HL := Lib.hid hA.lt
  have m5 := insC_new (w := w) (op := 0) (rd := 0) (r1 := 0) (r2 := 0) (imm := 0) (t := 74)
  have M5 := Lib.hid m5
  clear hA h m5
  go_enter Tryz.func79, Tryz.ntmps79
  go_wp2_with fail
  refine (cfetch_fail K _ st _ HA.out HH.out).mono ?_
  rintro e w1 ⟨rfl, hA1, hO1⟩
  have HA1 := Lib.hid hA1
  have HO1 := Lib.hid hO1
  obtain ⟨x0, x1, x2, x3, x4⟩ := M5.out.out hO1
  have hz : w.heap.size < w1.heap.size := by have := hO1.size; simp at this; omega
  have f0 := box_free hO1 0
  have f1 := box_free hO1 1
  have f2 := box_free hO1 2
  have f3 := box_free hO1 3
  have f4 := box_free hO1 4
  clear hA1 hO1
  go_wp2
  refine bodyPost_ret (v := .tuple #[.agg #[.int .i64 0, .int .i64 0, .int .i64 0, .int .i64 0, .int .i64 0], .int .i64 13]) (by simp [results, Tryz.results79, go_sem, x0, x1, x2, x3, x4]) rfl ?_
  exact ⟨rfl, box_set HL.out.1 HA1.out HO1.out (HL.out.2 _ (Nat.le_refl _)) (grown_set5 _ _ _ _ _ _ _)⟩
set_option maxHeartbeats 1000000 in
theorem instr_go (op rd r1 r2 imm c : Int) (hA : CpuAt w K F st) (hV : Env w F) (hl : st.ev.length < 100000000) (h : fetchC K.T K.E st = some (v, st1))
    (hD : ∀ w : World, Tabs w → Calls Tryz.prog 102 #[.int .u32 v] w fun e w' => e = .returned (.tuple #[.agg #[.int .i64 op, .int .i64 rd, .int .i64 r1, .int .i64 r2, .int .i64 imm], .int .i64 c]) ∧ Below w.heap.size w w') :
    Calls Tryz.prog 79 #[.pointer (some ⟨K.c, 0, none⟩)] w (InsR w K F op rd r1 r2 imm c st1) := by
  have HA := Lib.hid (hA.narrow (.cells #[.int .i64 0, .int .i64 0, .int .i64 0, .int .i64 0, .int .i64 0] 74))
  have HV := Lib.hid (hV.narrow (.cells #[.int .i64 0, .int .i64 0, .int .i64 0, .int .i64 0, .int .i64 0] 74) w.heap.size)
  have HH := Lib.hid h
  have HD := Lib.hid hD
  have HL := Lib.hid hA.lt
  have HEl := Lib.hid hl
  have m5 := insC_new (w := w) (op := 0) (rd := 0) (r1 := 0) (r2 := 0) (imm := 0) (t := 74)
  have M5 := Lib.hid m5
  clear hA h m5 hD hV hl
  go_enter Tryz.func79, Tryz.ntmps79
  go_wp2_with fail
  refine (cfetch_some K _ st st1 v _ HA.out HEl.out HH.out).mono ?_
  rintro e w1 ⟨rfl, hA1, hO1⟩
  have HA1 := Lib.hid hA1
  have HO1 := Lib.hid hO1
  have hz : w.heap.size < w1.heap.size := by have := hO1.size; simp at this; omega
  clear hA1 hO1
  go_wp2_with fail
  refine (HD.out _ (HV.out.out HO1.out).tabs).mono ?_
  rintro e w2 ⟨rfl, hb2⟩
  have HA2 := Lib.hid (HA1.out.below hb2)
  have HO2 := Lib.hid (HO1.out.trans (.of_below hb2))
  obtain ⟨x0, x1, x2, x3, x4⟩ := M5.out.out HO2.out
  have f0 := box_free HO2.out 0
  have f1 := box_free HO2.out 1
  have f2 := box_free HO2.out 2
  have f3 := box_free HO2.out 3
  have f4 := box_free HO2.out 4
  clear hb2 HA1 HO1 HD
  go_wp2
  refine bodyPost_ret (v := .tuple #[.agg #[.int .i64 op, .int .i64 rd, .int .i64 r1, .int .i64 r2, .int .i64 imm], .int .i64 c]) (by simp [results, Tryz.results79, go_sem, x0, x1, x2, x3, x4]) rfl ?_
  exact ⟨rfl, box_set HL.out.1 HA2.out HO2.out (HL.out.2 _ (Nat.le_refl _)) (grown_set5 _ _ _ _ _ _ _)⟩
end
/-- what an operation does, by its method value -/
theorem exec_any (K : CK) (F : Nat → Prop) (st : St) (x : X) (w : World) (hx : XW x) (hA : CpuAt w K F st) (hV : Env w F) (hl : st.lk.length < 100000000) :
    Calls Tryz.prog (opG x.op).1 #[boundV K.c (opG x.op).2, .agg #[.int .i64 x.op, .int .i64 x.rd, .int .i64 x.r1, .int .i64 x.r2, .int .i64 x.imm]] w (ShowP w K F (execC K.T x st)) := by
  by_cases h0 : x.op < 16
  · rw [opG_4 (by omega) h0]; exact do_two K F st x w h0 hx hA hl
  by_cases h1 : x.op < 25
  · rw [opG_5 (by omega) h1]; exact do_one K F st x w (by omega) h1 hx hA hV
  by_cases h2 : x.op < 29
  · obtain e | e | e | e : x.op = 25 ∨ x.op = 26 ∨ x.op = 27 ∨ x.op = 28 := by omega
    · rw [show opG x.op = (69, some (1, 8)) by rw [e]; rfl]; exact do_load K F 1 8 st x w (by omega) h2 (by rw [e]; rfl) (by rw [e]; rfl) hx hA hl
    · rw [show opG x.op = (69, some (1, 64)) by rw [e]; rfl]; exact do_load K F 1 64 st x w (by omega) h2 (by rw [e]; rfl) (by rw [e]; rfl) hx hA hl
    · rw [show opG x.op = (69, some (4, 32)) by rw [e]; rfl]; exact do_load K F 4 32 st x w (by omega) h2 (by rw [e]; rfl) (by rw [e]; rfl) hx hA hl
    · rw [show opG x.op = (69, some (8, 64)) by rw [e]; rfl]; exact do_load K F 8 64 st x w (by omega) h2 (by rw [e]; rfl) (by rw [e]; rfl) hx hA hl
  by_cases h3 : x.op < 32
  · obtain e | e | e : x.op = 29 ∨ x.op = 30 ∨ x.op = 31 := by omega
    · rw [show opG x.op = (70, some (1, 0)) by rw [e]; rfl]; exact do_store K F 1 0 st x w (by omega) h3 (by rw [e]; rfl) hx hA hl
    · rw [show opG x.op = (70, some (4, 0)) by rw [e]; rfl]; exact do_store K F 4 0 st x w (by omega) h3 (by rw [e]; rfl) hx hA hl
    · rw [show opG x.op = (70, some (8, 0)) by rw [e]; rfl]; exact do_store K F 8 0 st x w (by omega) h3 (by rw [e]; rfl) hx hA hl
  by_cases h4 : x.op < 38
  · rw [opG_6 (by omega) h4]; exact do_branch K F st x w (by omega) h4 hx hA
  obtain ⟨hn, ⟨r0, r1⟩, _⟩ := id hx
  obtain e | e | e | e | e : x.op = 38 ∨ x.op = 39 ∨ x.op = 40 ∨ x.op = 41 ∨ x.op = 42 := by omega
  · rw [show opG x.op = (71, none) by rw [e]; rfl, show execC K.T x st = writeC st x.rd (modU x.imm) by unfold execC; simp [e]]
    exact do_upper K F st _ _ _ _ _ w r0 r1 hA
  · rw [show opG x.op = (72, none) by rw [e]; rfl, show execC K.T x st = writeC st x.rd (farP st.s x.imm) by unfold execC; simp [e]]
    exact do_far K F st _ _ _ _ _ w r0 r1 hA
  · rw [show opG x.op = (73, none) by rw [e]; rfl, show execC K.T x st = leapC st x.rd (farP st.s x.imm) by unfold execC; simp [e]]
    exact do_jump K F st _ _ _ _ _ w r0 r1 hA
  · rw [show opG x.op = (74, none) by rw [e]; rfl, show execC K.T x st = leapC st x.rd (sumP st.s x - sumP st.s x % 2) by unfold execC; simp [e]]
    exact do_jalr K F st x w hx hA
  · rw [show opG x.op = (75, none) by rw [e]; rfl, show execC K.T x st = withS st (doneS st.s 1) by unfold execC; simp [e]]
    exact do_stop K F st _ _ _ _ _ w hA
end Go.Proofs.YtoeagbcjnffpaaaGreatDoor
namespace Go.Proofs.YtoeagbcjnffpaaaGreatDoor
set_option maxRecDepth 100000
open Go.RowKit Go.Maps
set_option linter.unusedVariables false
/-- a call of function f goes into it -/
def Enters (f : Nat) : Prop := ∀ (args : Array Value) (w : World), (callFunc f args).run Tryz.prog w = .ok (.enter f args) w
theorem enters0 : Enters 76 := fun args w => by kernel_rfl
theorem enters1 : Enters 77 := fun args w => by kernel_rfl
theorem enters2 : Enters 69 := fun args w => by kernel_rfl
theorem enters3 : Enters 70 := fun args w => by kernel_rfl
theorem enters4 : Enters 78 := fun args w => by kernel_rfl
theorem enters5 : Enters 71 := fun args w => by kernel_rfl
theorem enters6 : Enters 72 := fun args w => by kernel_rfl
theorem enters7 : Enters 73 := fun args w => by kernel_rfl
theorem enters8 : Enters 74 := fun args w => by kernel_rfl
theorem enters9 : Enters 75 := fun args w => by kernel_rfl
theorem enters_op (k : Nat) : Enters (opG k).1 := by
  unfold opG
  by_cases h : k < 16
  · rw [if_pos h]; exact enters0
  rw [if_neg h]
  clear h
  by_cases h : k < 25
  · rw [if_pos h]; exact enters1
  rw [if_neg h]
  clear h
  by_cases h : k = 25
  · rw [if_pos h]; exact enters2
  rw [if_neg h]
  clear h
  by_cases h : k = 26
  · rw [if_pos h]; exact enters2
  rw [if_neg h]
  clear h
  by_cases h : k = 27
  · rw [if_pos h]; exact enters2
  rw [if_neg h]
  clear h
  by_cases h : k = 28
  · rw [if_pos h]; exact enters2
  rw [if_neg h]
  clear h
  by_cases h : k = 29
  · rw [if_pos h]; exact enters3
  rw [if_neg h]
  clear h
  by_cases h : k = 30
  · rw [if_pos h]; exact enters3
  rw [if_neg h]
  clear h
  by_cases h : k = 31
  · rw [if_pos h]; exact enters3
  rw [if_neg h]
  clear h
  by_cases h : k < 38
  · rw [if_pos h]; exact enters4
  rw [if_neg h]
  clear h
  by_cases h : k = 38
  · rw [if_pos h]; exact enters5
  rw [if_neg h]
  clear h
  by_cases h : k = 39
  · rw [if_pos h]; exact enters6
  rw [if_neg h]
  clear h
  by_cases h : k = 40
  · rw [if_pos h]; exact enters7
  rw [if_neg h]
  clear h
  by_cases h : k = 41
  · rw [if_pos h]; exact enters8
  rw [if_neg h]
  clear h
  exact enters9
/-- what Step answers -/
def StepP (w : World) (K : CK) (F : Nat → Prop) (b : Bool) (st : St) (e : Ending) (w' : World) : Prop := e = .returned (.bool b) ∧ CpuAt w' K F st ∧ Out F w w'
theorem showC_len (st : St) (k a b : Int) : (showC st k a b).lk.length ≤ st.lk.length + 1 := by
  unfold showC; split
  · simp
  · omega
section
variable (K : CK) (F : Nat → Prop) (st st1 : St) (w : World)
theorem step_idle (hA : CpuAt w K F st) (hd : st.s.dn ≠ 0) :
    Calls Tryz.prog 39 #[.pointer (some ⟨K.c, 0, none⟩)] w (StepP w K F false st) := by
  have HA := Lib.hid hA
  obtain ⟨_, _, hC, _⟩ := hA
  have h36 := hC.blk.dn
  have hd2 : (st.s.dn != 0) = true := by rw [bne_iff_ne]; exact hd
  clear hC
  go_enter Tryz.func39, Tryz.ntmps39
  go_wp2
  go_ret
  exact ⟨rfl, HA.out, .refl _ _⟩
set_option maxHeartbeats 1000000 in
theorem step_bad (c : Int) (hc : c ≠ 0) (hA : CpuAt w K F st) (hd : st.s.dn = 0) (hI : Calls Tryz.prog 79 #[.pointer (some ⟨K.c, 0, none⟩)] w (InsR w K F 0 0 0 0 0 c st1)) :
    Calls Tryz.prog 39 #[.pointer (some ⟨K.c, 0, none⟩)] w (StepP w K F true (broke st1)) := by
  have HI := Lib.hid hI
  have hc2 : (c != 0) = true := by rw [bne_iff_ne]; exact hc
  obtain ⟨_, _, hC, _⟩ := hA
  have h36 := hC.blk.dn
  rw [hd] at h36
  clear hC hI hd hc
  go_enter Tryz.func39, Tryz.ntmps39
  go_wp2_with fail
  refine HI.out.mono ?_
  rintro e w1 ⟨rfl, hA1, hO1⟩
  have HO1 := Lib.hid hO1
  have lt := hA1.lt.1
  have hA2 := hA1.narrow (.cells #[.int .i64 0, .int .i64 0, .int .i64 0, .int .i64 0, .int .i64 0] 74)
  obtain ⟨_, _, hC, hF⟩ := hA2
  have g36 := hC.blk.dn
  have gf := hC.blk.free 36
  have hZ := CpuAt.state hC hF ⟨hC.blk.setDn 2, grown_setCell _ K.c 36 _⟩ (hC.wf.done (.inr (.inr rfl)))
  rw [World.setCell_alloc_past _ _ _ _ lt] at hZ
  have HZ := Lib.hid hZ
  clear hA1 hO1 hC hF hZ HI
  go_wp2
  go_ret
  exact ⟨rfl, HZ.out.1.widen, HO1.out.trans ((Out.of_below ((Below.refl _ w1).alloc (Nat.le_refl _) _)).trans HZ.out.2.widen)⟩
set_option maxHeartbeats 2000000 in
theorem step_ok (x : X) (hx : XW x) (hA : CpuAt w K F st) (hV : Env w F) (hd : st.s.dn = 0) (hl : st1.lk.length < 99999999) (hI : Calls Tryz.prog 79 #[.pointer (some ⟨K.c, 0, none⟩)] w (InsR w K F x.op x.rd x.r1 x.r2 x.imm 0 st1)) :
    Calls Tryz.prog 39 #[.pointer (some ⟨K.c, 0, none⟩)] w (StepP w K F true (execC K.T x (showC st1 0 st1.s.pc 0))) := by
  have HI := Lib.hid hI
  have HX := Lib.hid hx
  have HV := Lib.hid hV
  have HL := Lib.hid (show st1.lk.length < 100000000 ∧ (showC st1 0 st1.s.pc 0).lk.length < 100000000 from ⟨by omega, by have := showC_len st1 0 st1.s.pc 0; omega⟩)
  obtain ⟨_, _, hC, _⟩ := hA
  have h36 := hC.blk.dn
  rw [hd] at h36
  clear hC hI hd hx hV hl
  go_enter Tryz.func39, Tryz.ntmps39
  go_wp2_with fail
  refine HI.out.mono ?_
  rintro e w1 ⟨rfl, hA1, hO1⟩
  have HM := Lib.hid (Mid.start (x := x) hA1)
  have HO1 := Lib.hid hO1
  obtain ⟨x0, x1, x2, x3, x4⟩ := HM.out.ins
  have h34 : (w1.alloc (.cells #[.int .i64 x.op, .int .i64 x.rd, .int .i64 x.r1, .int .i64 x.r2, .int .i64 x.imm] 74)).cell? ⟨K.c, 34, none⟩ = some (.int .u64 st1.s.pc) := by obtain ⟨_, _, hC, _⟩ := HM.out.cpu; exact hC.blk.pc
  clear hA1 hO1 HI
  go_wp2_with fail
  refine (show_any K _ st1 0 st1.s.pc 0 _ HM.out.cpu HL.out.1).mono ?_
  rintro e w2 ⟨rfl, hA2, hO2⟩
  have HM1 := Lib.hid (HM.out.step hA2 hO2)
  have HM2 := Lib.hid (HM1.out.drewN 1)
  obtain ⟨_, _, hC, _⟩ := hA2
  have h39 := hC.blk.map
  have HLk := Lib.hid (hC.below (bel_drewN (Below.refl _ _) 1)).ops
  have hlk : (Instr.lookup 82 (.map (some K.md)) (.int .i64 x.op) false).run Tryz.prog w2.drew = .ok (.func (.func (opG x.op).1) #[boundV K.c (opG x.op).2] #[]) w2.drew := HLk.out.look HX.out.1 (by have := HX.out.1; omega)
  clear x0 x1 x2 x3 x4 h34 hC hO2
  obtain ⟨x0, x1, x2, x3, x4⟩ := HM1.out.ins
  have HE := Lib.hid (exec_any K _ _ x _ HX.out HM2.out.cpu (HV.out.out (HO1.out.trans HM2.out.out) |> fun h => ⟨h.tabs, h.taba, fun e => h.ops e.1, fun e => h.lays e.1, fun e => h.two e.1⟩) HL.out.2)
  have hcf : ∀ (args : Array Value) (w : World), (callFunc (opG x.op).1 args).run Tryz.prog w = .ok (.enter (opG x.op).1 args) w := enters_op x.op
  generalize (opG x.op).1 = fn at *
  generalize boundV K.c (opG x.op).2 = bv at *
  go_wp2
  refine wp_region_still_tail 8 (by kernel_rfl) (by kernel_rfl) ?_
  simp only [List.take_succ_cons, List.take_zero, List.drop_succ_cons, List.drop_zero]
  change wpStill _ _ (World.drew _) (fun a' => wpList _ _ _ _ a' (World.drew _)) _ _
  repeat still_step
  refine wpStill_nil ?_
  go_wp2_with fail
  refine HE.out.mono ?_
  rintro e w3 ⟨rfl, hA3, hO3⟩
  have HZ := Lib.hid ((HM2.out.step hA3 hO3).fin rfl)
  clear hA3 hO3
  go_wp2
  go_ret
  exact ⟨rfl, HZ.out.2.1, HO1.out.trans HZ.out.2.2⟩
end
end Go.Proofs.YtoeagbcjnffpaaaGreatDoor
namespace Go.Proofs.YtoeagbcjnffpaaaGreatDoor
set_option maxRecDepth 100000
open Go.RowKit Go.Maps
set_option linter.unusedVariables false

/-! ### How far the rows grow -/
theorem fetchC_rows {T : List Rg} {E : List Int} {st st1 : St} {v : Int} (h : fetchC T E st = some (v, st1)) : st1.lk = st.lk ∧ st1.ev.length ≤ st.ev.length + 1 ∧ st1.B = st.B ∧ (st1 = st ∨ st1 = changed st) := by
  unfold fetchC at h
  cases h1 : loadM T st.B st.s.pc 4 st.s.own 4 with
  | some y => rw [h1] at h; cases h; exact ⟨rfl, by omega, rfl, .inl rfl⟩
  | none =>
    rw [h1] at h
    cases h2 : (st.s.own || hasE E st.s.pc) with
    | false => rw [h2] at h; cases h
    | true =>
      rw [h2] at h
      cases h3 : loadM T st.B st.s.pc 4 (!st.s.own) 4 with
      | none => rw [h3] at h; cases h
      | some y => rw [h3] at h; cases h; exact ⟨rfl, by simp [changed], rfl, .inr rfl⟩
theorem showC_ev (st : St) (k a b : Int) : (showC st k a b).ev = st.ev := by unfold showC; split <;> rfl
theorem execC_rows (T : List Rg) (x : X) (st : St) : (execC T x st).ev = st.ev ∧ (execC T x st).lk.length ≤ st.lk.length + 1 := by
  have h0 : ∀ (s : CS) (st : St), (withS st s).ev = st.ev ∧ (withS st s).lk = st.lk := fun _ _ => ⟨rfl, rfl⟩
  have hs := fun k a b => showC_len st k a b
  have he := fun k a b => showC_ev st k a b
  unfold execC
  split
  · split
    · exact ⟨he _ _ _, hs _ _ _⟩
    · exact ⟨rfl, by simp [writeC, withS]⟩
  split
  · exact ⟨rfl, by simp [writeC, withS]⟩
  split
  · split
    · exact ⟨he _ _ _, hs _ _ _⟩
    · exact ⟨he _ _ _, hs _ _ _⟩
  split
  · split
    · exact ⟨he _ _ _, hs _ _ _⟩
    · exact ⟨he _ _ _, hs _ _ _⟩
  all_goals (repeat' split) <;> exact ⟨rfl, by simp [writeC, leapC, withS]⟩
theorem stepC_rows (T : List Rg) (E : List Int) (st : St) : (stepC T E st).ev.length ≤ st.ev.length + 1 ∧ (stepC T E st).lk.length ≤ st.lk.length + 2 := by
  unfold stepC
  split
  · exact ⟨by omega, by omega⟩
  · split
    · exact ⟨by simp [broke, withS], by simp [broke, withS]⟩
    · next w st1 h =>
      obtain ⟨h1, h2, _⟩ := fetchC_rows h
      split
      · exact ⟨by simpa [broke, withS] using h2, by simp [broke, withS, h1]⟩
      · next x hx =>
        obtain ⟨e1, e2⟩ := execC_rows T x (showC st1 0 st1.s.pc 0)
        have := showC_len st1 0 st1.s.pc 0
        have := showC_ev st1 0 st1.s.pc 0
        rw [e1, this]
        refine ⟨h2, ?_⟩
        rw [h1] at *
        omega
section
variable (K : CK) (F : Nat → Prop) (st : St) (w : World)
theorem step_any (hA : CpuAt w K F st) (hV : Env w F) (he : st.ev.length < 99999999) (hl : st.lk.length < 99999990) :
    Calls Tryz.prog 39 #[.pointer (some ⟨K.c, 0, none⟩)] w (StepP w K F (decide (st.s.dn = 0)) (stepC K.T K.E st)) := by
  by_cases hd : st.s.dn = 0
  · rw [show decide (st.s.dn = 0) = true by simpa using hd]
    cases hf : fetchC K.T K.E st with
    | none =>
      rw [show stepC K.T K.E st = broke st by unfold stepC; rw [if_neg (by simpa using hd), hf]]
      exact step_bad K F st st w 13 (by omega) hA hd (instr_no K F st w hA hf)
    | some p =>
      obtain ⟨v, st1⟩ := p
      have hW : IsW v := by obtain ⟨_, _, hC, _⟩ := hA; exact isW_fetch hC hf
      cases hx : decI v with
      | none =>
        rw [show stepC K.T K.E st = broke st1 by unfold stepC; rw [if_neg (by simpa using hd), hf]; simp only [hx]]
        refine step_bad K F st st1 w 3 (by omega) hA hd (instr_go K F st st1 v w 0 0 0 0 0 3 hA hV (by omega) hf (fun w hT => ?_))
        rcases dec_or v with h | ⟨n, hn, hM⟩
        · exact decode_no v w hW hT h
        · rw [decI_yes hn hM] at hx; cases hx
      | some x =>
        rw [show stepC K.T K.E st = execC K.T x (showC st1 0 st1.s.pc 0) by unfold stepC; rw [if_neg (by simpa using hd), hf]; simp only [hx]]
        refine step_ok K F st st1 w x (decI_w hW hx) hA hV hd (by rw [(fetchC_rows hf).1]; omega) (instr_go K F st st1 v w x.op x.rd x.r1 x.r2 x.imm 0 hA hV (by omega) hf (fun w hT => ?_))
        obtain ⟨n, hn, hM, rfl⟩ := decI_match hx
        exact decode_yes v n w hW hT hn hM
  · rw [show decide (st.s.dn = 0) = false by simpa using hd, show stepC K.T K.E st = st by unfold stepC; rw [if_pos hd]]
    exact step_idle K F st w hA hd
/-- what Run answers -/
def RunP (w : World) (K : CK) (F : Nat → Prop) (n : Nat) (st : St) (e : Ending) (w' : World) : Prop := e = .returned (.int .i64 n) ∧ CpuAt w' K F st ∧ Out F w w'
theorem runC_zero (T : List Rg) (E : List Int) (st : St) : runC T E 0 st = (0, st) := rfl
theorem runC_stop (T : List Rg) (E : List Int) (k : Nat) (st : St) (h : st.s.dn ≠ 0) : runC T E k st = (0, st) := by
  cases k with
  | zero => rfl
  | succ k => show (if _ then _ else _) = _; rw [if_pos h]
theorem runC_succ (T : List Rg) (E : List Int) (k : Nat) (st : St) (h : st.s.dn = 0) : runC T E (k + 1) st = ((runC T E k (stepC T E st)).1 + 1, (runC T E k (stepC T E st)).2) := by
  show (if _ then _ else _) = _; rw [if_neg (by simpa using h)]
/-- under way: after j of k steps -/
def RunK (w wr : World) (K : CK) (F : Nat → Prop) (st : St) (k j : Nat) (stj : St) : Prop :=
  CpuAt wr K F stj ∧ Out F w wr ∧ Env wr F ∧ (runC K.T K.E (k - j) stj).1 + j = (runC K.T K.E k st).1 ∧ (runC K.T K.E (k - j) stj).2 = (runC K.T K.E k st).2 ∧ stj.ev.length ≤ st.ev.length + j ∧ stj.lk.length ≤ st.lk.length + 2 * j
set_option maxHeartbeats 1000000 in
theorem run_any (k : Nat) (hA : CpuAt w K F st) (hV : Env w F) (he : st.ev.length + k < 99999999) (hl : st.lk.length + 2 * k < 99999990) :
    Calls Tryz.prog 11 #[.pointer (some ⟨K.c, 0, none⟩), .int .i64 k] w (RunP w K F (ranN K.T K.E k st) (ranS K.T K.E k st)) := by
  have H0 := Lib.hid (show RunK w w K F st k 0 st from ⟨hA, .refl _ _, hV, rfl, rfl, by omega, by omega⟩)
  have HB := Lib.hid (And.intro he hl)
  have hk : (k : Int) ≤ 9223372036854775807 := by omega
  clear hA hV he hl
  go_enter Tryz.func11, Tryz.ntmps11
  go_wp2
  go_loopw [5] (fun i wr => ∃ (j : Nat) (stj : St), j ≤ k ∧ i = .int .i64 j ∧ RunK w wr K F st k j stj) (fun i _ => k - (intOf i).toNat)
  case atStart => exact ⟨0, st, by omega, rfl, H0.out⟩
  case round =>
    obtain ⟨j, stj, hj, rfl, hR⟩ := hrel
    have HR := Lib.hid hR
    clear hR
    by_cases hlt : j < k
    · have hlt2 : ((j : Int) < k) := by omega
      have HS := Lib.hid (step_any K F stj wr HR.out.1 HR.out.2.2.1 (by have := HR.out.2.2.2.2.2.1; have := HB.out.1; omega) (by have := HR.out.2.2.2.2.2.2; have := HB.out.2; omega))
      by_cases hd : stj.s.dn = 0
      · rw [show decide (stj.s.dn = 0) = true by simpa using hd] at HS
        have HD := Lib.hid hd
        clear hd hlt
        go_wp2_with fail
        refine HS.out.mono ?_
        rintro e w2 ⟨rfl, hA2, hO2⟩
        have HR2 := Lib.hid (show RunK w w2 K F st k (j + 1) (stepC K.T K.E stj) from by
          obtain ⟨r1, r2, r3, r4, r5, r6, r7⟩ := HR.out
          have hr := stepC_rows K.T K.E stj
          rw [show k - j = (k - (j + 1)) + 1 by omega, runC_succ _ _ _ _ HD.out] at r4 r5
          exact ⟨hA2, r2.trans hO2, r3.out hO2, by simp only at r4; omega, r5, by omega, by omega⟩)
        clear hA2 hO2 HR HS HD
        go_wp2
        go_roundw
        case rel => exact ⟨j + 1, _, by omega, by go_num, HR2.out⟩
        case measure => simp [intOf]; omega
      · rw [show decide (stj.s.dn = 0) = false by simpa using hd] at HS
        have HD := Lib.hid hd
        clear hd hlt
        go_wp2_with fail
        refine HS.out.mono ?_
        rintro e w2 ⟨rfl, hA2, hO2⟩
        have HZ := Lib.hid (show RunP w K F (ranN K.T K.E k st) (ranS K.T K.E k st) (.returned (.int .i64 j)) w2 from by
          obtain ⟨r1, r2, r3, r4, r5, r6, r7⟩ := HR.out
          rw [runC_stop _ _ _ _ HD.out] at r4 r5
          rw [show stepC K.T K.E stj = stj by unfold stepC; rw [if_pos HD.out]] at hA2
          refine ⟨?_, by rw [show ranS K.T K.E k st = stj from r5.symm]; exact hA2, r2.trans hO2⟩
          rw [show ranN K.T K.E k st = j by unfold ranN; simp only at r4; omega])
        clear hA2 hO2 HR HS HD
        go_wp2
        go_ret
        exact HZ.out
    · obtain rfl : j = k := by omega
      have HZ := Lib.hid (show RunP w K F (ranN K.T K.E j st) (ranS K.T K.E j st) (.returned (.int .i64 j)) wr from by
        obtain ⟨r1, r2, r3, r4, r5, r6, r7⟩ := HR.out
        rw [Nat.sub_self] at r4 r5
        refine ⟨?_, by rw [show ranS K.T K.E j st = stj from r5.symm]; exact r1, r2⟩
        rw [show ranN K.T K.E j st = j by unfold ranN; rw [runC_zero] at r4; simp only at r4; omega])
      clear HR
      go_wp2
      go_ret
      exact HZ.out
end
end Go.Proofs.YtoeagbcjnffpaaaGreatDoor
namespace Go.Proofs.YtoeagbcjnffpaaaGreatDoor
set_option maxRecDepth 100000
open Go.RowKit Go.Maps
set_option linter.unusedVariables false

theorem stateInfo : (Tryz.prog.info? 28).map (·.size) = some 35 := by kernel_rfl
theorem stateSize (w : World) : (sizeOf 28).run Tryz.prog w = .ok 35 w := by kernel_rfl
/-- a struct's cells, read at once -/
theorem run_load_state {w : World} {b off : Nat} {l : List Value} (hl : l.length = 35) (h : ∀ j v, l[j]? = some v → w.cell? ⟨b, off + j, none⟩ = some v) :
    (loadVar 28 ⟨b, off, none⟩).run Tryz.prog w = .ok (.agg l.toArray) w := by
  have h1 : (loadCells ⟨b, off, none⟩ l.length).run Tryz.prog w = .ok l.toArray w :=
    run_loadCells_list (P := Tryz.prog) w ⟨b, off, none⟩ l (fun j v hv => by rw [add_off]; exact h j v hv)
  have hagg : (isAgg 28).run Tryz.prog w = .ok true w := by
    unfold isAgg
    rw [Sem.run_bind, run_underlying Tryz.underlying28 w]
    rfl
  rw [hl] at h1
  unfold loadVar
  simp only [Sem.run_bind, hagg, stateSize, h1, Result.andThen_ok, if_true, Sem.run_pure]
theorem wpList_load_state {w : World} {ops : Array Oper} {rest : List Oper} {o : Oper} {a : Act} {Q : Exit → Act → World → Prop} (hgd : o.guard = none) (x : Operand) (ho : o.op = .load 28 x)
    (b off : Nat) (l : List Value) (hx : a.eval x = .pointer (some ⟨b, off, none⟩)) (hl : l.length = 35) (hc : ∀ j v, l[j]? = some v → w.cell? ⟨b, off + j, none⟩ = some v)
    (h : wpList Tryz.prog ops Q rest (a.put o.dst (.agg l.toArray)) w) : wpList Tryz.prog ops Q (o :: rest) a w :=
  wpList_plain hgd fun K hK => by
    unfold Oper.wp execOp
    simp only [ho, hx, Instr.loadAt, Instr.sureAddr, Sem.run_bind, Sem.run_pure, Result.andThen_ok, run_load_state hl hc]
    exact hK _ _ h
theorem CpuB.stl {w : World} {c m : Nat} {vE : Value} {s : CS} {ve vl : Value} {md : Nat} (h : CpuB w c m vE s ve vl md) : ∀ j v, (stateL s)[j]? = some v → w.cell? ⟨c, 2 + j, none⟩ = some v := by
  intro j v hv
  have hj : j < 35 := by have := (List.getElem?_eq_some_iff.1 hv).1; rw [stateL_len h.2] at this; exact this
  rw [h.st hj, hv]
theorem stateL_one (s : CS) : (stateL s).toArray.all (·.oneCell') = true := by
  rw [Array.all_eq_true_iff_forall_mem]
  intro x hx
  simp only [stateL, regsL, List.mem_toArray, List.mem_append, List.mem_map, List.mem_cons, List.not_mem_nil, or_false] at hx
  rcases hx with ⟨y, _, rfl⟩ | rfl | rfl | rfl <;> rfl
section
variable (K : CK) (F : Nat → Prop) (st : St) (w : World)
theorem state_any (hA : CpuAt w K F st) :
    Calls Tryz.prog 13 #[.pointer (some ⟨K.c, 0, none⟩)] w fun e w' => e = .returned (.agg (stateL st.s).toArray) ∧ Below w.heap.size w w' := by
  obtain ⟨_, _, hC, _⟩ := hA
  have HC := Lib.hid hC.blk
  have HLen := Lib.hid (stateL_len hC.blk.2)
  have lt := hC.blk.lt
  clear hC
  go_enter Tryz.func13, Tryz.ntmps13
  go_wp2_with (first | (refine wpList_load_state rfl _ rfl K.c 2 (stateL st.s) rfl HLen.out (CpuB.below HC.out ((Below.refl _ _).alloc (Nat.le_refl _) _)).stl ?_) | (refine wpList_store_new rfl 28 _ _ rfl _ _ _ _ rfl rfl ?hi ?hs ?h1 rfl ?hg ?_; (case hi => (rw [stateInfo]; simp [HLen.out])); (case hs => simp [HLen.out]); (case h1 => exact stateL_one _); (case hg => rfl)))
  have hld : (loadVar 28 ⟨w.heap.size, 0, none⟩).run Tryz.prog (w.alloc (.cells (stateL st.s).toArray 28)) = .ok (.agg (stateL st.s).toArray) (w.alloc (.cells (stateL st.s).toArray 28)) :=
    run_load_state HLen.out (fun j v hv => by rw [Nat.zero_add, cell_of_row _ _ j _ _ _ (heap_alloc_last w _)]; simpa using hv)
  refine bodyPost_ret (v := .agg (stateL st.s).toArray) ?_ rfl ⟨rfl, (Below.refl _ _).alloc (Nat.le_refl _) _⟩
  simp [results, Tryz.results13, asAddr, Act.put, hld]
end
end Go.Proofs.YtoeagbcjnffpaaaGreatDoor
