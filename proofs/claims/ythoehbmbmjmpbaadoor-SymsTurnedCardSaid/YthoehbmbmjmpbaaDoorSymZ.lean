/- Layer 7: the reference's Texts and Defs. No condition. -/
import Derived.Test.YthoehbmbmjmpbaaDoorLexC
import Derived.Test.YthoehbmbmjmpbaaDoorSymS
import Derived.Laws.StructEq
namespace Go.Proofs.YthoehbmbmjmpbaaDoor
set_option maxRecDepth 100000
open Go.RowKit
set_option linter.unusedVariables false
set_option maxHeartbeats 1000000 in
theorem texts7_any (la lb : List ByteArray) (A B : Option Addr) (n m c d : Nat) (hn : la.length = n) (hm : lb.length = m) (hmx : n ≤ 1000000000) (w : World) (hA : WdAt w A la) (hB : WdAt w B lb) :
    Calls Tryd.prog 13 #[.slice A n c, .slice B m d] w fun e w' => e = .returned (.bool (decide (la = lb))) ∧ ∃ k, w' = w.drewN k := by
  by_cases hnm : n = m
  case neg =>
    have HF := Lib.hid (show decide (la = lb) = false from decide_eq_false (fun e => hnm (by rw [← hn, ← hm, e])))
    have t0 : ((n : Int) != (m : Int)) = true := by simpa using fun e => hnm (by omega)
    clear hA hB
    go_enter Tryd.func13, Tryd.ntmps13
    go_wp2
    go_ret
    exact ⟨ret_bool' HF.out.symm, 0, by simp [World.drewN_zero]⟩
  case pos =>
    subst hnm
    have HLa := Lib.hid hn
    have HLb := Lib.hid hm
    have HA := Lib.hid hA
    have HB := Lib.hid hB
    clear hA hB hn hm
    go_enter Tryd.func13, Tryd.ntmps13
    go_wp2
    go_loopw [5] (fun i wr => ∃ (k : Nat) (q : Nat), k ≤ n ∧ i = .int .i64 k ∧ Hid (wr = w.drewN q) ∧ Hid (∀ j, j < k → wdK la j = wdK lb j)) (fun i _ => n - (intOf i).toNat)
    case atStart => exact ⟨0, 0, by omega, rfl, Lib.hid (by simp [World.drewN_zero]), Lib.hid (fun j hj => by omega)⟩
    case round =>
      obtain ⟨k, q, hk, rfl, HW, HS⟩ := hrel
      have hw := HW.out
      clear HW
      subst hw
      by_cases hlt : k < n
      · have hla : k < la.length := by rw [HLa.out]; exact hlt
        have hlb : k < lb.length := by rw [HLb.out]; exact hlt
        rcases HA.out with h0 | ⟨ba, oa, rfl, hca⟩
        · rw [h0] at hla; simp at hla
        rcases HB.out with h0 | ⟨bb, ob, rfl, hcb⟩
        · rw [h0] at hlb; simp at hlb
        have g1 := hca k hla
        have g2 := hcb k hlb
        have HS' := Lib.hid (tl_beq (wdK la k) (wdK lb k))
        have HSn : wdK la k = wdK lb k → ∀ j, j < k + 1 → wdK la j = wdK lb j := fun e j hj => by
          by_cases hj' : j = k
          · subst hj'; exact e
          · exact HS.out j (by omega)
        have HSn' := Lib.hid HSn
        have HNe := Lib.hid (show wdK la k ≠ wdK lb k → decide (la = lb) = false from fun h => decide_eq_false (fun e => h (by rw [e])))
        have h0k : (0 : Int) ≤ (k : Int) := by omega
        have hkn : (k : Int) < (n : Int) := by omega
        clear hca hcb hla hlb HA HB HS HSn
        generalize wdK la k = s at *
        generalize wdK lb k = t at *
        by_cases hst : s = t
        · have t1 : (s.toList == t.toList) = true := by rw [HS'.out]; simpa using hst
          have t2 : (s.toList != t.toList) = false := by unfold bne; rw [t1]; rfl
          have HE := Lib.hid hst
          clear hst
          go_wp2
          go_quiet (fail)
          go_wp2
          go_roundw
          case rel => exact ⟨k + 1, _, by omega, by go_num, Lib.hid rfl, Lib.hid (HSn'.out HE.out)⟩
          case measure => simp [intOf]; omega
        · have t1 : (s.toList == t.toList) = false := by rw [HS'.out]; simpa using hst
          have t2 : (s.toList != t.toList) = true := by unfold bne; rw [t1]; rfl
          have HE := Lib.hid (HNe.out hst)
          clear hst
          go_wp2
          go_quiet (fail)
          go_wp2
          go_ret
          exact ⟨ret_bool' HE.out.symm, q + nq, by first | rfl | (rw [World.drewN_drewN])⟩
      · have HE := Lib.hid (show decide (la = lb) = true from decide_eq_true (wds_eq (by rw [HLa.out, HLb.out]) (fun j hj => HS.out j (by rw [HLa.out] at hj; omega))))
        go_wp2
        go_ret
        exact ⟨ret_bool' HE.out.symm, _, rfl⟩
theorem eqF_step7 {P : Program} {w : World} {d : Nat} {xs ys : Array Value} {f : Field} {fs : List Field} {t : TypeId} {o : Nat} {nm : String} {a b : Value} {r : Bool} (hn : f.name = nm) (hne : nm ≠ "_") (ht : f.type = t) (ho : f.offset = o)
    (pa : (part t xs o).run P w = .ok a w) (pb : (part t ys o).run P w = .ok b w) (hq : (Op.equalIn d t a b).run P w = .ok r w) :
    (Op.eqFields d xs ys (f :: fs)).run P w = if r then (Op.eqFields d xs ys fs).run P w else .ok false w := by
  subst hn ht ho
  rw [Op.eqFields, if_pos hne, Sem.run_bind, pa, Result.andThen_ok, Sem.run_bind, pb, Result.andThen_ok, Sem.run_bind, hq, Result.andThen_ok]
  cases r <;> simp
theorem se_part7 {P : Program} (t : TypeId) (ha : ∀ w : World, (isAgg t).run P w = .ok false w) (xs : Array Value) (i : Nat) (v : Value) (h : xs[i]? = some v) (w : World) : (part t xs i).run P w = .ok v w := by
  unfold part
  simp only [Sem.run_bind, ha, Result.andThen_ok, h, Sem.run_pure, Bool.false_eq_true, if_false]
theorem se_agg_i7 (w : World) : (isAgg 3).run Tryd.prog w = .ok false w := by kernel_rfl
theorem se_uInt7 : Tryd.prog.underlying 3 = some (.int .i64) := by kernel_rfl
theorem def_fields : (Tryd.prog.fieldsOf 39).toList.map (fun f => (f.name, f.type, f.offset)) = [("Obj", 3, 0), ("Sym", 3, 1)] := by kernel_rfl
theorem def_und : Tryd.prog.underlying 39 = some (.struct (Tryd.prog.fieldsOf 39)) := by kernel_rfl
theorem def_stood : Tryd.prog.stoodInHeld 39 = false := by kernel_rfl
theorem se_two7 {P : Program} {w : World} {d : Nat} {xs ys : Array Value} {fs : List Field} {n0 n1 : String} {t0 t1 : TypeId} (hf : fs.map (fun f => (f.name, f.type, f.offset)) = [(n0, t0, 0), (n1, t1, 1)])
    (g0 : n0 ≠ "_") (g1 : n1 ≠ "_") {a0 a1 b0 b1 : Value} {r0 r1 : Bool}
    (p0 : (part t0 xs 0).run P w = .ok a0 w) (p1 : (part t1 xs 1).run P w = .ok a1 w) (q0 : (part t0 ys 0).run P w = .ok b0 w) (q1 : (part t1 ys 1).run P w = .ok b1 w)
    (e0 : (Op.equalIn d t0 a0 b0).run P w = .ok r0 w) (e1 : (Op.equalIn d t1 a1 b1).run P w = .ok r1 w) : (Op.eqFields d xs ys fs).run P w = .ok (r0 && r1) w := by
  have hl : fs.length = 2 := by have := congrArg List.length hf; simpa using this
  match fs, hl with
  | [f0, f1], _ =>
    simp only [List.map_cons, List.map_nil, List.cons.injEq, Prod.mk.injEq, and_true] at hf
    obtain ⟨⟨m0, s0, o0⟩, m1, s1, o1⟩ := hf
    rw [eqF_step7 m0 g0 s0 o0 p0 q0 e0, eqF_step7 m1 g1 s1 o1 p1 q1 e1]
    cases r0 <;> cases r1 <;> rfl
theorem neq_def (x0 x1 y0 y1 : Int) (w : World) : (binOp .neq 39 (.agg #[.int .i64 x0, .int .i64 x1]) (.agg #[.int .i64 y0, .int .i64 y1])).run Tryd.prog w = .ok (.bool (!(x0 == y0 && x1 == y1))) w := by
  rw [run_neq_struct]
  generalize hn : (10000 : Nat) = n
  obtain ⟨d, rfl⟩ : ∃ d, n = d + 2 := ⟨9998, by omega⟩
  rw [run_equalIn_agg w (d + 1) 39 _ _ def_und def_stood]
  rw [se_two7 def_fields (by decide) (by decide) (se_part7 _ se_agg_i7 _ 0 (.int .i64 x0) rfl w) (se_part7 _ se_agg_i7 _ 1 (.int .i64 x1) rfl w)
    (se_part7 _ se_agg_i7 _ 0 (.int .i64 y0) rfl w) (se_part7 _ se_agg_i7 _ 1 (.int .i64 y1) rfl w)
    (run_equalIn_int w d _ .i64 .i64 _ _ se_uInt7) (run_equalIn_int w d _ .i64 .i64 _ _ se_uInt7)]
  rw [Result.andThen_ok]
def dfK (l : List (Int × Int)) (k : Nat) : Int × Int := l.getD k (0, 0)
/-- a row of Defs as it lies, wherever -/
def DfAt (w : World) (A : Option Addr) (l : List (Int × Int)) : Prop := l = [] ∨ ∃ b o, A = some ⟨b, o, none⟩ ∧ ∀ k, k < l.length → w.cell? ⟨b, o + k * 2, none⟩ = some (.int .i64 (dfK l k).1) ∧ w.cell? ⟨b, o + k * 2 + 1, none⟩ = some (.int .i64 (dfK l k).2)
theorem dfs_eq {a b : List (Int × Int)} (hl : a.length = b.length) (h : ∀ k, k < a.length → dfK a k = dfK b k) : a = b := by
  refine List.ext_getElem hl fun i h1 h2 => ?_
  have := h i h1
  unfold dfK at this
  simpa [h1, h2] using this
set_option maxHeartbeats 2000000 in
theorem defs7_any (la lb : List (Int × Int)) (A B : Option Addr) (n m c d : Nat) (hn : la.length = n) (hm : lb.length = m) (hmx : n ≤ 1000000000) (w : World) (hA : DfAt w A la) (hB : DfAt w B lb) :
    Calls Tryd.prog 18 #[.slice A n c, .slice B m d] w fun e w' => e = .returned (.bool (decide (la = lb))) ∧ ∃ k, w' = w.drewN k := by
  by_cases hnm : n = m
  case neg =>
    have HF := Lib.hid (show decide (la = lb) = false from decide_eq_false (fun e => hnm (by rw [← hn, ← hm, e])))
    have t0 : ((n : Int) != (m : Int)) = true := by simpa using fun e => hnm (by omega)
    clear hA hB
    go_enter Tryd.func18, Tryd.ntmps18
    go_wp2
    go_ret
    exact ⟨ret_bool' HF.out.symm, 0, by simp [World.drewN_zero]⟩
  case pos =>
    subst hnm
    have HLa := Lib.hid hn
    have HLb := Lib.hid hm
    have HA := Lib.hid hA
    have HB := Lib.hid hB
    clear hA hB hn hm
    go_enter Tryd.func18, Tryd.ntmps18
    go_wp2
    go_loopw [5] (fun i wr => ∃ (k : Nat) (q : Nat), k ≤ n ∧ i = .int .i64 k ∧ Hid (wr = w.drewN q) ∧ Hid (∀ j, j < k → dfK la j = dfK lb j)) (fun i _ => n - (intOf i).toNat)
    case atStart => exact ⟨0, 0, by omega, rfl, Lib.hid (by simp [World.drewN_zero]), Lib.hid (fun j hj => by omega)⟩
    case round =>
      obtain ⟨k, q, hk, rfl, HW, HS⟩ := hrel
      have hw := HW.out
      clear HW
      subst hw
      by_cases hlt : k < n
      · have hla : k < la.length := by rw [HLa.out]; exact hlt
        have hlb : k < lb.length := by rw [HLb.out]; exact hlt
        rcases HA.out with h0 | ⟨ba, oa, rfl, hca⟩
        · rw [h0] at hla; simp at hla
        rcases HB.out with h0 | ⟨bb, ob, rfl, hcb⟩
        · rw [h0] at hlb; simp at hlb
        obtain ⟨g1, g2⟩ := hca k hla
        obtain ⟨g3, g4⟩ := hcb k hlb
        have HSn' := Lib.hid (show dfK la k = dfK lb k → ∀ j, j < k + 1 → dfK la j = dfK lb j from fun e j hj => by
          by_cases hj' : j = k
          · subst hj'; exact e
          · exact HS.out j (by omega))
        have HNe := Lib.hid (show dfK la k ≠ dfK lb k → decide (la = lb) = false from fun h => decide_eq_false (fun e => h (by rw [e])))
        have h0k : (0 : Int) ≤ (k : Int) := by omega
        have hkn : (k : Int) < (n : Int) := by omega
        clear hca hcb hla hlb HA HB HS
        generalize dfK la k = s at *
        generalize dfK lb k = t at *
        obtain ⟨s1, s2⟩ := s
        obtain ⟨t1, t2⟩ := t
        simp only at g1 g2 g3 g4
        have hq := fun W => neq_def s1 s2 t1 t2 W
        by_cases hst : (s1, s2) = (t1, t2)
        · have HE := Lib.hid hst
          have hb : (s1 == t1 && s2 == t2) = true := by cases hst; simp
          rw [hb] at hq
          clear hst hb
          go_wp2
          go_quiet (fail)
          go_wp2
          go_roundw
          case rel => exact ⟨k + 1, q + nq, by omega, by go_num, Lib.hid (by first | rfl | (rw [World.drewN_drewN])), Lib.hid (HSn'.out HE.out)⟩
          case measure => simp [intOf]; omega
        · have HE := Lib.hid (HNe.out hst)
          have hb : (s1 == t1 && s2 == t2) = false := by
            rw [Bool.and_eq_false_iff, beq_eq_false_iff_ne, beq_eq_false_iff_ne]
            by_cases h : s1 = t1
            · exact .inr fun h' => hst (by rw [h, h'])
            · exact .inl h
          rw [hb] at hq
          clear hst hb
          go_wp2
          go_quiet (fail)
          go_wp2
          go_ret
          exact ⟨ret_bool' HE.out.symm, q + nq, by first | rfl | (rw [World.drewN_drewN])⟩
      · have HE := Lib.hid (show decide (la = lb) = true from decide_eq_true (dfs_eq (by rw [HLa.out, HLb.out]) (fun j hj => HS.out j (by rw [HLa.out] at hj; omega))))
        go_wp2
        go_ret
        exact ⟨ret_bool' HE.out.symm, _, rfl⟩
end Go.Proofs.YthoehbmbmjmpbaaDoor
