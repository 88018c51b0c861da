/- Layer 5's statements: a state compared with itself; a processor while another one runs. -/
import Derived.Test.YtoeagbcjnffpaaaGreatDoorCpuH
import Derived.Laws.StructEq
namespace Go.Proofs.YtoeagbcjnffpaaaGreatDoor
set_option maxRecDepth 100000
open Go.RowKit Go.Maps
set_option linter.unusedVariables false
section
variable {w w' : World}
/-- what lies below q as it was, and all from s on -/
def Cut (F : Nat → Prop) (q s : Nat) (b : Nat) : Prop := (F b ∧ b < q) ∨ s ≤ b
/-- another run goes on: this one is as it was, and owns no more than it did -/
theorem CpuAt.move {K : CK} {F F2 : Nat → Prop} {st : St} (h : CpuAt w K F st) (hO : Out F2 w w') (hd : ∀ b, b < w.heap.size → F b → ¬ F2 b) (h1 : ¬ F2 K.m) (h2 : ¬ F2 K.tb) (h3 : ¬ F2 K.hb) (h5 : ¬ F2 K.md) (h8 : ∀ a, K.EA = some a → K.E = [] ∨ (a.block < w.heap.size ∧ ¬ F2 a.block)) : CpuAt w' K (Cut F w.heap.size w'.heap.size) st := by
  have hA := h
  obtain ⟨ve, vl, hC, hF⟩ := h
  obtain ⟨f0, f1, f2, f3, f4⟩ := hF
  obtain ⟨t0, t1, t2, t3, t4, t5, t6, t7⟩ := hC.lts
  have hs : ∀ b, b < w.heap.size → ¬ F2 b → SameB w w' b := fun b hb hn => hO.block b hb hn
  refine ⟨ve, vl, ?_, .inl ⟨f0, t0⟩, fun i hi => .inl ⟨f1 i hi, t4 i hi⟩, fun b hb => .inl ⟨f2 b hb, t6 b hb⟩, fun b hb => .inl ⟨f3 b hb, t7 b hb⟩, fun b hb => .inr hb⟩
  refine ⟨⟨(hs _ t0 (hd _ t0 f0)).trans hC.blk.1, hC.blk.2⟩, row_sameB hC.evr (fun b hb => hs b (t6 b hb) (hd b (t6 b hb) (f2 b hb))), row_sameB hC.lkr (fun b hb => hs b (t7 b hb) (hd b (t7 b hb) (f3 b hb))),
    hC.mem.sameB (hs _ t1 h1) (hs _ t2 h2) (hs _ t3 h3) (fun i hi => hs _ (t4 i hi) (hd _ (t4 i hi) (f1 i hi))), ⟨hC.ent.1, hC.ent.2.1, ?_⟩, ?_, hC.wf, hC.low, hC.few⟩
  · rcases hC.ent.2.2 with e | ⟨b, off, q1, q2, q3, q4⟩
    · exact .inl e
    · rcases h8 _ q1 with e | ⟨e1, e2⟩
      · exact .inl e
      · exact .inr ⟨b, off, q1, q2, q3, fun k hk => by rw [(hs b e1 e2).cell]; exact q4 k hk⟩
  · obtain ⟨D, ⟨es, clock, q1, q2⟩, q3⟩ := hC.ops
    exact ⟨D, ⟨es, clock, (hs _ t5 h5).trans q1, q2⟩, q3⟩
theorem CpuAt.cut {K : CK} {F : Nat → Prop} {st : St} (h : CpuAt w K F st) (hb : Below w.heap.size w w') : CpuAt w' K (Cut F w.heap.size w'.heap.size) st := by
  have hA := h
  obtain ⟨ve, vl, hC, hF⟩ := h
  obtain ⟨t0, t1, t2, t3, t4, t5, t6, t7⟩ := hC.lts
  have lt : ∀ {b}, b < w.heap.size → ¬ (w.heap.size ≤ b) := fun h => by omega
  refine hA.move (Out.of_below (F := fun b => w.heap.size ≤ b) hb) (fun b h _ => lt h) (lt t1) (lt t2) (lt t3) (lt t5) (fun a ha => ?_)
  rcases hC.ent.2.2 with e | ⟨b, off, q1, q2, q3, q4⟩
  · exact .inl e
  · rw [q1] at ha; cases ha
    exact .inr ⟨by show b < _; omega, lt (show b < _ by omega)⟩
theorem CpuAt.sub {K : CK} {F F' : Nat → Prop} {st : St} (h : CpuAt w K F st) (k : ∀ b, F b → F' b) : CpuAt w K F' st := by
  obtain ⟨ve, vl, hC, f0, f1, f2, f3, f4⟩ := h
  exact ⟨ve, vl, hC, k _ f0, fun i hi => k _ (f1 i hi), fun b hb => k _ (f2 b hb), fun b hb => k _ (f3 b hb), fun b hb => k _ (f4 b hb)⟩
theorem CpuAt.ents {K : CK} {F : Nat → Prop} {st : St} (h : CpuAt w K F st) : ∀ a, K.EA = some a → K.E = [] ∨ a.block < w.heap.size := by
  obtain ⟨ve, vl, hC, _⟩ := h
  intro a ha
  rcases hC.ent.2.2 with e | ⟨b, off, q1, q2, q3, q4⟩
  · exact .inl e
  · rw [q1] at ha; cases ha
    exact .inr (show b < _ by have := hC.lts.1; omega)
theorem CpuAt.mdlt {K : CK} {F : Nat → Prop} {st : St} (h : CpuAt w K F st) : K.md < w.heap.size := by
  obtain ⟨ve, vl, hC, _⟩ := h
  exact hC.lts.2.2.2.2.2.1
end
theorem ce_arrSt : Tryz.prog.underlying 26 = some (.array 32 25) := by kernel_rfl
theorem ce_u64St : Tryz.prog.underlying 25 = some (.int .u64) := by kernel_rfl
theorem ce_size25 (w : World) : (sizeOf 25).run Tryz.prog w = .ok 1 w := by kernel_rfl
theorem ce_agg25 (w : World) : (isAgg 25).run Tryz.prog w = .ok false w := by kernel_rfl
theorem ce_part25 (xs : Array Value) (i : Nat) (v : Value) (h : xs[i]? = some v) (w : World) : (part 25 xs i).run Tryz.prog w = .ok v w := by
  unfold part
  simp only [Sem.run_bind, ce_agg25, Result.andThen_ok, h, Sem.run_pure, Bool.false_eq_true, if_false]
theorem ce_eq_regs (d : Nat) (R : List Int) (h : R.length = 32) (w : World) : (Op.equalIn (d + 2) 26 (.agg (R.map (Value.int .u64)).toArray) (.agg (R.map (Value.int .u64)).toArray)).run Tryz.prog w = .ok true w := by
  unfold Op.equalIn
  simp only [Sem.run_bind, run_underlying ce_arrSt, Result.andThen_ok, ce_size25]
  have key : ∀ l : List Nat, (∀ i ∈ l, i < 32) → Sem.run Tryz.prog (forIn l (none, ()) fun i __s => do
            let __do_lift ← part 25 (List.map (Value.int IntKind.u64) R).toArray (i * 1)
            let __do_lift_1 ← part 25 (List.map (Value.int IntKind.u64) R).toArray (i * 1)
            let __do_lift ← Op.equalIn (d + 1) 25 __do_lift __do_lift_1
            if (!__do_lift) = true then pure (ForInStep.done (some false, ())) else pure (ForInStep.yield ((none : Option Bool), ()))) w = .ok (none, ()) w := by
    intro l
    induction l with
    | nil => intro _; simp
    | cons i l ih =>
      intro hl
      have hi := hl i (by simp)
      have hv : ((List.map (Value.int IntKind.u64) R).toArray)[i * 1]? = some (.int .u64 (R[i]'(by omega))) := by simp [h, hi]
      rw [List.forIn_cons]
      simp only [Sem.run_bind, ce_part25 _ _ _ hv, Result.andThen_ok, run_equalIn_int w d 25 .u64 .u64 _ _ ce_u64St, beq_self_eq_true, Bool.not_true, Bool.false_eq_true, if_false, Sem.run_pure]
      exact ih (fun j hj => hl j (by simp [hj]))
  rw [Std.Legacy.Range.forIn_eq_forIn_range', key _ (fun i hi => by simp [List.mem_range'] at hi; omega)]
  simp
theorem ce_fieldsSt : (Tryz.prog.fieldsOf 28).toList.map (fun f => (f.name, f.type, f.offset)) = [("Regs", 26, 0), ("Pc", 25, 32), ("Own", 4, 33), ("Done", 3, 34)] := by kernel_rfl
theorem ce_undSt : Tryz.prog.underlying 28 = some (.struct (Tryz.prog.fieldsOf 28)) := by kernel_rfl
theorem ce_stoodSt : Tryz.prog.stoodInHeld 28 = false := by kernel_rfl
theorem ce_agg26 (w : World) : (isAgg 26).run Tryz.prog w = .ok true w := by kernel_rfl
theorem ce_size26 (w : World) : (sizeOf 26).run Tryz.prog w = .ok 32 w := by kernel_rfl
theorem ce_part1 (t : TypeId) (ha : ∀ w : World, (isAgg t).run Tryz.prog w = .ok false w) (xs : Array Value) (i : Nat) (v : Value) (h : xs[i]? = some v) (w : World) : (part t xs i).run Tryz.prog w = .ok v w := by
  unfold part
  simp only [Sem.run_bind, ha, Result.andThen_ok, h, Sem.run_pure, Bool.false_eq_true, if_false]
theorem ce_agg4 (w : World) : (isAgg 4).run Tryz.prog w = .ok false w := by kernel_rfl
theorem ce_agg3 (w : World) : (isAgg 3).run Tryz.prog w = .ok false w := by kernel_rfl
theorem ce_u4 : Tryz.prog.underlying 4 = some .bool := by kernel_rfl
theorem ce_u3 : Tryz.prog.underlying 3 = some (.int .i64) := by kernel_rfl
theorem ce_eq_st (d : Nat) (R : List Int) (pc : Int) (own : Bool) (dn : Int) (h : R.length = 32) (w : World) :
    (Op.equalIn (d + 3) 28 (.agg (R.map (Value.int .u64) ++ [Value.int .u64 pc, Value.bool own, Value.int .i64 dn]).toArray) (.agg (R.map (Value.int .u64) ++ [Value.int .u64 pc, Value.bool own, Value.int .i64 dn]).toArray)).run Tryz.prog w = .ok true w := by
  rw [run_equalIn_agg w (d + 2) 28 _ _ ce_undSt ce_stoodSt]
  have hf := ce_fieldsSt
  generalize (Tryz.prog.fieldsOf 28).toList = fs at hf
  have hl : fs.length = 4 := by have := congrArg List.length hf; simpa using this
  match fs, hl with
  | [f0, f1, f2, f3], _ =>
    simp only [List.map_cons, List.map_nil, List.cons.injEq, Prod.mk.injEq, and_true] at hf
    obtain ⟨⟨n0, t0, o0⟩, ⟨n1, t1, o1⟩, ⟨n2, t2, o2⟩, n3, t3, o3⟩ := hf
    have p0 : (part 26 (R.map (Value.int .u64) ++ [Value.int .u64 pc, Value.bool own, Value.int .i64 dn]).toArray 0).run Tryz.prog w = .ok (.agg (R.map (Value.int .u64)).toArray) w := by
      unfold part
      simp only [Sem.run_bind, ce_agg26, ce_size26, Result.andThen_ok, if_true, Sem.run_pure]
      simp [h]
    have p1 := ce_part1 25 ce_agg25 (R.map (Value.int .u64) ++ [Value.int .u64 pc, Value.bool own, Value.int .i64 dn]).toArray 32 (.int .u64 pc) (by simp [h]) w
    have p2 := ce_part1 4 ce_agg4 (R.map (Value.int .u64) ++ [Value.int .u64 pc, Value.bool own, Value.int .i64 dn]).toArray 33 (.bool own) (by simp [h]) w
    have p3 := ce_part1 3 ce_agg3 (R.map (Value.int .u64) ++ [Value.int .u64 pc, Value.bool own, Value.int .i64 dn]).toArray 34 (.int .i64 dn) (by simp [h]) w
    have q0 : f0.name ≠ "_" := by rw [n0]; decide
    have q1 : f1.name ≠ "_" := by rw [n1]; decide
    have q2 : f2.name ≠ "_" := by rw [n2]; decide
    have q3 : f3.name ≠ "_" := by rw [n3]; decide
    clear n0 n1 n2 n3
    generalize hxs : (R.map (Value.int .u64) ++ [Value.int .u64 pc, Value.bool own, Value.int .i64 dn]).toArray = xs at *
    have e0 : ∀ l, (Op.eqFields (d + 2) xs xs (f0 :: l)).run Tryz.prog w = (Op.eqFields (d + 2) xs xs l).run Tryz.prog w := by
      intro l
      rw [Op.eqFields, if_pos q0, t0, o0, Sem.run_bind, p0, Result.andThen_ok, Sem.run_bind, p0, Result.andThen_ok, Sem.run_bind, ce_eq_regs d R h, Result.andThen_ok]
      rfl
    have e1 : ∀ l, (Op.eqFields (d + 2) xs xs (f1 :: l)).run Tryz.prog w = (Op.eqFields (d + 2) xs xs l).run Tryz.prog w := by
      intro l
      rw [Op.eqFields, if_pos q1, t1, o1, Sem.run_bind, p1, Result.andThen_ok, Sem.run_bind, p1, Result.andThen_ok, Sem.run_bind, run_equalIn_int w (d + 1) 25 .u64 .u64 _ _ ce_u64St, beq_self_eq_true, Result.andThen_ok]
      rfl
    have e2 : ∀ l, (Op.eqFields (d + 2) xs xs (f2 :: l)).run Tryz.prog w = (Op.eqFields (d + 2) xs xs l).run Tryz.prog w := by
      intro l
      rw [Op.eqFields, if_pos q2, t2, o2, Sem.run_bind, p2, Result.andThen_ok, Sem.run_bind, p2, Result.andThen_ok, Sem.run_bind, run_equalIn_bool' w (d + 1) 4 _ _ ce_u4, beq_self_eq_true, Result.andThen_ok]
      rfl
    have e3 : ∀ l, (Op.eqFields (d + 2) xs xs (f3 :: l)).run Tryz.prog w = (Op.eqFields (d + 2) xs xs l).run Tryz.prog w := by
      intro l
      rw [Op.eqFields, if_pos q3, t3, o3, Sem.run_bind, p3, Result.andThen_ok, Sem.run_bind, p3, Result.andThen_ok, Sem.run_bind, run_equalIn_int w (d + 1) 3 .i64 .i64 _ _ ce_u3, beq_self_eq_true, Result.andThen_ok]
      rfl
    rw [e0, e1, e2, e3]
    rfl
theorem ce_eql_st (R : List Int) (pc : Int) (own : Bool) (dn : Int) (h : R.length = 32) (w : World) :
    (binOp .eql 28 (.agg (R.map (Value.int .u64) ++ [Value.int .u64 pc, Value.bool own, Value.int .i64 dn]).toArray) (.agg (R.map (Value.int .u64) ++ [Value.int .u64 pc, Value.bool own, Value.int .i64 dn]).toArray)).run Tryz.prog w = .ok (.bool true) w := by
  rw [run_eql_struct]
  generalize hn : (10000 : Nat) = n
  obtain ⟨d, rfl⟩ : ∃ d, n = d + 3 := ⟨9997, by omega⟩
  rw [ce_eq_st d R pc own dn h w]
  rfl
theorem eqlS (s : CS) (h : s.R.length = 32) (w : World) : (binOp .eql 28 (.agg (stateL s).toArray) (.agg (stateL s).toArray)).run Tryz.prog w = .ok (.bool true) w := ce_eql_st s.R s.pc s.own s.dn h w
theorem neqS (s : CS) (h : s.R.length = 32) (w : World) : (binOp .neq 28 (.agg (stateL s).toArray) (.agg (stateL s).toArray)).run Tryz.prog w = .ok (.bool false) w := by
  show (binOp .neq 28 (.agg (s.R.map (Value.int .u64) ++ [Value.int .u64 s.pc, Value.bool s.own, Value.int .i64 s.dn]).toArray) (.agg (s.R.map (Value.int .u64) ++ [Value.int .u64 s.pc, Value.bool s.own, Value.int .i64 s.dn]).toArray)).run Tryz.prog w = _
  rw [run_neq_struct]
  generalize hn : (10000 : Nat) = n
  obtain ⟨d, rfl⟩ : ∃ d, n = d + 3 := ⟨9997, by omega⟩
  rw [ce_eq_st d s.R s.pc s.own s.dn h w]
  rfl
theorem eqGuardSt : Tryz.prog.eqGuardType Tryz.prog.depth 28 = false := by kernel_rfl
end Go.Proofs.YtoeagbcjnffpaaaGreatDoor
