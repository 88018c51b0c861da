/- Layer 6: the reference's sizes. -/
import Derived.Test.YtfdpbogbnfkilaaDoorObjAlike
namespace Go.Proofs.YtfdpbogbnfkilaaDoor
set_option maxRecDepth 100000
open Go.RowKit
set_option linter.unusedVariables false
theorem a5_und : Tryd.prog.underlying 116 = some (.array 5 3) := by kernel_rfl
theorem a5_size (w : World) : (sizeOf 3).run Tryd.prog w = .ok 1 w := by kernel_rfl
theorem a5_guard : Tryd.prog.eqGuardType Tryd.prog.depth 116 = false := by kernel_rfl
theorem eq_arr5 (d : Nat) (a0 a1 a2 a3 a4 b0 b1 b2 b3 b4 : Int) (w : World) : (Op.equalIn (d + 2) 116 (.agg #[.int .i64 a0, .int .i64 a1, .int .i64 a2, .int .i64 a3, .int .i64 a4]) (.agg #[.int .i64 b0, .int .i64 b1, .int .i64 b2, .int .i64 b3, .int .i64 b4])).run Tryd.prog w = .ok (a0 == b0 && a1 == b1 && a2 == b2 && a3 == b3 && a4 == b4) w := by
  have p := fun (x0 x1 x2 x3 x4 : Int) (i : Nat) (v : Value) (h : #[Value.int .i64 x0, .int .i64 x1, .int .i64 x2, .int .i64 x3, .int .i64 x4][i]? = some v) => se_part (P := Tryd.prog) 3 se_agg_i #[.int .i64 x0, .int .i64 x1, .int .i64 x2, .int .i64 x3, .int .i64 x4] i v h w
  have q := fun (x y : Int) => run_equalIn_int w d 3 .i64 .i64 x y se_uInt
  unfold Op.equalIn
  simp only [Sem.run_bind, run_underlying a5_und, Result.andThen_ok, a5_size]
  rw [Std.Legacy.Range.forIn_eq_forIn_range']
  rw [show List.range' [:5].start [:5].size [:5].step = [0, 1, 2, 3, 4] from rfl]
  have pa0 := p a0 a1 a2 a3 a4 (0 * 1) (.int .i64 a0) rfl
  have pa1 := p a0 a1 a2 a3 a4 (1 * 1) (.int .i64 a1) rfl
  have pa2 := p a0 a1 a2 a3 a4 (2 * 1) (.int .i64 a2) rfl
  have pa3 := p a0 a1 a2 a3 a4 (3 * 1) (.int .i64 a3) rfl
  have pa4 := p a0 a1 a2 a3 a4 (4 * 1) (.int .i64 a4) rfl
  have pb0 := p b0 b1 b2 b3 b4 (0 * 1) (.int .i64 b0) rfl
  have pb1 := p b0 b1 b2 b3 b4 (1 * 1) (.int .i64 b1) rfl
  have pb2 := p b0 b1 b2 b3 b4 (2 * 1) (.int .i64 b2) rfl
  have pb3 := p b0 b1 b2 b3 b4 (3 * 1) (.int .i64 b3) rfl
  have pb4 := p b0 b1 b2 b3 b4 (4 * 1) (.int .i64 b4) rfl
  generalize #[Value.int .i64 a0, .int .i64 a1, .int .i64 a2, .int .i64 a3, .int .i64 a4] = xa at *
  generalize #[Value.int .i64 b0, .int .i64 b1, .int .i64 b2, .int .i64 b3, .int .i64 b4] = xb at *
  clear p
  simp only [List.forIn_cons, List.forIn_nil, Sem.run_bind, pa0, pb0, q, Result.andThen_ok]
  cases h0 : (a0 == b0) with
  | false => simp
  | true =>
  simp only [Bool.not_true, Bool.false_eq_true, if_false, Sem.run_pure, Result.andThen_ok, Sem.run_bind, pa1, pb1, q]
  cases h1 : (a1 == b1) with
  | false => simp
  | true =>
  simp only [Bool.not_true, Bool.false_eq_true, if_false, Sem.run_pure, Result.andThen_ok, Sem.run_bind, pa2, pb2, q]
  cases h2 : (a2 == b2) with
  | false => simp
  | true =>
  simp only [Bool.not_true, Bool.false_eq_true, if_false, Sem.run_pure, Result.andThen_ok, Sem.run_bind, pa3, pb3, q]
  cases h3 : (a3 == b3) with
  | false => simp
  | true =>
  simp only [Bool.not_true, Bool.false_eq_true, if_false, Sem.run_pure, Result.andThen_ok, Sem.run_bind, pa4, pb4, q]
  cases h4 : (a4 == b4) with
  | false => simp
  | true => simp
theorem neq_arr5 (a0 a1 a2 a3 a4 b0 b1 b2 b3 b4 : Int) (w : World) : (binOp .neq 116 (.agg #[.int .i64 a0, .int .i64 a1, .int .i64 a2, .int .i64 a3, .int .i64 a4]) (.agg #[.int .i64 b0, .int .i64 b1, .int .i64 b2, .int .i64 b3, .int .i64 b4])).run Tryd.prog w = .ok (.bool (!(a0 == b0 && a1 == b1 && a2 == b2 && a3 == b3 && a4 == b4))) w := by
  rw [run_neq_struct]
  generalize hn : (10000 : Nat) = n
  obtain ⟨d, rfl⟩ : ∃ d, n = d + 2 := ⟨9998, by omega⟩
  rw [eq_arr5]
  rfl
theorem res_sizes {T : Array Value} {b : Nat} {W : World} {v0 v1 v2 v3 v4 : Value} {ty : TypeId} (hT : T[2]? = some (.pointer (some ⟨b, 0, none⟩))) (h : W.heap[b]? = some (.cells #[v0, v1, v2, v3, v4] ty (0, 0))) :
    (results Tryd.f70 T).run Tryd.prog W = .ok (.agg #[v0, v1, v2, v3, v4]) W := by
  obtain ⟨⟨z0, z1, z2, z3, z4⟩, _⟩ := row_cells5 h
  simp [results, Tryd.results70, go_sem, hT, z0, z1, z2, z3, z4]
set_option maxHeartbeats 1000000 in
theorem sizes_any (A1 A2 A3 A4 A5 : Option Addr) (n1 n2 n3 n4 n5 c1 c2 c3 c4 c5 : Nat) (w : World) :
    Calls Tryd.prog 70 #[.agg #[.slice A1 n1 c1, .slice A2 n2 c2, .slice A3 n3 c3, .slice A4 n4 c4, .slice A5 n5 c5]] w fun e w' => e = .returned (.agg #[.int .i64 n1, .int .i64 n2, .int .i64 n3, .int .i64 n4, .int .i64 n5]) ∧ Below w.heap.size w w' := by
  go_enter Tryd.func70, Tryd.ntmps70
  go_wp2
  refine bodyPost_ret (v := .agg #[.int .i64 n1, .int .i64 n2, .int .i64 n3, .int .i64 n4, .int .i64 n5]) (res_sizes (b := w.heap.size + 1) (ty := 116) rfl ?h) rfl ⟨rfl, ?b⟩
  case h => simpa using heap_alloc_new (w.alloc (.cells #[.slice A1 n1 c1, .slice A2 n2 c2, .slice A3 n3 c3, .slice A4 n4 c4, .slice A5 n5 c5] 28)) (.cells #[.int .i64 n1, .int .i64 n2, .int .i64 n3, .int .i64 n4, .int .i64 n5] 116)
  case b => exact ((Below.refl _ _).alloc (Nat.le_refl _) _).alloc (by simp) _
end Go.Proofs.YtfdpbogbnfkilaaDoor
