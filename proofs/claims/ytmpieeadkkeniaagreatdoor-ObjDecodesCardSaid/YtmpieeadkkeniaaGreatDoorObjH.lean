/- Layer 6: the reference's sizes.
   Layer 6: the reference's Same. -/
import Derived.Test.YtmpieeadkkeniaaGreatDoorObjG
namespace Go.Proofs.YtmpieeadkkeniaaGreatDoor
set_option maxRecDepth 100000
open Go.RowKit
set_option linter.unusedVariables false
theorem a5_und : Tryz.prog.underlying 77 = some (.array 5 3) := by kernel_rfl
theorem a5_size (w : World) : (sizeOf 3).run Tryz.prog w = .ok 1 w := by kernel_rfl
theorem a5_guard : Tryz.prog.eqGuardType Tryz.prog.depth 77 = false := by kernel_rfl
theorem eq_arr5 (d : Nat) (a0 a1 a2 a3 a4 b0 b1 b2 b3 b4 : Int) (w : World) : (Op.equalIn (d + 2) 77 (.agg #[.int .i64 a0, .int .i64 a1, .int .i64 a2, .int .i64 a3, .int .i64 a4]) (.agg #[.int .i64 b0, .int .i64 b1, .int .i64 b2, .int .i64 b3, .int .i64 b4])).run Tryz.prog w = .ok (a0 == b0 && a1 == b1 && a2 == b2 && a3 == b3 && a4 == b4) w := by
  have p := fun (x0 x1 x2 x3 x4 : Int) (i : Nat) (v : Value) (h : #[Value.int .i64 x0, .int .i64 x1, .int .i64 x2, .int .i64 x3, .int .i64 x4][i]? = some v) => se_part (P := Tryz.prog) 3 se_agg_i #[.int .i64 x0, .int .i64 x1, .int .i64 x2, .int .i64 x3, .int .i64 x4] i v h w
  have q := fun (x y : Int) => run_equalIn_int w d 3 .i64 .i64 x y se_uInt
  unfold Op.equalIn
  simp only [Sem.run_bind, run_underlying a5_und, Result.andThen_ok, a5_size]
  rw [Std.Legacy.Range.forIn_eq_forIn_range']
  rw [show List.range' [:5].start [:5].size [:5].step = [0, 1, 2, 3, 4] from rfl]
  have pa0 := p a0 a1 a2 a3 a4 (0 * 1) (.int .i64 a0) rfl
  have pa1 := p a0 a1 a2 a3 a4 (1 * 1) (.int .i64 a1) rfl
  have pa2 := p a0 a1 a2 a3 a4 (2 * 1) (.int .i64 a2) rfl
  have pa3 := p a0 a1 a2 a3 a4 (3 * 1) (.int .i64 a3) rfl
  have pa4 := p a0 a1 a2 a3 a4 (4 * 1) (.int .i64 a4) rfl
  have pb0 := p b0 b1 b2 b3 b4 (0 * 1) (.int .i64 b0) rfl
  have pb1 := p b0 b1 b2 b3 b4 (1 * 1) (.int .i64 b1) rfl
  have pb2 := p b0 b1 b2 b3 b4 (2 * 1) (.int .i64 b2) rfl
  have pb3 := p b0 b1 b2 b3 b4 (3 * 1) (.int .i64 b3) rfl
  have pb4 := p b0 b1 b2 b3 b4 (4 * 1) (.int .i64 b4) rfl
  generalize #[Value.int .i64 a0, .int .i64 a1, .int .i64 a2, .int .i64 a3, .int .i64 a4] = xa at *
  generalize #[Value.int .i64 b0, .int .i64 b1, .int .i64 b2, .int .i64 b3, .int .i64 b4] = xb at *
  clear p
  simp only [List.forIn_cons, List.forIn_nil, Sem.run_bind, pa0, pb0, q, Result.andThen_ok]
  cases h0 : (a0 == b0) with
  | false => simp
  | true =>
  simp only [Bool.not_true, Bool.false_eq_true, if_false, Sem.run_pure, Result.andThen_ok, Sem.run_bind, pa1, pb1, q]
  cases h1 : (a1 == b1) with
  | false => simp
  | true =>
  simp only [Bool.not_true, Bool.false_eq_true, if_false, Sem.run_pure, Result.andThen_ok, Sem.run_bind, pa2, pb2, q]
  cases h2 : (a2 == b2) with
  | false => simp
  | true =>
  simp only [Bool.not_true, Bool.false_eq_true, if_false, Sem.run_pure, Result.andThen_ok, Sem.run_bind, pa3, pb3, q]
  cases h3 : (a3 == b3) with
  | false => simp
  | true =>
  simp only [Bool.not_true, Bool.false_eq_true, if_false, Sem.run_pure, Result.andThen_ok, Sem.run_bind, pa4, pb4, q]
  cases h4 : (a4 == b4) with
  | false => simp
  | true => simp
theorem neq_arr5 (a0 a1 a2 a3 a4 b0 b1 b2 b3 b4 : Int) (w : World) : (binOp .neq 77 (.agg #[.int .i64 a0, .int .i64 a1, .int .i64 a2, .int .i64 a3, .int .i64 a4]) (.agg #[.int .i64 b0, .int .i64 b1, .int .i64 b2, .int .i64 b3, .int .i64 b4])).run Tryz.prog w = .ok (.bool (!(a0 == b0 && a1 == b1 && a2 == b2 && a3 == b3 && a4 == b4))) w := by
  rw [run_neq_struct]
  generalize hn : (10000 : Nat) = n
  obtain ⟨d, rfl⟩ : ∃ d, n = d + 2 := ⟨9998, by omega⟩
  rw [eq_arr5]
  rfl
theorem res_sizes {T : Array Value} {b : Nat} {W : World} {v0 v1 v2 v3 v4 : Value} {ty : TypeId} (hT : T[2]? = some (.pointer (some ⟨b, 0, none⟩))) (h : W.heap[b]? = some (.cells #[v0, v1, v2, v3, v4] ty (0, 0))) :
    (results Tryz.f75 T).run Tryz.prog W = .ok (.agg #[v0, v1, v2, v3, v4]) W := by
  obtain ⟨⟨z0, z1, z2, z3, z4⟩, _⟩ := row_cells5 h
  simp [results, Tryz.results75, go_sem, hT, z0, z1, z2, z3, z4]
set_option maxHeartbeats 1000000 in
theorem sizes_any (A1 A2 A3 A4 A5 : Option Addr) (n1 n2 n3 n4 n5 c1 c2 c3 c4 c5 : Nat) (w : World) :
    Calls Tryz.prog 75 #[.agg #[.slice A1 n1 c1, .slice A2 n2 c2, .slice A3 n3 c3, .slice A4 n4 c4, .slice A5 n5 c5]] w fun e w' => e = .returned (.agg #[.int .i64 n1, .int .i64 n2, .int .i64 n3, .int .i64 n4, .int .i64 n5]) ∧ Below w.heap.size w w' := by
  go_enter Tryz.func75, Tryz.ntmps75
  go_wp2
  refine bodyPost_ret (v := .agg #[.int .i64 n1, .int .i64 n2, .int .i64 n3, .int .i64 n4, .int .i64 n5]) (res_sizes (b := w.heap.size + 1) (ty := 77) rfl ?h) rfl ⟨rfl, ?b⟩
  case h => simpa using heap_alloc_new (w.alloc (.cells #[.slice A1 n1 c1, .slice A2 n2 c2, .slice A3 n3 c3, .slice A4 n4 c4, .slice A5 n5 c5] 28)) (.cells #[.int .i64 n1, .int .i64 n2, .int .i64 n3, .int .i64 n4, .int .i64 n5] 77)
  case b => exact ((Below.refl _ _).alloc (Nat.le_refl _) _).alloc (by simp) _
end Go.Proofs.YtmpieeadkkeniaaGreatDoor
namespace Go.Proofs.YtmpieeadkkeniaaGreatDoor
set_option maxRecDepth 100000
open Go.RowKit
set_option linter.unusedVariables false
/-- two boxes of five cells each -/
abbrev Two5 (w : World) (h : Nat) (v0 v1 v2 v3 v4 u0 u1 u2 u3 u4 : Value) : Prop :=
  (w.cell? ⟨h, 0, none⟩ = some v0 ∧ w.cell? ⟨h, 1, none⟩ = some v1 ∧ w.cell? ⟨h, 2, none⟩ = some v2 ∧ w.cell? ⟨h, 3, none⟩ = some v3 ∧ w.cell? ⟨h, 4, none⟩ = some v4) ∧
  (w.cell? ⟨h + 1, 0, none⟩ = some u0 ∧ w.cell? ⟨h + 1, 1, none⟩ = some u1 ∧ w.cell? ⟨h + 1, 2, none⟩ = some u2 ∧ w.cell? ⟨h + 1, 3, none⟩ = some u3 ∧ w.cell? ⟨h + 1, 4, none⟩ = some u4)
/-- both boxes lie, and what was is as it was -/
def BxR (w0 : World) (v0 v1 v2 v3 v4 u0 u1 u2 u3 u4 : Value) (w : World) : Prop :=
  w.heap[w0.heap.size]? = some (.cells #[v0, v1, v2, v3, v4] 28 (0, 0)) ∧ w.heap[w0.heap.size + 1]? = some (.cells #[u0, u1, u2, u3, u4] 28 (0, 0)) ∧ Below w0.heap.size w0 w
abbrev ExS (w0 : World) (v0 v1 v2 v3 v4 u0 u1 u2 u3 u4 : Value) (w : World) : Prop := Two5 w w0.heap.size v0 v1 v2 v3 v4 u0 u1 u2 u3 u4 ∧ BxR w0 v0 v1 v2 v3 v4 u0 u1 u2 u3 u4 w
section
variable {w0 w w' : World} {v0 v1 v2 v3 v4 u0 u1 u2 u3 u4 : Value}
theorem exS_of (h : BxR w0 v0 v1 v2 v3 v4 u0 u1 u2 u3 u4 w) : ExS w0 v0 v1 v2 v3 v4 u0 u1 u2 u3 u4 w := ⟨⟨(row_cells5 h.1).1, (row_cells5 h.2.1).1⟩, h⟩
theorem exS_below (h : ExS w0 v0 v1 v2 v3 v4 u0 u1 u2 u3 u4 w) (hb : Below w.heap.size w w') : ExS w0 v0 v1 v2 v3 v4 u0 u1 u2 u3 u4 w' := by
  obtain ⟨_, h1, h2, h3⟩ := h
  exact exS_of ⟨(hb.block _ (Array.getElem?_eq_some_iff.1 h1).1).trans h1, (hb.block _ (Array.getElem?_eq_some_iff.1 h2).1).trans h2, h3.trans (hb.mono h3.size)⟩
theorem exS_drew (h : ExS w0 v0 v1 v2 v3 v4 u0 u1 u2 u3 u4 w) : ExS w0 v0 v1 v2 v3 v4 u0 u1 u2 u3 u4 w.drew := exS_below h (Below.drew (Below.refl _ _))
theorem exS_drewN (h : ExS w0 v0 v1 v2 v3 v4 u0 u1 u2 u3 u4 w) (n : Nat) : ExS w0 v0 v1 v2 v3 v4 u0 u1 u2 u3 u4 (w.drewN n) := exS_below h (belq (Below.refl _ _) n)
end
theorem arr5_iff {a0 a1 a2 a3 a4 b0 b1 b2 b3 b4 : Nat} : (((a0 : Int) == b0) && ((a1 : Int) == b1) && ((a2 : Int) == b2) && ((a3 : Int) == b3) && ((a4 : Int) == b4)) = true ↔ a0 = b0 ∧ a1 = b1 ∧ a2 = b2 ∧ a3 = b3 ∧ a4 = b4 := by
  simp only [Bool.and_eq_true, beq_iff_eq, and_assoc]
  omega
set_option maxHeartbeats 4000000 in
theorem exact_any (d1 d2 : ObjD) (v1 v2 : Value) (lo hi lo2 hi2 : Nat) (w : World) (h1 : ObjAt w lo hi d1 v1) (h2 : ObjAt w lo2 hi2 d2 v2) (hh : hi ≤ w.heap.size) (hh2 : hi2 ≤ w.heap.size)
    (hl1 : ObjL d1) (hl2 : ObjL d2) :
    Calls Tryz.prog 34 #[v1, v2] w fun e w' => e = .returned (.bool (sameD d1 d2)) ∧ Below w.heap.size w w' := by
  obtain ⟨A1, c1, A2, c2, A3, c3, A4, c4, A5, c5, es, rfl, p1, p2, p3, p4, p5, p6⟩ := h1
  obtain ⟨B1, e1, B2, e2, B3, e3, B4, e4, B5, e5, fs, rfl, q1, q2, q3, q4, q5, q6⟩ := h2
  obtain ⟨n1, f1⟩ : ∃ n, d1.text.length = n := ⟨_, rfl⟩
  obtain ⟨n2, f2⟩ : ∃ n, d1.data.length = n := ⟨_, rfl⟩
  obtain ⟨n3, f3⟩ : ∃ n, d1.syms.length = n := ⟨_, rfl⟩
  obtain ⟨n4, f4⟩ : ∃ n, d1.rels.length = n := ⟨_, rfl⟩
  obtain ⟨n5, f5⟩ : ∃ n, d1.ents.length = n := ⟨_, rfl⟩
  obtain ⟨m1, g1⟩ : ∃ n, d2.text.length = n := ⟨_, rfl⟩
  obtain ⟨m2, g2⟩ : ∃ n, d2.data.length = n := ⟨_, rfl⟩
  obtain ⟨m3, g3⟩ : ∃ n, d2.syms.length = n := ⟨_, rfl⟩
  obtain ⟨m4, g4⟩ : ∃ n, d2.rels.length = n := ⟨_, rfl⟩
  obtain ⟨m5, g5⟩ : ∃ n, d2.ents.length = n := ⟨_, rfl⟩
  rw [f1, f2, f3, f4, f5, g1, g2, g3, g4, g5]
  have b1 : n1 ≤ 9223372036854775807 := by have := hl1.lt; unfold maxLen at this; omega
  have b2 : n2 ≤ 9223372036854775807 := by have := hl1.ld; unfold maxLen at this; omega
  have b3 : n3 ≤ 9223372036854775807 := by have := hl1.ls; unfold maxLen at this; omega
  have b4 : n4 ≤ 9223372036854775807 := by have := hl1.lr; unfold maxLen at this; omega
  have b5 : n5 ≤ 9223372036854775807 := by have := hl1.le; unfold maxLen at this; omega
  have hB0 := (((Below.refl w.heap.size w).alloc (Nat.le_refl _) (.cells #[.slice A1 n1 c1, .slice A2 n2 c2, .slice A3 n3 c3, .slice A4 n4 c4, .slice A5 n5 c5] 28)).alloc (by simp) (.cells #[.slice B1 m1 e1, .slice B2 m2 e2, .slice B3 m3 e3, .slice B4 m4 e4, .slice B5 m5 e5] 28))
  have hX0 : ((w.alloc (.cells #[.slice A1 n1 c1, .slice A2 n2 c2, .slice A3 n3 c3, .slice A4 n4 c4, .slice A5 n5 c5] 28)).alloc (.cells #[.slice B1 m1 e1, .slice B2 m2 e2, .slice B3 m3 e3, .slice B4 m4 e4, .slice B5 m5 e5] 28)).heap[w.heap.size]? = some (.cells #[.slice A1 n1 c1, .slice A2 n2 c2, .slice A3 n3 c3, .slice A4 n4 c4, .slice A5 n5 c5] 28 (0, 0)) := by exact (heap_alloc_old _ _ (by simp)).trans (heap_alloc_new w _)
  have hY0 : ((w.alloc (.cells #[.slice A1 n1 c1, .slice A2 n2 c2, .slice A3 n3 c3, .slice A4 n4 c4, .slice A5 n5 c5] 28)).alloc (.cells #[.slice B1 m1 e1, .slice B2 m2 e2, .slice B3 m3 e3, .slice B4 m4 e4, .slice B5 m5 e5] 28)).heap[w.heap.size + 1]? = some (.cells #[.slice B1 m1 e1, .slice B2 m2 e2, .slice B3 m3 e3, .slice B4 m4 e4, .slice B5 m5 e5] 28 (0, 0)) := by have h := heap_alloc_new (w.alloc (.cells #[.slice A1 n1 c1, .slice A2 n2 c2, .slice A3 n3 c3, .slice A4 n4 c4, .slice A5 n5 c5] 28)) (.cells #[.slice B1 m1 e1, .slice B2 m2 e2, .slice B3 m3 e3, .slice B4 m4 e4, .slice B5 m5 e5] 28); simpa using h
  have hS : ExS w (.slice A1 n1 c1) (.slice A2 n2 c2) (.slice A3 n3 c3) (.slice A4 n4 c4) (.slice A5 n5 c5) (.slice B1 m1 e1) (.slice B2 m2 e2) (.slice B3 m3 e3) (.slice B4 m4 e4) (.slice B5 m5 e5) ((w.alloc (.cells #[.slice A1 n1 c1, .slice A2 n2 c2, .slice A3 n3 c3, .slice A4 n4 c4, .slice A5 n5 c5] 28)).alloc (.cells #[.slice B1 m1 e1, .slice B2 m2 e2, .slice B3 m3 e3, .slice B4 m4 e4, .slice B5 m5 e5] 28)) := exS_of ⟨hX0, hY0, hB0⟩
  have HB0 := Lib.hid hB0
  have HL1 := Lib.hid hl1
  have HL2 := Lib.hid hl2
  have HH := Lib.hid (And.intro hh hh2)
  have P1 := Lib.hid p1
  have Q1 := Lib.hid q1
  have P2 := Lib.hid p2
  have Q2 := Lib.hid q2
  have P3 := Lib.hid p3
  have Q3 := Lib.hid q3
  have P4 := Lib.hid p4
  have Q4 := Lib.hid q4
  have P5 := Lib.hid p5
  have Q5 := Lib.hid q5
  have P6 := Lib.hid p6
  have Q6 := Lib.hid q6
  have F1 := Lib.hid f1
  have G1 := Lib.hid g1
  have F2 := Lib.hid f2
  have G2 := Lib.hid g2
  have F3 := Lib.hid f3
  have G3 := Lib.hid g3
  have F4 := Lib.hid f4
  have G4 := Lib.hid g4
  have F5 := Lib.hid f5
  have G5 := Lib.hid g5
  clear p1 p2 p3 p4 p5 p6 q1 q2 q3 q4 q5 q6 hh hh2 hl1 hl2 hB0 hX0 hY0 f1 f2 f3 f4 f5 g1 g2 g3 g4 g5
  have hg := a5_guard
  by_cases hne : n1 = m1 ∧ n2 = m2 ∧ n3 = m3 ∧ n4 = m4 ∧ n5 = m5
  case neg =>
    have hq := fun w => neq_arr5 n1 n2 n3 n4 n5 m1 m2 m3 m4 m5 w
    rw [show (((n1 : Int) == m1) && ((n2 : Int) == m2) && ((n3 : Int) == m3) && ((n4 : Int) == m4) && ((n5 : Int) == m5)) = false by rw [← Bool.not_eq_true]; exact fun h => hne (arr5_iff.1 h)] at hq
    have HR := Lib.hid (show sameD d1 d2 = false by rw [← Bool.not_eq_true]; intro h; have := sameD_iff.1 h; subst this; exact hne ⟨F1.out.symm.trans G1.out, F2.out.symm.trans G2.out, F3.out.symm.trans G3.out, F4.out.symm.trans G4.out, F5.out.symm.trans G5.out⟩)
    clear hne
    go_enter Tryz.func34, Tryz.ntmps34
    go_wp2
    go_region_held3 (fun w' => ExS w (.slice A1 n1 c1) (.slice A2 n2 c2) (.slice A3 n3 c3) (.slice A4 n4 c4) (.slice A5 n5 c5) (.slice B1 m1 e1) (.slice B2 m2 e2) (.slice B3 m3 e3) (.slice B4 m4 e4) (.slice B5 m5 e5) w') (first | (with_reducible assumption) | ((with_reducible apply exS_drew); (with_reducible assumption)) | ((with_reducible apply exS_drewN); (with_reducible assumption)) | ((with_reducible apply exS_below); (with_reducible assumption); (with_reducible assumption)))
      (first | (go_at_call 75; (with_reducible refine (sizes_any _ _ _ _ _ _ _ _ _ _ _ _ _ _ _ _).mono ?_); rintro e w' ⟨rfl, hb⟩))
    rename_i hhx
    have HHx := Lib.hid hhx.2.2.2
    clear hhx hS
    go_wp2
    go_ret
    exact ⟨ret_bool HR.out.symm, HHx.out⟩
  obtain ⟨rfl, rfl, rfl, rfl, rfl⟩ := hne
  have hq := fun w => neq_arr5 n1 n2 n3 n4 n5 n1 n2 n3 n4 n5 w
  rw [show (((n1 : Int) == n1) && ((n2 : Int) == n2) && ((n3 : Int) == n3) && ((n4 : Int) == n4) && ((n5 : Int) == n5)) = true by simp] at hq
  go_enter Tryz.func34, Tryz.ntmps34
  go_wp2
  go_region_held3 (fun w' => ExS w (.slice A1 n1 c1) (.slice A2 n2 c2) (.slice A3 n3 c3) (.slice A4 n4 c4) (.slice A5 n5 c5) (.slice B1 n1 e1) (.slice B2 n2 e2) (.slice B3 n3 e3) (.slice B4 n4 e4) (.slice B5 n5 e5) w') (first | (with_reducible assumption) | ((with_reducible apply exS_drew); (with_reducible assumption)) | ((with_reducible apply exS_drewN); (with_reducible assumption)) | ((with_reducible apply exS_below); (with_reducible assumption); (with_reducible assumption)))
    (first | (go_at_call 75; (with_reducible refine (sizes_any _ _ _ _ _ _ _ _ _ _ _ _ _ _ _ _).mono ?_); rintro e w' ⟨rfl, hb⟩))
  rename_i hhx
  have HHx := Lib.hid hhx.2
  clear hhx hS hq hg
  obtain ⟨⟨⟨z0, z1, z2, z3, z4⟩, y0, y1, y2, y3, y4⟩, _⟩ := exS_of HHx.out
  go_wp2
  go_loopw [5] (fun i wr => ∃ (k : Nat) (q : Nat), k ≤ n1 ∧ i = .int .i64 k ∧ wr = w'.drewN q ∧ Hid (∀ j, j < k → ∀ (h1 : j < d1.text.length) (h2 : j < d2.text.length), d1.text[j] = d2.text[j])) (fun i _ => n1 - (intOf i).toNat)
  case atStart => exact ⟨0, 0, by omega, rfl, rfl, Lib.hid (fun j hj => by omega)⟩
  case round =>
    obtain ⟨k1, q1, hk1, rfl, rfl, HS⟩ := hrel
    by_cases hlt : k1 < n1
    · have i0 : (0 : Int) ≤ k1 := by omega
      have i1 : (k1 : Int) < n1 := by omega
      have hlx : k1 < d1.text.length := by rw [F1.out]; exact hlt
      have hly : k1 < d2.text.length := by rw [G1.out]; exact hlt
      obtain ⟨bx, ox, eA, _, hbx, hc1⟩ := P1.out.at_ (sz := 1) (fun x => rfl) (by omega) (by omega)
      obtain ⟨by_, oy, eB, _, hby, hc2⟩ := Q1.out.at_ (sz := 1) (fun x => rfl) (by omega) (by omega)
      have hx := fun i v h => (HHx.out.2.2.cell (p := ⟨bx, ox + (k1 * 1 + i), none⟩) (by have := HH.out; show bx < _; omega)).trans (hc1 k1 hlx i v h)
      have hy := fun i v h => (HHx.out.2.2.cell (p := ⟨by_, oy + (k1 * 1 + i), none⟩) (by have := HH.out; show by_ < _; omega)).trans (hc2 k1 hly i v h)
      obtain ⟨x, hxx⟩ : ∃ x, d1.text[k1] = x := ⟨_, rfl⟩
      obtain ⟨y, hyy⟩ : ∃ y, d2.text[k1] = y := ⟨_, rfl⟩
      rw [hxx] at hx
      rw [hyy] at hy
      have hx0 := hx 0 _ rfl
      have hy0 := hy 0 _ rfl
      rw [show ox + (k1 * 1 + 0) = ox + k1 by omega] at hx0
      rw [show oy + (k1 * 1 + 0) = oy + k1 by omega] at hy0
      have HXe := Lib.hid hxx
      have HYe := Lib.hid hyy
      have HLx := Lib.hid hlx
      have HLy := Lib.hid hly
      subst eA eB
      clear hc1 hc2 hx hy hxx hyy hbx hby
      by_cases he : x = y
      · have HS2 := Lib.hid (fun j (hj : j < k1 + 1) => show ∀ (h1 : j < d1.text.length) (h2 : j < d2.text.length), d1.text[j] = d2.text[j] from fun h1 h2 => by
          by_cases e : j = k1
          · subst e; rw [HXe.out, HYe.out, he]
          · exact HS.out j (by omega) h1 h2)
        have hb : (x != y) = false := by rw [he]; simp
        clear he
        go_wp2
        go_quiet (fail)
        go_wp2
        go_roundw
        case rel => exact ⟨k1 + 1, _, by omega, by go_num, rfl, HS2⟩
        case measure => simp [intOf]; omega
      · have HR := Lib.hid (show sameD d1 d2 = false by unfold sameD; rw [decide_eq_false (p := d1.text = d2.text) (list_diff HLx.out HLy.out (by rw [HXe.out, HYe.out]; exact he))]; simp)
        have hb : (x != y) = true := by rw [bne_iff_ne]; exact he
        have HBe := Lib.hid HHx.out.2.2
        clear he
        go_wp2
        go_quiet (fail)
        go_wp2
        go_ret
        exact ⟨ret_bool HR.out.symm, belq (belq HBe.out _) _⟩
    · obtain rfl : k1 = n1 := by omega
      have HE1 := Lib.hid (show decide (d1.text = d2.text) = true from decide_eq_true (list_same (by rw [F1.out, G1.out]) (fun j h1 h2 => HS.out j (by rw [F1.out] at h1; exact h1) h1 h2)))
      clear hlt HS
      go_wp2
      go_loopw [6] (fun i wr => ∃ (k : Nat) (q : Nat), k ≤ n2 ∧ i = .int .i64 k ∧ wr = w'.drewN q ∧ Hid (∀ j, j < k → ∀ (h1 : j < d1.data.length) (h2 : j < d2.data.length), d1.data[j] = d2.data[j])) (fun i _ => n2 - (intOf i).toNat)
      case atStart => exact ⟨0, q1, by omega, rfl, rfl, Lib.hid (fun j hj => by omega)⟩
      case round =>
        obtain ⟨k2, q2, hk2, rfl, rfl, HS⟩ := hrel
        by_cases hlt : k2 < n2
        · have i0 : (0 : Int) ≤ k2 := by omega
          have i1 : (k2 : Int) < n2 := by omega
          have hlx : k2 < d1.data.length := by rw [F2.out]; exact hlt
          have hly : k2 < d2.data.length := by rw [G2.out]; exact hlt
          obtain ⟨bx, ox, eA, _, hbx, hc1⟩ := P2.out.at_ (sz := 1) (fun x => rfl) (by omega) (by omega)
          obtain ⟨by_, oy, eB, _, hby, hc2⟩ := Q2.out.at_ (sz := 1) (fun x => rfl) (by omega) (by omega)
          have hx := fun i v h => (HHx.out.2.2.cell (p := ⟨bx, ox + (k2 * 1 + i), none⟩) (by have := HH.out; show bx < _; omega)).trans (hc1 k2 hlx i v h)
          have hy := fun i v h => (HHx.out.2.2.cell (p := ⟨by_, oy + (k2 * 1 + i), none⟩) (by have := HH.out; show by_ < _; omega)).trans (hc2 k2 hly i v h)
          obtain ⟨x, hxx⟩ : ∃ x, d1.data[k2] = x := ⟨_, rfl⟩
          obtain ⟨y, hyy⟩ : ∃ y, d2.data[k2] = y := ⟨_, rfl⟩
          rw [hxx] at hx
          rw [hyy] at hy
          have hx0 := hx 0 _ rfl
          have hy0 := hy 0 _ rfl
          rw [show ox + (k2 * 1 + 0) = ox + k2 by omega] at hx0
          rw [show oy + (k2 * 1 + 0) = oy + k2 by omega] at hy0
          have HXe := Lib.hid hxx
          have HYe := Lib.hid hyy
          have HLx := Lib.hid hlx
          have HLy := Lib.hid hly
          subst eA eB
          clear hc1 hc2 hx hy hxx hyy hbx hby
          by_cases he : x = y
          · have HS2 := Lib.hid (fun j (hj : j < k2 + 1) => show ∀ (h1 : j < d1.data.length) (h2 : j < d2.data.length), d1.data[j] = d2.data[j] from fun h1 h2 => by
              by_cases e : j = k2
              · subst e; rw [HXe.out, HYe.out, he]
              · exact HS.out j (by omega) h1 h2)
            have hb : (x != y) = false := by rw [he]; simp
            clear he
            go_wp2
            go_quiet (fail)
            go_wp2
            go_roundw
            case rel => exact ⟨k2 + 1, _, by omega, by go_num, rfl, HS2⟩
            case measure => simp [intOf]; omega
          · have HR := Lib.hid (show sameD d1 d2 = false by unfold sameD; rw [decide_eq_false (p := d1.data = d2.data) (list_diff HLx.out HLy.out (by rw [HXe.out, HYe.out]; exact he))]; simp)
            have hb : (x != y) = true := by rw [bne_iff_ne]; exact he
            have HBe := Lib.hid HHx.out.2.2
            clear he
            go_wp2
            go_quiet (fail)
            go_wp2
            go_ret
            exact ⟨ret_bool HR.out.symm, belq (belq HBe.out _) _⟩
        · obtain rfl : k2 = n2 := by omega
          have HE2 := Lib.hid (show decide (d1.data = d2.data) = true from decide_eq_true (list_same (by rw [F2.out, G2.out]) (fun j h1 h2 => HS.out j (by rw [F2.out] at h1; exact h1) h1 h2)))
          clear hlt HS
          go_wp2
          go_loopw [7] (fun i wr => ∃ (k : Nat) (q : Nat), k ≤ n3 ∧ i = .int .i64 k ∧ wr = w'.drewN q ∧ Hid (∀ j, j < k → ∀ (h1 : j < d1.syms.length) (h2 : j < d2.syms.length), d1.syms[j] = d2.syms[j])) (fun i _ => n3 - (intOf i).toNat)
          case atStart => exact ⟨0, q2, by omega, rfl, rfl, Lib.hid (fun j hj => by omega)⟩
          case round =>
            obtain ⟨k3, q3, hk3, rfl, rfl, HS⟩ := hrel
            by_cases hlt : k3 < n3
            · have i0 : (0 : Int) ≤ k3 := by omega
              have i1 : (k3 : Int) < n3 := by omega
              have hlx : k3 < d1.syms.length := by rw [F3.out]; exact hlt
              have hly : k3 < d2.syms.length := by rw [G3.out]; exact hlt
              obtain ⟨bx, ox, eA, _, hbx, hc1⟩ := P3.out.at_ (sz := 4) (fun x => rfl) (by omega) (by omega)
              obtain ⟨by_, oy, eB, _, hby, hc2⟩ := Q3.out.at_ (sz := 4) (fun x => rfl) (by omega) (by omega)
              have hx := fun i v h => (HHx.out.2.2.cell (p := ⟨bx, ox + (k3 * 4 + i), none⟩) (by have := HH.out; show bx < _; omega)).trans (hc1 k3 hlx i v h)
              have hy := fun i v h => (HHx.out.2.2.cell (p := ⟨by_, oy + (k3 * 4 + i), none⟩) (by have := HH.out; show by_ < _; omega)).trans (hc2 k3 hly i v h)
              obtain ⟨x, hxx⟩ : ∃ x, d1.syms[k3] = x := ⟨_, rfl⟩
              obtain ⟨y, hyy⟩ : ∃ y, d2.syms[k3] = y := ⟨_, rfl⟩
              rw [hxx] at hx
              rw [hyy] at hy
              have hx0 := hx 0 _ rfl
              have hy0 := hy 0 _ rfl
              have hx1 := hx 1 _ rfl
              have hy1 := hy 1 _ rfl
              have hx2 := hx 2 _ rfl
              have hy2 := hy 2 _ rfl
              have hx3 := hx 3 _ rfl
              have hy3 := hy 3 _ rfl
              rw [← Nat.add_assoc] at hx0 hy0 hx1 hy1 hx2 hy2 hx3 hy3
              rw [Nat.add_zero] at hx0 hy0
              have HXe := Lib.hid hxx
              have HYe := Lib.hid hyy
              have HLx := Lib.hid hlx
              have HLy := Lib.hid hly
              subst eA eB
              clear hc1 hc2 hx hy hxx hyy hbx hby
              have hg := sym_guard
              by_cases he : x = y
              · have HS2 := Lib.hid (fun j (hj : j < k3 + 1) => show ∀ (h1 : j < d1.syms.length) (h2 : j < d2.syms.length), d1.syms[j] = d2.syms[j] from fun h1 h2 => by
                  by_cases e : j = k3
                  · subst e; rw [HXe.out, HYe.out, he]
                  · exact HS.out j (by omega) h1 h2)
                have hq := fun w => neq_sym x y w
                rw [show (!decide (x = y)) = false by rw [he]; simp] at hq
                clear he
                go_wp2
                go_quiet (fail)
                go_wp2
                go_roundw
                case rel => exact ⟨k3 + 1, _, by omega, by go_num, rfl, HS2⟩
                case measure => simp [intOf]; omega
              · have HR := Lib.hid (show sameD d1 d2 = false by unfold sameD; rw [decide_eq_false (p := d1.syms = d2.syms) (list_diff HLx.out HLy.out (by rw [HXe.out, HYe.out]; exact he))]; simp)
                have hq := fun w => neq_sym x y w
                rw [show (!decide (x = y)) = true by rw [decide_eq_false he]; rfl] at hq
                have HBe := Lib.hid HHx.out.2.2
                clear he
                go_wp2
                go_quiet (fail)
                go_wp2
                go_ret
                exact ⟨ret_bool HR.out.symm, belq (belq HBe.out _) _⟩
            · obtain rfl : k3 = n3 := by omega
              have HE3 := Lib.hid (show decide (d1.syms = d2.syms) = true from decide_eq_true (list_same (by rw [F3.out, G3.out]) (fun j h1 h2 => HS.out j (by rw [F3.out] at h1; exact h1) h1 h2)))
              clear hlt HS
              go_wp2
              go_loopw [8] (fun i wr => ∃ (k : Nat) (q : Nat), k ≤ n4 ∧ i = .int .i64 k ∧ wr = w'.drewN q ∧ Hid (∀ j, j < k → ∀ (h1 : j < d1.rels.length) (h2 : j < d2.rels.length), d1.rels[j] = d2.rels[j])) (fun i _ => n4 - (intOf i).toNat)
              case atStart => exact ⟨0, q3, by omega, rfl, rfl, Lib.hid (fun j hj => by omega)⟩
              case round =>
                obtain ⟨k4, q4, hk4, rfl, rfl, HS⟩ := hrel
                by_cases hlt : k4 < n4
                · have i0 : (0 : Int) ≤ k4 := by omega
                  have i1 : (k4 : Int) < n4 := by omega
                  have hlx : k4 < d1.rels.length := by rw [F4.out]; exact hlt
                  have hly : k4 < d2.rels.length := by rw [G4.out]; exact hlt
                  obtain ⟨bx, ox, eA, _, hbx, hc1⟩ := P4.out.at_ (sz := 4) (fun x => rfl) (by omega) (by omega)
                  obtain ⟨by_, oy, eB, _, hby, hc2⟩ := Q4.out.at_ (sz := 4) (fun x => rfl) (by omega) (by omega)
                  have hx := fun i v h => (HHx.out.2.2.cell (p := ⟨bx, ox + (k4 * 4 + i), none⟩) (by have := HH.out; show bx < _; omega)).trans (hc1 k4 hlx i v h)
                  have hy := fun i v h => (HHx.out.2.2.cell (p := ⟨by_, oy + (k4 * 4 + i), none⟩) (by have := HH.out; show by_ < _; omega)).trans (hc2 k4 hly i v h)
                  obtain ⟨x, hxx⟩ : ∃ x, d1.rels[k4] = x := ⟨_, rfl⟩
                  obtain ⟨y, hyy⟩ : ∃ y, d2.rels[k4] = y := ⟨_, rfl⟩
                  rw [hxx] at hx
                  rw [hyy] at hy
                  have hx0 := hx 0 _ rfl
                  have hy0 := hy 0 _ rfl
                  have hx1 := hx 1 _ rfl
                  have hy1 := hy 1 _ rfl
                  have hx2 := hx 2 _ rfl
                  have hy2 := hy 2 _ rfl
                  have hx3 := hx 3 _ rfl
                  have hy3 := hy 3 _ rfl
                  rw [← Nat.add_assoc] at hx0 hy0 hx1 hy1 hx2 hy2 hx3 hy3
                  rw [Nat.add_zero] at hx0 hy0
                  have HXe := Lib.hid hxx
                  have HYe := Lib.hid hyy
                  have HLx := Lib.hid hlx
                  have HLy := Lib.hid hly
                  subst eA eB
                  clear hc1 hc2 hx hy hxx hyy hbx hby
                  have hg := rel_guard
                  by_cases he : x = y
                  · have HS2 := Lib.hid (fun j (hj : j < k4 + 1) => show ∀ (h1 : j < d1.rels.length) (h2 : j < d2.rels.length), d1.rels[j] = d2.rels[j] from fun h1 h2 => by
                      by_cases e : j = k4
                      · subst e; rw [HXe.out, HYe.out, he]
                      · exact HS.out j (by omega) h1 h2)
                    have hq := fun w => neq_rel x y w
                    rw [show (!decide (x = y)) = false by rw [he]; simp] at hq
                    clear he
                    go_wp2
                    go_quiet (fail)
                    go_wp2
                    go_roundw
                    case rel => exact ⟨k4 + 1, _, by omega, by go_num, rfl, HS2⟩
                    case measure => simp [intOf]; omega
                  · have HR := Lib.hid (show sameD d1 d2 = false by unfold sameD; rw [decide_eq_false (p := d1.rels = d2.rels) (list_diff HLx.out HLy.out (by rw [HXe.out, HYe.out]; exact he))]; simp)
                    have hq := fun w => neq_rel x y w
                    rw [show (!decide (x = y)) = true by rw [decide_eq_false he]; rfl] at hq
                    have HBe := Lib.hid HHx.out.2.2
                    clear he
                    go_wp2
                    go_quiet (fail)
                    go_wp2
                    go_ret
                    exact ⟨ret_bool HR.out.symm, belq (belq HBe.out _) _⟩
                · obtain rfl : k4 = n4 := by omega
                  have HE4 := Lib.hid (show decide (d1.rels = d2.rels) = true from decide_eq_true (list_same (by rw [F4.out, G4.out]) (fun j h1 h2 => HS.out j (by rw [F4.out] at h1; exact h1) h1 h2)))
                  clear hlt HS
                  go_wp2
                  go_loopw [9, 10] (fun i _ wr => ∃ (k : Nat) (q : Nat), k ≤ n5 ∧ i = .int .i64 k ∧ wr = w'.drewN q ∧ Hid (∀ j, j < k → ∀ (h1 : j < d1.ents.length) (h2 : j < d2.ents.length), d1.ents[j] = d2.ents[j])) (fun i _ _ => n5 - (intOf i).toNat)
                  case atStart => exact ⟨0, q4, by omega, rfl, rfl, Lib.hid (fun j hj => by omega)⟩
                  case round =>
                    obtain ⟨k5, q5, hk5, rfl, rfl, HS⟩ := hrel
                    by_cases hlt : k5 < n5
                    · have i0 : (0 : Int) ≤ k5 := by omega
                      have i1 : (k5 : Int) < n5 := by omega
                      have hlx : k5 < d1.ents.length := by rw [F5.out]; exact hlt
                      have hly : k5 < d2.ents.length := by rw [G5.out]; exact hlt
                      obtain ⟨Ap, cp, g0, g1, gr⟩ := P6.out.get hlx
                      obtain ⟨Bp, dp, p0, p1, pr⟩ := Q6.out.get hly
                      have hne1 : es ≠ [] := fun e => by rw [e] at g0; cases g0
                      have hne2 : fs ≠ [] := fun e => by rw [e] at p0; cases p0
                      rcases P5.out with e | ⟨bx, ox, eA, _, hbx, hc1⟩
                      · exact absurd e hne1
                      rcases Q5.out with e | ⟨by_, oy, eB, _, hby, hc2⟩
                      · exact absurd e hne2
                      have hx0 := (HHx.out.2.2.cell (p := ⟨bx, ox + (k5 * 2), none⟩) (by have := HH.out; show bx < _; omega)).trans (hc1 (k5 * 2) _ g0)
                      have hx1 := (HHx.out.2.2.cell (p := ⟨bx, ox + (k5 * 2 + 1), none⟩) (by have := HH.out; show bx < _; omega)).trans (hc1 (k5 * 2 + 1) _ g1)
                      have hy0 := (HHx.out.2.2.cell (p := ⟨by_, oy + (k5 * 2), none⟩) (by have := HH.out; show by_ < _; omega)).trans (hc2 (k5 * 2) _ p0)
                      have hy1 := (HHx.out.2.2.cell (p := ⟨by_, oy + (k5 * 2 + 1), none⟩) (by have := HH.out; show by_ < _; omega)).trans (hc2 (k5 * 2 + 1) _ p1)
                      rw [← Nat.add_assoc] at hx1 hy1
                      have hxm := HL1.out.lp d1.ents[k5] (List.getElem_mem hlx)
                      have hym := HL2.out.lp d2.ents[k5] (List.getElem_mem hly)
                      unfold maxLen at hxm hym
                      obtain ⟨x, hxx⟩ : ∃ x, d1.ents[k5] = x := ⟨_, rfl⟩
                      obtain ⟨y, hyy⟩ : ∃ y, d2.ents[k5] = y := ⟨_, rfl⟩
                      rw [hxx] at hx0 hx1 gr hxm
                      rw [hyy] at hy0 hy1 pr hym
                      have HXe := Lib.hid hxx
                      have HYe := Lib.hid hyy
                      have HLx := Lib.hid hlx
                      have HLy := Lib.hid hly
                      have HGr := Lib.hid gr.rowC
                      have HPr := Lib.hid pr.rowC
                      have HNo := Lib.hid (show x ≠ y → sameD d1 d2 = false from fun he => by unfold sameD; rw [decide_eq_false (p := d1.ents = d2.ents) (list_diff HLx.out HLy.out (by rw [HXe.out, HYe.out]; exact he))]; simp)
                      have HBe := Lib.hid HHx.out.2.2
                      subst eA eB
                      clear hc1 hc2 hxx hyy hbx hby g0 g1 gr p0 p1 pr hne1 hne2
                      have hstr := beq_str x.1 y.1
                      by_cases hs : x.1 = y.1
                      case neg =>
                        have HR := Lib.hid (HNo.out (fun e => hs (by rw [e])))
                        rw [decide_eq_false hs] at hstr
                        have hstr2 : (x.1.toList != y.1.toList) = true := by rw [bne, hstr]; rfl
                        clear hs
                        go_wp2
                        go_quiet (fail)
                        go_wp2
                        go_ret
                        exact ⟨ret_bool HR.out.symm, belq (belq HBe.out _) _⟩
                      rw [decide_eq_true hs] at hstr
                      have hstr2 : (x.1.toList != y.1.toList) = false := by rw [bne, hstr]; rfl
                      have HSt := Lib.hid hs
                      clear hs
                      obtain ⟨u, hu⟩ : ∃ u, x.2.length = u := ⟨_, rfl⟩
                      obtain ⟨t, ht⟩ : ∃ t, y.2.length = t := ⟨_, rfl⟩
                      rw [hu] at hx1 hxm
                      rw [ht] at hy1 hym
                      have HU := Lib.hid hu
                      have HT2 := Lib.hid ht
                      clear hu ht
                      by_cases hlen : u = t
                      case neg =>
                        have HR := Lib.hid (HNo.out (fun e => hlen (by rw [← HU.out, ← HT2.out, e])))
                        have hl : ((u : Int) != (t : Int)) = true := by rw [bne_iff_ne]; omega
                        clear hlen
                        go_wp2
                        go_quiet (fail)
                        go_wp2
                        go_ret
                        exact ⟨ret_bool HR.out.symm, belq (belq HBe.out _) _⟩
                      subst hlen
                      have hl : ((u : Int) != (u : Int)) = false := by simp
                      go_wp2
                      go_quiet (fail)
                      go_wp2
                      clear hl hstr hstr2
                      go_loopw [10] (fun i wr => ∃ (m : Nat) (q : Nat), m ≤ u ∧ i = .int .i64 m ∧ wr = w'.drewN q ∧ Hid (∀ j, j < m → ∀ (h1 : j < x.2.length) (h2 : j < y.2.length), x.2[j] = y.2[j])) (fun i _ => u - (intOf i).toNat)
                      case atStart => exact ⟨0, _, by omega, rfl, World.drewN_drewN _ _ _, Lib.hid (fun j hj => by omega)⟩
                      case round =>
                        obtain ⟨m6, q6, hm6, rfl, rfl, HZ⟩ := hrel
                        by_cases hlt2 : m6 < u
                        · have j0 : (0 : Int) ≤ m6 := by omega
                          have j1 : (m6 : Int) < u := by omega
                          have hlx2 : m6 < x.2.length := by rw [HU.out]; exact hlt2
                          have hly2 : m6 < y.2.length := by rw [HT2.out]; exact hlt2
                          obtain ⟨bp, op, eAp, _, hbp, hcp⟩ := HGr.out.at_ (sz := 1) (fun x => rfl) (by omega) (by omega)
                          obtain ⟨bq, oq, eBp, _, hbq, hcq⟩ := HPr.out.at_ (sz := 1) (fun x => rfl) (by omega) (by omega)
                          have hp := (HBe.out.cell (p := ⟨bp, op + (m6 * 1 + 0), none⟩) (by have := HH.out; show bp < _; omega)).trans (hcp m6 hlx2 0 (.int .i64 x.2[m6]) rfl)
                          have hq := (HBe.out.cell (p := ⟨bq, oq + (m6 * 1 + 0), none⟩) (by have := HH.out; show bq < _; omega)).trans (hcq m6 hly2 0 (.int .i64 y.2[m6]) rfl)
                          rw [show op + (m6 * 1 + 0) = op + m6 by omega] at hp
                          rw [show oq + (m6 * 1 + 0) = oq + m6 by omega] at hq
                          obtain ⟨a, haa⟩ : ∃ a, x.2[m6] = a := ⟨_, rfl⟩
                          obtain ⟨b, hbb⟩ : ∃ b, y.2[m6] = b := ⟨_, rfl⟩
                          rw [haa] at hp
                          rw [hbb] at hq
                          have HAa := Lib.hid haa
                          have HBb := Lib.hid hbb
                          have HLx2 := Lib.hid hlx2
                          have HLy2 := Lib.hid hly2
                          subst eAp eBp
                          clear hbp hbq hcp hcq haa hbb
                          by_cases he : a = b
                          · have HZ2 := Lib.hid (fun j (hj : j < m6 + 1) => show ∀ (h1 : j < x.2.length) (h2 : j < y.2.length), x.2[j] = y.2[j] from fun h1 h2 => by
                              by_cases e : j = m6
                              · subst e; rw [HAa.out, HBb.out, he]
                              · exact HZ.out j (by omega) h1 h2)
                            have hb : (a != b) = false := by rw [he]; simp
                            clear he
                            go_wp2
                            go_quiet (fail)
                            go_wp2
                            go_roundw
                            case rel => exact ⟨m6 + 1, _, by omega, by go_num, rfl, HZ2⟩
                            case measure => simp [intOf]; omega
                          · have HR := Lib.hid (HNo.out (fun e => he (by rw [← HAa.out, ← HBb.out]; subst e; rfl)))
                            have hb : (a != b) = true := by rw [bne_iff_ne]; exact he
                            clear he
                            go_wp2
                            go_quiet (fail)
                            go_wp2
                            go_ret
                            exact ⟨ret_bool HR.out.symm, belq (belq HBe.out _) _⟩
                        · have j1 : ¬ (m6 : Int) < u := by omega
                          have HS2 := Lib.hid (fun j (hj : j < k5 + 1) => show ∀ (h1 : j < d1.ents.length) (h2 : j < d2.ents.length), d1.ents[j] = d2.ents[j] from fun h1 h2 => by
                            by_cases e : j = k5
                            · subst e
                              rw [HXe.out, HYe.out]
                              exact Prod.ext HSt.out (list_same (by rw [HU.out, HT2.out]) (fun j h1 h2 => HZ.out j (by rw [HU.out] at h1; omega) h1 h2))
                            · exact HS.out j (by omega) h1 h2)
                          clear hlt2 HZ
                          go_wp2
                          go_roundw
                          case rel => exact ⟨k5 + 1, _, by omega, by go_num, rfl, HS2⟩
                          case measure => simp [intOf]; omega
                    · obtain rfl : k5 = n5 := by omega
                      have HR := Lib.hid (show sameD d1 d2 = true by unfold sameD; rw [HE1.out, HE2.out, HE3.out, HE4.out, decide_eq_true (p := d1.ents = d2.ents) (list_same (by rw [F5.out, G5.out]) (fun j h1 h2 => HS.out j (by rw [F5.out] at h1; exact h1) h1 h2))]; rfl)
                      have HBe := Lib.hid HHx.out.2.2
                      clear hlt HS
                      go_wp2
                      go_ret
                      exact ⟨ret_bool HR.out.symm, belq HBe.out _⟩

end Go.Proofs.YtmpieeadkkeniaaGreatDoor
