/- Layer 6: rows held against each other: slices.Equal at the kinds that package obj asks.
   Layer 6: Same of package obj.
   Arguments of layer 6's statements: an object that came in. No condition. -/
import Derived.Test.YtmpieeadkkeniaaGreatDoorObjE
import Derived.Laws.StructEq
import Derived.Lib.SmallJoins
import Derived.Deep.Slices
import Derived.WideShapes
namespace Go.Proofs.YtmpieeadkkeniaaGreatDoor
set_option maxRecDepth 100000
open Go.RowKit
set_option linter.unusedVariables false
theorem beq_str (s t : ByteArray) : (s.toList == t.toList) = decide (s = t) := by
  rw [ByteArray.toList_eq, ByteArray.toList_eq]
  by_cases h : s = t
  · subst h; simp
  · rw [decide_eq_false h, beq_eq_false_iff_ne]
    intro e
    exact h (ByteArray.ext (Array.ext' e))
theorem eqF_step {P : Program} {w : World} {d : Nat} {xs ys : Array Value} {f : Field} {fs : List Field} {t : TypeId} {o : Nat} {nm : String} {a b : Value} {r : Bool} (hn : f.name = nm) (hne : nm ≠ "_") (ht : f.type = t) (ho : f.offset = o)
    (pa : (part t xs o).run P w = .ok a w) (pb : (part t ys o).run P w = .ok b w) (hq : (Op.equalIn d t a b).run P w = .ok r w) :
    (Op.eqFields d xs ys (f :: fs)).run P w = if r then (Op.eqFields d xs ys fs).run P w else .ok false w := by
  subst hn ht ho
  rw [Op.eqFields, if_pos hne, Sem.run_bind, pa, Result.andThen_ok, Sem.run_bind, pb, Result.andThen_ok, Sem.run_bind, hq, Result.andThen_ok]
  cases r <;> simp
theorem se_part {P : Program} (t : TypeId) (ha : ∀ w : World, (isAgg t).run P w = .ok false w) (xs : Array Value) (i : Nat) (v : Value) (h : xs[i]? = some v) (w : World) : (part t xs i).run P w = .ok v w := by
  unfold part
  simp only [Sem.run_bind, ha, Result.andThen_ok, h, Sem.run_pure, Bool.false_eq_true, if_false]
theorem se_agg_s (w : World) : (isAgg 9).run Tryz.prog w = .ok false w := by kernel_rfl
theorem se_agg_b (w : World) : (isAgg 4).run Tryz.prog w = .ok false w := by kernel_rfl
theorem se_agg_i (w : World) : (isAgg 3).run Tryz.prog w = .ok false w := by kernel_rfl
theorem se_agg_l (w : World) : (isAgg 2).run Tryz.prog w = .ok false w := by kernel_rfl
theorem se_four {P : Program} {w : World} {d : Nat} {xs ys : Array Value} {fs : List Field} {n0 n1 n2 n3 : String} {t0 t1 t2 t3 : TypeId} (hf : fs.map (fun f => (f.name, f.type, f.offset)) = [(n0, t0, 0), (n1, t1, 1), (n2, t2, 2), (n3, t3, 3)])
    (g0 : n0 ≠ "_") (g1 : n1 ≠ "_") (g2 : n2 ≠ "_") (g3 : n3 ≠ "_") {a0 a1 a2 a3 b0 b1 b2 b3 : Value} {r0 r1 r2 r3 : Bool}
    (p0 : (part t0 xs 0).run P w = .ok a0 w) (p1 : (part t1 xs 1).run P w = .ok a1 w) (p2 : (part t2 xs 2).run P w = .ok a2 w) (p3 : (part t3 xs 3).run P w = .ok a3 w)
    (q0 : (part t0 ys 0).run P w = .ok b0 w) (q1 : (part t1 ys 1).run P w = .ok b1 w) (q2 : (part t2 ys 2).run P w = .ok b2 w) (q3 : (part t3 ys 3).run P w = .ok b3 w)
    (e0 : (Op.equalIn d t0 a0 b0).run P w = .ok r0 w) (e1 : (Op.equalIn d t1 a1 b1).run P w = .ok r1 w) (e2 : (Op.equalIn d t2 a2 b2).run P w = .ok r2 w) (e3 : (Op.equalIn d t3 a3 b3).run P w = .ok r3 w) :
    (Op.eqFields d xs ys fs).run P w = .ok (r0 && r1 && r2 && r3) w := by
  have hl : fs.length = 4 := by have := congrArg List.length hf; simpa using this
  match fs, hl with
  | [f0, f1, f2, f3], _ =>
    simp only [List.map_cons, List.map_nil, List.cons.injEq, Prod.mk.injEq, and_true] at hf
    obtain ⟨⟨m0, s0, o0⟩, ⟨m1, s1, o1⟩, ⟨m2, s2, o2⟩, m3, s3, o3⟩ := hf
    rw [eqF_step m0 g0 s0 o0 p0 q0 e0, eqF_step m1 g1 s1 o1 p1 q1 e1, eqF_step m2 g2 s2 o2 p2 q2 e2, eqF_step m3 g3 s3 o3 p3 q3 e3]
    cases r0 <;> cases r1 <;> cases r2 <;> cases r3 <;> rfl
theorem se_uStr : Tryz.prog.underlying 9 = some .string := by kernel_rfl
theorem se_uBool : Tryz.prog.underlying 4 = some .bool := by kernel_rfl
theorem se_uInt : Tryz.prog.underlying 3 = some (.int .i64) := by kernel_rfl
theorem se_uI64 : Tryz.prog.underlying 2 = some (.int .i64) := by kernel_rfl
theorem sym_fields : (Tryz.prog.fieldsOf 45).toList.map (fun f => (f.name, f.type, f.offset)) = [("Name", 9, 0), ("InData", 4, 1), ("Off", 3, 2), ("Out", 4, 3)] := by kernel_rfl
theorem rel_fields : (Tryz.prog.fieldsOf 42).toList.map (fun f => (f.name, f.type, f.offset)) = [("At", 3, 0), ("Kind", 3, 1), ("Name", 9, 2), ("Add", 2, 3)] := by kernel_rfl
theorem sym_und : Tryz.prog.underlying 45 = some (.struct (Tryz.prog.fieldsOf 45)) := by kernel_rfl
theorem rel_und : Tryz.prog.underlying 42 = some (.struct (Tryz.prog.fieldsOf 42)) := by kernel_rfl
theorem sym_stood : Tryz.prog.stoodInHeld 45 = false := by kernel_rfl
theorem rel_stood : Tryz.prog.stoodInHeld 42 = false := by kernel_rfl
theorem sym_guard : Tryz.prog.eqGuardType Tryz.prog.depth 45 = false := by kernel_rfl
theorem rel_guard : Tryz.prog.eqGuardType Tryz.prog.depth 42 = false := by kernel_rfl
theorem neq_sym (x y : SymD) (w : World) : (binOp .neq 45 (.agg #[.string x.1, .bool x.2.1, .int .i64 x.2.2.1, .bool x.2.2.2]) (.agg #[.string y.1, .bool y.2.1, .int .i64 y.2.2.1, .bool y.2.2.2])).run Tryz.prog w = .ok (.bool (!decide (x = y))) w := by
  rw [run_neq_struct]
  generalize hn : (10000 : Nat) = n
  obtain ⟨d, rfl⟩ : ∃ d, n = d + 2 := ⟨9998, by omega⟩
  rw [run_equalIn_agg w (d + 1) 45 _ _ sym_und sym_stood]
  rw [se_four sym_fields (by decide) (by decide) (by decide) (by decide) (se_part _ se_agg_s _ 0 (.string x.1) rfl w) (se_part _ se_agg_b _ 1 (.bool x.2.1) rfl w) (se_part _ se_agg_i _ 2 (.int .i64 x.2.2.1) rfl w) (se_part _ se_agg_b _ 3 (.bool x.2.2.2) rfl w)
    (se_part _ se_agg_s _ 0 (.string y.1) rfl w) (se_part _ se_agg_b _ 1 (.bool y.2.1) rfl w) (se_part _ se_agg_i _ 2 (.int .i64 y.2.2.1) rfl w) (se_part _ se_agg_b _ 3 (.bool y.2.2.2) rfl w)
    (run_equalIn_string w d _ _ _ se_uStr) (run_equalIn_bool' w d _ _ _ se_uBool) (run_equalIn_int w d _ .i64 .i64 _ _ se_uInt) (run_equalIn_bool' w d _ _ _ se_uBool)]
  rw [Result.andThen_ok, beq_str]
  congr 2
  obtain ⟨x0, x1, x2, x3⟩ := x
  obtain ⟨y0, y1, y2, y3⟩ := y
  congr 1
  rw [Bool.eq_iff_iff]
  simp [Prod.mk.injEq, and_assoc]
theorem neq_rel (x y : RelD) (w : World) : (binOp .neq 42 (.agg #[.int .i64 x.1, .int .i64 x.2.1, .string x.2.2.1, .int .i64 x.2.2.2]) (.agg #[.int .i64 y.1, .int .i64 y.2.1, .string y.2.2.1, .int .i64 y.2.2.2])).run Tryz.prog w = .ok (.bool (!decide (x = y))) w := by
  rw [run_neq_struct]
  generalize hn : (10000 : Nat) = n
  obtain ⟨d, rfl⟩ : ∃ d, n = d + 2 := ⟨9998, by omega⟩
  rw [run_equalIn_agg w (d + 1) 42 _ _ rel_und rel_stood]
  rw [se_four rel_fields (by decide) (by decide) (by decide) (by decide) (se_part _ se_agg_i _ 0 (.int .i64 x.1) rfl w) (se_part _ se_agg_i _ 1 (.int .i64 x.2.1) rfl w) (se_part _ se_agg_s _ 2 (.string x.2.2.1) rfl w) (se_part _ se_agg_l _ 3 (.int .i64 x.2.2.2) rfl w)
    (se_part _ se_agg_i _ 0 (.int .i64 y.1) rfl w) (se_part _ se_agg_i _ 1 (.int .i64 y.2.1) rfl w) (se_part _ se_agg_s _ 2 (.string y.2.2.1) rfl w) (se_part _ se_agg_l _ 3 (.int .i64 y.2.2.2) rfl w)
    (run_equalIn_int w d _ .i64 .i64 _ _ se_uInt) (run_equalIn_int w d _ .i64 .i64 _ _ se_uInt) (run_equalIn_string w d _ _ _ se_uStr) (run_equalIn_int w d _ .i64 .i64 _ _ se_uI64)]
  rw [Result.andThen_ok, beq_str]
  congr 2
  obtain ⟨x0, x1, x2, x3⟩ := x
  obtain ⟨y0, y1, y2, y3⟩ := y
  congr 1
  rw [Bool.eq_iff_iff]
  simp [Prod.mk.injEq, and_assoc]
theorem list_diff {α : Type} {xs ys : List α} {k : Nat} (h1 : k < xs.length) (h2 : k < ys.length) (h : xs[k] ≠ ys[k]) : xs ≠ ys := by
  rintro rfl; exact h rfl
theorem list_same {α : Type} {xs ys : List α} (hl : xs.length = ys.length) (h : ∀ j (h1 : j < xs.length) (h2 : j < ys.length), xs[j] = ys[j]) : xs = ys := List.ext_getElem hl h
theorem ret_bool' {a : Bool} {b : Bool} (h : b = a) : Ending.returned (.bool a) = Ending.returned (.bool b) := by rw [h]
set_option maxHeartbeats 1000000 in
theorem equal_u32 (A B : Option Addr) (xs ys : List Int) (n m ca cb lo hi lo2 hi2 : Nat) (w : World) (hA : RowC w lo hi A (xs.flatMap encU32)) (hB : RowC w lo2 hi2 B (ys.flatMap encU32)) (hn : xs.length = n) (hm : ys.length = m) (hmax : n ≤ 9223372036854775807) (hmax2 : m ≤ 9223372036854775807) :
    Calls Tryz.prog 53 #[.slice A n ca, .slice B m cb] w fun e w' => e = .returned (.bool (decide (xs = ys))) ∧ Below w.heap.size w w' := by
  by_cases hnm : n = m
  case neg =>
    have hne : ((n : Int) != (m : Int)) = true := by rw [bne_iff_ne]; omega
    have HR := Lib.hid (show decide (xs = ys) = false from decide_eq_false (fun e => by subst e; omega))
    clear hA hB hn hm hnm
    go_enter Tryz.func53, Tryz.ntmps53
    go_wp2
    go_ret
    exact ⟨ret_bool HR.out.symm, Below.refl _ _⟩
  subst hnm
  have hne : ((n : Int) != (n : Int)) = false := by simp
  have HA := Lib.hid hA
  have HB := Lib.hid hB
  have HN := Lib.hid hn
  have HM := Lib.hid hm
  clear hA hB hn hm
  go_enter Tryz.func53, Tryz.ntmps53
  go_wp2
  clear hne
  go_loopw [5, 13] (fun _ i wr => ∃ (k : Nat) (q : Nat), k ≤ n ∧ i = .int .i64 k ∧ wr = w.drewN q ∧ Hid (∀ j, j < k → ∀ (h1 : j < xs.length) (h2 : j < ys.length), xs[j] = ys[j])) (fun _ i _ => n - (intOf i).toNat)
  case atStart => exact ⟨0, 0, by omega, rfl, rfl, Lib.hid (fun j hj => by omega)⟩
  case round =>
    obtain ⟨k, q, hk, rfl, rfl, HS⟩ := hrel
    by_cases hlt : k < n
    · have k0 : (0 : Int) ≤ k := by omega
      have k1 : (k : Int) < n := by omega
      have hlx : k < xs.length := by rw [HN.out]; exact hlt
      have hly : k < ys.length := by rw [HM.out]; exact hlt
      obtain ⟨b1, o1, rfl, _, _, hc1⟩ := HA.out.at_ (sz := 1) (fun x => rfl) (by omega) (by omega)
      obtain ⟨b2, o2, rfl, _, _, hc2⟩ := HB.out.at_ (sz := 1) (fun x => rfl) (by omega) (by omega)
      have hx := hc1 k hlx
      have hy := hc2 k hly
      obtain ⟨x, hxx⟩ : ∃ x, xs[k] = x := ⟨_, rfl⟩
      obtain ⟨y, hyy⟩ : ∃ y, ys[k] = y := ⟨_, rfl⟩
      rw [hxx] at hx
      rw [hyy] at hy
      have hx0 := hx 0 _ rfl
      have hy0 := hy 0 _ rfl
      rw [show o1 + (k * 1 + 0) = o1 + k by omega] at hx0
      rw [show o2 + (k * 1 + 0) = o2 + k by omega] at hy0
      have HXe := Lib.hid hxx
      have HYe := Lib.hid hyy
      have HLx := Lib.hid hlx
      have HLy := Lib.hid hly
      clear hc1 hc2 hx hy hxx hyy
      by_cases he : x = y
      · have HS2 := Lib.hid (fun j (hj : j < k + 1) => show ∀ (h1 : j < xs.length) (h2 : j < ys.length), xs[j] = ys[j] from fun h1 h2 => by
          by_cases e : j = k
          · subst e; rw [HXe.out, HYe.out, he]
          · exact HS.out j (by omega) h1 h2)
        have hb : (x != y) = false := by rw [he]; simp
        clear he
        go_wp2
        go_quiet (fail)
        go_wp2
        go_roundw
        case rel => exact ⟨k + 1, _, by omega, by go_num, rfl, HS2⟩
        case measure => simp [intOf]; omega
      · have HR := Lib.hid (show decide (xs = ys) = false from decide_eq_false (list_diff HLx.out HLy.out (by rw [HXe.out, HYe.out]; exact he)))
        have hb : (x != y) = true := by rw [bne_iff_ne]; exact he
        clear he
        go_wp2
        go_quiet (fail)
        go_wp2
        go_ret
        exact ⟨ret_bool HR.out.symm, belq (belq (Below.refl _ _) _) _⟩
    · obtain rfl : k = n := by omega
      have HR := Lib.hid (show decide (xs = ys) = true from decide_eq_true (list_same (by rw [HN.out, HM.out]) (fun j h1 h2 => HS.out j (by rw [HN.out] at h1; exact h1) h1 h2)))
      clear hlt HS
      go_wp2
      go_ret
      exact ⟨ret_bool HR.out.symm, belq (Below.refl _ _) _⟩
set_option maxHeartbeats 1000000 in
theorem equal_u64 (A B : Option Addr) (xs ys : List Int) (n m ca cb lo hi lo2 hi2 : Nat) (w : World) (hA : RowC w lo hi A (xs.flatMap encU64)) (hB : RowC w lo2 hi2 B (ys.flatMap encU64)) (hn : xs.length = n) (hm : ys.length = m) (hmax : n ≤ 9223372036854775807) (hmax2 : m ≤ 9223372036854775807) :
    Calls Tryz.prog 54 #[.slice A n ca, .slice B m cb] w fun e w' => e = .returned (.bool (decide (xs = ys))) ∧ Below w.heap.size w w' := by
  by_cases hnm : n = m
  case neg =>
    have hne : ((n : Int) != (m : Int)) = true := by rw [bne_iff_ne]; omega
    have HR := Lib.hid (show decide (xs = ys) = false from decide_eq_false (fun e => by subst e; omega))
    clear hA hB hn hm hnm
    go_enter Tryz.func54, Tryz.ntmps54
    go_wp2
    go_ret
    exact ⟨ret_bool HR.out.symm, Below.refl _ _⟩
  subst hnm
  have hne : ((n : Int) != (n : Int)) = false := by simp
  have HA := Lib.hid hA
  have HB := Lib.hid hB
  have HN := Lib.hid hn
  have HM := Lib.hid hm
  clear hA hB hn hm
  go_enter Tryz.func54, Tryz.ntmps54
  go_wp2
  clear hne
  go_loopw [5, 13] (fun _ i wr => ∃ (k : Nat) (q : Nat), k ≤ n ∧ i = .int .i64 k ∧ wr = w.drewN q ∧ Hid (∀ j, j < k → ∀ (h1 : j < xs.length) (h2 : j < ys.length), xs[j] = ys[j])) (fun _ i _ => n - (intOf i).toNat)
  case atStart => exact ⟨0, 0, by omega, rfl, rfl, Lib.hid (fun j hj => by omega)⟩
  case round =>
    obtain ⟨k, q, hk, rfl, rfl, HS⟩ := hrel
    by_cases hlt : k < n
    · have k0 : (0 : Int) ≤ k := by omega
      have k1 : (k : Int) < n := by omega
      have hlx : k < xs.length := by rw [HN.out]; exact hlt
      have hly : k < ys.length := by rw [HM.out]; exact hlt
      obtain ⟨b1, o1, rfl, _, _, hc1⟩ := HA.out.at_ (sz := 1) (fun x => rfl) (by omega) (by omega)
      obtain ⟨b2, o2, rfl, _, _, hc2⟩ := HB.out.at_ (sz := 1) (fun x => rfl) (by omega) (by omega)
      have hx := hc1 k hlx
      have hy := hc2 k hly
      obtain ⟨x, hxx⟩ : ∃ x, xs[k] = x := ⟨_, rfl⟩
      obtain ⟨y, hyy⟩ : ∃ y, ys[k] = y := ⟨_, rfl⟩
      rw [hxx] at hx
      rw [hyy] at hy
      have hx0 := hx 0 _ rfl
      have hy0 := hy 0 _ rfl
      rw [show o1 + (k * 1 + 0) = o1 + k by omega] at hx0
      rw [show o2 + (k * 1 + 0) = o2 + k by omega] at hy0
      have HXe := Lib.hid hxx
      have HYe := Lib.hid hyy
      have HLx := Lib.hid hlx
      have HLy := Lib.hid hly
      clear hc1 hc2 hx hy hxx hyy
      by_cases he : x = y
      · have HS2 := Lib.hid (fun j (hj : j < k + 1) => show ∀ (h1 : j < xs.length) (h2 : j < ys.length), xs[j] = ys[j] from fun h1 h2 => by
          by_cases e : j = k
          · subst e; rw [HXe.out, HYe.out, he]
          · exact HS.out j (by omega) h1 h2)
        have hb : (x != y) = false := by rw [he]; simp
        clear he
        go_wp2
        go_quiet (fail)
        go_wp2
        go_roundw
        case rel => exact ⟨k + 1, _, by omega, by go_num, rfl, HS2⟩
        case measure => simp [intOf]; omega
      · have HR := Lib.hid (show decide (xs = ys) = false from decide_eq_false (list_diff HLx.out HLy.out (by rw [HXe.out, HYe.out]; exact he)))
        have hb : (x != y) = true := by rw [bne_iff_ne]; exact he
        clear he
        go_wp2
        go_quiet (fail)
        go_wp2
        go_ret
        exact ⟨ret_bool HR.out.symm, belq (belq (Below.refl _ _) _) _⟩
    · obtain rfl : k = n := by omega
      have HR := Lib.hid (show decide (xs = ys) = true from decide_eq_true (list_same (by rw [HN.out, HM.out]) (fun j h1 h2 => HS.out j (by rw [HN.out] at h1; exact h1) h1 h2)))
      clear hlt HS
      go_wp2
      go_ret
      exact ⟨ret_bool HR.out.symm, belq (Below.refl _ _) _⟩
set_option maxHeartbeats 1000000 in
theorem equal_int (A B : Option Addr) (xs ys : List Int) (n m ca cb lo hi lo2 hi2 : Nat) (w : World) (hA : RowC w lo hi A (xs.flatMap encI64)) (hB : RowC w lo2 hi2 B (ys.flatMap encI64)) (hn : xs.length = n) (hm : ys.length = m) (hmax : n ≤ 9223372036854775807) (hmax2 : m ≤ 9223372036854775807) :
    Calls Tryz.prog 86 #[.slice A n ca, .slice B m cb] w fun e w' => e = .returned (.bool (decide (xs = ys))) ∧ Below w.heap.size w w' := by
  by_cases hnm : n = m
  case neg =>
    have hne : ((n : Int) != (m : Int)) = true := by rw [bne_iff_ne]; omega
    have HR := Lib.hid (show decide (xs = ys) = false from decide_eq_false (fun e => by subst e; omega))
    clear hA hB hn hm hnm
    go_enter Tryz.func86, Tryz.ntmps86
    go_wp2
    go_ret
    exact ⟨ret_bool HR.out.symm, Below.refl _ _⟩
  subst hnm
  have hne : ((n : Int) != (n : Int)) = false := by simp
  have HA := Lib.hid hA
  have HB := Lib.hid hB
  have HN := Lib.hid hn
  have HM := Lib.hid hm
  clear hA hB hn hm
  go_enter Tryz.func86, Tryz.ntmps86
  go_wp2
  clear hne
  go_loopw [5, 13] (fun _ i wr => ∃ (k : Nat) (q : Nat), k ≤ n ∧ i = .int .i64 k ∧ wr = w.drewN q ∧ Hid (∀ j, j < k → ∀ (h1 : j < xs.length) (h2 : j < ys.length), xs[j] = ys[j])) (fun _ i _ => n - (intOf i).toNat)
  case atStart => exact ⟨0, 0, by omega, rfl, rfl, Lib.hid (fun j hj => by omega)⟩
  case round =>
    obtain ⟨k, q, hk, rfl, rfl, HS⟩ := hrel
    by_cases hlt : k < n
    · have k0 : (0 : Int) ≤ k := by omega
      have k1 : (k : Int) < n := by omega
      have hlx : k < xs.length := by rw [HN.out]; exact hlt
      have hly : k < ys.length := by rw [HM.out]; exact hlt
      obtain ⟨b1, o1, rfl, _, _, hc1⟩ := HA.out.at_ (sz := 1) (fun x => rfl) (by omega) (by omega)
      obtain ⟨b2, o2, rfl, _, _, hc2⟩ := HB.out.at_ (sz := 1) (fun x => rfl) (by omega) (by omega)
      have hx := hc1 k hlx
      have hy := hc2 k hly
      obtain ⟨x, hxx⟩ : ∃ x, xs[k] = x := ⟨_, rfl⟩
      obtain ⟨y, hyy⟩ : ∃ y, ys[k] = y := ⟨_, rfl⟩
      rw [hxx] at hx
      rw [hyy] at hy
      have hx0 := hx 0 _ rfl
      have hy0 := hy 0 _ rfl
      rw [show o1 + (k * 1 + 0) = o1 + k by omega] at hx0
      rw [show o2 + (k * 1 + 0) = o2 + k by omega] at hy0
      have HXe := Lib.hid hxx
      have HYe := Lib.hid hyy
      have HLx := Lib.hid hlx
      have HLy := Lib.hid hly
      clear hc1 hc2 hx hy hxx hyy
      by_cases he : x = y
      · have HS2 := Lib.hid (fun j (hj : j < k + 1) => show ∀ (h1 : j < xs.length) (h2 : j < ys.length), xs[j] = ys[j] from fun h1 h2 => by
          by_cases e : j = k
          · subst e; rw [HXe.out, HYe.out, he]
          · exact HS.out j (by omega) h1 h2)
        have hb : (x != y) = false := by rw [he]; simp
        clear he
        go_wp2
        go_quiet (fail)
        go_wp2
        go_roundw
        case rel => exact ⟨k + 1, _, by omega, by go_num, rfl, HS2⟩
        case measure => simp [intOf]; omega
      · have HR := Lib.hid (show decide (xs = ys) = false from decide_eq_false (list_diff HLx.out HLy.out (by rw [HXe.out, HYe.out]; exact he)))
        have hb : (x != y) = true := by rw [bne_iff_ne]; exact he
        clear he
        go_wp2
        go_quiet (fail)
        go_wp2
        go_ret
        exact ⟨ret_bool HR.out.symm, belq (belq (Below.refl _ _) _) _⟩
    · obtain rfl : k = n := by omega
      have HR := Lib.hid (show decide (xs = ys) = true from decide_eq_true (list_same (by rw [HN.out, HM.out]) (fun j h1 h2 => HS.out j (by rw [HN.out] at h1; exact h1) h1 h2)))
      clear hlt HS
      go_wp2
      go_ret
      exact ⟨ret_bool HR.out.symm, belq (Below.refl _ _) _⟩
set_option maxHeartbeats 1000000 in
theorem equal_sym (A B : Option Addr) (xs ys : List SymD) (n m ca cb lo hi lo2 hi2 : Nat) (w : World) (hA : RowC w lo hi A (xs.flatMap encSym)) (hB : RowC w lo2 hi2 B (ys.flatMap encSym)) (hn : xs.length = n) (hm : ys.length = m) (hmax : n ≤ 9223372036854775807) (hmax2 : m ≤ 9223372036854775807) :
    Calls Tryz.prog 55 #[.slice A n ca, .slice B m cb] w fun e w' => e = .returned (.bool (decide (xs = ys))) ∧ Below w.heap.size w w' := by
  by_cases hnm : n = m
  case neg =>
    have hne : ((n : Int) != (m : Int)) = true := by rw [bne_iff_ne]; omega
    have HR := Lib.hid (show decide (xs = ys) = false from decide_eq_false (fun e => by subst e; omega))
    clear hA hB hn hm hnm
    go_enter Tryz.func55, Tryz.ntmps55
    go_wp2
    go_ret
    exact ⟨ret_bool HR.out.symm, Below.refl _ _⟩
  subst hnm
  have hne : ((n : Int) != (n : Int)) = false := by simp
  have HA := Lib.hid hA
  have HB := Lib.hid hB
  have HN := Lib.hid hn
  have HM := Lib.hid hm
  clear hA hB hn hm
  go_enter Tryz.func55, Tryz.ntmps55
  go_wp2
  clear hne
  go_loopw [5, 13] (fun _ i wr => ∃ (k : Nat) (q : Nat), k ≤ n ∧ i = .int .i64 k ∧ wr = w.drewN q ∧ Hid (∀ j, j < k → ∀ (h1 : j < xs.length) (h2 : j < ys.length), xs[j] = ys[j])) (fun _ i _ => n - (intOf i).toNat)
  case atStart => exact ⟨0, 0, by omega, rfl, rfl, Lib.hid (fun j hj => by omega)⟩
  case round =>
    obtain ⟨k, q, hk, rfl, rfl, HS⟩ := hrel
    by_cases hlt : k < n
    · have k0 : (0 : Int) ≤ k := by omega
      have k1 : (k : Int) < n := by omega
      have hlx : k < xs.length := by rw [HN.out]; exact hlt
      have hly : k < ys.length := by rw [HM.out]; exact hlt
      obtain ⟨b1, o1, rfl, _, _, hc1⟩ := HA.out.at_ (sz := 4) (fun x => rfl) (by omega) (by omega)
      obtain ⟨b2, o2, rfl, _, _, hc2⟩ := HB.out.at_ (sz := 4) (fun x => rfl) (by omega) (by omega)
      have hx := hc1 k hlx
      have hy := hc2 k hly
      obtain ⟨x, hxx⟩ : ∃ x, xs[k] = x := ⟨_, rfl⟩
      obtain ⟨y, hyy⟩ : ∃ y, ys[k] = y := ⟨_, rfl⟩
      rw [hxx] at hx
      rw [hyy] at hy
      have hx0 := hx 0 _ rfl
      have hy0 := hy 0 _ rfl
      have hx1 := hx 1 _ rfl
      have hy1 := hy 1 _ rfl
      have hx2 := hx 2 _ rfl
      have hy2 := hy 2 _ rfl
      have hx3 := hx 3 _ rfl
      have hy3 := hy 3 _ rfl
      rw [← Nat.add_assoc] at hx0 hy0 hx1 hy1 hx2 hy2 hx3 hy3
      rw [Nat.add_zero] at hx0 hy0
      have HXe := Lib.hid hxx
      have HYe := Lib.hid hyy
      have HLx := Lib.hid hlx
      have HLy := Lib.hid hly
      clear hc1 hc2 hx hy hxx hyy
      have hg := sym_guard
      by_cases he : x = y
      · have HS2 := Lib.hid (fun j (hj : j < k + 1) => show ∀ (h1 : j < xs.length) (h2 : j < ys.length), xs[j] = ys[j] from fun h1 h2 => by
          by_cases e : j = k
          · subst e; rw [HXe.out, HYe.out, he]
          · exact HS.out j (by omega) h1 h2)
        have hq := fun w => neq_sym x y w
        rw [show (!decide (x = y)) = false by rw [he]; simp] at hq
        clear he
        go_wp2
        go_quiet (fail)
        go_wp2
        go_roundw
        case rel => exact ⟨k + 1, _, by omega, by go_num, rfl, HS2⟩
        case measure => simp [intOf]; omega
      · have HR := Lib.hid (show decide (xs = ys) = false from decide_eq_false (list_diff HLx.out HLy.out (by rw [HXe.out, HYe.out]; exact he)))
        have hq := fun w => neq_sym x y w
        rw [show (!decide (x = y)) = true by rw [decide_eq_false he]; rfl] at hq
        clear he
        go_wp2
        go_quiet (fail)
        go_wp2
        go_ret
        exact ⟨ret_bool HR.out.symm, belq (belq (Below.refl _ _) _) _⟩
    · obtain rfl : k = n := by omega
      have HR := Lib.hid (show decide (xs = ys) = true from decide_eq_true (list_same (by rw [HN.out, HM.out]) (fun j h1 h2 => HS.out j (by rw [HN.out] at h1; exact h1) h1 h2)))
      clear hlt HS
      go_wp2
      go_ret
      exact ⟨ret_bool HR.out.symm, belq (Below.refl _ _) _⟩
set_option maxHeartbeats 1000000 in
theorem equal_rel (A B : Option Addr) (xs ys : List RelD) (n m ca cb lo hi lo2 hi2 : Nat) (w : World) (hA : RowC w lo hi A (xs.flatMap encRel)) (hB : RowC w lo2 hi2 B (ys.flatMap encRel)) (hn : xs.length = n) (hm : ys.length = m) (hmax : n ≤ 9223372036854775807) (hmax2 : m ≤ 9223372036854775807) :
    Calls Tryz.prog 56 #[.slice A n ca, .slice B m cb] w fun e w' => e = .returned (.bool (decide (xs = ys))) ∧ Below w.heap.size w w' := by
  by_cases hnm : n = m
  case neg =>
    have hne : ((n : Int) != (m : Int)) = true := by rw [bne_iff_ne]; omega
    have HR := Lib.hid (show decide (xs = ys) = false from decide_eq_false (fun e => by subst e; omega))
    clear hA hB hn hm hnm
    go_enter Tryz.func56, Tryz.ntmps56
    go_wp2
    go_ret
    exact ⟨ret_bool HR.out.symm, Below.refl _ _⟩
  subst hnm
  have hne : ((n : Int) != (n : Int)) = false := by simp
  have HA := Lib.hid hA
  have HB := Lib.hid hB
  have HN := Lib.hid hn
  have HM := Lib.hid hm
  clear hA hB hn hm
  go_enter Tryz.func56, Tryz.ntmps56
  go_wp2
  clear hne
  go_loopw [5, 13] (fun _ i wr => ∃ (k : Nat) (q : Nat), k ≤ n ∧ i = .int .i64 k ∧ wr = w.drewN q ∧ Hid (∀ j, j < k → ∀ (h1 : j < xs.length) (h2 : j < ys.length), xs[j] = ys[j])) (fun _ i _ => n - (intOf i).toNat)
  case atStart => exact ⟨0, 0, by omega, rfl, rfl, Lib.hid (fun j hj => by omega)⟩
  case round =>
    obtain ⟨k, q, hk, rfl, rfl, HS⟩ := hrel
    by_cases hlt : k < n
    · have k0 : (0 : Int) ≤ k := by omega
      have k1 : (k : Int) < n := by omega
      have hlx : k < xs.length := by rw [HN.out]; exact hlt
      have hly : k < ys.length := by rw [HM.out]; exact hlt
      obtain ⟨b1, o1, rfl, _, _, hc1⟩ := HA.out.at_ (sz := 4) (fun x => rfl) (by omega) (by omega)
      obtain ⟨b2, o2, rfl, _, _, hc2⟩ := HB.out.at_ (sz := 4) (fun x => rfl) (by omega) (by omega)
      have hx := hc1 k hlx
      have hy := hc2 k hly
      obtain ⟨x, hxx⟩ : ∃ x, xs[k] = x := ⟨_, rfl⟩
      obtain ⟨y, hyy⟩ : ∃ y, ys[k] = y := ⟨_, rfl⟩
      rw [hxx] at hx
      rw [hyy] at hy
      have hx0 := hx 0 _ rfl
      have hy0 := hy 0 _ rfl
      have hx1 := hx 1 _ rfl
      have hy1 := hy 1 _ rfl
      have hx2 := hx 2 _ rfl
      have hy2 := hy 2 _ rfl
      have hx3 := hx 3 _ rfl
      have hy3 := hy 3 _ rfl
      rw [← Nat.add_assoc] at hx0 hy0 hx1 hy1 hx2 hy2 hx3 hy3
      rw [Nat.add_zero] at hx0 hy0
      have HXe := Lib.hid hxx
      have HYe := Lib.hid hyy
      have HLx := Lib.hid hlx
      have HLy := Lib.hid hly
      clear hc1 hc2 hx hy hxx hyy
      have hg := rel_guard
      by_cases he : x = y
      · have HS2 := Lib.hid (fun j (hj : j < k + 1) => show ∀ (h1 : j < xs.length) (h2 : j < ys.length), xs[j] = ys[j] from fun h1 h2 => by
          by_cases e : j = k
          · subst e; rw [HXe.out, HYe.out, he]
          · exact HS.out j (by omega) h1 h2)
        have hq := fun w => neq_rel x y w
        rw [show (!decide (x = y)) = false by rw [he]; simp] at hq
        clear he
        go_wp2
        go_quiet (fail)
        go_wp2
        go_roundw
        case rel => exact ⟨k + 1, _, by omega, by go_num, rfl, HS2⟩
        case measure => simp [intOf]; omega
      · have HR := Lib.hid (show decide (xs = ys) = false from decide_eq_false (list_diff HLx.out HLy.out (by rw [HXe.out, HYe.out]; exact he)))
        have hq := fun w => neq_rel x y w
        rw [show (!decide (x = y)) = true by rw [decide_eq_false he]; rfl] at hq
        clear he
        go_wp2
        go_quiet (fail)
        go_wp2
        go_ret
        exact ⟨ret_bool HR.out.symm, belq (belq (Below.refl _ _) _) _⟩
    · obtain rfl : k = n := by omega
      have HR := Lib.hid (show decide (xs = ys) = true from decide_eq_true (list_same (by rw [HN.out, HM.out]) (fun j h1 h2 => HS.out j (by rw [HN.out] at h1; exact h1) h1 h2)))
      clear hlt HS
      go_wp2
      go_ret
      exact ⟨ret_bool HR.out.symm, belq (Below.refl _ _) _⟩
end Go.Proofs.YtmpieeadkkeniaaGreatDoor
namespace Go.Proofs.YtmpieeadkkeniaaGreatDoor
set_option maxRecDepth 100000
open Go.RowKit
set_option linter.unusedVariables false
theorem ent_eq (x y : EntD) : decide (x = y) = (decide (x.1 = y.1) && decide (x.2 = y.2)) := by
  obtain ⟨x1, x2⟩ := x
  obtain ⟨y1, y2⟩ := y
  rw [Bool.eq_iff_iff]
  simp [Prod.mk.injEq]
set_option maxHeartbeats 1000000 in
theorem sameEntry_any (x y : EntD) (A B : Option Addr) (c1 c2 lo hi lo2 hi2 : Nat) (w : World) (hA : RowC w lo hi A (x.2.flatMap encI64)) (hh : hi ≤ w.heap.size) (hB : RowC w lo2 hi2 B (y.2.flatMap encI64)) (hh2 : hi2 ≤ w.heap.size) (hx : x.2.length ≤ maxLen) (hy : y.2.length ≤ maxLen) :
    Calls Tryz.prog 58 #[.agg #[.string x.1, .slice A x.2.length c1], .agg #[.string y.1, .slice B y.2.length c2]] w fun e w' => e = .returned (.bool (decide (x = y))) ∧ Below w.heap.size w w' := by
  unfold maxLen at hx hy
  have hB2 := ((Below.refl w.heap.size w).alloc (Nat.le_refl _) (.cells #[.string x.1, .slice A x.2.length c1] 52)).alloc (by simp) (.cells #[.string y.1, .slice B y.2.length c2] 52)
  have HBx := Lib.hid hB2
  have HE := Lib.hid (ent_eq x y)
  have hstr := beq_str x.1 y.1
  by_cases hs : x.1 = y.1
  case neg =>
    rw [decide_eq_false hs] at hstr
    have HR := Lib.hid (show decide (x = y) = false by rw [HE.out, decide_eq_false hs]; rfl)
    clear hs hB2 hA hB
    go_enter Tryz.func58, Tryz.ntmps58
    go_wp2
    go_ret
    exact ⟨ret_bool HR.out.symm, HBx.out⟩
  rw [decide_eq_true hs] at hstr
  have HR := Lib.hid (show decide (x = y) = decide (x.2 = y.2) by rw [HE.out, decide_eq_true hs]; rfl)
  have HC := Lib.hid (equal_int A B x.2 y.2 _ _ c1 c2 lo hi lo2 hi2 _ (hA.move (Nat.le_refl _) (Nat.le_refl _) (fun b g1 g2 => hB2.block b (by omega))) (hB.move (Nat.le_refl _) (Nat.le_refl _) (fun b g1 g2 => hB2.block b (by omega))) rfl rfl hx hy)
  clear hs hB2 hA hB
  go_enter Tryz.func58, Tryz.ntmps58
  go_wp2_with fail
  refine HC.out.mono ?_
  rintro e w' ⟨rfl, hb⟩
  have HB' := Lib.hid (HBx.out.trans (hb.mono HBx.out.size))
  clear hb
  go_wp2
  go_ret
  exact ⟨ret_bool HR.out.symm, HB'.out⟩
/-- lengths that may be -/
structure ObjL (d : ObjD) : Prop where
  lt : d.text.length ≤ maxLen
  ld : d.data.length ≤ maxLen
  ls : d.syms.length ≤ maxLen
  lr : d.rels.length ≤ maxLen
  le : d.ents.length ≤ maxLen
  lp : ∀ x ∈ d.ents, x.2.length ≤ maxLen
def sameD (a b : ObjD) : Bool := decide (a.text = b.text) && decide (a.data = b.data) && decide (a.syms = b.syms) && decide (a.rels = b.rels) && decide (a.ents = b.ents)
theorem sameD_iff {a b : ObjD} : sameD a b = true ↔ a = b := by
  obtain ⟨a1, a2, a3, a4, a5⟩ := a
  obtain ⟨b1, b2, b3, b4, b5⟩ := b
  unfold sameD
  simp [ObjD.mk.injEq, and_assoc]
set_option maxHeartbeats 1000000 in
theorem equalFunc_any (A B : Option Addr) (xs ys : List EntD) (n m ca cb lo hi lo2 hi2 : Nat) (es fs : List Value) (w : World) (hA : RowC w lo hi A es) (hAe : EntC w lo hi none xs es) (hB : RowC w lo2 hi2 B fs) (hBe : EntC w lo2 hi2 none ys fs) (hh : hi ≤ w.heap.size) (hh2 : hi2 ≤ w.heap.size) (hn : xs.length = n) (hm : ys.length = m) (hmax : n ≤ 9223372036854775807) (hmax2 : m ≤ 9223372036854775807)
    (hx : ∀ x ∈ xs, x.2.length ≤ maxLen) (hy : ∀ x ∈ ys, x.2.length ≤ maxLen) :
    Calls Tryz.prog 57 #[.slice A n ca, .slice B m cb, .func (Fn.func 58) #[] #[]] w fun e w' => e = .returned (.bool (decide (xs = ys))) ∧ Below w.heap.size w w' := by
  by_cases hnm : n = m
  case neg =>
    have hne : ((n : Int) != (m : Int)) = true := by rw [bne_iff_ne]; omega
    have HR := Lib.hid (show decide (xs = ys) = false from decide_eq_false (fun e => by subst e; omega))
    clear hA hB hn hm hnm hAe hBe hx hy
    go_enter Tryz.func57, Tryz.ntmps57
    go_wp2
    go_ret
    exact ⟨ret_bool HR.out.symm, Below.refl _ _⟩
  subst hnm
  have hne : ((n : Int) != (n : Int)) = false := by simp
  have HA := Lib.hid hA
  have HB := Lib.hid hB
  have HAe := Lib.hid hAe
  have HBe := Lib.hid hBe
  have HH := Lib.hid (And.intro hh hh2)
  have HXm := Lib.hid hx
  have HYm := Lib.hid hy
  have HN := Lib.hid hn
  have HM := Lib.hid hm
  clear hA hB hn hm hAe hBe hx hy hh hh2
  go_enter Tryz.func57, Tryz.ntmps57
  go_wp2
  clear hne
  go_loopw [7, 8, 9, 17] (fun _ _ _ i wr => ∃ (k : Nat), k ≤ n ∧ i = .int .i64 k ∧ Hid (Below w.heap.size w wr) ∧ Hid (∀ j, j < k → ∀ (h1 : j < xs.length) (h2 : j < ys.length), xs[j] = ys[j])) (fun _ _ _ i _ => n - (intOf i).toNat)
  case atStart => exact ⟨0, by omega, rfl, Lib.hid (Below.refl _ _), Lib.hid (fun j hj => by omega)⟩
  case round =>
    obtain ⟨k, hk, rfl, HW, HS⟩ := hrel
    by_cases hlt : k < n
    · have k0 : (0 : Int) ≤ k := by omega
      have k1 : (k : Int) < n := by omega
      have hlx : k < xs.length := by rw [HN.out]; exact hlt
      have hly : k < ys.length := by rw [HM.out]; exact hlt
      obtain ⟨Ap, cp, g0, g1, gr⟩ := HAe.out.get hlx
      obtain ⟨Bp, dp, p0, p1, pr⟩ := HBe.out.get hly
      have hne1 : es ≠ [] := fun e => by rw [e] at g0; cases g0
      have hne2 : fs ≠ [] := fun e => by rw [e] at p0; cases p0
      rcases HA.out with e | ⟨b1, o1, rfl, _, hb1, hc1⟩
      · exact absurd e hne1
      rcases HB.out with e | ⟨b2, o2, rfl, _, hb2, hc2⟩
      · exact absurd e hne2
      have hx0 := (HW.out.cell (p := ⟨b1, o1 + (k * 2), none⟩) (by have := HH.out; show b1 < _; omega)).trans (hc1 (k * 2) _ g0)
      have hx1 := (HW.out.cell (p := ⟨b1, o1 + (k * 2 + 1), none⟩) (by have := HH.out; show b1 < _; omega)).trans (hc1 (k * 2 + 1) _ g1)
      have hy0 := (HW.out.cell (p := ⟨b2, o2 + (k * 2), none⟩) (by have := HH.out; show b2 < _; omega)).trans (hc2 (k * 2) _ p0)
      have hy1 := (HW.out.cell (p := ⟨b2, o2 + (k * 2 + 1), none⟩) (by have := HH.out; show b2 < _; omega)).trans (hc2 (k * 2 + 1) _ p1)
      rw [← Nat.add_assoc] at hx1 hy1
      have hxm := HXm.out xs[k] (List.getElem_mem hlx)
      have hym := HYm.out ys[k] (List.getElem_mem hly)
      obtain ⟨x, hxx⟩ : ∃ x, xs[k] = x := ⟨_, rfl⟩
      obtain ⟨y, hyy⟩ : ∃ y, ys[k] = y := ⟨_, rfl⟩
      rw [hxx] at hx0 hx1 gr hxm
      rw [hyy] at hy0 hy1 pr hym
      have HXe := Lib.hid hxx
      have HYe := Lib.hid hyy
      have HLx := Lib.hid hlx
      have HLy := Lib.hid hly
      have HBa := Lib.hid (((Below.refl wr.heap.size wr).alloc (Nat.le_refl _) (.cells #[.string x.1, .slice Ap x.2.length cp] 52)).alloc (by simp) (.cells #[.string y.1, .slice Bp y.2.length dp] 52))
      have HC := Lib.hid (sameEntry_any x y Ap Bp cp dp lo hi lo2 hi2 ((wr.alloc (.cells #[.string x.1, .slice Ap x.2.length cp] 52)).alloc (.cells #[.string y.1, .slice Bp y.2.length dp] 52)) (gr.rowC.move (Nat.le_refl _) (Nat.le_refl _) (fun b g1 g2 => (HBa.out.block b (by have := HH.out; have := HW.out.size; omega)).trans (HW.out.block b (by have := HH.out; omega)))) (by have := HH.out; have := HW.out.size; have := HBa.out.size; omega) (pr.rowC.move (Nat.le_refl _) (Nat.le_refl _) (fun b g1 g2 => (HBa.out.block b (by have := HH.out; have := HW.out.size; omega)).trans (HW.out.block b (by have := HH.out; omega)))) (by have := HH.out; have := HW.out.size; have := HBa.out.size; omega) hxm hym)
      have hl2 : b2 < wr.heap.size := by have := HH.out; have := HW.out.size; omega
      have hya := ((Below.refl wr.heap.size wr).alloc (Nat.le_refl _) (.cells #[.string x.1, .slice Ap x.2.length cp] 52)).cell (p := ⟨b2, o2 + k * 2, none⟩) hl2
      rw [hy0] at hya
      have hyb := ((Below.refl wr.heap.size wr).alloc (Nat.le_refl _) (.cells #[.string x.1, .slice Ap x.2.length cp] 52)).cell (p := ⟨b2, o2 + k * 2 + 1, none⟩) hl2
      rw [hy1] at hyb
      clear hc1 hc2 hxx hyy g0 g1 gr p0 p1 pr hne1 hne2 hb1 hb2 hxm hym hl2
      go_wp2_with fail
      refine HC.out.mono ?_
      rintro e w2 ⟨rfl, hb⟩
      have HW2 := Lib.hid (HW.out.trans ((HBa.out.trans (hb.mono HBa.out.size)).mono HW.out.size))
      clear hb hx0 hx1 hy0 hy1 hya hyb
      by_cases he : x = y
      · have HS2 := Lib.hid (fun j (hj : j < k + 1) => show ∀ (h1 : j < xs.length) (h2 : j < ys.length), xs[j] = ys[j] from fun h1 h2 => by
          by_cases e : j = k
          · subst e; rw [HXe.out, HYe.out, he]
          · exact HS.out j (by omega) h1 h2)
        rw [decide_eq_true he]
        clear he
        go_wp2
        go_roundw
        case rel => exact ⟨k + 1, by omega, by go_num, HW2, HS2⟩
        case measure => simp [intOf]; omega
      · have HR := Lib.hid (show decide (xs = ys) = false from decide_eq_false (list_diff HLx.out HLy.out (by rw [HXe.out, HYe.out]; exact he)))
        rw [decide_eq_false he]
        clear he
        go_wp2
        go_ret
        exact ⟨ret_bool HR.out.symm, HW2.out⟩
    · obtain rfl : k = n := by omega
      have HR := Lib.hid (show decide (xs = ys) = true from decide_eq_true (list_same (by rw [HN.out, HM.out]) (fun j h1 h2 => HS.out j (by rw [HN.out] at h1; exact h1) h1 h2)))
      clear hlt HS
      go_wp2
      go_ret
      exact ⟨ret_bool HR.out.symm, HW.out⟩
set_option maxHeartbeats 2000000 in
theorem same_obj (d1 d2 : ObjD) (v1 v2 : Value) (lo hi lo2 hi2 : Nat) (w : World) (h1 : ObjAt w lo hi d1 v1) (h2 : ObjAt w lo2 hi2 d2 v2) (hh : hi ≤ w.heap.size) (hh2 : hi2 ≤ w.heap.size)
    (hl1 : ObjL d1) (hl2 : ObjL d2) :
    Calls Tryz.prog 19 #[v1, v2] w fun e w' => e = .returned (.bool (sameD d1 d2)) ∧ Below w.heap.size w w' := by
  obtain ⟨A1, c1, A2, c2, A3, c3, A4, c4, A5, c5, es, rfl, p1, p2, p3, p4, p5, p6⟩ := h1
  obtain ⟨B1, e1, B2, e2, B3, e3, B4, e4, B5, e5, fs, rfl, q1, q2, q3, q4, q5, q6⟩ := h2
  have HB0 := Lib.hid (((Below.refl w.heap.size w).alloc (Nat.le_refl _) (.cells #[.slice A1 d1.text.length c1, .slice A2 d1.data.length c2, .slice A3 d1.syms.length c3, .slice A4 d1.rels.length c4, .slice A5 d1.ents.length c5] 28)).alloc (by simp) (.cells #[.slice B1 d2.text.length e1, .slice B2 d2.data.length e2, .slice B3 d2.syms.length e3, .slice B4 d2.rels.length e4, .slice B5 d2.ents.length e5] 28))
  have HX0 := Lib.hid (show ((w.alloc (.cells #[.slice A1 d1.text.length c1, .slice A2 d1.data.length c2, .slice A3 d1.syms.length c3, .slice A4 d1.rels.length c4, .slice A5 d1.ents.length c5] 28)).alloc (.cells #[.slice B1 d2.text.length e1, .slice B2 d2.data.length e2, .slice B3 d2.syms.length e3, .slice B4 d2.rels.length e4, .slice B5 d2.ents.length e5] 28)).heap[w.heap.size]? = some (.cells #[.slice A1 d1.text.length c1, .slice A2 d1.data.length c2, .slice A3 d1.syms.length c3, .slice A4 d1.rels.length c4, .slice A5 d1.ents.length c5] 28 (0, 0)) by exact (heap_alloc_old _ _ (by simp)).trans (heap_alloc_new w _))
  have HY0 := Lib.hid (show ((w.alloc (.cells #[.slice A1 d1.text.length c1, .slice A2 d1.data.length c2, .slice A3 d1.syms.length c3, .slice A4 d1.rels.length c4, .slice A5 d1.ents.length c5] 28)).alloc (.cells #[.slice B1 d2.text.length e1, .slice B2 d2.data.length e2, .slice B3 d2.syms.length e3, .slice B4 d2.rels.length e4, .slice B5 d2.ents.length e5] 28)).heap[w.heap.size + 1]? = some (.cells #[.slice B1 d2.text.length e1, .slice B2 d2.data.length e2, .slice B3 d2.syms.length e3, .slice B4 d2.rels.length e4, .slice B5 d2.ents.length e5] 28 (0, 0)) by have h := heap_alloc_new (w.alloc (.cells #[.slice A1 d1.text.length c1, .slice A2 d1.data.length c2, .slice A3 d1.syms.length c3, .slice A4 d1.rels.length c4, .slice A5 d1.ents.length c5] 28)) (.cells #[.slice B1 d2.text.length e1, .slice B2 d2.data.length e2, .slice B3 d2.syms.length e3, .slice B4 d2.rels.length e4, .slice B5 d2.ents.length e5] 28); simpa using h)
  have HMv := Lib.hid (show ∀ (w' : World), Below w.heap.size w w' → ∀ (b : Nat), b < hi ∨ b < hi2 → w'.heap[b]? = w.heap[b]? from fun w' hb b h => hb.block b (by omega))
  have HL1 := Lib.hid hl1
  have HL2 := Lib.hid hl2
  have HH := Lib.hid (And.intro hh hh2)
  have P1 := Lib.hid p1
  have Q1 := Lib.hid q1
  have P2 := Lib.hid p2
  have Q2 := Lib.hid q2
  have P3 := Lib.hid p3
  have Q3 := Lib.hid q3
  have P4 := Lib.hid p4
  have Q4 := Lib.hid q4
  have P5 := Lib.hid p5
  have Q5 := Lib.hid q5
  have P6 := Lib.hid p6
  have Q6 := Lib.hid q6
  clear p1 p2 p3 p4 p5 p6 q1 q2 q3 q4 q5 q6 hh hh2 hl1 hl2
  go_enter Tryz.func19, Tryz.ntmps19
  go_wp2_with fail
  refine (equal_u32 A1 B1 d1.text d2.text _ _ c1 e1 lo hi lo2 hi2 _ (P1.out.move (Nat.le_refl _) (Nat.le_refl _) (fun b g1 g2 => HMv.out _ HB0.out b (.inl g2))) (Q1.out.move (Nat.le_refl _) (Nat.le_refl _) (fun b g1 g2 => HMv.out _ HB0.out b (.inr g2))) rfl rfl (by have := HL1.out.lt; unfold maxLen at this; omega) (by have := HL2.out.lt; unfold maxLen at this; omega)).mono ?_
  rintro e u0 ⟨rfl, hb⟩
  have HB1 := Lib.hid (HB0.out.trans (hb.mono HB0.out.size))
  have HX1 := Lib.hid ((hb.block w.heap.size ((Array.getElem?_eq_some_iff.1 HX0.out).1)).trans HX0.out)
  have HY1 := Lib.hid ((hb.block (w.heap.size + 1) ((Array.getElem?_eq_some_iff.1 HY0.out).1)).trans HY0.out)
  clear hb
  by_cases g0 : d1.text = d2.text
  case neg =>
    have HR := Lib.hid (show sameD d1 d2 = false by unfold sameD; rw [decide_eq_false g0]; simp)
    rw [decide_eq_false g0]
    clear g0
    go_wp2
    go_ret
    exact ⟨ret_bool HR.out.symm, HB1.out⟩
  rw [decide_eq_true g0]
  have G0 := Lib.hid g0
  clear g0
  obtain ⟨⟨z0, z1, z2, z3, z4⟩, gr⟩ := row_cells5 HX1.out
  obtain ⟨⟨y0, y1, y2, y3, y4⟩, gy⟩ := row_cells5 HY1.out
  go_wp2_with fail
  clear z0 z1 z2 z3 z4 gr y0 y1 y2 y3 y4 gy
  refine (equal_u64 A2 B2 d1.data d2.data _ _ c2 e2 lo hi lo2 hi2 _ (P2.out.move (Nat.le_refl _) (Nat.le_refl _) (fun b g1 g2 => HMv.out _ HB1.out b (.inl g2))) (Q2.out.move (Nat.le_refl _) (Nat.le_refl _) (fun b g1 g2 => HMv.out _ HB1.out b (.inr g2))) rfl rfl (by have := HL1.out.ld; unfold maxLen at this; omega) (by have := HL2.out.ld; unfold maxLen at this; omega)).mono ?_
  rintro e u1 ⟨rfl, hb⟩
  have HB2 := Lib.hid (HB1.out.trans (hb.mono HB1.out.size))
  have HX2 := Lib.hid ((hb.block w.heap.size ((Array.getElem?_eq_some_iff.1 HX1.out).1)).trans HX1.out)
  have HY2 := Lib.hid ((hb.block (w.heap.size + 1) ((Array.getElem?_eq_some_iff.1 HY1.out).1)).trans HY1.out)
  clear hb
  by_cases g1 : d1.data = d2.data
  case neg =>
    have HR := Lib.hid (show sameD d1 d2 = false by unfold sameD; rw [decide_eq_false g1]; simp)
    rw [decide_eq_false g1]
    clear g1
    go_wp2
    go_ret
    exact ⟨ret_bool HR.out.symm, HB2.out⟩
  rw [decide_eq_true g1]
  have G1 := Lib.hid g1
  clear g1
  obtain ⟨⟨z0, z1, z2, z3, z4⟩, gr⟩ := row_cells5 HX2.out
  obtain ⟨⟨y0, y1, y2, y3, y4⟩, gy⟩ := row_cells5 HY2.out
  go_wp2_with fail
  clear z0 z1 z2 z3 z4 gr y0 y1 y2 y3 y4 gy
  refine (equal_sym A3 B3 d1.syms d2.syms _ _ c3 e3 lo hi lo2 hi2 _ (P3.out.move (Nat.le_refl _) (Nat.le_refl _) (fun b g1 g2 => HMv.out _ HB2.out b (.inl g2))) (Q3.out.move (Nat.le_refl _) (Nat.le_refl _) (fun b g1 g2 => HMv.out _ HB2.out b (.inr g2))) rfl rfl (by have := HL1.out.ls; unfold maxLen at this; omega) (by have := HL2.out.ls; unfold maxLen at this; omega)).mono ?_
  rintro e u2 ⟨rfl, hb⟩
  have HB3 := Lib.hid (HB2.out.trans (hb.mono HB2.out.size))
  have HX3 := Lib.hid ((hb.block w.heap.size ((Array.getElem?_eq_some_iff.1 HX2.out).1)).trans HX2.out)
  have HY3 := Lib.hid ((hb.block (w.heap.size + 1) ((Array.getElem?_eq_some_iff.1 HY2.out).1)).trans HY2.out)
  clear hb
  by_cases g2 : d1.syms = d2.syms
  case neg =>
    have HR := Lib.hid (show sameD d1 d2 = false by unfold sameD; rw [decide_eq_false g2]; simp)
    rw [decide_eq_false g2]
    clear g2
    go_wp2
    go_ret
    exact ⟨ret_bool HR.out.symm, HB3.out⟩
  rw [decide_eq_true g2]
  have G2 := Lib.hid g2
  clear g2
  obtain ⟨⟨z0, z1, z2, z3, z4⟩, gr⟩ := row_cells5 HX3.out
  obtain ⟨⟨y0, y1, y2, y3, y4⟩, gy⟩ := row_cells5 HY3.out
  go_wp2_with fail
  clear z0 z1 z2 z3 z4 gr y0 y1 y2 y3 y4 gy
  refine (equal_rel A4 B4 d1.rels d2.rels _ _ c4 e4 lo hi lo2 hi2 _ (P4.out.move (Nat.le_refl _) (Nat.le_refl _) (fun b g1 g2 => HMv.out _ HB3.out b (.inl g2))) (Q4.out.move (Nat.le_refl _) (Nat.le_refl _) (fun b g1 g2 => HMv.out _ HB3.out b (.inr g2))) rfl rfl (by have := HL1.out.lr; unfold maxLen at this; omega) (by have := HL2.out.lr; unfold maxLen at this; omega)).mono ?_
  rintro e u3 ⟨rfl, hb⟩
  have HB4 := Lib.hid (HB3.out.trans (hb.mono HB3.out.size))
  have HX4 := Lib.hid ((hb.block w.heap.size ((Array.getElem?_eq_some_iff.1 HX3.out).1)).trans HX3.out)
  have HY4 := Lib.hid ((hb.block (w.heap.size + 1) ((Array.getElem?_eq_some_iff.1 HY3.out).1)).trans HY3.out)
  clear hb
  by_cases g3 : d1.rels = d2.rels
  case neg =>
    have HR := Lib.hid (show sameD d1 d2 = false by unfold sameD; rw [decide_eq_false g3]; simp)
    rw [decide_eq_false g3]
    clear g3
    go_wp2
    go_ret
    exact ⟨ret_bool HR.out.symm, HB4.out⟩
  rw [decide_eq_true g3]
  have G3 := Lib.hid g3
  clear g3
  obtain ⟨⟨z0, z1, z2, z3, z4⟩, gr⟩ := row_cells5 HX4.out
  obtain ⟨⟨y0, y1, y2, y3, y4⟩, gy⟩ := row_cells5 HY4.out
  go_wp2_with fail
  clear z0 z1 z2 z3 z4 gr y0 y1 y2 y3 y4 gy
  refine (equalFunc_any A5 B5 d1.ents d2.ents _ _ c5 e5 lo hi lo2 hi2 es fs _ (P5.out.move (Nat.le_refl _) (Nat.le_refl _) (fun b g1 g2 => HMv.out _ HB4.out b (.inl g2))) (P6.out.move (Nat.le_refl _) (fun b _ _ _ e => by cases e) (fun b g1 g2 _ => HMv.out _ HB4.out b (.inl g2))) (Q5.out.move (Nat.le_refl _) (Nat.le_refl _) (fun b g1 g2 => HMv.out _ HB4.out b (.inr g2))) (Q6.out.move (Nat.le_refl _) (fun b _ _ _ e => by cases e) (fun b g1 g2 _ => HMv.out _ HB4.out b (.inr g2))) (by have := HH.out; have := HB4.out.size; omega) (by have := HH.out; have := HB4.out.size; omega) rfl rfl (by have := HL1.out.le; unfold maxLen at this; omega) (by have := HL2.out.le; unfold maxLen at this; omega) HL1.out.lp HL2.out.lp).mono ?_
  rintro e u4 ⟨rfl, hb⟩
  have HB5 := Lib.hid (HB4.out.trans (hb.mono HB4.out.size))
  have HX5 := Lib.hid ((hb.block w.heap.size ((Array.getElem?_eq_some_iff.1 HX4.out).1)).trans HX4.out)
  have HY5 := Lib.hid ((hb.block (w.heap.size + 1) ((Array.getElem?_eq_some_iff.1 HY4.out).1)).trans HY4.out)
  clear hb
  have HR := Lib.hid (show sameD d1 d2 = decide (d1.ents = d2.ents) by unfold sameD; rw [decide_eq_true G0.out, decide_eq_true G1.out, decide_eq_true G2.out, decide_eq_true G3.out]; rfl)
  go_wp2
  go_ret
  exact ⟨ret_bool HR.out.symm, HB5.out⟩
end Go.Proofs.YtmpieeadkkeniaaGreatDoor
namespace Go.Proofs.YtmpieeadkkeniaaGreatDoor
set_option maxRecDepth 100000
open Go.RowKit Go.ChangeShapes Go.WideShapes Go.Deep
set_option linter.unusedVariables false
section
variable {H : Type} {enc : TypeId × Value → H} {W : World} {base b0 : Nat} {sp : Nat → Bool} {held : Bool} {d : DataW H} {p : List MemPlace}
theorem addr_add_add (a : Addr) (i j : Nat) : (a.add i).add j = a.add (i + j) := by
  obtain ⟨b, o, s⟩ := a
  unfold Addr.add
  by_cases hi : i = 0 <;> by_cases hj : j = 0 <;> simp_all [Nat.add_assoc]
theorem addr_add_none (b o j : Nat) : (⟨b, o, none⟩ : Addr).add j = ⟨b, o + j, none⟩ := by
  unfold Addr.add
  by_cases e0 : j = 0
  · subst e0; simp
  · simp [e0]
theorem cell_block_lt {b o : Nat} {v : Value} (h : W.cell? ⟨b, o, none⟩ = some v) : b < W.heap.size := by
  by_cases hb : b < W.heap.size
  · exact hb
  · exfalso
    have : W.heap[b]? = none := Array.getElem?_eq_none (by omega)
    simp [World.cell?, this] at h
theorem open_list {α : Type} {t te : TypeId} {enc1 : α → List Value} {sz : Nat} (x0 : α) (Wf : α → Prop) (ht : Tryz.prog.underlying t = some (.slice te)) (hc : Tryz.prog.cellsOf te = sz) (hs : ∀ x, (enc1 x).length = sz) (hz : 0 < sz)
    (one : ∀ (n : Nat) (cs' : List Value) (y : DataW H × List MemPlace), DataW.trod enc Tryz.prog W base sp held n te cs' = some y → ∃ x, Wf x ∧ cs' = enc1 x)
    {fuel : Nat} {cs : List Value} {x : DataW H × List MemPlace} (h : DataW.trod enc Tryz.prog W base sp held fuel t cs = some x) :
    ∃ (A : Option Addr) (c : Nat) (xs : List α), cs = [.slice A xs.length c] ∧ (∀ x ∈ xs, Wf x) ∧ xs.length ≤ maxLen ∧ RowC W 0 W.heap.size A (xs.flatMap enc1) := by
  rcases open_slice ht h with ⟨rfl, _⟩ | ⟨a, len, cap, m, n, D, Pl, rfl, _, hl, hm, hmm, _, hi⟩
  · exact ⟨none, 0, [], rfl, by simp, by simp, .inl rfl⟩
  have hml : len ≤ m := by rw [hmm]; split <;> omega
  have hr : ∀ i, ∃ x : α, i < len → Wf x ∧ ∀ j v, (enc1 x)[j]? = some v → W.cell? (a.add (i * sz + j)) = some v := by
    intro i
    by_cases hlt : i < len
    · obtain ⟨cs', h1, h2⟩ := hi i (by omega)
      rw [hc] at h1
      obtain ⟨x, hw, rfl⟩ := one _ _ _ h2
      obtain ⟨_, hl', hat⟩ := World.cells?_some h1
      refine ⟨x, fun _ => ⟨hw, fun j v hj => ?_⟩⟩
      have hjl : j < sz := by
        have := (List.getElem?_eq_some_iff.1 hj).1
        rw [hs] at this; exact this
      have := hat j hjl
      rw [addr_add_add] at this
      rw [this, hj]
    · exact ⟨x0, fun h => absurd h hlt⟩
  obtain ⟨f, hf'⟩ := Classical.axiomOfChoice hr
  have hlen : ((List.range len).map f).length = len := by simp
  refine ⟨some a, cap, (List.range len).map f, by rw [hlen], fun x hx => ?_, by rw [hlen]; omega, ?_⟩
  · obtain ⟨i, hi, rfl⟩ := List.mem_map.1 hx
    exact (hf' i (List.mem_range.1 hi)).1
  · by_cases h0 : len = 0
    · subst h0; exact .inl rfl
    obtain ⟨b, off, spot⟩ := a
    have hne : 0 < (enc1 (f 0)).length := by rw [hs]; exact hz
    have h00 := (hf' 0 (by omega)).2 0 _ (List.getElem?_eq_getElem hne)
    have hsp : spot = none := by simpa [Addr.add] using World.cell?_spot h00
    subst hsp
    rw [addr_add_none] at h00
    refine .inr ⟨b, off, rfl, Nat.zero_le _, cell_block_lt h00, fun j v hj => ?_⟩
    have hjl : j < len * sz := by
      have := (List.getElem?_eq_some_iff.1 hj).1
      rw [flat_len hs, hlen] at this; exact this
    have hq : j / sz < len := Nat.div_lt_of_lt_mul (by rw [Nat.mul_comm]; exact hjl)
    have hmd : j % sz < sz := Nat.mod_lt _ hz
    have hj2 : j / sz * sz + j % sz = j := by rw [Nat.mul_comm]; exact Nat.div_add_mod j sz
    have hg := flat_get hs (xs := (List.range len).map f) (j := j / sz) (i := j % sz) (by rw [hlen]; exact hq) hmd
    rw [hj2, hj] at hg
    have he : ((List.range len).map f)[j / sz]'(by rw [hlen]; exact hq) = f (j / sz) := by simp
    rw [he] at hg
    have := (hf' (j / sz) hq).2 (j % sz) v hg.symm
    rw [addr_add_none, hj2] at this
    exact this
theorem isI_of {a : Int} (h : (Lit.int .i64 a).wf = true) : IsI a := by
  have := bounds_i64 h
  exact ⟨by omega, by omega⟩
theorem one_u32 (n : Nat) (cs' : List Value) (y : DataW H × List MemPlace) (h : DataW.trod enc Tryz.prog W base sp held n 43 cs' = some y) : ∃ x, IsW x ∧ cs' = encU32 x := by
  obtain ⟨x, rfl, _, hw⟩ := DataW.trod_int Tryz.underlying43 h
  have := bounds_u32 hw
  exact ⟨x, ⟨by omega, by omega⟩, rfl⟩
theorem one_u64 (n : Nat) (cs' : List Value) (y : DataW H × List MemPlace) (h : DataW.trod enc Tryz.prog W base sp held n 75 cs' = some y) : ∃ x, IsU x ∧ cs' = encU64 x := by
  obtain ⟨x, rfl, _, hw⟩ := DataW.trod_int Tryz.underlying75 h
  have := bounds_u64 hw
  exact ⟨x, ⟨by omega, by omega⟩, rfl⟩
theorem one_int (n : Nat) (cs' : List Value) (y : DataW H × List MemPlace) (h : DataW.trod enc Tryz.prog W base sp held n 3 cs' = some y) : ∃ x, IsI x ∧ cs' = encI64 x := by
  obtain ⟨x, rfl, _, hw⟩ := DataW.trod_int Tryz.underlying3 h
  exact ⟨x, isI_of hw, rfl⟩
theorem one_sym (n : Nat) (cs' : List Value) (y : DataW H × List MemPlace) (h : DataW.trod enc Tryz.prog W base sp held n 45 cs' = some y) : ∃ s : SymD, (s.1.size ≤ maxLen ∧ IsI s.2.2.1) ∧ cs' = encSym s := by
  have hc : Tryz.prog.cellsOf 45 = 4 := by kernel_rfl
  have ci : Tryz.prog.cellsOf 3 = 1 := by kernel_rfl
  have cb : Tryz.prog.cellsOf 4 = 1 := by kernel_rfl
  have cS : Tryz.prog.cellsOf 9 = 1 := by kernel_rfl
  obtain ⟨xs, m, _, hx, hl, hlen, hg⟩ := DataW.trod_struct Tryz.underlying45 h
  match cs', hl.trans hc with
  | [c0, c1, c2, c3], _ =>
    match xs, hlen with
    | [y0, y1, y2, y3], _ =>
      have g0 := hg 0 _ rfl
      have g1 := hg 1 _ rfl
      have g2 := hg 2 _ rfl
      have g3 := hg 3 _ rfl
      obtain ⟨n0, e0, _, w0⟩ := DataW.trod_string Tryz.underlying9 g0
      obtain ⟨n1, e1, _⟩ := DataW.trod_bool Tryz.underlying4 g1
      obtain ⟨n2, e2, _, w2⟩ := DataW.trod_int Tryz.underlying3 g2
      obtain ⟨n3, e3, _⟩ := DataW.trod_bool Tryz.underlying4 g3
      simp [ci, cb, cS] at e0 e1 e2 e3
      subst e0 e1 e2 e3
      exact ⟨(n0, n1, n2, n3), ⟨w0, isI_of w2⟩, rfl⟩
theorem one_rel (n : Nat) (cs' : List Value) (y : DataW H × List MemPlace) (h : DataW.trod enc Tryz.prog W base sp held n 42 cs' = some y) : ∃ s : RelD, (IsI s.1 ∧ IsI s.2.1 ∧ s.2.2.1.size ≤ maxLen ∧ IsI s.2.2.2) ∧ cs' = encRel s := by
  have hc : Tryz.prog.cellsOf 42 = 4 := by kernel_rfl
  have ci : Tryz.prog.cellsOf 3 = 1 := by kernel_rfl
  have cS : Tryz.prog.cellsOf 9 = 1 := by kernel_rfl
  have cL : Tryz.prog.cellsOf 2 = 1 := by kernel_rfl
  obtain ⟨xs, m, _, hx, hl, hlen, hg⟩ := DataW.trod_struct Tryz.underlying42 h
  match cs', hl.trans hc with
  | [c0, c1, c2, c3], _ =>
    match xs, hlen with
    | [y0, y1, y2, y3], _ =>
      have g0 := hg 0 _ rfl
      have g1 := hg 1 _ rfl
      have g2 := hg 2 _ rfl
      have g3 := hg 3 _ rfl
      obtain ⟨n0, e0, _, w0⟩ := DataW.trod_int Tryz.underlying3 g0
      obtain ⟨n1, e1, _, w1⟩ := DataW.trod_int Tryz.underlying3 g1
      obtain ⟨n2, e2, _, w2⟩ := DataW.trod_string Tryz.underlying9 g2
      obtain ⟨n3, e3, _, w3⟩ := DataW.trod_int Tryz.underlying2 g3
      simp [ci, cS, cL] at e0 e1 e2 e3
      subst e0 e1 e2 e3
      exact ⟨(n0, n1, n2, n3), ⟨isI_of w0, isI_of w1, w2, isI_of w3⟩, rfl⟩
abbrev EntA := EntD × (Option Addr × Nat)
def encEnt (e : EntA) : List Value := [.string e.1.1, .slice e.2.1 e.1.2.length e.2.2]
theorem one_ent (n : Nat) (cs' : List Value) (y : DataW H × List MemPlace) (h : DataW.trod enc Tryz.prog W base sp held n 52 cs' = some y) : ∃ e : EntA, ((e.1.1.size ≤ maxLen ∧ (∀ z ∈ e.1.2, IsI z) ∧ e.1.2.length ≤ maxLen) ∧ RowC W 0 W.heap.size e.2.1 (e.1.2.flatMap encI64)) ∧ cs' = encEnt e := by
  have hc : Tryz.prog.cellsOf 52 = 2 := by kernel_rfl
  have ci : Tryz.prog.cellsOf 50 = 1 := by kernel_rfl
  have cS : Tryz.prog.cellsOf 9 = 1 := by kernel_rfl
  obtain ⟨xs, m, _, hx, hl, hlen, hg⟩ := DataW.trod_struct Tryz.underlying52 h
  match cs', hl.trans hc with
  | [c0, c1], _ =>
    match xs, hlen with
    | [y0, y1], _ =>
      have g0 := hg 0 _ rfl
      have g1 := hg 1 _ rfl
      obtain ⟨n0, e0, _, w0⟩ := DataW.trod_string Tryz.underlying9 g0
      obtain ⟨A, c, zs, e1, hz, hn, hr⟩ := open_list (sz := 1) (enc1 := encI64) (0 : Int) IsI Tryz.underlying50 (by kernel_rfl) (fun _ => rfl) (by omega) one_int g1
      simp [ci, cS] at e0 e1
      subst e0 e1
      exact ⟨((n0, zs), (A, c)), ⟨⟨w0, hz, hn⟩, hr⟩, rfl⟩
theorem entC_of : ∀ (ps : List EntA), (∀ e ∈ ps, RowC W 0 W.heap.size e.2.1 (e.1.2.flatMap encI64)) → EntC W 0 W.heap.size none (ps.map (·.1)) (ps.flatMap encEnt)
  | [], _ => rfl
  | e :: ps, h => ⟨e.2.1, e.2.2, ps.flatMap encEnt, rfl, by
      rcases h e (by simp) with h1 | ⟨b, o, h1, h2, h3, h4⟩
      · exact .inl h1
      · exact .inr ⟨b, o, h1, h2, h3, by simp, h4⟩, entC_of ps fun e he => h e (by simp [he])⟩
theorem open_obj {v : Value} (hv : Value.okWide Tryz.prog W .any b0 28 v) (h : DataW.Trod enc Tryz.prog W base sp held 28 v d p) :
    ∃ D : ObjD, ObjAt W 0 W.heap.size D v ∧ ObjW D ∧ ObjL D := by
  obtain ⟨cs, rfl, hsz⟩ := okWide_struct Tryz.underlying28 hv
  obtain ⟨fuel, hf⟩ := h
  have hc : Tryz.prog.cellsOf 28 = 5 := by kernel_rfl
  have c1 : Tryz.prog.cellsOf 22 = 1 := by kernel_rfl
  have c2 : Tryz.prog.cellsOf 23 = 1 := by kernel_rfl
  have c3 : Tryz.prog.cellsOf 24 = 1 := by kernel_rfl
  have c4 : Tryz.prog.cellsOf 25 = 1 := by kernel_rfl
  have c5 : Tryz.prog.cellsOf 26 = 1 := by kernel_rfl
  obtain ⟨l⟩ := cs
  match l, hsz.trans hc with
  | [k0, k1, k2, k3, k4], _ =>
    obtain ⟨xs, m, _, hx, _, hlen, hg⟩ := DataW.trod_struct Tryz.underlying28 hf
    match xs, hlen with
    | [y0, y1, y2, y3, y4], _ =>
      have g0 := hg 0 _ rfl
      have g1 := hg 1 _ rfl
      have g2 := hg 2 _ rfl
      have g3 := hg 3 _ rfl
      have g4 := hg 4 _ rfl
      obtain ⟨A1, n1, z1, e1, w1, l1, r1⟩ := open_list (sz := 1) (enc1 := encU32) (0 : Int) IsW Tryz.underlying22 (by kernel_rfl) (fun _ => rfl) (by omega) one_u32 g0
      obtain ⟨A2, n2, z2, e2, w2, l2, r2⟩ := open_list (sz := 1) (enc1 := encU64) (0 : Int) IsU Tryz.underlying23 (by kernel_rfl) (fun _ => rfl) (by omega) one_u64 g1
      obtain ⟨A3, n3, z3, e3, w3, l3, r3⟩ := open_list (sz := 4) (enc1 := encSym) (ByteArray.empty, false, 0, false) _ Tryz.underlying24 (by kernel_rfl) (fun _ => rfl) (by omega) one_sym g2
      obtain ⟨A4, n4, z4, e4, w4, l4, r4⟩ := open_list (sz := 4) (enc1 := encRel) (0, 0, ByteArray.empty, 0) _ Tryz.underlying25 (by kernel_rfl) (fun _ => rfl) (by omega) one_rel g3
      obtain ⟨A5, n5, z5, e5, w5, l5, r5⟩ := open_list (sz := 2) (enc1 := encEnt) ((ByteArray.empty, []), (none, 0)) _ Tryz.underlying26 (by kernel_rfl) (fun _ => rfl) (by omega) one_ent g4
      simp [c1, c2, c3, c4, c5, Value.cells] at e1 e2 e3 e4 e5
      subst e1 e2 e3 e4 e5
      refine ⟨⟨z1, z2, z3, z4, z5.map (·.1)⟩, ⟨A1, n1, A2, n2, A3, n3, A4, n4, A5, n5, z5.flatMap encEnt, by simp, r1, r2, r3, r4, r5, entC_of z5 fun e he => (w5 e he).2⟩, ⟨w1, w2, w3, w4, fun s hs => ?_⟩, ⟨l1, l2, l3, l4, by simpa using l5, fun s hs => ?_⟩⟩
      · obtain ⟨e, he, rfl⟩ := List.mem_map.1 hs
        exact (w5 e he).1
      · obtain ⟨e, he, rfl⟩ := List.mem_map.1 hs
        exact (w5 e he).1.2.2
end
end Go.Proofs.YtmpieeadkkeniaaGreatDoor
