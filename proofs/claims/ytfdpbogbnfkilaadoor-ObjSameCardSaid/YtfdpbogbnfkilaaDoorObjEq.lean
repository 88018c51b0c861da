/- Layer 6: rows held against each other: slices.Equal at the kinds that package obj asks. -/
import Derived.Test.YtfdpbogbnfkilaaDoorObjRight
import Derived.Laws.StructEq
namespace Go.Proofs.YtfdpbogbnfkilaaDoor
set_option maxRecDepth 100000
open Go.RowKit
set_option linter.unusedVariables false
theorem beq_str (s t : ByteArray) : (s.toList == t.toList) = decide (s = t) := by
  rw [ByteArray.toList_eq, ByteArray.toList_eq]
  by_cases h : s = t
  · subst h; simp
  · rw [decide_eq_false h, beq_eq_false_iff_ne]
    intro e
    exact h (ByteArray.ext (Array.ext' e))
theorem eqF_step {P : Program} {w : World} {d : Nat} {xs ys : Array Value} {f : Field} {fs : List Field} {t : TypeId} {o : Nat} {nm : String} {a b : Value} {r : Bool} (hn : f.name = nm) (hne : nm ≠ "_") (ht : f.type = t) (ho : f.offset = o)
    (pa : (part t xs o).run P w = .ok a w) (pb : (part t ys o).run P w = .ok b w) (hq : (Op.equalIn d t a b).run P w = .ok r w) :
    (Op.eqFields d xs ys (f :: fs)).run P w = if r then (Op.eqFields d xs ys fs).run P w else .ok false w := by
  subst hn ht ho
  rw [Op.eqFields, if_pos hne, Sem.run_bind, pa, Result.andThen_ok, Sem.run_bind, pb, Result.andThen_ok, Sem.run_bind, hq, Result.andThen_ok]
  cases r <;> simp
theorem se_part {P : Program} (t : TypeId) (ha : ∀ w : World, (isAgg t).run P w = .ok false w) (xs : Array Value) (i : Nat) (v : Value) (h : xs[i]? = some v) (w : World) : (part t xs i).run P w = .ok v w := by
  unfold part
  simp only [Sem.run_bind, ha, Result.andThen_ok, h, Sem.run_pure, Bool.false_eq_true, if_false]
theorem se_agg_s (w : World) : (isAgg 9).run Tryd.prog w = .ok false w := by kernel_rfl
theorem se_agg_b (w : World) : (isAgg 4).run Tryd.prog w = .ok false w := by kernel_rfl
theorem se_agg_i (w : World) : (isAgg 3).run Tryd.prog w = .ok false w := by kernel_rfl
theorem se_agg_l (w : World) : (isAgg 2).run Tryd.prog w = .ok false w := by kernel_rfl
theorem se_four {P : Program} {w : World} {d : Nat} {xs ys : Array Value} {fs : List Field} {n0 n1 n2 n3 : String} {t0 t1 t2 t3 : TypeId} (hf : fs.map (fun f => (f.name, f.type, f.offset)) = [(n0, t0, 0), (n1, t1, 1), (n2, t2, 2), (n3, t3, 3)])
    (g0 : n0 ≠ "_") (g1 : n1 ≠ "_") (g2 : n2 ≠ "_") (g3 : n3 ≠ "_") {a0 a1 a2 a3 b0 b1 b2 b3 : Value} {r0 r1 r2 r3 : Bool}
    (p0 : (part t0 xs 0).run P w = .ok a0 w) (p1 : (part t1 xs 1).run P w = .ok a1 w) (p2 : (part t2 xs 2).run P w = .ok a2 w) (p3 : (part t3 xs 3).run P w = .ok a3 w)
    (q0 : (part t0 ys 0).run P w = .ok b0 w) (q1 : (part t1 ys 1).run P w = .ok b1 w) (q2 : (part t2 ys 2).run P w = .ok b2 w) (q3 : (part t3 ys 3).run P w = .ok b3 w)
    (e0 : (Op.equalIn d t0 a0 b0).run P w = .ok r0 w) (e1 : (Op.equalIn d t1 a1 b1).run P w = .ok r1 w) (e2 : (Op.equalIn d t2 a2 b2).run P w = .ok r2 w) (e3 : (Op.equalIn d t3 a3 b3).run P w = .ok r3 w) :
    (Op.eqFields d xs ys fs).run P w = .ok (r0 && r1 && r2 && r3) w := by
  have hl : fs.length = 4 := by have := congrArg List.length hf; simpa using this
  match fs, hl with
  | [f0, f1, f2, f3], _ =>
    simp only [List.map_cons, List.map_nil, List.cons.injEq, Prod.mk.injEq, and_true] at hf
    obtain ⟨⟨m0, s0, o0⟩, ⟨m1, s1, o1⟩, ⟨m2, s2, o2⟩, m3, s3, o3⟩ := hf
    rw [eqF_step m0 g0 s0 o0 p0 q0 e0, eqF_step m1 g1 s1 o1 p1 q1 e1, eqF_step m2 g2 s2 o2 p2 q2 e2, eqF_step m3 g3 s3 o3 p3 q3 e3]
    cases r0 <;> cases r1 <;> cases r2 <;> cases r3 <;> rfl
theorem se_uStr : Tryd.prog.underlying 9 = some .string := by kernel_rfl
theorem se_uBool : Tryd.prog.underlying 4 = some .bool := by kernel_rfl
theorem se_uInt : Tryd.prog.underlying 3 = some (.int .i64) := by kernel_rfl
theorem se_uI64 : Tryd.prog.underlying 2 = some (.int .i64) := by kernel_rfl
theorem sym_fields : (Tryd.prog.fieldsOf 65).toList.map (fun f => (f.name, f.type, f.offset)) = [("Name", 9, 0), ("InData", 4, 1), ("Off", 3, 2), ("Out", 4, 3)] := by kernel_rfl
theorem rel_fields : (Tryd.prog.fieldsOf 49).toList.map (fun f => (f.name, f.type, f.offset)) = [("At", 3, 0), ("Kind", 3, 1), ("Name", 9, 2), ("Add", 2, 3)] := by kernel_rfl
theorem sym_und : Tryd.prog.underlying 65 = some (.struct (Tryd.prog.fieldsOf 65)) := by kernel_rfl
theorem rel_und : Tryd.prog.underlying 49 = some (.struct (Tryd.prog.fieldsOf 49)) := by kernel_rfl
theorem sym_stood : Tryd.prog.stoodInHeld 65 = false := by kernel_rfl
theorem rel_stood : Tryd.prog.stoodInHeld 49 = false := by kernel_rfl
theorem sym_guard : Tryd.prog.eqGuardType Tryd.prog.depth 65 = false := by kernel_rfl
theorem rel_guard : Tryd.prog.eqGuardType Tryd.prog.depth 49 = false := by kernel_rfl
theorem neq_sym (x y : SymD) (w : World) : (binOp .neq 65 (.agg #[.string x.1, .bool x.2.1, .int .i64 x.2.2.1, .bool x.2.2.2]) (.agg #[.string y.1, .bool y.2.1, .int .i64 y.2.2.1, .bool y.2.2.2])).run Tryd.prog w = .ok (.bool (!decide (x = y))) w := by
  rw [run_neq_struct]
  generalize hn : (10000 : Nat) = n
  obtain ⟨d, rfl⟩ : ∃ d, n = d + 2 := ⟨9998, by omega⟩
  rw [run_equalIn_agg w (d + 1) 65 _ _ sym_und sym_stood]
  rw [se_four sym_fields (by decide) (by decide) (by decide) (by decide) (se_part _ se_agg_s _ 0 (.string x.1) rfl w) (se_part _ se_agg_b _ 1 (.bool x.2.1) rfl w) (se_part _ se_agg_i _ 2 (.int .i64 x.2.2.1) rfl w) (se_part _ se_agg_b _ 3 (.bool x.2.2.2) rfl w)
    (se_part _ se_agg_s _ 0 (.string y.1) rfl w) (se_part _ se_agg_b _ 1 (.bool y.2.1) rfl w) (se_part _ se_agg_i _ 2 (.int .i64 y.2.2.1) rfl w) (se_part _ se_agg_b _ 3 (.bool y.2.2.2) rfl w)
    (run_equalIn_string w d _ _ _ se_uStr) (run_equalIn_bool' w d _ _ _ se_uBool) (run_equalIn_int w d _ .i64 .i64 _ _ se_uInt) (run_equalIn_bool' w d _ _ _ se_uBool)]
  rw [Result.andThen_ok, beq_str]
  congr 2
  obtain ⟨x0, x1, x2, x3⟩ := x
  obtain ⟨y0, y1, y2, y3⟩ := y
  congr 1
  rw [Bool.eq_iff_iff]
  simp [Prod.mk.injEq, and_assoc]
theorem neq_rel (x y : RelD) (w : World) : (binOp .neq 49 (.agg #[.int .i64 x.1, .int .i64 x.2.1, .string x.2.2.1, .int .i64 x.2.2.2]) (.agg #[.int .i64 y.1, .int .i64 y.2.1, .string y.2.2.1, .int .i64 y.2.2.2])).run Tryd.prog w = .ok (.bool (!decide (x = y))) w := by
  rw [run_neq_struct]
  generalize hn : (10000 : Nat) = n
  obtain ⟨d, rfl⟩ : ∃ d, n = d + 2 := ⟨9998, by omega⟩
  rw [run_equalIn_agg w (d + 1) 49 _ _ rel_und rel_stood]
  rw [se_four rel_fields (by decide) (by decide) (by decide) (by decide) (se_part _ se_agg_i _ 0 (.int .i64 x.1) rfl w) (se_part _ se_agg_i _ 1 (.int .i64 x.2.1) rfl w) (se_part _ se_agg_s _ 2 (.string x.2.2.1) rfl w) (se_part _ se_agg_l _ 3 (.int .i64 x.2.2.2) rfl w)
    (se_part _ se_agg_i _ 0 (.int .i64 y.1) rfl w) (se_part _ se_agg_i _ 1 (.int .i64 y.2.1) rfl w) (se_part _ se_agg_s _ 2 (.string y.2.2.1) rfl w) (se_part _ se_agg_l _ 3 (.int .i64 y.2.2.2) rfl w)
    (run_equalIn_int w d _ .i64 .i64 _ _ se_uInt) (run_equalIn_int w d _ .i64 .i64 _ _ se_uInt) (run_equalIn_string w d _ _ _ se_uStr) (run_equalIn_int w d _ .i64 .i64 _ _ se_uI64)]
  rw [Result.andThen_ok, beq_str]
  congr 2
  obtain ⟨x0, x1, x2, x3⟩ := x
  obtain ⟨y0, y1, y2, y3⟩ := y
  congr 1
  rw [Bool.eq_iff_iff]
  simp [Prod.mk.injEq, and_assoc]
theorem list_diff {α : Type} {xs ys : List α} {k : Nat} (h1 : k < xs.length) (h2 : k < ys.length) (h : xs[k] ≠ ys[k]) : xs ≠ ys := by
  rintro rfl; exact h rfl
theorem list_same {α : Type} {xs ys : List α} (hl : xs.length = ys.length) (h : ∀ j (h1 : j < xs.length) (h2 : j < ys.length), xs[j] = ys[j]) : xs = ys := List.ext_getElem hl h
theorem ret_bool' {a : Bool} {b : Bool} (h : b = a) : Ending.returned (.bool a) = Ending.returned (.bool b) := by rw [h]
set_option maxHeartbeats 1000000 in
theorem equal_u32 (A B : Option Addr) (xs ys : List Int) (n m ca cb lo hi lo2 hi2 : Nat) (w : World) (hA : RowC w lo hi A (xs.flatMap encU32)) (hB : RowC w lo2 hi2 B (ys.flatMap encU32)) (hn : xs.length = n) (hm : ys.length = m) (hmax : n ≤ 9223372036854775807) (hmax2 : m ≤ 9223372036854775807) :
    Calls Tryd.prog 32 #[.slice A n ca, .slice B m cb] w fun e w' => e = .returned (.bool (decide (xs = ys))) ∧ Below w.heap.size w w' := by
  by_cases hnm : n = m
  case neg =>
    have hne : ((n : Int) != (m : Int)) = true := by rw [bne_iff_ne]; omega
    have HR := Lib.hid (show decide (xs = ys) = false from decide_eq_false (fun e => by subst e; omega))
    clear hA hB hn hm hnm
    go_enter Tryd.func32, Tryd.ntmps32
    go_wp2
    go_ret
    exact ⟨ret_bool HR.out.symm, Below.refl _ _⟩
  subst hnm
  have hne : ((n : Int) != (n : Int)) = false := by simp
  have HA := Lib.hid hA
  have HB := Lib.hid hB
  have HN := Lib.hid hn
  have HM := Lib.hid hm
  clear hA hB hn hm
  go_enter Tryd.func32, Tryd.ntmps32
  go_wp2
  clear hne
  go_loopw [5, 13] (fun _ i wr => ∃ (k : Nat) (q : Nat), k ≤ n ∧ i = .int .i64 k ∧ wr = w.drewN q ∧ Hid (∀ j, j < k → ∀ (h1 : j < xs.length) (h2 : j < ys.length), xs[j] = ys[j])) (fun _ i _ => n - (intOf i).toNat)
  case atStart => exact ⟨0, 0, by omega, rfl, rfl, Lib.hid (fun j hj => by omega)⟩
  case round =>
    obtain ⟨k, q, hk, rfl, rfl, HS⟩ := hrel
    by_cases hlt : k < n
    · have k0 : (0 : Int) ≤ k := by omega
      have k1 : (k : Int) < n := by omega
      have hlx : k < xs.length := by rw [HN.out]; exact hlt
      have hly : k < ys.length := by rw [HM.out]; exact hlt
      obtain ⟨b1, o1, rfl, _, _, hc1⟩ := HA.out.at_ (sz := 1) (fun x => rfl) (by omega) (by omega)
      obtain ⟨b2, o2, rfl, _, _, hc2⟩ := HB.out.at_ (sz := 1) (fun x => rfl) (by omega) (by omega)
      have hx := hc1 k hlx
      have hy := hc2 k hly
      obtain ⟨x, hxx⟩ : ∃ x, xs[k] = x := ⟨_, rfl⟩
      obtain ⟨y, hyy⟩ : ∃ y, ys[k] = y := ⟨_, rfl⟩
      rw [hxx] at hx
      rw [hyy] at hy
      have hx0 := hx 0 _ rfl
      have hy0 := hy 0 _ rfl
      rw [show o1 + (k * 1 + 0) = o1 + k by omega] at hx0
      rw [show o2 + (k * 1 + 0) = o2 + k by omega] at hy0
      have HXe := Lib.hid hxx
      have HYe := Lib.hid hyy
      have HLx := Lib.hid hlx
      have HLy := Lib.hid hly
      clear hc1 hc2 hx hy hxx hyy
      by_cases he : x = y
      · have HS2 := Lib.hid (fun j (hj : j < k + 1) => show ∀ (h1 : j < xs.length) (h2 : j < ys.length), xs[j] = ys[j] from fun h1 h2 => by
          by_cases e : j = k
          · subst e; rw [HXe.out, HYe.out, he]
          · exact HS.out j (by omega) h1 h2)
        have hb : (x != y) = false := by rw [he]; simp
        clear he
        go_wp2
        go_quiet (fail)
        go_wp2
        go_roundw
        case rel => exact ⟨k + 1, _, by omega, by go_num, rfl, HS2⟩
        case measure => simp [intOf]; omega
      · have HR := Lib.hid (show decide (xs = ys) = false from decide_eq_false (list_diff HLx.out HLy.out (by rw [HXe.out, HYe.out]; exact he)))
        have hb : (x != y) = true := by rw [bne_iff_ne]; exact he
        clear he
        go_wp2
        go_quiet (fail)
        go_wp2
        go_ret
        exact ⟨ret_bool HR.out.symm, belq (belq (Below.refl _ _) _) _⟩
    · obtain rfl : k = n := by omega
      have HR := Lib.hid (show decide (xs = ys) = true from decide_eq_true (list_same (by rw [HN.out, HM.out]) (fun j h1 h2 => HS.out j (by rw [HN.out] at h1; exact h1) h1 h2)))
      clear hlt HS
      go_wp2
      go_ret
      exact ⟨ret_bool HR.out.symm, belq (Below.refl _ _) _⟩
set_option maxHeartbeats 1000000 in
theorem equal_u64 (A B : Option Addr) (xs ys : List Int) (n m ca cb lo hi lo2 hi2 : Nat) (w : World) (hA : RowC w lo hi A (xs.flatMap encU64)) (hB : RowC w lo2 hi2 B (ys.flatMap encU64)) (hn : xs.length = n) (hm : ys.length = m) (hmax : n ≤ 9223372036854775807) (hmax2 : m ≤ 9223372036854775807) :
    Calls Tryd.prog 33 #[.slice A n ca, .slice B m cb] w fun e w' => e = .returned (.bool (decide (xs = ys))) ∧ Below w.heap.size w w' := by
  by_cases hnm : n = m
  case neg =>
    have hne : ((n : Int) != (m : Int)) = true := by rw [bne_iff_ne]; omega
    have HR := Lib.hid (show decide (xs = ys) = false from decide_eq_false (fun e => by subst e; omega))
    clear hA hB hn hm hnm
    go_enter Tryd.func33, Tryd.ntmps33
    go_wp2
    go_ret
    exact ⟨ret_bool HR.out.symm, Below.refl _ _⟩
  subst hnm
  have hne : ((n : Int) != (n : Int)) = false := by simp
  have HA := Lib.hid hA
  have HB := Lib.hid hB
  have HN := Lib.hid hn
  have HM := Lib.hid hm
  clear hA hB hn hm
  go_enter Tryd.func33, Tryd.ntmps33
  go_wp2
  clear hne
  go_loopw [5, 13] (fun _ i wr => ∃ (k : Nat) (q : Nat), k ≤ n ∧ i = .int .i64 k ∧ wr = w.drewN q ∧ Hid (∀ j, j < k → ∀ (h1 : j < xs.length) (h2 : j < ys.length), xs[j] = ys[j])) (fun _ i _ => n - (intOf i).toNat)
  case atStart => exact ⟨0, 0, by omega, rfl, rfl, Lib.hid (fun j hj => by omega)⟩
  case round =>
    obtain ⟨k, q, hk, rfl, rfl, HS⟩ := hrel
    by_cases hlt : k < n
    · have k0 : (0 : Int) ≤ k := by omega
      have k1 : (k : Int) < n := by omega
      have hlx : k < xs.length := by rw [HN.out]; exact hlt
      have hly : k < ys.length := by rw [HM.out]; exact hlt
      obtain ⟨b1, o1, rfl, _, _, hc1⟩ := HA.out.at_ (sz := 1) (fun x => rfl) (by omega) (by omega)
      obtain ⟨b2, o2, rfl, _, _, hc2⟩ := HB.out.at_ (sz := 1) (fun x => rfl) (by omega) (by omega)
      have hx := hc1 k hlx
      have hy := hc2 k hly
      obtain ⟨x, hxx⟩ : ∃ x, xs[k] = x := ⟨_, rfl⟩
      obtain ⟨y, hyy⟩ : ∃ y, ys[k] = y := ⟨_, rfl⟩
      rw [hxx] at hx
      rw [hyy] at hy
      have hx0 := hx 0 _ rfl
      have hy0 := hy 0 _ rfl
      rw [show o1 + (k * 1 + 0) = o1 + k by omega] at hx0
      rw [show o2 + (k * 1 + 0) = o2 + k by omega] at hy0
      have HXe := Lib.hid hxx
      have HYe := Lib.hid hyy
      have HLx := Lib.hid hlx
      have HLy := Lib.hid hly
      clear hc1 hc2 hx hy hxx hyy
      by_cases he : x = y
      · have HS2 := Lib.hid (fun j (hj : j < k + 1) => show ∀ (h1 : j < xs.length) (h2 : j < ys.length), xs[j] = ys[j] from fun h1 h2 => by
          by_cases e : j = k
          · subst e; rw [HXe.out, HYe.out, he]
          · exact HS.out j (by omega) h1 h2)
        have hb : (x != y) = false := by rw [he]; simp
        clear he
        go_wp2
        go_quiet (fail)
        go_wp2
        go_roundw
        case rel => exact ⟨k + 1, _, by omega, by go_num, rfl, HS2⟩
        case measure => simp [intOf]; omega
      · have HR := Lib.hid (show decide (xs = ys) = false from decide_eq_false (list_diff HLx.out HLy.out (by rw [HXe.out, HYe.out]; exact he)))
        have hb : (x != y) = true := by rw [bne_iff_ne]; exact he
        clear he
        go_wp2
        go_quiet (fail)
        go_wp2
        go_ret
        exact ⟨ret_bool HR.out.symm, belq (belq (Below.refl _ _) _) _⟩
    · obtain rfl : k = n := by omega
      have HR := Lib.hid (show decide (xs = ys) = true from decide_eq_true (list_same (by rw [HN.out, HM.out]) (fun j h1 h2 => HS.out j (by rw [HN.out] at h1; exact h1) h1 h2)))
      clear hlt HS
      go_wp2
      go_ret
      exact ⟨ret_bool HR.out.symm, belq (Below.refl _ _) _⟩
set_option maxHeartbeats 1000000 in
theorem equal_int (A B : Option Addr) (xs ys : List Int) (n m ca cb lo hi lo2 hi2 : Nat) (w : World) (hA : RowC w lo hi A (xs.flatMap encI64)) (hB : RowC w lo2 hi2 B (ys.flatMap encI64)) (hn : xs.length = n) (hm : ys.length = m) (hmax : n ≤ 9223372036854775807) (hmax2 : m ≤ 9223372036854775807) :
    Calls Tryd.prog 69 #[.slice A n ca, .slice B m cb] w fun e w' => e = .returned (.bool (decide (xs = ys))) ∧ Below w.heap.size w w' := by
  by_cases hnm : n = m
  case neg =>
    have hne : ((n : Int) != (m : Int)) = true := by rw [bne_iff_ne]; omega
    have HR := Lib.hid (show decide (xs = ys) = false from decide_eq_false (fun e => by subst e; omega))
    clear hA hB hn hm hnm
    go_enter Tryd.func69, Tryd.ntmps69
    go_wp2
    go_ret
    exact ⟨ret_bool HR.out.symm, Below.refl _ _⟩
  subst hnm
  have hne : ((n : Int) != (n : Int)) = false := by simp
  have HA := Lib.hid hA
  have HB := Lib.hid hB
  have HN := Lib.hid hn
  have HM := Lib.hid hm
  clear hA hB hn hm
  go_enter Tryd.func69, Tryd.ntmps69
  go_wp2
  clear hne
  go_loopw [5, 13] (fun _ i wr => ∃ (k : Nat) (q : Nat), k ≤ n ∧ i = .int .i64 k ∧ wr = w.drewN q ∧ Hid (∀ j, j < k → ∀ (h1 : j < xs.length) (h2 : j < ys.length), xs[j] = ys[j])) (fun _ i _ => n - (intOf i).toNat)
  case atStart => exact ⟨0, 0, by omega, rfl, rfl, Lib.hid (fun j hj => by omega)⟩
  case round =>
    obtain ⟨k, q, hk, rfl, rfl, HS⟩ := hrel
    by_cases hlt : k < n
    · have k0 : (0 : Int) ≤ k := by omega
      have k1 : (k : Int) < n := by omega
      have hlx : k < xs.length := by rw [HN.out]; exact hlt
      have hly : k < ys.length := by rw [HM.out]; exact hlt
      obtain ⟨b1, o1, rfl, _, _, hc1⟩ := HA.out.at_ (sz := 1) (fun x => rfl) (by omega) (by omega)
      obtain ⟨b2, o2, rfl, _, _, hc2⟩ := HB.out.at_ (sz := 1) (fun x => rfl) (by omega) (by omega)
      have hx := hc1 k hlx
      have hy := hc2 k hly
      obtain ⟨x, hxx⟩ : ∃ x, xs[k] = x := ⟨_, rfl⟩
      obtain ⟨y, hyy⟩ : ∃ y, ys[k] = y := ⟨_, rfl⟩
      rw [hxx] at hx
      rw [hyy] at hy
      have hx0 := hx 0 _ rfl
      have hy0 := hy 0 _ rfl
      rw [show o1 + (k * 1 + 0) = o1 + k by omega] at hx0
      rw [show o2 + (k * 1 + 0) = o2 + k by omega] at hy0
      have HXe := Lib.hid hxx
      have HYe := Lib.hid hyy
      have HLx := Lib.hid hlx
      have HLy := Lib.hid hly
      clear hc1 hc2 hx hy hxx hyy
      by_cases he : x = y
      · have HS2 := Lib.hid (fun j (hj : j < k + 1) => show ∀ (h1 : j < xs.length) (h2 : j < ys.length), xs[j] = ys[j] from fun h1 h2 => by
          by_cases e : j = k
          · subst e; rw [HXe.out, HYe.out, he]
          · exact HS.out j (by omega) h1 h2)
        have hb : (x != y) = false := by rw [he]; simp
        clear he
        go_wp2
        go_quiet (fail)
        go_wp2
        go_roundw
        case rel => exact ⟨k + 1, _, by omega, by go_num, rfl, HS2⟩
        case measure => simp [intOf]; omega
      · have HR := Lib.hid (show decide (xs = ys) = false from decide_eq_false (list_diff HLx.out HLy.out (by rw [HXe.out, HYe.out]; exact he)))
        have hb : (x != y) = true := by rw [bne_iff_ne]; exact he
        clear he
        go_wp2
        go_quiet (fail)
        go_wp2
        go_ret
        exact ⟨ret_bool HR.out.symm, belq (belq (Below.refl _ _) _) _⟩
    · obtain rfl : k = n := by omega
      have HR := Lib.hid (show decide (xs = ys) = true from decide_eq_true (list_same (by rw [HN.out, HM.out]) (fun j h1 h2 => HS.out j (by rw [HN.out] at h1; exact h1) h1 h2)))
      clear hlt HS
      go_wp2
      go_ret
      exact ⟨ret_bool HR.out.symm, belq (Below.refl _ _) _⟩
set_option maxHeartbeats 1000000 in
theorem equal_sym (A B : Option Addr) (xs ys : List SymD) (n m ca cb lo hi lo2 hi2 : Nat) (w : World) (hA : RowC w lo hi A (xs.flatMap encSym)) (hB : RowC w lo2 hi2 B (ys.flatMap encSym)) (hn : xs.length = n) (hm : ys.length = m) (hmax : n ≤ 9223372036854775807) (hmax2 : m ≤ 9223372036854775807) :
    Calls Tryd.prog 34 #[.slice A n ca, .slice B m cb] w fun e w' => e = .returned (.bool (decide (xs = ys))) ∧ Below w.heap.size w w' := by
  by_cases hnm : n = m
  case neg =>
    have hne : ((n : Int) != (m : Int)) = true := by rw [bne_iff_ne]; omega
    have HR := Lib.hid (show decide (xs = ys) = false from decide_eq_false (fun e => by subst e; omega))
    clear hA hB hn hm hnm
    go_enter Tryd.func34, Tryd.ntmps34
    go_wp2
    go_ret
    exact ⟨ret_bool HR.out.symm, Below.refl _ _⟩
  subst hnm
  have hne : ((n : Int) != (n : Int)) = false := by simp
  have HA := Lib.hid hA
  have HB := Lib.hid hB
  have HN := Lib.hid hn
  have HM := Lib.hid hm
  clear hA hB hn hm
  go_enter Tryd.func34, Tryd.ntmps34
  go_wp2
  clear hne
  go_loopw [5, 13] (fun _ i wr => ∃ (k : Nat) (q : Nat), k ≤ n ∧ i = .int .i64 k ∧ wr = w.drewN q ∧ Hid (∀ j, j < k → ∀ (h1 : j < xs.length) (h2 : j < ys.length), xs[j] = ys[j])) (fun _ i _ => n - (intOf i).toNat)
  case atStart => exact ⟨0, 0, by omega, rfl, rfl, Lib.hid (fun j hj => by omega)⟩
  case round =>
    obtain ⟨k, q, hk, rfl, rfl, HS⟩ := hrel
    by_cases hlt : k < n
    · have k0 : (0 : Int) ≤ k := by omega
      have k1 : (k : Int) < n := by omega
      have hlx : k < xs.length := by rw [HN.out]; exact hlt
      have hly : k < ys.length := by rw [HM.out]; exact hlt
      obtain ⟨b1, o1, rfl, _, _, hc1⟩ := HA.out.at_ (sz := 4) (fun x => rfl) (by omega) (by omega)
      obtain ⟨b2, o2, rfl, _, _, hc2⟩ := HB.out.at_ (sz := 4) (fun x => rfl) (by omega) (by omega)
      have hx := hc1 k hlx
      have hy := hc2 k hly
      obtain ⟨x, hxx⟩ : ∃ x, xs[k] = x := ⟨_, rfl⟩
      obtain ⟨y, hyy⟩ : ∃ y, ys[k] = y := ⟨_, rfl⟩
      rw [hxx] at hx
      rw [hyy] at hy
      have hx0 := hx 0 _ rfl
      have hy0 := hy 0 _ rfl
      have hx1 := hx 1 _ rfl
      have hy1 := hy 1 _ rfl
      have hx2 := hx 2 _ rfl
      have hy2 := hy 2 _ rfl
      have hx3 := hx 3 _ rfl
      have hy3 := hy 3 _ rfl
      rw [← Nat.add_assoc] at hx0 hy0 hx1 hy1 hx2 hy2 hx3 hy3
      rw [Nat.add_zero] at hx0 hy0
      have HXe := Lib.hid hxx
      have HYe := Lib.hid hyy
      have HLx := Lib.hid hlx
      have HLy := Lib.hid hly
      clear hc1 hc2 hx hy hxx hyy
      have hg := sym_guard
      by_cases he : x = y
      · have HS2 := Lib.hid (fun j (hj : j < k + 1) => show ∀ (h1 : j < xs.length) (h2 : j < ys.length), xs[j] = ys[j] from fun h1 h2 => by
          by_cases e : j = k
          · subst e; rw [HXe.out, HYe.out, he]
          · exact HS.out j (by omega) h1 h2)
        have hq := fun w => neq_sym x y w
        rw [show (!decide (x = y)) = false by rw [he]; simp] at hq
        clear he
        go_wp2
        go_quiet (fail)
        go_wp2
        go_roundw
        case rel => exact ⟨k + 1, _, by omega, by go_num, rfl, HS2⟩
        case measure => simp [intOf]; omega
      · have HR := Lib.hid (show decide (xs = ys) = false from decide_eq_false (list_diff HLx.out HLy.out (by rw [HXe.out, HYe.out]; exact he)))
        have hq := fun w => neq_sym x y w
        rw [show (!decide (x = y)) = true by rw [decide_eq_false he]; rfl] at hq
        clear he
        go_wp2
        go_quiet (fail)
        go_wp2
        go_ret
        exact ⟨ret_bool HR.out.symm, belq (belq (Below.refl _ _) _) _⟩
    · obtain rfl : k = n := by omega
      have HR := Lib.hid (show decide (xs = ys) = true from decide_eq_true (list_same (by rw [HN.out, HM.out]) (fun j h1 h2 => HS.out j (by rw [HN.out] at h1; exact h1) h1 h2)))
      clear hlt HS
      go_wp2
      go_ret
      exact ⟨ret_bool HR.out.symm, belq (Below.refl _ _) _⟩
set_option maxHeartbeats 1000000 in
theorem equal_rel (A B : Option Addr) (xs ys : List RelD) (n m ca cb lo hi lo2 hi2 : Nat) (w : World) (hA : RowC w lo hi A (xs.flatMap encRel)) (hB : RowC w lo2 hi2 B (ys.flatMap encRel)) (hn : xs.length = n) (hm : ys.length = m) (hmax : n ≤ 9223372036854775807) (hmax2 : m ≤ 9223372036854775807) :
    Calls Tryd.prog 35 #[.slice A n ca, .slice B m cb] w fun e w' => e = .returned (.bool (decide (xs = ys))) ∧ Below w.heap.size w w' := by
  by_cases hnm : n = m
  case neg =>
    have hne : ((n : Int) != (m : Int)) = true := by rw [bne_iff_ne]; omega
    have HR := Lib.hid (show decide (xs = ys) = false from decide_eq_false (fun e => by subst e; omega))
    clear hA hB hn hm hnm
    go_enter Tryd.func35, Tryd.ntmps35
    go_wp2
    go_ret
    exact ⟨ret_bool HR.out.symm, Below.refl _ _⟩
  subst hnm
  have hne : ((n : Int) != (n : Int)) = false := by simp
  have HA := Lib.hid hA
  have HB := Lib.hid hB
  have HN := Lib.hid hn
  have HM := Lib.hid hm
  clear hA hB hn hm
  go_enter Tryd.func35, Tryd.ntmps35
  go_wp2
  clear hne
  go_loopw [5, 13] (fun _ i wr => ∃ (k : Nat) (q : Nat), k ≤ n ∧ i = .int .i64 k ∧ wr = w.drewN q ∧ Hid (∀ j, j < k → ∀ (h1 : j < xs.length) (h2 : j < ys.length), xs[j] = ys[j])) (fun _ i _ => n - (intOf i).toNat)
  case atStart => exact ⟨0, 0, by omega, rfl, rfl, Lib.hid (fun j hj => by omega)⟩
  case round =>
    obtain ⟨k, q, hk, rfl, rfl, HS⟩ := hrel
    by_cases hlt : k < n
    · have k0 : (0 : Int) ≤ k := by omega
      have k1 : (k : Int) < n := by omega
      have hlx : k < xs.length := by rw [HN.out]; exact hlt
      have hly : k < ys.length := by rw [HM.out]; exact hlt
      obtain ⟨b1, o1, rfl, _, _, hc1⟩ := HA.out.at_ (sz := 4) (fun x => rfl) (by omega) (by omega)
      obtain ⟨b2, o2, rfl, _, _, hc2⟩ := HB.out.at_ (sz := 4) (fun x => rfl) (by omega) (by omega)
      have hx := hc1 k hlx
      have hy := hc2 k hly
      obtain ⟨x, hxx⟩ : ∃ x, xs[k] = x := ⟨_, rfl⟩
      obtain ⟨y, hyy⟩ : ∃ y, ys[k] = y := ⟨_, rfl⟩
      rw [hxx] at hx
      rw [hyy] at hy
      have hx0 := hx 0 _ rfl
      have hy0 := hy 0 _ rfl
      have hx1 := hx 1 _ rfl
      have hy1 := hy 1 _ rfl
      have hx2 := hx 2 _ rfl
      have hy2 := hy 2 _ rfl
      have hx3 := hx 3 _ rfl
      have hy3 := hy 3 _ rfl
      rw [← Nat.add_assoc] at hx0 hy0 hx1 hy1 hx2 hy2 hx3 hy3
      rw [Nat.add_zero] at hx0 hy0
      have HXe := Lib.hid hxx
      have HYe := Lib.hid hyy
      have HLx := Lib.hid hlx
      have HLy := Lib.hid hly
      clear hc1 hc2 hx hy hxx hyy
      have hg := rel_guard
      by_cases he : x = y
      · have HS2 := Lib.hid (fun j (hj : j < k + 1) => show ∀ (h1 : j < xs.length) (h2 : j < ys.length), xs[j] = ys[j] from fun h1 h2 => by
          by_cases e : j = k
          · subst e; rw [HXe.out, HYe.out, he]
          · exact HS.out j (by omega) h1 h2)
        have hq := fun w => neq_rel x y w
        rw [show (!decide (x = y)) = false by rw [he]; simp] at hq
        clear he
        go_wp2
        go_quiet (fail)
        go_wp2
        go_roundw
        case rel => exact ⟨k + 1, _, by omega, by go_num, rfl, HS2⟩
        case measure => simp [intOf]; omega
      · have HR := Lib.hid (show decide (xs = ys) = false from decide_eq_false (list_diff HLx.out HLy.out (by rw [HXe.out, HYe.out]; exact he)))
        have hq := fun w => neq_rel x y w
        rw [show (!decide (x = y)) = true by rw [decide_eq_false he]; rfl] at hq
        clear he
        go_wp2
        go_quiet (fail)
        go_wp2
        go_ret
        exact ⟨ret_bool HR.out.symm, belq (belq (Below.refl _ _) _) _⟩
    · obtain rfl : k = n := by omega
      have HR := Lib.hid (show decide (xs = ys) = true from decide_eq_true (list_same (by rw [HN.out, HM.out]) (fun j h1 h2 => HS.out j (by rw [HN.out] at h1; exact h1) h1 h2)))
      clear hlt HS
      go_wp2
      go_ret
      exact ⟨ret_bool HR.out.symm, belq (Below.refl _ _) _⟩
end Go.Proofs.YtfdpbogbnfkilaaDoor
