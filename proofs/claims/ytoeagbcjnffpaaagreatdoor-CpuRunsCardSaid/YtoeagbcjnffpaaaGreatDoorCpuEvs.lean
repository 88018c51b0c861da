/- Layer 5's statements: the reference's Events and Leaks of two rows alike: true. -/
import Derived.Test.YtoeagbcjnffpaaaGreatDoorCpuStepsPure
import Derived.Test.YtoeagbcjnffpaaaGreatDoorCpuEq
import Derived.Deep.QuietTactic
import Derived.BigQuiet
namespace Go.Proofs.YtoeagbcjnffpaaaGreatDoor
set_option maxRecDepth 100000
open Go.RowKit Go.Maps
set_option linter.unusedVariables false
/-! ### An array of words with itself -/
theorem eq_arrU (t : TypeId) (n d : Nat) (ht : Tryz.prog.underlying t = some (.array n 25)) (R : List Int) (h : R.length = n) (w : World) : (Op.equalIn (d + 2) t (.agg (R.map (Value.int .u64)).toArray) (.agg (R.map (Value.int .u64)).toArray)).run Tryz.prog w = .ok true w := by
  unfold Op.equalIn
  simp only [Sem.run_bind, run_underlying ht, Result.andThen_ok, ce_size25]
  have key : ∀ l : List Nat, (∀ i ∈ l, i < n) → Sem.run Tryz.prog (forIn l (none, ()) fun i __s => do
            let __do_lift ← part 25 (List.map (Value.int IntKind.u64) R).toArray (i * 1)
            let __do_lift_1 ← part 25 (List.map (Value.int IntKind.u64) R).toArray (i * 1)
            let __do_lift ← Op.equalIn (d + 1) 25 __do_lift __do_lift_1
            if (!__do_lift) = true then pure (ForInStep.done (some false, ())) else pure (ForInStep.yield ((none : Option Bool), ()))) w = .ok (none, ()) w := by
    intro l
    induction l with
    | nil => intro _; simp
    | cons i l ih =>
      intro hl
      have hi := hl i (by simp)
      have hv : ((List.map (Value.int IntKind.u64) R).toArray)[i * 1]? = some (.int .u64 (R[i]'(by omega))) := by simp [h, hi]
      rw [List.forIn_cons]
      simp only [Sem.run_bind, ce_part25 _ _ _ hv, Result.andThen_ok, run_equalIn_int w d 25 .u64 .u64 _ _ ce_u64St, beq_self_eq_true, Bool.not_true, Bool.false_eq_true, if_false, Sem.run_pure]
      exact ih (fun j hj => hl j (by simp [hj]))
  rw [Std.Legacy.Range.forIn_eq_forIn_range', key _ (fun i hi => by simp [List.mem_range'] at hi; omega)]
  simp
/-! ### A change with itself -/
theorem evArr : Tryz.prog.underlying 86 = some (.array 8 25) := by kernel_rfl
theorem evFields : (Tryz.prog.fieldsOf 88).toList.map (fun f => (f.name, f.type, f.offset)) = [("Enter", 4, 0), ("At", 25, 1), ("Args", 86, 2)] := by kernel_rfl
theorem evUnd : Tryz.prog.underlying 88 = some (.struct (Tryz.prog.fieldsOf 88)) := by kernel_rfl
theorem evStood : Tryz.prog.stoodInHeld 88 = false := by kernel_rfl
theorem evAgg (w : World) : (isAgg 86).run Tryz.prog w = .ok true w := by kernel_rfl
theorem evSz8 (w : World) : (sizeOf 86).run Tryz.prog w = .ok 8 w := by kernel_rfl
theorem eq_ev (d : Nat) (e : Ev) (h : e.2.2.length = 8) (w : World) : (Op.equalIn (d + 3) 88 (.agg (evC e).toArray) (.agg (evC e).toArray)).run Tryz.prog w = .ok true w := by
  rw [run_equalIn_agg w (d + 2) 88 _ _ evUnd evStood]
  have hf := evFields
  generalize (Tryz.prog.fieldsOf 88).toList = fs at hf
  have hl : fs.length = 3 := by have := congrArg List.length hf; simpa using this
  match fs, hl with
  | [f0, f1, f2], _ =>
    simp only [List.map_cons, List.map_nil, List.cons.injEq, Prod.mk.injEq, and_true] at hf
    obtain ⟨⟨n0, t0, o0⟩, ⟨n1, t1, o1⟩, n2, t2, o2⟩ := hf
    have p0 := ce_part1 4 ce_agg4 (evC e).toArray 0 (.bool e.1) (by simp [evC]) w
    have p1 := ce_part1 25 ce_agg25 (evC e).toArray 1 (.int .u64 e.2.1) (by simp [evC]) w
    have p2 : (part 86 (evC e).toArray 2).run Tryz.prog w = .ok (.agg (e.2.2.map (Value.int .u64)).toArray) w := by
      unfold part
      simp only [Sem.run_bind, evAgg, evSz8, Result.andThen_ok, if_true, Sem.run_pure]
      simp [evC]
      exact List.take_of_length_le (by simp [h])
    have q0 : f0.name ≠ "_" := by rw [n0]; decide
    have q1 : f1.name ≠ "_" := by rw [n1]; decide
    have q2 : f2.name ≠ "_" := by rw [n2]; decide
    clear n0 n1 n2
    generalize hxs : (evC e).toArray = xs at *
    have e0 : ∀ l, (Op.eqFields (d + 2) xs xs (f0 :: l)).run Tryz.prog w = (Op.eqFields (d + 2) xs xs l).run Tryz.prog w := by
      intro l
      rw [Op.eqFields, if_pos q0, t0, o0, Sem.run_bind, p0, Result.andThen_ok, Sem.run_bind, p0, Result.andThen_ok, Sem.run_bind, run_equalIn_bool' w (d + 1) 4 _ _ ce_u4, beq_self_eq_true, Result.andThen_ok]
      rfl
    have e1 : ∀ l, (Op.eqFields (d + 2) xs xs (f1 :: l)).run Tryz.prog w = (Op.eqFields (d + 2) xs xs l).run Tryz.prog w := by
      intro l
      rw [Op.eqFields, if_pos q1, t1, o1, Sem.run_bind, p1, Result.andThen_ok, Sem.run_bind, p1, Result.andThen_ok, Sem.run_bind, run_equalIn_int w (d + 1) 25 .u64 .u64 _ _ ce_u64St, beq_self_eq_true, Result.andThen_ok]
      rfl
    have e2 : ∀ l, (Op.eqFields (d + 2) xs xs (f2 :: l)).run Tryz.prog w = (Op.eqFields (d + 2) xs xs l).run Tryz.prog w := by
      intro l
      rw [Op.eqFields, if_pos q2, t2, o2, Sem.run_bind, p2, Result.andThen_ok, Sem.run_bind, p2, Result.andThen_ok, Sem.run_bind, eq_arrU 86 8 d evArr e.2.2 h w, Result.andThen_ok]
      rfl
    rw [e0, e1, e2]
    rfl
theorem neqEv (e : Ev) (h : e.2.2.length = 8) (w : World) : (binOp .neq 88 (.agg (evC e).toArray) (.agg (evC e).toArray)).run Tryz.prog w = .ok (.bool false) w := by
  rw [run_neq_struct]
  generalize hn : (10000 : Nat) = n
  obtain ⟨d, rfl⟩ : ∃ d, n = d + 3 := ⟨9997, by omega⟩
  rw [eq_ev d e h w]
  rfl
/-! ### What is shown, with itself -/
theorem lkFields : (Tryz.prog.fieldsOf 91).toList.map (fun f => (f.name, f.type, f.offset)) = [("Kind", 3, 0), ("A", 25, 1), ("B", 25, 2)] := by kernel_rfl
theorem lkUnd : Tryz.prog.underlying 91 = some (.struct (Tryz.prog.fieldsOf 91)) := by kernel_rfl
theorem lkStood : Tryz.prog.stoodInHeld 91 = false := by kernel_rfl
theorem eq_lk (d : Nat) (e : Lk) (w : World) : (Op.equalIn (d + 3) 91 (.agg (lkC e).toArray) (.agg (lkC e).toArray)).run Tryz.prog w = .ok true w := by
  rw [run_equalIn_agg w (d + 2) 91 _ _ lkUnd lkStood]
  have hf := lkFields
  generalize (Tryz.prog.fieldsOf 91).toList = fs at hf
  have hl : fs.length = 3 := by have := congrArg List.length hf; simpa using this
  match fs, hl with
  | [f0, f1, f2], _ =>
    simp only [List.map_cons, List.map_nil, List.cons.injEq, Prod.mk.injEq, and_true] at hf
    obtain ⟨⟨n0, t0, o0⟩, ⟨n1, t1, o1⟩, n2, t2, o2⟩ := hf
    have p0 := ce_part1 3 ce_agg3 (lkC e).toArray 0 (.int .i64 e.1) (by simp [lkC]) w
    have p1 := ce_part1 25 ce_agg25 (lkC e).toArray 1 (.int .u64 e.2.1) (by simp [lkC]) w
    have p2 := ce_part1 25 ce_agg25 (lkC e).toArray 2 (.int .u64 e.2.2) (by simp [lkC]) w
    have q0 : f0.name ≠ "_" := by rw [n0]; decide
    have q1 : f1.name ≠ "_" := by rw [n1]; decide
    have q2 : f2.name ≠ "_" := by rw [n2]; decide
    clear n0 n1 n2
    generalize hxs : (lkC e).toArray = xs at *
    have e0 : ∀ l, (Op.eqFields (d + 2) xs xs (f0 :: l)).run Tryz.prog w = (Op.eqFields (d + 2) xs xs l).run Tryz.prog w := by
      intro l
      rw [Op.eqFields, if_pos q0, t0, o0, Sem.run_bind, p0, Result.andThen_ok, Sem.run_bind, p0, Result.andThen_ok, Sem.run_bind, run_equalIn_int w (d + 1) 3 .i64 .i64 _ _ ce_u3, beq_self_eq_true, Result.andThen_ok]
      rfl
    have e1 : ∀ l, (Op.eqFields (d + 2) xs xs (f1 :: l)).run Tryz.prog w = (Op.eqFields (d + 2) xs xs l).run Tryz.prog w := by
      intro l
      rw [Op.eqFields, if_pos q1, t1, o1, Sem.run_bind, p1, Result.andThen_ok, Sem.run_bind, p1, Result.andThen_ok, Sem.run_bind, run_equalIn_int w (d + 1) 25 .u64 .u64 _ _ ce_u64St, beq_self_eq_true, Result.andThen_ok]
      rfl
    have e2 : ∀ l, (Op.eqFields (d + 2) xs xs (f2 :: l)).run Tryz.prog w = (Op.eqFields (d + 2) xs xs l).run Tryz.prog w := by
      intro l
      rw [Op.eqFields, if_pos q2, t2, o2, Sem.run_bind, p2, Result.andThen_ok, Sem.run_bind, p2, Result.andThen_ok, Sem.run_bind, run_equalIn_int w (d + 1) 25 .u64 .u64 _ _ ce_u64St, beq_self_eq_true, Result.andThen_ok]
      rfl
    rw [e0, e1, e2]
    rfl
theorem neqLk (e : Lk) (w : World) : (binOp .neq 91 (.agg (lkC e).toArray) (.agg (lkC e).toArray)).run Tryz.prog w = .ok (.bool false) w := by
  rw [run_neq_struct]
  generalize hn : (10000 : Nat) = n
  obtain ⟨d, rfl⟩ : ∃ d, n = d + 3 := ⟨9997, by omega⟩
  rw [eq_lk d e w]
  rfl
/-! ### Loads of whole elements -/
def evLoad (v : Value) : Sem Value := Instr.loadAt 88 v
theorem loadAt_ev (v : Value) : Instr.loadAt 88 v = evLoad v := rfl
def lkLoad (v : Value) : Sem Value := Instr.loadAt 91 v
theorem loadAt_lk (v : Value) : Instr.loadAt 91 v = lkLoad v := rfl
theorem evSize (w : World) : (sizeOf 88).run Tryz.prog w = .ok 10 w := by kernel_rfl
theorem lkSize (w : World) : (sizeOf 91).run Tryz.prog w = .ok 3 w := by kernel_rfl
theorem evIsAgg (w : World) : (isAgg 88).run Tryz.prog w = .ok true w := by kernel_rfl
theorem lkIsAgg (w : World) : (isAgg 91).run Tryz.prog w = .ok true w := by kernel_rfl
theorem evs_cells : ∀ (l : List Ev) (i j : Nat) (e : Ev), Ev8 l → l[i]? = some e → j < 10 → (evsL l)[i * 10 + j]? = (evC e)[j]? := by
  intro l
  induction l with
  | nil => intro i j e _ h; simp at h
  | cons x l ih =>
    intro i j e h8 h hj
    have hx : (evC x).length = 10 := by have := h8 x (by simp); simp [evC, this]
    rw [show evsL (x :: l) = evC x ++ evsL l from rfl]
    cases i with
    | zero =>
      simp only [List.getElem?_cons_zero, Option.some.injEq] at h
      subst h
      rw [Nat.zero_mul, Nat.zero_add, List.getElem?_append_left (by omega)]
    | succ i =>
      simp only [List.getElem?_cons_succ] at h
      rw [List.getElem?_append_right (by rw [hx]; omega), hx, show (i + 1) * 10 + j - 10 = i * 10 + j by omega]
      exact ih i j e (fun e he => h8 e (by simp [he])) h hj
theorem lks_cells : ∀ (l : List Lk) (i j : Nat) (e : Lk), l[i]? = some e → j < 3 → (lksL l)[i * 3 + j]? = (lkC e)[j]? := by
  intro l
  induction l with
  | nil => intro i j e h; simp at h
  | cons x l ih =>
    intro i j e h hj
    have hx : (lkC x).length = 3 := by simp [lkC]
    rw [show lksL (x :: l) = lkC x ++ lksL l from rfl]
    cases i with
    | zero =>
      simp only [List.getElem?_cons_zero, Option.some.injEq] at h
      subst h
      rw [Nat.zero_mul, Nat.zero_add, List.getElem?_append_left (by omega)]
    | succ i =>
      simp only [List.getElem?_cons_succ] at h
      rw [List.getElem?_append_right (by rw [hx]; omega), hx, show (i + 1) * 3 + j - 3 = i * 3 + j by omega]
      exact ih i j e h hj
theorem evLoad_is {w : World} {base g c : Nat} {l : List Ev} {i : Nat} {e : Ev} (h : w.ownsRow base 88 10 (.slice (some ⟨g, 0, none⟩) l.length c) l.length (evsL l)) (h8 : Ev8 l) (hi : l[i]? = some e) :
    (evLoad (.pointer (some ⟨g, i * 10, none⟩))).run Tryz.prog w = .ok (.agg (evC e).toArray) w := by
  have hlt : i < l.length := (List.getElem?_eq_some_iff.1 hi).1
  have hx : (evC e).length = 10 := by have := h8 e (List.mem_of_getElem? hi); simp [evC, this]
  have h1 : (loadCells ⟨g, i * 10, none⟩ (evC e).length).run Tryz.prog w = .ok (evC e).toArray w :=
    run_loadCells_list (P := Tryz.prog) w ⟨g, i * 10, none⟩ (evC e) (fun j v hv => by
      have hj : j < 10 := by have := (List.getElem?_eq_some_iff.1 hv).1; omega
      rw [add_off, h.cellAt (i * 10 + j) (by omega), evs_cells l i j e h8 hi hj, hv])
  rw [hx] at h1
  unfold evLoad
  simp only [Instr.loadAt, Instr.sureAddr, Sem.run_bind, Sem.run_pure, Result.andThen_ok]
  unfold loadVar
  simp only [Sem.run_bind, evIsAgg, evSize, h1, Result.andThen_ok, if_true, Sem.run_pure]
theorem lkLoad_is {w : World} {base g c : Nat} {l : List Lk} {i : Nat} {e : Lk} (h : w.ownsRow base 91 3 (.slice (some ⟨g, 0, none⟩) l.length c) l.length (lksL l)) (hi : l[i]? = some e) :
    (lkLoad (.pointer (some ⟨g, i * 3, none⟩))).run Tryz.prog w = .ok (.agg (lkC e).toArray) w := by
  have hlt : i < l.length := (List.getElem?_eq_some_iff.1 hi).1
  have hx : (lkC e).length = 3 := by simp [lkC]
  have h1 : (loadCells ⟨g, i * 3, none⟩ (lkC e).length).run Tryz.prog w = .ok (lkC e).toArray w :=
    run_loadCells_list (P := Tryz.prog) w ⟨g, i * 3, none⟩ (lkC e) (fun j v hv => by
      have hj : j < 3 := by have := (List.getElem?_eq_some_iff.1 hv).1; omega
      rw [add_off, h.cellAt (i * 3 + j) (by omega), lks_cells l i j e hi hj, hv])
  rw [hx] at h1
  unfold lkLoad
  simp only [Instr.loadAt, Instr.sureAddr, Sem.run_bind, Sem.run_pure, Result.andThen_ok]
  unfold loadVar
  simp only [Sem.run_bind, lkIsAgg, lkSize, h1, Result.andThen_ok, if_true, Sem.run_pure]
theorem row_drewN {w : World} {base n s : Nat} {e : TypeId} {v : Value} {xs : List Value} (h : w.ownsRow base e s v n xs) (q : Nat) : (w.drewN q).ownsRow base e s v n xs := row_below h (bel_drewN (Below.refl _ _) q)
theorem row_pos {w : World} {base n s : Nat} {e : TypeId} {v : Value} {xs : List Value} (h : w.ownsRow base e s v n xs) (hn : 0 < n) : ∃ g c, v = .slice (some ⟨g, 0, none⟩) n c := by
  rcases h.2 with ⟨_, h2⟩ | ⟨g, cap, _, h, _⟩
  · omega
  · exact ⟨g, cap, h⟩
attribute [local go_sem ↓] loadAt_ev loadAt_lk
theorem evs_same (v1 v2 : Value) (l : List Ev) (base1 base2 : Nat) (w : World) (h1 : w.ownsRow base1 88 10 v1 l.length (evsL l)) (h2 : w.ownsRow base2 88 10 v2 l.length (evsL l)) (h8 : Ev8 l) (hn : l.length ≤ 100000000) :
    Calls Tryz.prog 14 #[v1, v2] w fun e w' => e = .returned (.bool true) ∧ ∃ q, w' = w.drewN q := by
  by_cases h0 : l.length = 0
  · rw [h0] at h1 h2
    obtain ⟨A, c, rfl⟩ := row_len h1
    obtain ⟨A', c', rfl⟩ := row_len h2
    clear h1 h2 h8 hn h0
    go_enter Tryz.func14, Tryz.ntmps14
    go_wp2
    go_loop [5] (fun i => i = .int .i64 0) (fun _ => 0)
    case atStart => rfl
    case round =>
      obtain rfl := hrel
      go_wp2
      go_ret
      exact ⟨rfl, 0, rfl⟩
  · obtain ⟨g1, c1, rfl⟩ := row_pos h1 (by omega)
    obtain ⟨g2, c2, rfl⟩ := row_pos h2 (by omega)
    have HR := Lib.hid (And.intro h1 (And.intro h2 h8))
    obtain ⟨n, hl⟩ : ∃ n, l.length = n := ⟨_, rfl⟩
    rw [hl] at hn
    have HL := Lib.hid hl
    rw [hl]
    clear h1 h2 h8 h0 hl
    go_enter Tryz.func14, Tryz.ntmps14
    go_wp2
    go_loopw [5] (fun i wr => ∃ (k q : Nat), k ≤ n ∧ i = .int .i64 k ∧ wr = w.drewN q) (fun i _ => n - (intOf i).toNat)
    case atStart => exact ⟨0, 0, by omega, rfl, rfl⟩
    case round =>
      obtain ⟨k, q, hk, rfl, rfl⟩ := hrel
      by_cases hlt : k < n
      · have k0 : (0 : Int) ≤ k := by omega
        have k1 : (k : Int) < n := by omega
        have hkl : k < l.length := by rw [HL.out]; exact hlt
        obtain ⟨x, hget⟩ : ∃ x, l[k]? = some x := ⟨_, List.getElem?_eq_getElem hkl⟩
        have ld1 := fun q => evLoad_is (row_drewN HR.out.1 q) HR.out.2.2 hget
        have ld2 := fun q => evLoad_is (row_drewN HR.out.2.1 q) HR.out.2.2 hget
        have hne := neqEv x (HR.out.2.2 _ (List.mem_of_getElem? hget))
        clear hkl hget hlt
        go_wp2_with fail
        go_quiet (fail)
        go_wp2
        go_roundw
        case rel => exact ⟨k + 1, _, by omega, by go_num, rfl⟩
        case measure => simp [intOf]; omega
      · obtain rfl : k = n := by omega
        clear hlt hk
        go_wp2
        go_ret
        exact ⟨rfl, _, rfl⟩
theorem lks_same (v1 v2 : Value) (l : List Lk) (base1 base2 : Nat) (w : World) (h1 : w.ownsRow base1 91 3 v1 l.length (lksL l)) (h2 : w.ownsRow base2 91 3 v2 l.length (lksL l)) (hn : l.length ≤ 100000000) :
    Calls Tryz.prog 16 #[v1, v2] w fun e w' => e = .returned (.bool true) ∧ ∃ q, w' = w.drewN q := by
  by_cases h0 : l.length = 0
  · rw [h0] at h1 h2
    obtain ⟨A, c, rfl⟩ := row_len h1
    obtain ⟨A', c', rfl⟩ := row_len h2
    clear h1 h2 hn h0
    go_enter Tryz.func16, Tryz.ntmps16
    go_wp2
    go_loop [5] (fun i => i = .int .i64 0) (fun _ => 0)
    case atStart => rfl
    case round =>
      obtain rfl := hrel
      go_wp2
      go_ret
      exact ⟨rfl, 0, rfl⟩
  · obtain ⟨g1, c1, rfl⟩ := row_pos h1 (by omega)
    obtain ⟨g2, c2, rfl⟩ := row_pos h2 (by omega)
    have HR := Lib.hid (And.intro h1 h2)
    obtain ⟨n, hl⟩ : ∃ n, l.length = n := ⟨_, rfl⟩
    rw [hl] at hn
    have HL := Lib.hid hl
    rw [hl]
    clear h1 h2 h0 hl
    go_enter Tryz.func16, Tryz.ntmps16
    go_wp2
    go_loopw [5] (fun i wr => ∃ (k q : Nat), k ≤ n ∧ i = .int .i64 k ∧ wr = w.drewN q) (fun i _ => n - (intOf i).toNat)
    case atStart => exact ⟨0, 0, by omega, rfl, rfl⟩
    case round =>
      obtain ⟨k, q, hk, rfl, rfl⟩ := hrel
      by_cases hlt : k < n
      · have k0 : (0 : Int) ≤ k := by omega
        have k1 : (k : Int) < n := by omega
        have hkl : k < l.length := by rw [HL.out]; exact hlt
        obtain ⟨x, hget⟩ : ∃ x, l[k]? = some x := ⟨_, List.getElem?_eq_getElem hkl⟩
        have ld1 := fun q => lkLoad_is (row_drewN HR.out.1 q) hget
        have ld2 := fun q => lkLoad_is (row_drewN HR.out.2 q) hget
        have hne := neqLk x
        clear hkl hget hlt
        go_wp2_with fail
        go_quiet (fail)
        go_wp2
        go_roundw
        case rel => exact ⟨k + 1, _, by omega, by go_num, rfl⟩
        case measure => simp [intOf]; omega
      · obtain rfl : k = n := by omega
        clear hlt hk
        go_wp2
        go_ret
        exact ⟨rfl, _, rfl⟩
end Go.Proofs.YtoeagbcjnffpaaaGreatDoor
