/- Layer 6: rows held against each other: slices.Equal at the kinds that package obj asks.
   Layer 6: Same of package obj.
   Arguments of layer 6's statements: an object that came in. No condition. -/
import Derived.Test.YtjngkifoaljmaaaGreatDoorObjE
import Derived.Laws.StructEq
import Derived.Lib.SmallJoins
import Derived.Deep.Slices
import Derived.WideShapes
namespace Go.Proofs.YtjngkifoaljmaaaGreatDoor
set_option maxRecDepth 100000
open Go.RowKit
set_option linter.unusedVariables false
theorem beq_str (s t : ByteArray) : (s.toList == t.toList) = decide (s = t) := by
  rw [ByteArray.toList_eq, ByteArray.toList_eq]
  by_cases h : s = t
  · subst h; simp
  · rw [decide_eq_false h, beq_eq_false_iff_ne]
    intro e
    exact h (ByteArray.ext (Array.ext' e))
theorem eqF_step {P : Program} {w : World} {d : Nat} {xs ys : Array Value} {f : Field} {fs : List Field} {t : TypeId} {o : Nat} {nm : String} {a b : Value} {r : Bool} (hn : f.name = nm) (hne : nm ≠ "_") (ht : f.type = t) (ho : f.offset = o)
    (pa : (part t xs o).run P w = .ok a w) (pb : (part t ys o).run P w = .ok b w) (hq : (Op.equalIn d t a b).run P w = .ok r w) :
    (Op.eqFields d xs ys (f :: fs)).run P w = if r then (Op.eqFields d xs ys fs).run P w else .ok false w := by
  subst hn ht ho
  rw [Op.eqFields, if_pos hne, Sem.run_bind, pa, Result.andThen_ok, Sem.run_bind, pb, Result.andThen_ok, Sem.run_bind, hq, Result.andThen_ok]
  cases r <;> simp
theorem se_part {P : Program} (t : TypeId) (ha : ∀ w : World, (isAgg t).run P w = .ok false w) (xs : Array Value) (i : Nat) (v : Value) (h : xs[i]? = some v) (w : World) : (part t xs i).run P w = .ok v w := by
  unfold part
  simp only [Sem.run_bind, ha, Result.andThen_ok, h, Sem.run_pure, Bool.false_eq_true, if_false]
theorem se_agg_s (w : World) : (isAgg 9).run Tryz.prog w = .ok false w := by kernel_rfl
theorem se_agg_b (w : World) : (isAgg 4).run Tryz.prog w = .ok false w := by kernel_rfl
theorem se_agg_i (w : World) : (isAgg 3).run Tryz.prog w = .ok false w := by kernel_rfl
theorem se_agg_l (w : World) : (isAgg 2).run Tryz.prog w = .ok false w := by kernel_rfl
theorem se_four {P : Program} {w : World} {d : Nat} {xs ys : Array Value} {fs : List Field} {n0 n1 n2 n3 : String} {t0 t1 t2 t3 : TypeId} (hf : fs.map (fun f => (f.name, f.type, f.offset)) = [(n0, t0, 0), (n1, t1, 1), (n2, t2, 2), (n3, t3, 3)])
    (g0 : n0 ≠ "_") (g1 : n1 ≠ "_") (g2 : n2 ≠ "_") (g3 : n3 ≠ "_") {a0 a1 a2 a3 b0 b1 b2 b3 : Value} {r0 r1 r2 r3 : Bool}
    (p0 : (part t0 xs 0).run P w = .ok a0 w) (p1 : (part t1 xs 1).run P w = .ok a1 w) (p2 : (part t2 xs 2).run P w = .ok a2 w) (p3 : (part t3 xs 3).run P w = .ok a3 w)
    (q0 : (part t0 ys 0).run P w = .ok b0 w) (q1 : (part t1 ys 1).run P w = .ok b1 w) (q2 : (part t2 ys 2).run P w = .ok b2 w) (q3 : (part t3 ys 3).run P w = .ok b3 w)
    (e0 : (Op.equalIn d t0 a0 b0).run P w = .ok r0 w) (e1 : (Op.equalIn d t1 a1 b1).run P w = .ok r1 w) (e2 : (Op.equalIn d t2 a2 b2).run P w = .ok r2 w) (e3 : (Op.equalIn d t3 a3 b3).run P w = .ok r3 w) :
    (Op.eqFields d xs ys fs).run P w = .ok (r0 && r1 && r2 && r3) w := by
  have hl : fs.length = 4 := by have := congrArg List.length hf; simpa using this
  match fs, hl with
  | [f0, f1, f2, f3], _ =>
    simp only [List.map_cons, List.map_nil, List.cons.injEq, Prod.mk.injEq, and_true] at hf
    obtain ⟨⟨m0, s0, o0⟩, ⟨m1, s1, o1⟩, ⟨m2, s2, o2⟩, m3, s3, o3⟩ := hf
    rw [eqF_step m0 g0 s0 o0 p0 q0 e0, eqF_step m1 g1 s1 o1 p1 q1 e1, eqF_step m2 g2 s2 o2 p2 q2 e2, eqF_step m3 g3 s3 o3 p3 q3 e3]
    cases r0 <;> cases r1 <;> cases r2 <;> cases r3 <;> rfl
theorem se_uStr : Tryz.prog.underlying 9 = some .string := by kernel_rfl
theorem se_uBool : Tryz.prog.underlying 4 = some .bool := by kernel_rfl
theorem se_uInt : Tryz.prog.underlying 3 = some (.int .i64) := by kernel_rfl
theorem se_uI64 : Tryz.prog.underlying 2 = some (.int .i64) := by kernel_rfl
theorem sym_fields : (Tryz.prog.fieldsOf 52).toList.map (fun f => (f.name, f.type, f.offset)) = [("Name", 9, 0), ("InData", 4, 1), ("Off", 3, 2), ("Out", 4, 3)] := by kernel_rfl
theorem rel_fields : (Tryz.prog.fieldsOf 55).toList.map (fun f => (f.name, f.type, f.offset)) = [("At", 3, 0), ("Kind", 3, 1), ("Name", 9, 2), ("Add", 2, 3)] := by kernel_rfl
theorem sym_und : Tryz.prog.underlying 52 = some (.struct (Tryz.prog.fieldsOf 52)) := by kernel_rfl
theorem rel_und : Tryz.prog.underlying 55 = some (.struct (Tryz.prog.fieldsOf 55)) := by kernel_rfl
theorem sym_stood : Tryz.prog.stoodInHeld 52 = false := by kernel_rfl
theorem rel_stood : Tryz.prog.stoodInHeld 55 = false := by kernel_rfl
theorem sym_guard : Tryz.prog.eqGuardType Tryz.prog.depth 52 = false := by kernel_rfl
theorem rel_guard : Tryz.prog.eqGuardType Tryz.prog.depth 55 = false := by kernel_rfl
theorem neq_sym (x y : SymD) (w : World) : (binOp .neq 52 (.agg #[.string x.1, .bool x.2.1, .int .i64 x.2.2.1, .bool x.2.2.2]) (.agg #[.string y.1, .bool y.2.1, .int .i64 y.2.2.1, .bool y.2.2.2])).run Tryz.prog w = .ok (.bool (!decide (x = y))) w := by
  rw [run_neq_struct]
  generalize hn : (10000 : Nat) = n
  obtain ⟨d, rfl⟩ : ∃ d, n = d + 2 := ⟨9998, by omega⟩
  rw [run_equalIn_agg w (d + 1) 52 _ _ sym_und sym_stood]
  rw [se_four sym_fields (by decide) (by decide) (by decide) (by decide) (se_part _ se_agg_s _ 0 (.string x.1) rfl w) (se_part _ se_agg_b _ 1 (.bool x.2.1) rfl w) (se_part _ se_agg_i _ 2 (.int .i64 x.2.2.1) rfl w) (se_part _ se_agg_b _ 3 (.bool x.2.2.2) rfl w)
    (se_part _ se_agg_s _ 0 (.string y.1) rfl w) (se_part _ se_agg_b _ 1 (.bool y.2.1) rfl w) (se_part _ se_agg_i _ 2 (.int .i64 y.2.2.1) rfl w) (se_part _ se_agg_b _ 3 (.bool y.2.2.2) rfl w)
    (run_equalIn_string w d _ _ _ se_uStr) (run_equalIn_bool' w d _ _ _ se_uBool) (run_equalIn_int w d _ .i64 .i64 _ _ se_uInt) (run_equalIn_bool' w d _ _ _ se_uBool)]
  rw [Result.andThen_ok, beq_str]
  congr 2
  obtain ⟨x0, x1, x2, x3⟩ := x
  obtain ⟨y0, y1, y2, y3⟩ := y
  congr 1
  rw [Bool.eq_iff_iff]
  simp [Prod.mk.injEq, and_assoc]
theorem neq_rel (x y : RelD) (w : World) : (binOp .neq 55 (.agg #[.int .i64 x.1, .int .i64 x.2.1, .string x.2.2.1, .int .i64 x.2.2.2]) (.agg #[.int .i64 y.1, .int .i64 y.2.1, .string y.2.2.1, .int .i64 y.2.2.2])).run Tryz.prog w = .ok (.bool (!decide (x = y))) w := by
  rw [run_neq_struct]
  generalize hn : (10000 : Nat) = n
  obtain ⟨d, rfl⟩ : ∃ d, n = d + 2 := ⟨9998, by omega⟩
  rw [run_equalIn_agg w (d + 1) 55 _ _ rel_und rel_stood]
  rw [se_four rel_fields (by decide) (by decide) (by decide) (by decide) (se_part _ se_agg_i _ 0 (.int .i64 x.1) rfl w) (se_part _ se_agg_i _ 1 (.int .i64 x.2.1) rfl w) (se_part _ se_agg_s _ 2 (.string x.2.2.1) rfl w) (se_part _ se_agg_l _ 3 (.int .i64 x.2.2.2) rfl w)
    (se_part _ se_agg_i _ 0 (.int .i64 y.1) rfl w) (se_part _ se_agg_i _ 1 (.int .i64 y.2.1) rfl w) (se_part _ se_agg_s _ 2 (.string y.2.2.1) rfl w) (se_part _ se_agg_l _ 3 (.int .i64 y.2.2.2) rfl w)
    (run_equalIn_int w d _ .i64 .i64 _ _ se_uInt) (run_equalIn_int w d _ .i64 .i64 _ _ se_uInt) (run_equalIn_string w d _ _ _ se_uStr) (run_equalIn_int w d _ .i64 .i64 _ _ se_uI64)]
  rw [Result.andThen_ok, beq_str]
  congr 2
  obtain ⟨x0, x1, x2, x3⟩ := x
  obtain ⟨y0, y1, y2, y3⟩ := y
  congr 1
  rw [Bool.eq_iff_iff]
  simp [Prod.mk.injEq, and_assoc]
theorem list_diff {α : Type} {xs ys : List α} {k : Nat} (h1 : k < xs.length) (h2 : k < ys.length) (h : xs[k] ≠ ys[k]) : xs ≠ ys := by
  rintro rfl; exact h rfl
theorem list_same {α : Type} {xs ys : List α} (hl : xs.length = ys.length) (h : ∀ j (h1 : j < xs.length) (h2 : j < ys.length), xs[j] = ys[j]) : xs = ys := List.ext_getElem hl h
theorem ret_boolG {a : Bool} {b : Bool} (h : b = a) : Ending.returned (.bool a) = Ending.returned (.bool b) := by rw [h]
end Go.Proofs.YtjngkifoaljmaaaGreatDoor
namespace Go.Proofs.YtjngkifoaljmaaaGreatDoor
set_option maxRecDepth 100000
open Go.RowKit
set_option linter.unusedVariables false
theorem ent_eq (x y : EntD) : decide (x = y) = (decide (x.1 = y.1) && decide (x.2 = y.2)) := by
  obtain ⟨x1, x2⟩ := x
  obtain ⟨y1, y2⟩ := y
  rw [Bool.eq_iff_iff]
  simp [Prod.mk.injEq]
/-- lengths that may be -/
structure ObjL (d : ObjD) : Prop where
  lt : d.text.length ≤ maxLen
  ld : d.data.length ≤ maxLen
  ls : d.syms.length ≤ maxLen
  lr : d.rels.length ≤ maxLen
  le : d.ents.length ≤ maxLen
  lp : ∀ x ∈ d.ents, x.2.length ≤ maxLen
def sameD (a b : ObjD) : Bool := decide (a.text = b.text) && decide (a.data = b.data) && decide (a.syms = b.syms) && decide (a.rels = b.rels) && decide (a.ents = b.ents)
theorem sameD_iff {a b : ObjD} : sameD a b = true ↔ a = b := by
  obtain ⟨a1, a2, a3, a4, a5⟩ := a
  obtain ⟨b1, b2, b3, b4, b5⟩ := b
  unfold sameD
  simp [ObjD.mk.injEq, and_assoc]
end Go.Proofs.YtjngkifoaljmaaaGreatDoor
namespace Go.Proofs.YtjngkifoaljmaaaGreatDoor
set_option maxRecDepth 100000
open Go.RowKit Go.ChangeShapes Go.WideShapes Go.Deep
set_option linter.unusedVariables false
section
variable {H : Type} {enc : TypeId × Value → H} {W : World} {base b0 : Nat} {sp : Nat → Bool} {held : Bool} {d : DataW H} {p : List MemPlace}
theorem addr_add_add (a : Addr) (i j : Nat) : (a.add i).add j = a.add (i + j) := by
  obtain ⟨b, o, s⟩ := a
  unfold Addr.add
  by_cases hi : i = 0 <;> by_cases hj : j = 0 <;> simp_all [Nat.add_assoc]
theorem addr_add_none (b o j : Nat) : (⟨b, o, none⟩ : Addr).add j = ⟨b, o + j, none⟩ := by
  unfold Addr.add
  by_cases e0 : j = 0
  · subst e0; simp
  · simp [e0]
theorem cell_block_lt {b o : Nat} {v : Value} (h : W.cell? ⟨b, o, none⟩ = some v) : b < W.heap.size := by
  by_cases hb : b < W.heap.size
  · exact hb
  · exfalso
    have : W.heap[b]? = none := Array.getElem?_eq_none (by omega)
    simp [World.cell?, this] at h
theorem open_list {α : Type} {t te : TypeId} {enc1 : α → List Value} {sz : Nat} (x0 : α) (Wf : α → Prop) (ht : Tryz.prog.underlying t = some (.slice te)) (hc : Tryz.prog.cellsOf te = sz) (hs : ∀ x, (enc1 x).length = sz) (hz : 0 < sz)
    (one : ∀ (n : Nat) (cs' : List Value) (y : DataW H × List MemPlace), DataW.trod enc Tryz.prog W base sp held n te cs' = some y → ∃ x, Wf x ∧ cs' = enc1 x)
    {fuel : Nat} {cs : List Value} {x : DataW H × List MemPlace} (h : DataW.trod enc Tryz.prog W base sp held fuel t cs = some x) :
    ∃ (A : Option Addr) (c : Nat) (xs : List α), cs = [.slice A xs.length c] ∧ (∀ x ∈ xs, Wf x) ∧ xs.length ≤ maxLen ∧ RowC W 0 W.heap.size A (xs.flatMap enc1) := by
  rcases open_slice ht h with ⟨rfl, _⟩ | ⟨a, len, cap, m, n, D, Pl, rfl, _, hl, hm, hmm, _, hi⟩
  · exact ⟨none, 0, [], rfl, by simp, by simp, .inl rfl⟩
  have hml : len ≤ m := by rw [hmm]; split <;> omega
  have hr : ∀ i, ∃ x : α, i < len → Wf x ∧ ∀ j v, (enc1 x)[j]? = some v → W.cell? (a.add (i * sz + j)) = some v := by
    intro i
    by_cases hlt : i < len
    · obtain ⟨cs', h1, h2⟩ := hi i (by omega)
      rw [hc] at h1
      obtain ⟨x, hw, rfl⟩ := one _ _ _ h2
      obtain ⟨_, hl', hat⟩ := World.cells?_some h1
      refine ⟨x, fun _ => ⟨hw, fun j v hj => ?_⟩⟩
      have hjl : j < sz := by
        have := (List.getElem?_eq_some_iff.1 hj).1
        rw [hs] at this; exact this
      have := hat j hjl
      rw [addr_add_add] at this
      rw [this, hj]
    · exact ⟨x0, fun h => absurd h hlt⟩
  obtain ⟨f, hf'⟩ := Classical.axiomOfChoice hr
  have hlen : ((List.range len).map f).length = len := by simp
  refine ⟨some a, cap, (List.range len).map f, by rw [hlen], fun x hx => ?_, by rw [hlen]; omega, ?_⟩
  · obtain ⟨i, hi, rfl⟩ := List.mem_map.1 hx
    exact (hf' i (List.mem_range.1 hi)).1
  · by_cases h0 : len = 0
    · subst h0; exact .inl rfl
    obtain ⟨b, off, spot⟩ := a
    have hne : 0 < (enc1 (f 0)).length := by rw [hs]; exact hz
    have h00 := (hf' 0 (by omega)).2 0 _ (List.getElem?_eq_getElem hne)
    have hsp : spot = none := by simpa [Addr.add] using World.cell?_spot h00
    subst hsp
    rw [addr_add_none] at h00
    refine .inr ⟨b, off, rfl, Nat.zero_le _, cell_block_lt h00, fun j v hj => ?_⟩
    have hjl : j < len * sz := by
      have := (List.getElem?_eq_some_iff.1 hj).1
      rw [flat_len hs, hlen] at this; exact this
    have hq : j / sz < len := Nat.div_lt_of_lt_mul (by rw [Nat.mul_comm]; exact hjl)
    have hmd : j % sz < sz := Nat.mod_lt _ hz
    have hj2 : j / sz * sz + j % sz = j := by rw [Nat.mul_comm]; exact Nat.div_add_mod j sz
    have hg := flat_get hs (xs := (List.range len).map f) (j := j / sz) (i := j % sz) (by rw [hlen]; exact hq) hmd
    rw [hj2, hj] at hg
    have he : ((List.range len).map f)[j / sz]'(by rw [hlen]; exact hq) = f (j / sz) := by simp
    rw [he] at hg
    have := (hf' (j / sz) hq).2 (j % sz) v hg.symm
    rw [addr_add_none, hj2] at this
    exact this
theorem isI_of {a : Int} (h : (Lit.int .i64 a).wf = true) : IsI a := by
  have := bounds_i64 h
  exact ⟨by omega, by omega⟩
theorem one_u32 (n : Nat) (cs' : List Value) (y : DataW H × List MemPlace) (h : DataW.trod enc Tryz.prog W base sp held n 45 cs' = some y) : ∃ x, IsW x ∧ cs' = encU32 x := by
  obtain ⟨x, rfl, _, hw⟩ := DataW.trod_int Tryz.underlying45 h
  have := bounds_u32 hw
  exact ⟨x, ⟨by omega, by omega⟩, rfl⟩
theorem one_u64 (n : Nat) (cs' : List Value) (y : DataW H × List MemPlace) (h : DataW.trod enc Tryz.prog W base sp held n 23 cs' = some y) : ∃ x, IsU x ∧ cs' = encU64 x := by
  obtain ⟨x, rfl, _, hw⟩ := DataW.trod_int Tryz.underlying23 h
  have := bounds_u64 hw
  exact ⟨x, ⟨by omega, by omega⟩, rfl⟩
theorem one_int (n : Nat) (cs' : List Value) (y : DataW H × List MemPlace) (h : DataW.trod enc Tryz.prog W base sp held n 3 cs' = some y) : ∃ x, IsI x ∧ cs' = encI64 x := by
  obtain ⟨x, rfl, _, hw⟩ := DataW.trod_int Tryz.underlying3 h
  exact ⟨x, isI_of hw, rfl⟩
theorem one_sym (n : Nat) (cs' : List Value) (y : DataW H × List MemPlace) (h : DataW.trod enc Tryz.prog W base sp held n 52 cs' = some y) : ∃ s : SymD, (s.1.size ≤ maxLen ∧ IsI s.2.2.1) ∧ cs' = encSym s := by
  have hc : Tryz.prog.cellsOf 52 = 4 := by kernel_rfl
  have ci : Tryz.prog.cellsOf 3 = 1 := by kernel_rfl
  have cb : Tryz.prog.cellsOf 4 = 1 := by kernel_rfl
  have cS : Tryz.prog.cellsOf 9 = 1 := by kernel_rfl
  obtain ⟨xs, m, _, hx, hl, hlen, hg⟩ := DataW.trod_struct Tryz.underlying52 h
  match cs', hl.trans hc with
  | [c0, c1, c2, c3], _ =>
    match xs, hlen with
    | [y0, y1, y2, y3], _ =>
      have g0 := hg 0 _ rfl
      have g1 := hg 1 _ rfl
      have g2 := hg 2 _ rfl
      have g3 := hg 3 _ rfl
      obtain ⟨n0, e0, _, w0⟩ := DataW.trod_string Tryz.underlying9 g0
      obtain ⟨n1, e1, _⟩ := DataW.trod_bool Tryz.underlying4 g1
      obtain ⟨n2, e2, _, w2⟩ := DataW.trod_int Tryz.underlying3 g2
      obtain ⟨n3, e3, _⟩ := DataW.trod_bool Tryz.underlying4 g3
      simp [ci, cb, cS] at e0 e1 e2 e3
      subst e0 e1 e2 e3
      exact ⟨(n0, n1, n2, n3), ⟨w0, isI_of w2⟩, rfl⟩
theorem one_rel (n : Nat) (cs' : List Value) (y : DataW H × List MemPlace) (h : DataW.trod enc Tryz.prog W base sp held n 55 cs' = some y) : ∃ s : RelD, (IsI s.1 ∧ IsI s.2.1 ∧ s.2.2.1.size ≤ maxLen ∧ IsI s.2.2.2) ∧ cs' = encRel s := by
  have hc : Tryz.prog.cellsOf 55 = 4 := by kernel_rfl
  have ci : Tryz.prog.cellsOf 3 = 1 := by kernel_rfl
  have cS : Tryz.prog.cellsOf 9 = 1 := by kernel_rfl
  have cL : Tryz.prog.cellsOf 2 = 1 := by kernel_rfl
  obtain ⟨xs, m, _, hx, hl, hlen, hg⟩ := DataW.trod_struct Tryz.underlying55 h
  match cs', hl.trans hc with
  | [c0, c1, c2, c3], _ =>
    match xs, hlen with
    | [y0, y1, y2, y3], _ =>
      have g0 := hg 0 _ rfl
      have g1 := hg 1 _ rfl
      have g2 := hg 2 _ rfl
      have g3 := hg 3 _ rfl
      obtain ⟨n0, e0, _, w0⟩ := DataW.trod_int Tryz.underlying3 g0
      obtain ⟨n1, e1, _, w1⟩ := DataW.trod_int Tryz.underlying3 g1
      obtain ⟨n2, e2, _, w2⟩ := DataW.trod_string Tryz.underlying9 g2
      obtain ⟨n3, e3, _, w3⟩ := DataW.trod_int Tryz.underlying2 g3
      simp [ci, cS, cL] at e0 e1 e2 e3
      subst e0 e1 e2 e3
      exact ⟨(n0, n1, n2, n3), ⟨isI_of w0, isI_of w1, w2, isI_of w3⟩, rfl⟩
abbrev EntA := EntD × (Option Addr × Nat)
def encEnt (e : EntA) : List Value := [.string e.1.1, .slice e.2.1 e.1.2.length e.2.2]
theorem one_ent (n : Nat) (cs' : List Value) (y : DataW H × List MemPlace) (h : DataW.trod enc Tryz.prog W base sp held n 84 cs' = some y) : ∃ e : EntA, ((e.1.1.size ≤ maxLen ∧ (∀ z ∈ e.1.2, IsI z) ∧ e.1.2.length ≤ maxLen) ∧ RowC W 0 W.heap.size e.2.1 (e.1.2.flatMap encI64)) ∧ cs' = encEnt e := by
  have hc : Tryz.prog.cellsOf 84 = 2 := by kernel_rfl
  have ci : Tryz.prog.cellsOf 82 = 1 := by kernel_rfl
  have cS : Tryz.prog.cellsOf 9 = 1 := by kernel_rfl
  obtain ⟨xs, m, _, hx, hl, hlen, hg⟩ := DataW.trod_struct Tryz.underlying84 h
  match cs', hl.trans hc with
  | [c0, c1], _ =>
    match xs, hlen with
    | [y0, y1], _ =>
      have g0 := hg 0 _ rfl
      have g1 := hg 1 _ rfl
      obtain ⟨n0, e0, _, w0⟩ := DataW.trod_string Tryz.underlying9 g0
      obtain ⟨A, c, zs, e1, hz, hn, hr⟩ := open_list (sz := 1) (enc1 := encI64) (0 : Int) IsI Tryz.underlying82 (by kernel_rfl) (fun _ => rfl) (by omega) one_int g1
      simp [ci, cS] at e0 e1
      subst e0 e1
      exact ⟨((n0, zs), (A, c)), ⟨⟨w0, hz, hn⟩, hr⟩, rfl⟩
theorem entC_of : ∀ (ps : List EntA), (∀ e ∈ ps, RowC W 0 W.heap.size e.2.1 (e.1.2.flatMap encI64)) → EntC W 0 W.heap.size none (ps.map (·.1)) (ps.flatMap encEnt)
  | [], _ => rfl
  | e :: ps, h => ⟨e.2.1, e.2.2, ps.flatMap encEnt, rfl, by
      rcases h e (by simp) with h1 | ⟨b, o, h1, h2, h3, h4⟩
      · exact .inl h1
      · exact .inr ⟨b, o, h1, h2, h3, by simp, h4⟩, entC_of ps fun e he => h e (by simp [he])⟩
theorem open_obj {v : Value} (hv : Value.okWide Tryz.prog W .any b0 59 v) (h : DataW.Trod enc Tryz.prog W base sp held 59 v d p) :
    ∃ D : ObjD, ObjAt W 0 W.heap.size D v ∧ ObjW D ∧ ObjL D := by
  obtain ⟨cs, rfl, hsz⟩ := okWide_struct Tryz.underlying59 hv
  obtain ⟨fuel, hf⟩ := h
  have hc : Tryz.prog.cellsOf 59 = 5 := by kernel_rfl
  have c1 : Tryz.prog.cellsOf 38 = 1 := by kernel_rfl
  have c2 : Tryz.prog.cellsOf 39 = 1 := by kernel_rfl
  have c3 : Tryz.prog.cellsOf 53 = 1 := by kernel_rfl
  have c4 : Tryz.prog.cellsOf 56 = 1 := by kernel_rfl
  have c5 : Tryz.prog.cellsOf 57 = 1 := by kernel_rfl
  obtain ⟨l⟩ := cs
  match l, hsz.trans hc with
  | [k0, k1, k2, k3, k4], _ =>
    obtain ⟨xs, m, _, hx, _, hlen, hg⟩ := DataW.trod_struct Tryz.underlying59 hf
    match xs, hlen with
    | [y0, y1, y2, y3, y4], _ =>
      have g0 := hg 0 _ rfl
      have g1 := hg 1 _ rfl
      have g2 := hg 2 _ rfl
      have g3 := hg 3 _ rfl
      have g4 := hg 4 _ rfl
      obtain ⟨A1, n1, z1, e1, w1, l1, r1⟩ := open_list (sz := 1) (enc1 := encU32) (0 : Int) IsW Tryz.underlying38 (by kernel_rfl) (fun _ => rfl) (by omega) one_u32 g0
      obtain ⟨A2, n2, z2, e2, w2, l2, r2⟩ := open_list (sz := 1) (enc1 := encU64) (0 : Int) IsU Tryz.underlying39 (by kernel_rfl) (fun _ => rfl) (by omega) one_u64 g1
      obtain ⟨A3, n3, z3, e3, w3, l3, r3⟩ := open_list (sz := 4) (enc1 := encSym) (ByteArray.empty, false, 0, false) _ Tryz.underlying53 (by kernel_rfl) (fun _ => rfl) (by omega) one_sym g2
      obtain ⟨A4, n4, z4, e4, w4, l4, r4⟩ := open_list (sz := 4) (enc1 := encRel) (0, 0, ByteArray.empty, 0) _ Tryz.underlying56 (by kernel_rfl) (fun _ => rfl) (by omega) one_rel g3
      obtain ⟨A5, n5, z5, e5, w5, l5, r5⟩ := open_list (sz := 2) (enc1 := encEnt) ((ByteArray.empty, []), (none, 0)) _ Tryz.underlying57 (by kernel_rfl) (fun _ => rfl) (by omega) one_ent g4
      simp [c1, c2, c3, c4, c5, Value.cells] at e1 e2 e3 e4 e5
      subst e1 e2 e3 e4 e5
      refine ⟨⟨z1, z2, z3, z4, z5.map (·.1)⟩, ⟨A1, n1, A2, n2, A3, n3, A4, n4, A5, n5, z5.flatMap encEnt, by simp, r1, r2, r3, r4, r5, entC_of z5 fun e he => (w5 e he).2⟩, ⟨w1, w2, w3, w4, fun s hs => ?_⟩, ⟨l1, l2, l3, l4, by simpa using l5, fun s hs => ?_⟩⟩
      · obtain ⟨e, he, rfl⟩ := List.mem_map.1 hs
        exact (w5 e he).1
      · obtain ⟨e, he, rfl⟩ := List.mem_map.1 hs
        exact (w5 e he).1.2.2
end
end Go.Proofs.YtjngkifoaljmaaaGreatDoor
