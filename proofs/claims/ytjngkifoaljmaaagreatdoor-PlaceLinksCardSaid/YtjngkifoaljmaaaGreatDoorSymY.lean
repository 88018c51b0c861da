/- Layer 7: the reference's Texts and Defs. No condition.
   Layer 7: awake. Condition: the tables of package ins read as they should. -/
import Derived.Test.YtjngkifoaljmaaaGreatDoorLexC
import Derived.Test.YtjngkifoaljmaaaGreatDoorSymR
import Derived.Laws.StructEq
namespace Go.Proofs.YtjngkifoaljmaaaGreatDoor
set_option maxRecDepth 100000
open Go.RowKit
set_option linter.unusedVariables false
theorem eqF_step7 {P : Program} {w : World} {d : Nat} {xs ys : Array Value} {f : Field} {fs : List Field} {t : TypeId} {o : Nat} {nm : String} {a b : Value} {r : Bool} (hn : f.name = nm) (hne : nm ≠ "_") (ht : f.type = t) (ho : f.offset = o)
    (pa : (part t xs o).run P w = .ok a w) (pb : (part t ys o).run P w = .ok b w) (hq : (Op.equalIn d t a b).run P w = .ok r w) :
    (Op.eqFields d xs ys (f :: fs)).run P w = if r then (Op.eqFields d xs ys fs).run P w else .ok false w := by
  subst hn ht ho
  rw [Op.eqFields, if_pos hne, Sem.run_bind, pa, Result.andThen_ok, Sem.run_bind, pb, Result.andThen_ok, Sem.run_bind, hq, Result.andThen_ok]
  cases r <;> simp
theorem se_part7 {P : Program} (t : TypeId) (ha : ∀ w : World, (isAgg t).run P w = .ok false w) (xs : Array Value) (i : Nat) (v : Value) (h : xs[i]? = some v) (w : World) : (part t xs i).run P w = .ok v w := by
  unfold part
  simp only [Sem.run_bind, ha, Result.andThen_ok, h, Sem.run_pure, Bool.false_eq_true, if_false]
theorem se_agg_i7 (w : World) : (isAgg 3).run Tryz.prog w = .ok false w := by kernel_rfl
theorem se_uInt7 : Tryz.prog.underlying 3 = some (.int .i64) := by kernel_rfl
theorem def_fields : (Tryz.prog.fieldsOf 27).toList.map (fun f => (f.name, f.type, f.offset)) = [("Obj", 3, 0), ("Sym", 3, 1)] := by kernel_rfl
theorem def_und : Tryz.prog.underlying 27 = some (.struct (Tryz.prog.fieldsOf 27)) := by kernel_rfl
theorem def_stood : Tryz.prog.stoodInHeld 27 = false := by kernel_rfl
theorem se_two7 {P : Program} {w : World} {d : Nat} {xs ys : Array Value} {fs : List Field} {n0 n1 : String} {t0 t1 : TypeId} (hf : fs.map (fun f => (f.name, f.type, f.offset)) = [(n0, t0, 0), (n1, t1, 1)])
    (g0 : n0 ≠ "_") (g1 : n1 ≠ "_") {a0 a1 b0 b1 : Value} {r0 r1 : Bool}
    (p0 : (part t0 xs 0).run P w = .ok a0 w) (p1 : (part t1 xs 1).run P w = .ok a1 w) (q0 : (part t0 ys 0).run P w = .ok b0 w) (q1 : (part t1 ys 1).run P w = .ok b1 w)
    (e0 : (Op.equalIn d t0 a0 b0).run P w = .ok r0 w) (e1 : (Op.equalIn d t1 a1 b1).run P w = .ok r1 w) : (Op.eqFields d xs ys fs).run P w = .ok (r0 && r1) w := by
  have hl : fs.length = 2 := by have := congrArg List.length hf; simpa using this
  match fs, hl with
  | [f0, f1], _ =>
    simp only [List.map_cons, List.map_nil, List.cons.injEq, Prod.mk.injEq, and_true] at hf
    obtain ⟨⟨m0, s0, o0⟩, m1, s1, o1⟩ := hf
    rw [eqF_step7 m0 g0 s0 o0 p0 q0 e0, eqF_step7 m1 g1 s1 o1 p1 q1 e1]
    cases r0 <;> cases r1 <;> rfl
theorem neq_def (x0 x1 y0 y1 : Int) (w : World) : (binOp .neq 27 (.agg #[.int .i64 x0, .int .i64 x1]) (.agg #[.int .i64 y0, .int .i64 y1])).run Tryz.prog w = .ok (.bool (!(x0 == y0 && x1 == y1))) w := by
  rw [run_neq_struct]
  generalize hn : (10000 : Nat) = n
  obtain ⟨d, rfl⟩ : ∃ d, n = d + 2 := ⟨9998, by omega⟩
  rw [run_equalIn_agg w (d + 1) 27 _ _ def_und def_stood]
  rw [se_two7 def_fields (by decide) (by decide) (se_part7 _ se_agg_i7 _ 0 (.int .i64 x0) rfl w) (se_part7 _ se_agg_i7 _ 1 (.int .i64 x1) rfl w)
    (se_part7 _ se_agg_i7 _ 0 (.int .i64 y0) rfl w) (se_part7 _ se_agg_i7 _ 1 (.int .i64 y1) rfl w)
    (run_equalIn_int w d _ .i64 .i64 _ _ se_uInt7) (run_equalIn_int w d _ .i64 .i64 _ _ se_uInt7)]
  rw [Result.andThen_ok]
def dfK (l : List (Int × Int)) (k : Nat) : Int × Int := l.getD k (0, 0)
/-- a row of Defs as it lies, wherever -/
def DfAt (w : World) (A : Option Addr) (l : List (Int × Int)) : Prop := l = [] ∨ ∃ b o, A = some ⟨b, o, none⟩ ∧ ∀ k, k < l.length → w.cell? ⟨b, o + k * 2, none⟩ = some (.int .i64 (dfK l k).1) ∧ w.cell? ⟨b, o + k * 2 + 1, none⟩ = some (.int .i64 (dfK l k).2)
theorem dfs_eq {a b : List (Int × Int)} (hl : a.length = b.length) (h : ∀ k, k < a.length → dfK a k = dfK b k) : a = b := by
  refine List.ext_getElem hl fun i h1 h2 => ?_
  have := h i h1
  unfold dfK at this
  simpa [h1, h2] using this
end Go.Proofs.YtjngkifoaljmaaaGreatDoor
namespace Go.Proofs.YtjngkifoaljmaaaGreatDoor
set_option maxRecDepth 100000
open Go.RowKit
set_option linter.unusedVariables false
theorem below_drew7 {B : Nat} {a w : World} (h : Below B a w) (n : Nat) : Below B a (w.drewN n) := ⟨h.os, h.tape, h.output, h.size, h.block⟩
theorem addr_add7 (g k : Nat) : (⟨g, 0, none⟩ : Addr).add k = ⟨g, k, none⟩ := by
  unfold Addr.add
  split
  · simp_all
  · simp
theorem DfAt.below {w w' : World} {A : Option Addr} {l : List (Int × Int)} (h : DfAt w A l) (hb : Below w.heap.size w w') : DfAt w' A l := by
  rcases h with h | ⟨b, o, h1, h2⟩
  · exact .inl h
  · refine .inr ⟨b, o, h1, fun k hk => ?_⟩
    obtain ⟨g1, g2⟩ := h2 k hk
    exact ⟨(hb.cell (p := ⟨b, o + k * 2, none⟩) (cell_lt g1)).trans g1, (hb.cell (p := ⟨b, o + k * 2 + 1, none⟩) (cell_lt g2)).trans g2⟩
theorem NamesAt.wd {w : World} {base n c : Nat} {names : List ByteArray} {A : Option Addr} (h : NamesAt w base names (.slice A n c)) : WdAt w A names := by
  obtain ⟨A', c', e, ho⟩ := h
  injection e with e1 e2 e3
  subst e1 e2 e3
  rcases ho.2 with ⟨e, _⟩ | ⟨g, cap, cur, e, _⟩
  · injection e with e1 e2 e3
    exact .inl (List.eq_nil_of_length_eq_zero e2)
  · injection e with e1 e2 e3
    subst e1
    refine .inr ⟨g, 0, rfl, fun k hk => ?_⟩
    have := World.ownsRow.cells ho (g := g) rfl k (.string names[k]) (flatStr_get hk)
    unfold wdK
    rw [List.getD_eq_getElem?_getD, List.getElem?_eq_getElem hk]
    rw [addr_add7] at this
    simpa using this
theorem DefsAt.df {w : World} {base n c : Nat} {ds : List (Int × Int)} {A : Option Addr} (h : DefsAt w base ds (.slice A n c)) : DfAt w A ds := by
  obtain ⟨A', c', e, ho⟩ := h
  injection e with e1 e2 e3
  subst e1 e2 e3
  rcases ho.2 with ⟨e, _⟩ | ⟨g, cap, cur, e, _⟩
  · injection e with e1 e2 e3
    exact .inl (List.eq_nil_of_length_eq_zero e2)
  · injection e with e1 e2 e3
    subst e1
    refine .inr ⟨g, 0, rfl, fun k hk => ?_⟩
    have h0 := flat_get (enc := encDef) (sz := 2) (fun x => rfl) (i := 0) hk (by omega)
    have h1 := flat_get (enc := encDef) (sz := 2) (fun x => rfl) (i := 1) hk (by omega)
    have z0 := World.ownsRow.cells ho (g := g) rfl _ (.int .i64 ds[k].1) h0
    have z1 := World.ownsRow.cells ho (g := g) rfl _ (.int .i64 ds[k].2) h1
    unfold dfK
    rw [List.getD_eq_getElem?_getD, List.getElem?_eq_getElem hk]
    rw [addr_add7] at z0 z1
    exact ⟨by simpa using z0, by simpa using z1⟩
theorem outs_plain {l : List ObjD} (hl : l.length ≤ 1000000) (s : ByteArray) : outP (bookM l) s ↔ s.size ≤ maxLen ∧ ∃ q : Nat, q < l.length ∧ outIn (nAt l q) s = true := by
  constructor
  · rintro ⟨i, h1, h2⟩
    obtain ⟨q, hq, e⟩ := wrL_dom h2
    simp only at e
    subst e
    rw [book_out hq] at h2
    exact ⟨h1.1, q, hq, h2⟩
  · rintro ⟨h1, q, hq, h2⟩
    exact ⟨q, ⟨h1, by simp only; omega, by simp only; omega⟩, by rw [book_out hq]; exact h2⟩
theorem outs_gf {names : List ByteArray} (h : ∀ s, s ∈ names ↔ outP (bookM [gD, fD]) s) : cmpN (srtN names) = [⟨#[102]⟩] := by
  obtain ⟨h1, h2⟩ := outs_rise names
  refine names_unique h1 (by simp [rowsB]) fun s => ?_
  rw [h2 s, h s, outs_plain (by simp)]
  constructor
  · rintro ⟨_, q, hq, h3⟩
    have hq2 : q = 0 ∨ q = 1 := by simp at hq; omega
    rcases hq2 with rfl | rfl
    · simp [outIn, nAt, gD] at h3
    · have : (⟨#[102]⟩ : ByteArray) = s := by simpa [outIn, nAt, fD, mtS] using h3
      rw [← this]; simp
  · intro h3
    have h4 : s = ⟨#[102]⟩ := by simpa using h3
    subst h4
    exact ⟨show 1 ≤ maxLen from by unfold maxLen; omega, 1, by simp, by decide +kernel⟩
theorem val_gf : valD (bookM [gD, fD]) [gD, fD].length (⟨#[102]⟩, 0) = (1, 0) := by decide +kernel
theorem used_gf (x : Int × Int) : usedP [gD, fD] x ↔ x = (1, 0) := by
  constructor
  · rintro ⟨⟨s, i⟩, ht, h2, rfl⟩
    obtain ⟨q, hq, _, rfl, r, hr, e2⟩ := (usL_some (Nat.le_refl _)).1 h2
    have hq2 : q = 0 ∨ q = 1 := by simp at hq; omega
    rcases hq2 with rfl | rfl
    · have hr2 : r ∈ gD.rels := hr
      simp only [gD, List.mem_singleton] at hr2
      subst hr2
      subst e2
      exact val_gf
    · have hr2 : r ∈ fD.rels := hr
      simp [fD] at hr2
  · rintro rfl
    exact ⟨(⟨#[102]⟩, 0), ⟨show 1 ≤ maxLen from by unfold maxLen; omega, by simp⟩, (usL_some (Nat.le_refl _)).2 ⟨0, by simp, by simp, rfl, (0, 2, ⟨#[102]⟩, 0), show _ ∈ gD.rels from by simp [gD], rfl⟩, val_gf⟩
/-- two objects in boxes, as a caller lays them -/
structure Box2 (w0 : World) (K bf bg : Nat) (df dg : ObjD) (f0 f1 f2 f3 f4 g0 g1 g2 g3 g4 : Value) (w : World) : Prop where
  kf : bf < K
  kg : bg < K
  rf : w.heap[bf]? = some (.cells #[f0, f1, f2, f3, f4] 59 (0, 0))
  rg : w.heap[bg]? = some (.cells #[g0, g1, g2, g3, g4] 59 (0, 0))
  af : ObjAt w 0 K df (.agg #[f0, f1, f2, f3, f4])
  ag : ObjAt w 0 K dg (.agg #[g0, g1, g2, g3, g4])
  kw : K ≤ w.heap.size
  b : Below w0.heap.size w0 w
theorem Box2.below {w0 w w' : World} {K bf bg : Nat} {df dg : ObjD} {f0 f1 f2 f3 f4 g0 g1 g2 g3 g4 : Value} (h : Box2 w0 K bf bg df dg f0 f1 f2 f3 f4 g0 g1 g2 g3 g4 w) (hb : Below w.heap.size w w') : Box2 w0 K bf bg df dg f0 f1 f2 f3 f4 g0 g1 g2 g3 g4 w' where
  kf := h.kf
  kg := h.kg
  rf := (hb.block _ (Nat.lt_of_lt_of_le h.kf h.kw)).trans h.rf
  rg := (hb.block _ (Nat.lt_of_lt_of_le h.kg h.kw)).trans h.rg
  af := h.af.move (Nat.le_refl _) (Nat.le_refl _) (fun b _ hb' => hb.block b (Nat.lt_of_lt_of_le hb' h.kw))
  ag := h.ag.move (Nat.le_refl _) (Nat.le_refl _) (fun b _ hb' => hb.block b (Nat.lt_of_lt_of_le hb' h.kw))
  kw := Nat.le_trans h.kw hb.size
  b := h.b.trans (hb.mono h.b.size)
theorem Box2.call {w0 w w' : World} {K bf bg : Nat} {df dg : ObjD} {f0 f1 f2 f3 f4 g0 g1 g2 g3 g4 : Value} (h : Box2 w0 K bf bg df dg f0 f1 f2 f3 f4 g0 g1 g2 g3 g4 w) {o : Obj} (hb : Below (w.alloc o).heap.size (w.alloc o) w') : Box2 w0 K bf bg df dg f0 f1 f2 f3 f4 g0 g1 g2 g3 g4 w' :=
  have hs := ((Below.refl w.heap.size w).alloc (Nat.le_refl _) o)
  h.below (hs.trans (hb.mono hs.size))
theorem Box2.tabs {w0 w : World} {K bf bg : Nat} {df dg : ObjD} {f0 f1 f2 f3 f4 g0 g1 g2 g3 g4 : Value} (h : Box2 w0 K bf bg df dg f0 f1 f2 f3 f4 g0 g1 g2 g3 g4 w) (hT : Tabs w0) (o : Obj) : Tabs (w.alloc o) := (hT.below h.b).alloc o
theorem ff_w : ∀ d ∈ [fD, fD], ObjW d := fun d hd => by simp only [List.mem_cons, List.not_mem_nil, or_false, or_self] at hd; rw [hd]; exact fD_w
theorem g_w : ∀ d ∈ [gD], ObjW d := fun d hd => by simp only [List.mem_cons, List.not_mem_nil, or_false] at hd; rw [hd]; exact gD_w
theorem gf_w : ∀ d ∈ [gD, fD], ObjW d := fun d hd => by
  simp only [List.mem_cons, List.not_mem_nil, or_false] at hd
  rcases hd with rfl | rfl
  · exact gD_w
  · exact fD_w
theorem alloc_size7 (w : World) (o : Obj) : (w.alloc o).heap.size = w.heap.size + 1 := Array.size_push ..
theorem cl_gf : clN [gD, fD] = [] := by decide +kernel
theorem vd_gf : vdN [gD, fD] = [] := by decide +kernel
theorem may_gf : mayLs [gD, fD] = true := by decide +kernel
theorem ok_gf : okL [gD, fD] := by
  refine ⟨may_gf, fun x h => ?_, fun x h => ?_⟩
  · have := (mem_clN gf_w (by simp) x).2 h
    rw [cl_gf] at this; cases this
  · have := (mem_vdN gf_w (by simp) x).2 h
    rw [vd_gf] at this; cases this
theorem used_gf_list {ds : List (Int × Int)} (h : ∀ x, x ∈ ds ↔ usedP [gD, fD] x) (h1 : ds.length ≤ 1) : ds = [(1, 0)] := by
  have h2 : (1, 0) ∈ ds := (h _).2 ((used_gf _).2 rfl)
  match ds, h1, h2 with
  | [x], _, h2 => simp only [List.mem_singleton] at h2; rw [← h2]
theorem box2_start (w : World) : ∃ W, W = (((((w.alloc (.cells #[.int .u32 1048691] 45)).alloc (.cells #[.string ⟨#[102]⟩, .bool false, .int .i64 0, .bool true] 52)).alloc (.cells #[.slice (some ⟨w.heap.size, 0, none⟩) 1 1, .slice none 0 0, .slice (some ⟨w.heap.size + 1, 0, none⟩) 1 1, .slice none 0 0, .slice none 0 0] 59)).alloc (.cells #[.int .u32 111] 45)).alloc (.cells #[.int .i64 0, .int .i64 2, .string ⟨#[102]⟩, .int .i64 0] 55)).alloc (.cells #[.slice (some ⟨w.heap.size + 1 + 1 + 1, 0, none⟩) 1 1, .slice none 0 0, .slice none 0 0, .slice (some ⟨w.heap.size + 1 + 1 + 1 + 1, 0, none⟩) 1 1, .slice none 0 0] 59) ∧
    Box2 w (w.heap.size + 6) (w.heap.size + 1 + 1) (w.heap.size + 1 + 1 + 1 + 1 + 1) fD gD (.slice (some ⟨w.heap.size, 0, none⟩) 1 1) (.slice none 0 0) (.slice (some ⟨w.heap.size + 1, 0, none⟩) 1 1) (.slice none 0 0) (.slice none 0 0) (.slice (some ⟨w.heap.size + 1 + 1 + 1, 0, none⟩) 1 1) (.slice none 0 0) (.slice none 0 0) (.slice (some ⟨w.heap.size + 1 + 1 + 1 + 1, 0, none⟩) 1 1) (.slice none 0 0) W := by
  refine ⟨_, rfl, ?_⟩
  generalize h1 : w.alloc (.cells #[.int .u32 1048691] 45) = w1
  have s1 : w1.heap.size = w.heap.size + 1 := by rw [← h1, alloc_size7]
  have x1 := heap_alloc_new w (.cells #[.int .u32 1048691] 45)
  rw [h1] at x1
  have b1 : Below w.heap.size w w1 := by rw [← h1]; exact (Below.refl _ _).alloc (Nat.le_refl _) _
  generalize h2 : w1.alloc (.cells #[.string ⟨#[102]⟩, .bool false, .int .i64 0, .bool true] 52) = w2
  have s2 : w2.heap.size = w.heap.size + 2 := by rw [← h2, alloc_size7, s1]
  have x2 := heap_alloc_new w1 (.cells #[.string ⟨#[102]⟩, .bool false, .int .i64 0, .bool true] 52)
  rw [h2, s1] at x2
  have b2 : Below w1.heap.size w1 w2 := by rw [← h2]; exact (Below.refl _ _).alloc (Nat.le_refl _) _
  generalize h3 : w2.alloc (.cells #[.slice (some ⟨w.heap.size, 0, none⟩) 1 1, .slice none 0 0, .slice (some ⟨w.heap.size + 1, 0, none⟩) 1 1, .slice none 0 0, .slice none 0 0] 59) = w3
  have s3 : w3.heap.size = w.heap.size + 3 := by rw [← h3, alloc_size7, s2]
  have x3 := heap_alloc_new w2 (.cells #[.slice (some ⟨w.heap.size, 0, none⟩) 1 1, .slice none 0 0, .slice (some ⟨w.heap.size + 1, 0, none⟩) 1 1, .slice none 0 0, .slice none 0 0] 59)
  rw [h3, s2] at x3
  have b3 : Below w2.heap.size w2 w3 := by rw [← h3]; exact (Below.refl _ _).alloc (Nat.le_refl _) _
  generalize h4 : w3.alloc (.cells #[.int .u32 111] 45) = w4
  have s4 : w4.heap.size = w.heap.size + 4 := by rw [← h4, alloc_size7, s3]
  have x4 := heap_alloc_new w3 (.cells #[.int .u32 111] 45)
  rw [h4, s3] at x4
  have b4 : Below w3.heap.size w3 w4 := by rw [← h4]; exact (Below.refl _ _).alloc (Nat.le_refl _) _
  generalize h5 : w4.alloc (.cells #[.int .i64 0, .int .i64 2, .string ⟨#[102]⟩, .int .i64 0] 55) = w5
  have s5 : w5.heap.size = w.heap.size + 5 := by rw [← h5, alloc_size7, s4]
  have x5 := heap_alloc_new w4 (.cells #[.int .i64 0, .int .i64 2, .string ⟨#[102]⟩, .int .i64 0] 55)
  rw [h5, s4] at x5
  have b5 : Below w4.heap.size w4 w5 := by rw [← h5]; exact (Below.refl _ _).alloc (Nat.le_refl _) _
  generalize h6 : w5.alloc (.cells #[.slice (some ⟨w.heap.size + 1 + 1 + 1, 0, none⟩) 1 1, .slice none 0 0, .slice none 0 0, .slice (some ⟨w.heap.size + 1 + 1 + 1 + 1, 0, none⟩) 1 1, .slice none 0 0] 59) = w6
  have s6 : w6.heap.size = w.heap.size + 6 := by rw [← h6, alloc_size7, s5]
  have x6 := heap_alloc_new w5 (.cells #[.slice (some ⟨w.heap.size + 1 + 1 + 1, 0, none⟩) 1 1, .slice none 0 0, .slice none 0 0, .slice (some ⟨w.heap.size + 1 + 1 + 1 + 1, 0, none⟩) 1 1, .slice none 0 0] 59)
  rw [h6, s5] at x6
  have b6 : Below w5.heap.size w5 w6 := by rw [← h6]; exact (Below.refl _ _).alloc (Nat.le_refl _) _
  have y1 := ((b6.block w.heap.size (by omega)).trans ((b5.block _ (by omega)).trans ((b4.block _ (by omega)).trans ((b3.block _ (by omega)).trans (b2.block _ (by omega)))))).trans x1
  have y2 := ((b6.block (w.heap.size + 1) (by omega)).trans ((b5.block _ (by omega)).trans ((b4.block _ (by omega)).trans (b3.block _ (by omega))))).trans x2
  have y3 := ((b6.block (w.heap.size + 2) (by omega)).trans ((b5.block _ (by omega)).trans (b4.block _ (by omega)))).trans x3
  have y4 := ((b6.block (w.heap.size + 3) (by omega)).trans (b5.block _ (by omega))).trans x4
  have y5 := (b6.block (w.heap.size + 4) (by omega)).trans x5
  exact { kf := by omega, kg := by omega, rf := y3, rg := x6, af := f_at y1 y2 (by omega) (by omega), ag := g_at y4 y5 (by omega) (by omega), kw := by omega,
          b := b1.trans ((b2.trans ((b3.trans ((b4.trans ((b5.trans (b6.mono (by omega))).mono (by omega))).mono (by omega))).mono (by omega))).mono (by omega)) }
end Go.Proofs.YtjngkifoaljmaaaGreatDoor
