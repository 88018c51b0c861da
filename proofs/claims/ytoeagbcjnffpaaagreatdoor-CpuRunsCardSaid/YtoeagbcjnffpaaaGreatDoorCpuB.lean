/- Layer 5: what show of package cpu does: it puts down what a step shows, if the module runs.
   Layer 5: what change of package cpu does: the other one runs, and it is put down. -/
import Derived.Test.YtoeagbcjnffpaaaGreatDoorCpuA
import Derived.Maps.AppendAt
import Derived.Deep.RegionLaw
import Derived.RegionTactic
import Derived.BigRegion
namespace Go.Proofs.YtoeagbcjnffpaaaGreatDoor
set_option maxRecDepth 100000
open Go.RowKit Go.Maps
set_option linter.unusedVariables false

/-- one element more, as a step of a region that draws -/
theorem step_append_at {P : Program} {ops : Array Oper} {o : Oper} {a : Act} {w : World} {K : Act → World → Prop} {Q : Exit → Act → World → Prop} {E : Prop} (hgd : o.guard = none) (s x : Operand) (t : TypeId)
    (ho : o.op = .call { callee := .builtin .append, args := #[s, x], argTypes := #[t, t] })
    (base : Nat) (e : TypeId) (i : TypeInfo) (z : Value) (size bytes : Nat) (ht : P.underlying t = some (.slice e)) (hi : P.info? e = some i) (hz : i.zero = some z)
    (hsize : i.size = size) (hby : i.bytes = bytes) (hzs : z.cells.size = size) (hsz : 0 < size)
    (v : Value) (n : Nat) (xs : List Value) (hs : a.eval s = v) (hown : w.ownsRow base e size v n xs)
    (ad : Addr) (m c : Nat) (news : List Value) (hx : a.eval x = .slice (some ad) m c) (hl : news.length = m * size) (hnews : ∀ j u, news[j]? = some u → w.cell? (ad.add j) = some u) (h1 : ∀ u ∈ news, u.oneCell' = true)
    (h63 : n + m ≤ maxLen) (hbytes : (n + m) * bytes ≤ 140737488355328) (hbase : base ≤ w.heap.size)
    (h : ∀ v' w', w'.ownsRow base e size v' (n + m) (xs ++ news) → w.grownBy w' v.ownBlock → (v'.ownBlock = v.ownBlock ∨ v'.ownBlock = some w.heap.size) → K (a.put o.dst v') w') :
    if Region.wanted o (yielded ops a.tmps) = true then Oper.wp P o a w K Q else E := by
  have hw : Region.wanted o (yielded ops a.tmps) = true := by simp [Region.wanted, hgd]
  rw [if_pos hw]
  obtain ⟨v', w', hr, h2, h3, h4, h5⟩ := run_append_own_at (P := P) w base t o.type e i z size bytes ht hi hz hsize hby hzs hsz v n xs hown ad m c news hl hnews h1 h63 hbytes hbase
  unfold Oper.wp execOp
  simp only [ho, resolve, invoke, builtin, Sem.run_bind, Sem.run_pure, Result.andThen_ok, List.map_toArray, List.map_cons, List.map_nil, hs, hx, hr]
  exact h v' w' h2 h3 h5
theorem infoLk : (Tryz.prog.info? 91).map (fun i => (i.zero, i.size, i.bytes)) = some (some (.agg #[.int .i64 0, .int .u64 0, .int .u64 0]), 3, 24) := by kernel_rfl
theorem row_apart {w : World} {b1 b2 n1 n2 s1 s2 : Nat} {e1 e2 : TypeId} {v1 v2 : Value} {x1 x2 : List Value} (h1 : w.ownsRow b1 e1 s1 v1 n1 x1) (h2 : w.ownsRow b2 e2 s2 v2 n2 x2) (he : e1 ≠ e2) {b : Nat} (hb : v1.ownBlock = some b) : v2.ownBlock ≠ some b := by
  intro hb2
  obtain ⟨_, _, c1, k1⟩ := ownBlock_lt h1 hb
  obtain ⟨_, _, c2, k2⟩ := ownBlock_lt h2 hb2
  rw [k1] at k2
  cases k2
  exact he rfl
section
variable {w w1 w2 : World} {K : CK} {ve vl v' : Value} {st : St} {F : Nat → Prop}
theorem CpuIs.md_ne (h : CpuIs w K ve vl st) {base n s : Nat} {e : TypeId} {v : Value} {xs : List Value} (hr : w.ownsRow base e s v n xs) {b : Nat} (hb : v.ownBlock = some b) : K.md ≠ b := by
  obtain ⟨_, _, cur, hc⟩ := ownBlock_lt hr hb
  exact fun e => map_ne_cells (es := #[]) (c := 0) e hc h.ops
theorem lt_of_grown {row : Option Nat} (h : w.grownBy w1 row) {b : Nat} (hb : b < w.heap.size) : b < w1.heap.size := Nat.lt_of_lt_of_le hb h.size
/-- the row of what was shown has one more -/
theorem CpuIs.shown (h : CpuIs w K ve vl st) {k a b : Int} (hg : w.grownBy w2 vl.ownBlock) (hr : w2.ownsRow (K.c + 1) 91 3 v' (st.lk.length + 1) (lksL st.lk ++ lkC (k, a, b)))
    (hv : v'.ownBlock = vl.ownBlock ∨ ∃ g, v'.ownBlock = some g ∧ w.heap.size ≤ g) (ho : st.s.own = true) (hl : st.lk.length < 100000000) :
    CpuIs (w2.setCell ⟨K.c, 38, none⟩ v') K ve v' (showC st k a b) := by
  obtain ⟨l0, l1, l2, l3⟩ := h.low
  have hne : ∀ b, vl.ownBlock = some b → K.c < b ∧ K.md ≠ b ∧ ve.ownBlock ≠ some b := fun b hb => ⟨(ownBlock_lt h.lkr hb).2.1, h.md_ne h.lkr hb, row_apart h.lkr h.evr (by decide) hb⟩
  have e : showC st k a b = { st with lk := st.lk ++ [(k, a, b)] } := by unfold showC; rw [if_pos ho]
  rw [e]
  have hB : CpuB w2 K.c K.m (.slice K.EA K.E.length K.ec) st.s ve vl K.md := h.blk.grown hg (fun e => by have := hne _ e.symm; omega)
  have g2 := grown_setCell w2 K.c 38 v'
  have hev := row_kept h.evr hg (fun b hb e => (hne b e.symm).2.2 hb)
  have hmem : MemIs w2 0 K.m K.tb K.tc K.hb K.n K.T K.G st.B := by
    cases ho : vl.ownBlock with
    | none => rw [ho] at hg; exact h.mem.below ⟨hg.os, hg.tape, hg.output, hg.size, fun k hk => hg.block k hk (by simp)⟩
    | some g =>
      rw [ho] at hg
      have := (hne g ho).1
      exact h.mem.kept hg (by omega) (by omega) (by omega) (fun i hi e => by have := l3 i hi; omega)
  have hops := h.ops.kept hg (fun e => (hne _ e.symm).2.1 rfl)
  refine ⟨hB.setLk v', row_kept hev g2 (fun b hb e => ?_), ?_, hmem.kept g2 (by omega) (by omega) (by omega) (fun i hi e => by have := l3 i hi; omega), (h.ent.kept hg (fun b e => .inl (Nat.le_of_lt (hne b e).1))).kept g2 (fun b e => by cases e; exact .inl (Nat.le_refl _)), hops.kept g2 (fun e => ?_), h.wf, h.low, ⟨h.few.1, by simp; omega⟩⟩
  · have := (ownBlock_lt hev hb).2.1; cases e; omega
  · show World.ownsRow _ _ _ 3 v' (st.lk ++ [(k, a, b)]).length (lksL (st.lk ++ [(k, a, b)]))
    rw [lksL_snoc, List.length_append]
    exact row_kept hr g2 (fun b hb e => by have := (ownBlock_lt hr hb).2.1; cases e; omega)
  · exact map_ne_cells (es := #[]) (c := 0) (Option.some.inj e) hB.1 hops
theorem FootIs.shown (h : FootIs w K F ve vl) (hs : w.heap.size ≤ w2.heap.size) (hv : v'.ownBlock = vl.ownBlock ∨ ∃ g, v'.ownBlock = some g ∧ w.heap.size ≤ g) : FootIs w2 K F ve v' := by
  obtain ⟨h1, h2, h3, h4, h5⟩ := h.mono hs
  refine ⟨h1, h2, h3, fun b hb => ?_, h5⟩
  rcases hv with e | ⟨g, e, hg⟩
  · rw [e] at hb; exact h4 b hb
  · rw [e] at hb; cases hb; exact h.2.2.2.2 _ hg
theorem show_out (h : FootIs w K F ve vl) (hg : w.grownBy w2 vl.ownBlock) (v : Value) : Out F w (w2.setCell ⟨K.c, 38, none⟩ v) :=
  (Out.of_grown hg (fun g e => h.2.2.2.1 g e)).trans (Out.of_grown (grown_setCell w2 K.c 38 v) (fun g e => by cases e; exact h.1))
end
theorem row_some {w : World} {base n s : Nat} {e : TypeId} {v : Value} {xs : List Value} (h : w.ownsRow base e s v (n + 1) xs) : ∃ g cap, v = .slice (some ⟨g, 0, none⟩) (n + 1) cap := by
  rcases h.2 with ⟨_, h⟩ | ⟨g, cap, _, h, _⟩
  · omega
  · exact ⟨g, cap, h⟩
theorem CpuIs.blk2 {w w2 : World} {K : CK} {ve vl : Value} {st : St} (h : CpuIs w K ve vl st) (hg : w.grownBy w2 vl.ownBlock) : CpuB w2 K.c K.m (.slice K.EA K.E.length K.ec) st.s ve vl K.md :=
  h.blk.grown hg (fun e => by have := (ownBlock_lt h.lkr e.symm).2.1; omega)
/-- two new blocks and a draw between -/
theorem below_two {w : World} (o o' : Obj) : Below w.heap.size w ((w.alloc o).drew.alloc o') := (bel_drewN ((Below.refl _ w).alloc (Nat.le_refl _) o) 1).alloc (by simp) o'
theorem news_new {w : World} {c : List Value} {t : TypeId} : ∀ j u, c[j]? = some u → (w.alloc (.cells c.toArray t)).cell? ((⟨w.heap.size, 0, none⟩ : Addr).add j) = some u := by
  intro j u h
  rw [add_off, Nat.zero_add, cell_of_row _ _ j _ _ _ (heap_alloc_last w _)]
  simpa using h
theorem news_two {w : World} (o : Obj) (c : List Value) (t : TypeId) : ∀ j u, c[j]? = some u → ((w.alloc o).drew.alloc (.cells c.toArray t)).cell? ((⟨w.heap.size + 1, 0, none⟩ : Addr).add j) = some u := by
  have e : (w.alloc o).drew.heap.size = w.heap.size + 1 := by simp
  rw [← e]
  exact news_new
theorem row_or {v' vl : Value} {a b : Nat} (h : v'.ownBlock = vl.ownBlock ∨ v'.ownBlock = some b) (hb : a ≤ b) : v'.ownBlock = vl.ownBlock ∨ ∃ g, v'.ownBlock = some g ∧ a ≤ g :=
  h.imp id (fun e => ⟨b, e, hb⟩)
/-- it shows what it should -/
def ShowP (w : World) (K : CK) (F : Nat → Prop) (st : St) (e : Ending) (w' : World) : Prop := e = .returned (.tuple #[]) ∧ CpuAt w' K F st ∧ Out F w w'
set_option maxHeartbeats 1000000 in
theorem show_any (K : CK) (F : Nat → Prop) (st : St) (k a b : Int) (w : World) (hA : CpuAt w K F st) (hl : st.lk.length < 100000000) :
    Calls Tryz.prog 80 #[.pointer (some ⟨K.c, 0, none⟩), .agg #[.int .i64 k, .int .u64 a, .int .u64 b]] w (ShowP w K F (showC st k a b)) := by
  obtain ⟨ve, vl, hC, hF⟩ := hA
  have ho := hC.blk.own
  cases hb : st.s.own with
  | false =>
    have HE := Lib.hid (show showC st k a b = st by unfold showC; rw [hb]; rfl)
    have hw0 := (Below.refl w.heap.size w).alloc (Nat.le_refl _) (.cells #[.int .i64 k, .int .u64 a, .int .u64 b] 91)
    have HC := Lib.hid (hC.below hw0)
    have HF := Lib.hid (hF.mono hw0.size)
    have HW := Lib.hid hw0
    have lt := hC.blk.lt
    rw [hb] at ho
    clear hb hw0 hC hF
    go_enter Tryz.func80, Tryz.ntmps80
    go_wp2
    go_end0
    exact ⟨rfl, by rw [HE.out]; exact ⟨ve, vl, HC.out, HF.out⟩, .of_below HW.out⟩
  | true =>
    rw [hb] at ho
    obtain ⟨i0, hi, hz0, hz1, hz2⟩ := info_parts infoLk
    have hw0 := below_two (w := w) (.cells #[.int .i64 k, .int .u64 a, .int .u64 b] 91) (.cells #[.int .i64 k, .int .u64 a, .int .u64 b] 91)
    have HX := Lib.hid (hC.below hw0)
    have HF := Lib.hid (hF.mono hw0.size)
    have HW := Lib.hid hw0
    have HB := Lib.hid hb
    have HL := Lib.hid hl
    have hv := hC.blk.lks
    have lt := hC.blk.lt
    have HN1 := Lib.hid (show st.lk.length + 1 ≤ maxLen by unfold maxLen; omega)
    have HN2 := Lib.hid (show (st.lk.length + 1) * 24 ≤ 140737488355328 by omega)
    have HN3 := Lib.hid (show K.c + 1 ≤ ((w.alloc (.cells #[.int .i64 k, .int .u64 a, .int .u64 b] 91)).drew.alloc (.cells #[.int .i64 k, .int .u64 a, .int .u64 b] 91)).heap.size by simp; omega)
    have HO := Lib.hid (show ∀ u ∈ lkC (k, a, b), u.oneCell' = true by intro u hu; simp [lkC] at hu; rcases hu with rfl | rfl | rfl <;> rfl)
    have HNw := Lib.hid (news_two (w := w) (.cells #[.int .i64 k, .int .u64 a, .int .u64 b] 91) (lkC (k, a, b)) 91)
    clear hb hw0 hC hF hl
    go_enter Tryz.func80, Tryz.ntmps80
    go_wp2
    go_region_law (first | (refine step_append_at rfl _ _ _ rfl (K.c + 1) 91 i0 _ 3 24 Tryz.underlying45 hi hz0 hz1 hz2 rfl (Nat.succ_pos 2) vl st.lk.length (lksL st.lk) rfl HX.out.lkr _ 1 1 (lkC (k, a, b)) rfl rfl HNw.out HO.out HN1.out HN2.out HN3.out ?_; intro v' w2 hr hg hv'; obtain ⟨g, cap, rfl⟩ := row_some hr; have hv2 := (HX.out.blk2 hg).lks; have hf2 := (HX.out.blk2 hg).free 38; have HR := Lib.hid hr; have HG := Lib.hid hg; have HV := Lib.hid hv'; clear hr hg hv'))
    all_goals
      have HV' := Lib.hid (row_or HV.out (Nat.le_refl _))
      go_end0
      exact ⟨rfl, ⟨ve, _, HX.out.shown HG.out HR.out HV'.out HB.out HL.out, (HF.out.shown (v' := .slice (some ⟨g, 0, none⟩) (st.lk.length + 1) cap) HG.out.size HV'.out).mono (by simp [World.setCell])⟩, (Out.of_below HW.out).trans (show_out HF.out HG.out _)⟩
end Go.Proofs.YtoeagbcjnffpaaaGreatDoor
namespace Go.Proofs.YtoeagbcjnffpaaaGreatDoor
set_option maxRecDepth 100000
open Go.RowKit Go.Maps
set_option linter.unusedVariables false

section
variable {w w1 w2 : World} {K : CK} {ve vl v' : Value} {st : St} {F : Nat → Prop}
/-- the row of changes has one more -/
theorem CpuIs.evented (h : CpuIs w K ve vl st) {x : Ev} (hg : w.grownBy w2 ve.ownBlock) (hr : w2.ownsRow (K.c + 1) 88 10 v' (st.ev.length + 1) (evsL st.ev ++ evC x))
    (hl : st.ev.length < 100000000) :
    CpuIs (w2.setCell ⟨K.c, 37, none⟩ v') K v' vl { st with ev := st.ev ++ [x] } := by
  obtain ⟨l0, l1, l2, l3⟩ := h.low
  have hne : ∀ b, ve.ownBlock = some b → K.c < b ∧ K.md ≠ b ∧ vl.ownBlock ≠ some b := fun b hb => ⟨(ownBlock_lt h.evr hb).2.1, h.md_ne h.evr hb, row_apart h.evr h.lkr (by decide) hb⟩
  have hB : CpuB w2 K.c K.m (.slice K.EA K.E.length K.ec) st.s ve vl K.md := h.blk.grown hg (fun e => by have := hne _ e.symm; omega)
  have g2 := grown_setCell w2 K.c 37 v'
  have hlk := row_kept h.lkr hg (fun b hb e => (hne b e.symm).2.2 hb)
  have hmem : MemIs w2 0 K.m K.tb K.tc K.hb K.n K.T K.G st.B := by
    cases ho : ve.ownBlock with
    | none => rw [ho] at hg; exact h.mem.below ⟨hg.os, hg.tape, hg.output, hg.size, fun k hk => hg.block k hk (by simp)⟩
    | some g =>
      rw [ho] at hg
      have := (hne g ho).1
      exact h.mem.kept hg (by omega) (by omega) (by omega) (fun i hi e => by have := l3 i hi; omega)
  have hops := h.ops.kept hg (fun e => (hne _ e.symm).2.1 rfl)
  refine ⟨hB.setEv v', ?_, row_kept hlk g2 (fun b hb e => ?_), hmem.kept g2 (by omega) (by omega) (by omega) (fun i hi e => by have := l3 i hi; omega), (h.ent.kept hg (fun b e => .inl (Nat.le_of_lt (hne b e).1))).kept g2 (fun b e => by cases e; exact .inl (Nat.le_refl _)), hops.kept g2 (fun e => ?_), h.wf, h.low, ⟨by simp; omega, h.few.2⟩⟩
  · show World.ownsRow _ _ _ 10 v' (st.ev ++ [x]).length (evsL (st.ev ++ [x]))
    rw [evsL_snoc, List.length_append]
    exact row_kept hr g2 (fun b hb e => by have := (ownBlock_lt hr hb).2.1; cases e; omega)
  · have := (ownBlock_lt hlk hb).2.1; cases e; omega
  · exact map_ne_cells (es := #[]) (c := 0) (Option.some.inj e) hB.1 hops
theorem FootIs.evented (h : FootIs w K F ve vl) (hs : w.heap.size ≤ w2.heap.size) (hv : v'.ownBlock = ve.ownBlock ∨ ∃ g, v'.ownBlock = some g ∧ w.heap.size ≤ g) : FootIs w2 K F v' vl := by
  obtain ⟨h1, h2, h3, h4, h5⟩ := h.mono hs
  refine ⟨h1, h2, fun b hb => ?_, h4, h5⟩
  rcases hv with e | ⟨g, e, hg⟩
  · rw [e] at hb; exact h3 b hb
  · rw [e] at hb; cases hb; exact h.2.2.2.2 _ hg
theorem event_out (h : FootIs w K F ve vl) (hg : w.grownBy w2 ve.ownBlock) (v : Value) : Out F w (w2.setCell ⟨K.c, 37, none⟩ v) :=
  (Out.of_grown hg (fun g e => h.2.2.1 g e)).trans (Out.of_grown (grown_setCell w2 K.c 37 v) (fun g e => by cases e; exact h.1))
theorem CpuIs.blk3 (h : CpuIs w K ve vl st) (hg : w.grownBy w2 ve.ownBlock) : CpuB w2 K.c K.m (.slice K.EA K.E.length K.ec) st.s ve vl K.md :=
  h.blk.grown hg (fun e => by have := (ownBlock_lt h.evr e.symm).2.1; omega)
end
theorem infoEv : (Tryz.prog.info? 88).map (fun i => (i.zero, i.size, i.bytes)) = some (some (.agg #[.bool false, .int .u64 0, .int .u64 0, .int .u64 0, .int .u64 0, .int .u64 0, .int .u64 0, .int .u64 0, .int .u64 0, .int .u64 0]), 10, 80) := by kernel_rfl
/-- a row of cells copied into another, as a step of a region that draws -/
theorem step_copy_row {P : Program} {ops : Array Oper} {o : Oper} {a : Act} {W : World} {K : Act → World → Prop} {Q : Exit → Act → World → Prop} {E : Prop} (hgd : o.guard = none) (d s : Operand) (dT sT elem : TypeId)
    (ho : o.op = .call { callee := .builtin .copy, args := #[d, s], argTypes := #[dT, sT] }) (g off dLen dCap : Nat) (ad : Addr) (sLen sCap : Nat) (cur : Array Value) (t : TypeId) (cs : List Value)
    (hd : a.eval d = .slice (some ⟨g, off, none⟩) dLen dCap) (hs : a.eval s = .slice (some ad) sLen sCap) (hu : P.underlying dT = some (.slice elem)) (hz : (P.info? elem).map (·.size) = some 1)
    (hg : W.heap[g]? = some (.cells cur t (0, 0))) (hn : cs.length = Nat.min sLen dLen) (hsrc : ∀ j v, cs[j]? = some v → W.cell? (ad.add j) = some v) (hfit : off + cs.length ≤ cur.size) (h1 : ∀ v ∈ cs, v.oneCell' = true)
    (new : Array Value) (hnew : (cur.toList.take off ++ (cs ++ cur.toList.drop (off + cs.length))).toArray = new) (h : ∀ W', W'.heap[g]? = some (.cells new t (0, 0)) → W.grownBy W' (some g) → K (a.put o.dst (goInt cs.length)) W') :
    if Region.wanted o (yielded ops a.tmps) = true then Oper.wp P o a W K Q else E := by
  have hw : Region.wanted o (yielded ops a.tmps) = true := by simp [Region.wanted, hgd]
  rw [if_pos hw]
  have hrun := run_copy_row (P := P) W dT sT o.type elem g off dLen dCap ad sLen sCap cur t cs hu hz hg hn hsrc hfit h1
  unfold Oper.wp
  simp [execOp, ho, resolve, invoke, builtin, hd, hs, hrun, Result.andThen]
  subst hnew
  exact h _ (setRow_heap W g cur _ t _ hg) (grown_setRow W g _)
def argsL (R : List Int) : List Value := [.int .u64 (nth R 10), .int .u64 (nth R 11), .int .u64 (nth R 12), .int .u64 (nth R 13), .int .u64 (nth R 14), .int .u64 (nth R 15), .int .u64 (nth R 16), .int .u64 (nth R 17)]
theorem argsL_eq {R : List Int} (h : R.length = 32) : ((R.drop 10).take 8).map (Value.int .u64) = argsL R := by
  refine List.ext_getElem (by simp [argsL, h]) fun i h1 h2 => ?_
  simp [h] at h1
  obtain rfl | rfl | rfl | rfl | rfl | rfl | rfl | rfl : i = 0 ∨ i = 1 ∨ i = 2 ∨ i = 3 ∨ i = 4 ∨ i = 5 ∨ i = 6 ∨ i = 7 := by omega
  all_goals simp [argsL, nth, h]
theorem CpuB.args {w : World} {c m : Nat} {vE : Value} {s : CS} {ve vl : Value} {md : Nat} (h : CpuB w c m vE s ve vl md) : ∀ j v, (argsL s.R)[j]? = some v → w.cell? ((⟨c, 12, none⟩ : Addr).add j) = some v := by
  intro j v hv
  have hj : j < 8 := (List.getElem?_eq_some_iff.1 hv).1
  rw [add_off, show 12 + j = 2 + (10 + j) by omega, h.reg (by omega)]
  obtain rfl | rfl | rfl | rfl | rfl | rfl | rfl | rfl : j = 0 ∨ j = 1 ∨ j = 2 ∨ j = 3 ∨ j = 4 ∨ j = 5 ∨ j = 6 ∨ j = 7 := by omega
  all_goals (simp [argsL] at hv; rw [← hv])
theorem args_one (R : List Int) : ∀ v ∈ argsL R, v.oneCell' = true := by
  intro v hv
  simp [argsL] at hv
  rcases hv with rfl | rfl | rfl | rfl | rfl | rfl | rfl | rfl <;> rfl
theorem below_setRow {w w' : World} {B g : Nat} (h : Below B w w') (hg : B ≤ g) (cs : Array Value) : Below B w (w'.setRow g cs) :=
  ⟨h.os, h.tape, h.output, by simpa using h.size, fun k hk => (setRow_other w' g k cs (by omega)).trans (h.block k hk)⟩
theorem below_new {w W2 W3 : World} (h : Below w.heap.size w W2) (hg : W2.drew.grownBy W3 (some w.heap.size)) : Below w.heap.size w W3 :=
  ⟨hg.os.trans h.os, hg.tape.trans h.tape, hg.output.trans h.output, Nat.le_trans h.size hg.size, fun k hk => (hg.block k (Nat.lt_of_lt_of_le hk h.size) (by simp; omega)).trans (h.block k hk)⟩
theorem evC_args {b : Bool} {p : Int} {R : List Int} (h : R.length = 32) : evC (b, p, (R.drop 10).take 8) = .bool b :: .int .u64 p :: argsL R := by
  unfold evC; rw [argsL_eq h]
theorem evC_one (e : Ev) : ∀ u ∈ evC e, u.oneCell' = true := by
  intro u hu
  simp only [evC, List.mem_cons, List.mem_map] at hu
  rcases hu with rfl | rfl | ⟨x, _, rfl⟩ <;> rfl
theorem cpu_is {w : World} {K : CK} {ve vl : Value} {a b : St} (e : a = b) (h : CpuIs w K ve vl a) : CpuIs w K ve vl b := e ▸ h
theorem info25s : (Tryz.prog.info? 25).map (·.size) = some 1 := by kernel_rfl
set_option maxHeartbeats 300000 in
theorem change_any (K : CK) (F : Nat → Prop) (st : St) (w : World) (hA : CpuAt w K F st) (hl : st.ev.length < 100000000) :
    Calls Tryz.prog 180 #[.pointer (some ⟨K.c, 0, none⟩)] w (ShowP w K F (changed st)) := by
  obtain ⟨ve, vl, hC, hF⟩ := hA
  have ho := hC.blk.own
  have hf := hC.blk.free 35
  have hT : CpuTo w (w.setCell ⟨K.c, 35, none⟩ (.bool !st.s.own)) K.c K.m (.slice K.EA K.E.length K.ec) { st.s with own := !st.s.own } ve vl K.md := ⟨hC.blk.setOwn _, grown_setCell w K.c 35 _⟩
  have HT := Lib.hid hT
  have HC := Lib.hid (hC.state hT (hC.wf.own _))
  clear hC hT
  go_enter Tryz.func180, Tryz.ntmps180
  go_wp2
  have hz := HT.out.2.size
  have h35 := HT.out.1.own
  have h34 := HT.out.1.pc
  have lt := HT.out.1.lt
  generalize w.setCell ⟨K.c, 35, none⟩ (.bool !st.s.own) = w1 at *
  have H35 := Lib.hid h35
  generalize how : (!st.s.own) = ow at *
  have HE := Lib.hid (show ({ withS st { st.s with own := ow } with ev := st.ev ++ [(ow, st.s.pc, (st.s.R.drop 10).take 8)] } : St) = changed st by rw [← how]; rfl)
  clear how
  have HA := Lib.hid HT.out.1.args
  have HLn := Lib.hid (show (argsL st.s.R).length = Nat.min 8 8 from rfl)
  go_region
  go_wp2
  have HB1 := Lib.hid (show Below w1.heap.size w1 (w1.alloc (.cells #[.bool ow, .int .u64 st.s.pc, .int .u64 0, .int .u64 0, .int .u64 0, .int .u64 0, .int .u64 0, .int .u64 0, .int .u64 0, .int .u64 0] 88)).drew from bel_drewN ((Below.refl w1.heap.size w1).alloc (Nat.le_refl _) (.cells #[.bool ow, .int .u64 st.s.pc, .int .u64 0, .int .u64 0, .int .u64 0, .int .u64 0, .int .u64 0, .int .u64 0, .int .u64 0, .int .u64 0] 88)) 1)
  have Hg := Lib.hid (show (w1.alloc (.cells #[.bool ow, .int .u64 st.s.pc, .int .u64 0, .int .u64 0, .int .u64 0, .int .u64 0, .int .u64 0, .int .u64 0, .int .u64 0, .int .u64 0] 88)).drew.heap[w1.heap.size]? = some (.cells #[.bool ow, .int .u64 st.s.pc, .int .u64 0, .int .u64 0, .int .u64 0, .int .u64 0, .int .u64 0, .int .u64 0, .int .u64 0, .int .u64 0] 88) from heap_alloc_last w1 (.cells #[.bool ow, .int .u64 st.s.pc, .int .u64 0, .int .u64 0, .int .u64 0, .int .u64 0, .int .u64 0, .int .u64 0, .int .u64 0, .int .u64 0] 88))
  generalize (w1.alloc (.cells #[.bool ow, .int .u64 st.s.pc, .int .u64 0, .int .u64 0, .int .u64 0, .int .u64 0, .int .u64 0, .int .u64 0, .int .u64 0, .int .u64 0] 88)).drew = W2 at *
  have Hg2 := Lib.hid (show W2.drew.heap[w1.heap.size]? = some (.cells #[.bool ow, .int .u64 st.s.pc, .int .u64 0, .int .u64 0, .int .u64 0, .int .u64 0, .int .u64 0, .int .u64 0, .int .u64 0, .int .u64 0] 88) from Hg.out)
  have HA2 := Lib.hid (show ∀ j v, (argsL st.s.R)[j]? = some v → W2.drew.cell? ((⟨K.c, 12, none⟩ : Addr).add j) = some v from (HT.out.1.below HB1.out).args)
  have HFit := Lib.hid (show 2 + (argsL st.s.R).length ≤ (#[.bool ow, .int .u64 st.s.pc, .int .u64 0, .int .u64 0, .int .u64 0, .int .u64 0, .int .u64 0, .int .u64 0, .int .u64 0, .int .u64 0] : Array Value).size from Nat.le_refl 10)
  clear HA
  go_region_law (first | (refine step_copy_row rfl _ _ _ _ 25 rfl w1.heap.size 2 8 8 ⟨K.c, 12, none⟩ 8 22 _ 88 (argsL st.s.R) ?hd ?hs Tryz.underlying24 info25s Hg2.out HLn.out HA2.out HFit.out (args_one _) #[.bool ow, .int .u64 st.s.pc, .int .u64 (nth st.s.R 10), .int .u64 (nth st.s.R 11), .int .u64 (nth st.s.R 12), .int .u64 (nth st.s.R 13), .int .u64 (nth st.s.R 14), .int .u64 (nth st.s.R 15), .int .u64 (nth st.s.R 16), .int .u64 (nth st.s.R 17)] rfl ?_; (case hd => simp [go_sem]); (case hs => simp [go_sem]); intro W3 hg3 hgr3))
  have HB3 := Lib.hid (show Below w1.heap.size w1 W3 from below_new HB1.out hgr3)
  have e0 := cell_of_row W3 w1.heap.size 0 _ _ _ hg3
  have e1 := cell_of_row W3 w1.heap.size 1 _ _ _ hg3
  have e2 := cell_of_row W3 w1.heap.size 2 _ _ _ hg3
  have e3 := cell_of_row W3 w1.heap.size 3 _ _ _ hg3
  have e4 := cell_of_row W3 w1.heap.size 4 _ _ _ hg3
  have e5 := cell_of_row W3 w1.heap.size 5 _ _ _ hg3
  have e6 := cell_of_row W3 w1.heap.size 6 _ _ _ hg3
  have e7 := cell_of_row W3 w1.heap.size 7 _ _ _ hg3
  have e8 := cell_of_row W3 w1.heap.size 8 _ _ _ hg3
  have e9 := cell_of_row W3 w1.heap.size 9 _ _ _ hg3
  simp only [List.getElem?_toArray, List.getElem?_cons_zero, List.getElem?_cons_succ] at e0 e1 e2 e3 e4 e5 e6 e7 e8 e9
  clear hg3 hgr3 Hg Hg2 HA2 HFit HB1
  have hXB := (bel_drewN (Below.refl W3.heap.size W3) 1).alloc (Nat.le_refl _) (.cells #[.bool ow, .int .u64 st.s.pc, .int .u64 (nth st.s.R 10), .int .u64 (nth st.s.R 11), .int .u64 (nth st.s.R 12), .int .u64 (nth st.s.R 13), .int .u64 (nth st.s.R 14), .int .u64 (nth st.s.R 15), .int .u64 (nth st.s.R 16), .int .u64 (nth st.s.R 17)] 88)
  have HX := Lib.hid (show CpuIs (W3.drew.alloc (.cells #[.bool ow, .int .u64 st.s.pc, .int .u64 (nth st.s.R 10), .int .u64 (nth st.s.R 11), .int .u64 (nth st.s.R 12), .int .u64 (nth st.s.R 13), .int .u64 (nth st.s.R 14), .int .u64 (nth st.s.R 15), .int .u64 (nth st.s.R 16), .int .u64 (nth st.s.R 17)] 88)) K ve vl (withS st { st.s with own := ow }) from (HC.out.below HB3.out).below hXB)
  have HF3 := Lib.hid (hF.mono (Nat.le_trans HT.out.2.size (HB3.out.trans (hXB.mono HB3.out.size)).size) : FootIs (W3.drew.alloc (.cells #[.bool ow, .int .u64 st.s.pc, .int .u64 (nth st.s.R 10), .int .u64 (nth st.s.R 11), .int .u64 (nth st.s.R 12), .int .u64 (nth st.s.R 13), .int .u64 (nth st.s.R 14), .int .u64 (nth st.s.R 15), .int .u64 (nth st.s.R 16), .int .u64 (nth st.s.R 17)] 88)) K F ve vl)
  have HW := Lib.hid ((Out.of_grown (F := F) HT.out.2 (fun g e => by cases e; exact hF.1)).trans (Out.of_below (HB3.out.trans (hXB.mono HB3.out.size))))
  obtain ⟨i0, hi, hz0, hz1, hz2⟩ := info_parts infoEv
  have HN1 := Lib.hid (show st.ev.length + 1 ≤ maxLen by unfold maxLen; omega)
  have HN2 := Lib.hid (show (st.ev.length + 1) * 80 ≤ 140737488355328 by omega)
  have HN3 := Lib.hid (show K.c + 1 ≤ (W3.drew.alloc (.cells #[.bool ow, .int .u64 st.s.pc, .int .u64 (nth st.s.R 10), .int .u64 (nth st.s.R 11), .int .u64 (nth st.s.R 12), .int .u64 (nth st.s.R 13), .int .u64 (nth st.s.R 14), .int .u64 (nth st.s.R 15), .int .u64 (nth st.s.R 16), .int .u64 (nth st.s.R 17)] 88)).heap.size by have := HB3.out.size; simp; omega)
  have HNw := Lib.hid (show ∀ j u, (evC (ow, st.s.pc, (st.s.R.drop 10).take 8))[j]? = some u → (W3.drew.alloc (.cells #[.bool ow, .int .u64 st.s.pc, .int .u64 (nth st.s.R 10), .int .u64 (nth st.s.R 11), .int .u64 (nth st.s.R 12), .int .u64 (nth st.s.R 13), .int .u64 (nth st.s.R 14), .int .u64 (nth st.s.R 15), .int .u64 (nth st.s.R 16), .int .u64 (nth st.s.R 17)] 88)).cell? ((⟨W3.heap.size, 0, none⟩ : Addr).add j) = some u by
    rw [evC_args HT.out.1.2]; exact news_new (w := W3.drew))
  have HO := Lib.hid (evC_one (ow, st.s.pc, (st.s.R.drop 10).take 8))
  have HLe := Lib.hid (show (evC (ow, st.s.pc, (st.s.R.drop 10).take 8)).length = 1 * 10 by rw [evC_args HT.out.1.2]; rfl)
  have HL := Lib.hid hl
  have hv := (HT.out.1.below HB3.out).evs
  have lt3 : K.c < W3.heap.size := Nat.lt_of_lt_of_le lt HB3.out.size
  clear hXB hF hl h35 h34 ho hf HLn lt hz H35
  go_wp2
  go_region_law (first | (refine step_append_at rfl _ _ _ rfl (K.c + 1) 88 i0 _ 10 80 Tryz.underlying44 hi hz0 hz1 hz2 rfl (Nat.succ_pos 9) ve st.ev.length (evsL st.ev) ?hs HX.out.evr _ 1 1 (evC (ow, st.s.pc, (st.s.R.drop 10).take 8)) ?hx HLe.out HNw.out HO.out HN1.out HN2.out HN3.out ?_; (case hs => simp [go_sem]); (case hx => simp [go_sem]); intro v' w2 hr hg hv'; obtain ⟨g, cap, rfl⟩ := row_some hr; have hv2 := (HX.out.blk3 hg).evs; have hf2 := (HX.out.blk3 hg).free 37; have HR := Lib.hid hr; have HG := Lib.hid hg; have HV := Lib.hid hv'; clear hr hg hv'))
  all_goals
    have HV' := Lib.hid (row_or HV.out (Nat.le_refl _))
    go_end0
    exact ⟨rfl, ⟨_, vl, cpu_is HE.out (HX.out.evented HG.out HR.out HL.out), (HF3.out.evented (v' := .slice (some ⟨g, 0, none⟩) (st.ev.length + 1) cap) HG.out.size HV'.out).mono (by simp [World.setCell])⟩, HW.out.trans (event_out HF3.out HG.out _)⟩
end Go.Proofs.YtoeagbcjnffpaaaGreatDoor
