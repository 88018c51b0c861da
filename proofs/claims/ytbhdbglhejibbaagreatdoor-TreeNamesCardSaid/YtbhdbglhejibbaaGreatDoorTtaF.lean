/- Layer 10: a map with string keys gets another key. No condition.
   Layer 10: a reader's first two maps. No condition.
   Layer 10: how a reader begins: its block, the maps of items and of parameters. No condition.
   Layer 10: a reader as its maps fill. No condition.
   Layer 10: newReader. Condition: the tables read as they should.
   Layer 10: newReader. Condition: the tables read as they should. -/
import Derived.Test.YtbhdbglhejibbaaGreatDoorTsaA
import Derived.Test.YtbhdbglhejibbaaGreatDoorTtaA
namespace Go.Proofs.YtbhdbglhejibbaaGreatDoor
set_option maxRecDepth 100000
open Go.RowKit
set_option linter.unusedVariables false
theorem StrAt.put {w : World} {M T E : TypeId} {m : Nat} {L : List (ByteArray × Value)} (h : StrAt w m L) (hM : Tryz.prog.underlying M = some (.map T E)) (hT : Tryz.prog.underlying T = some .string) (s : ByteArray) (v : Value) (hs : strF L s = none) :
    ∃ w', (Instr.mapUpdate M (.map (some m)) (.string s) v).run Tryz.prog w = .ok () w' ∧ StrAt w' m (L ++ [(s, v)]) ∧ w.grownBy w' (some m) := by
  obtain ⟨es, c, hb, hk⟩ := h
  obtain ⟨r, hr, h2⟩ := find_str es.toList L 0 hk (s := s)
  have hr0 : r = none := by
    cases r with
    | none => rfl
    | some x => rw [hs] at h2; cases h2
  subst hr0
  have hch : ∀ em, (Instr.checkKey em 10000 T (.string s)).run Tryz.prog w = .ok () w := fun em => by
    rw [show (10000 : Nat) = 9999 + 1 from rfl, Instr.checkKey]
    simp [run_underlying hT]
  have hf : (Instr.findKey T (.string s) es.toList).run Tryz.prog w = .ok none w := by
    unfold Instr.findKey
    simp only [Sem.run_bind, run_underlying hT, Result.andThen_ok, hr, Sem.run_pure]
  have hgr : ∀ o, w.grownBy { w with heap := w.heap.setIfInBounds m o } (some m) := fun o => ⟨rfl, rfl, rfl, by simp, fun i _ hi => (theap_set hb).2 i (fun e => hi (by rw [e]))⟩
  refine ⟨{ w with heap := w.heap.setIfInBounds m (.map (es.push { key := .string s, val := v, born := c }) (c + 1)) }, ?_, ⟨_, _, (theap_set hb).1, ?_⟩, hgr _⟩
  · unfold Instr.mapUpdate
    simp only [Sem.run_bind, run_underlying hM, Result.andThen_ok, tget_map hb, hch, hf]
    exact tset_map _ hb
  · simp [hk]
theorem strF_fresh {L : List (ByteArray × Value)} {k : Nat} (hn : (L.map (·.1)).Nodup) (hk : k < L.length) : strF (L.take k) L[k].1 = none := by
  unfold strF
  rw [Option.map_eq_none_iff, List.find?_eq_none]
  intro x hx
  obtain ⟨j, hj, rfl⟩ := List.mem_iff_getElem.1 hx
  rw [List.length_take] at hj
  rw [List.getElem_take]
  have := (List.pairwise_iff_getElem.1 hn) j k (by rw [List.length_map]; omega) (by rw [List.length_map]; omega) (by omega)
  rw [List.getElem_map, List.getElem_map] at this
  simpa using this
theorem keysI (r : Nat) : ((itemsL r).map (·.1)).Nodup := by
  show [wSecret, wFun, wExport].Nodup
  decide
theorem keysP (r : Nat) : ((paramsL r).map (·.1)).Nodup := by
  show [wSec, wPtr].Nodup
  decide
theorem keysS (r : Nat) : ((stmtsL r).map (·.1)).Nodup := by
  have : (stmtsL r).map (·.1) = (List.range 5).map (fun (k : Nat) => stmW (k : Int)) := by unfold stmtsL; rw [List.map_map]; rfl
  rw [this]
  decide +kernel
theorem keysE (r : Nat) : ((exprsL r).map (·.1)).Nodup := by
  have : (exprsL r).map (·.1) = kinL.map (·.1) := by unfold exprsL; rw [List.map_map]; rfl
  rw [this]
  decide +kernel
end Go.Proofs.YtbhdbglhejibbaaGreatDoor
namespace Go.Proofs.YtbhdbglhejibbaaGreatDoor
set_option maxRecDepth 100000
open Go.RowKit
set_option linter.unusedVariables false
theorem StrAt.grown {w w' : World} {m m2 : Nat} {L : List (ByteArray × Value)} (h : StrAt w m L) (hg : w.grownBy w' (some m2)) (hne : m ≠ m2) : StrAt w' m L := h.move (hg.block m h.lt (fun e => hne (Option.some.inj e)))
theorem StrAt.new {w : World} {c : Nat} : StrAt (w.alloc (.map #[] c)) w.heap.size [] := ⟨#[], c, heap_alloc_new w (.map #[] c), rfl⟩
/-- three keys put into a new map -/
theorem put_three {w : World} {M E : TypeId} (hM : Tryz.prog.underlying M = some (.map 9 E)) (k1 k2 k3 : ByteArray) (v1 v2 v3 : Value) (h12 : k1 ≠ k2) (h13 : k1 ≠ k3) (h23 : k2 ≠ k3) {m : Nat} (h : StrAt w m []) :
    ∃ w1 w2 w3, (Instr.mapUpdate M (.map (some m)) (.string k1) v1).run Tryz.prog w = .ok () w1 ∧ (Instr.mapUpdate M (.map (some m)) (.string k2) v2).run Tryz.prog w1 = .ok () w2 ∧ (Instr.mapUpdate M (.map (some m)) (.string k3) v3).run Tryz.prog w2 = .ok () w3 ∧ StrAt w3 m [(k1, v1), (k2, v2), (k3, v3)] ∧
      (∀ b, b < w.heap.size → b ≠ m → w3.heap[b]? = w.heap[b]?) ∧ w3.os = w.os ∧ w3.tape = w.tape ∧ w3.output = w.output ∧ w.heap.size ≤ w3.heap.size := by
  obtain ⟨w1, e1, s1, g1⟩ := h.put hM rfl k1 v1 rfl
  obtain ⟨w2, e2, s2, g2⟩ := s1.put hM rfl k2 v2 (by unfold strF; simp [h12])
  obtain ⟨w3, e3, s3, g3⟩ := s2.put hM rfl k3 v3 (by unfold strF; simp [h13, h23])
  have n1 := g1.size
  have n2 := g2.size
  have n3 := g3.size
  refine ⟨w1, w2, w3, e1, e2, e3, by simpa using s3, fun b hb hm => ?_, by rw [g3.os, g2.os, g1.os], by rw [g3.tape, g2.tape, g1.tape], by rw [g3.output, g2.output, g1.output], by omega⟩
  have hne : some b ≠ some m := fun e => hm (Option.some.inj e)
  rw [g3.block b (by omega) hne, g2.block b (by omega) hne, g1.block b hb hne]
theorem put_two {w : World} {M E : TypeId} (hM : Tryz.prog.underlying M = some (.map 9 E)) (k1 k2 : ByteArray) (v1 v2 : Value) (h12 : k1 ≠ k2) {m : Nat} (h : StrAt w m []) :
    ∃ w1 w2, (Instr.mapUpdate M (.map (some m)) (.string k1) v1).run Tryz.prog w = .ok () w1 ∧ (Instr.mapUpdate M (.map (some m)) (.string k2) v2).run Tryz.prog w1 = .ok () w2 ∧ StrAt w2 m [(k1, v1), (k2, v2)] ∧
      (∀ b, b < w.heap.size → b ≠ m → w2.heap[b]? = w.heap[b]?) ∧ w2.os = w.os ∧ w2.tape = w.tape ∧ w2.output = w.output ∧ w.heap.size ≤ w2.heap.size := by
  obtain ⟨w1, e1, s1, g1⟩ := h.put hM rfl k1 v1 rfl
  obtain ⟨w2, e2, s2, g2⟩ := s1.put hM rfl k2 v2 (by unfold strF; simp [h12])
  have n1 := g1.size
  have n2 := g2.size
  refine ⟨w1, w2, e1, e2, by simpa using s2, fun b hb hm => ?_, by rw [g2.os, g1.os], by rw [g2.tape, g1.tape], by rw [g2.output, g1.output], by omega⟩
  have hne : some b ≠ some m := fun e => hm (Option.some.inj e)
  rw [g2.block b (by omega) hne, g1.block b hb hne]
end Go.Proofs.YtbhdbglhejibbaaGreatDoor
namespace Go.Proofs.YtbhdbglhejibbaaGreatDoor
set_option maxRecDepth 100000
open Go.RowKit
set_option linter.unusedVariables false
/-- a reader whose first two maps are whole: its statements' and its expressions' map are empty -/
structure NrA (w : World) (n : Nat) (W : World) : Prop where
  base : Below w.heap.size w W
  blk : W.heap[w.heap.size + 1 + 1]? = some (.cells #[.map (some (w.heap.size + 1 + 1 + 1)), .map (some n), .map (some w.heap.size), .map (some (w.heap.size + 1))] 106 (0, 0))
  items : StrAt W (w.heap.size + 1 + 1 + 1) (itemsL (w.heap.size + 1 + 1))
  params : StrAt W n (paramsL (w.heap.size + 1 + 1))
  stmts : StrAt W w.heap.size []
  exprs : StrAt W (w.heap.size + 1) []
  far : w.heap.size + 1 + 1 + 1 < n
def nr4 (w : World) : World := (((w.alloc (.map #[] 0)).alloc (.map #[] 0)).alloc (.cells #[.map none, .map none, .map (some w.heap.size), .map (some (w.heap.size + 1))] 106)).alloc (.map #[] 0)
def fnR (f : FuncId) (r : Nat) : Value := .func (.func f) #[.pointer (some ⟨r, 0, none⟩)] #[]
theorem nr_first (w : World) : ∃ w1 w2 w3 v1 v2,
    (Instr.mapUpdate 103 (.map (some (w.heap.size + 1 + 1 + 1))) (.string wSecret) (fnR 50 (w.heap.size + 1 + 1))).run Tryz.prog (nr4 w) = .ok () w1 ∧
    (Instr.mapUpdate 103 (.map (some (w.heap.size + 1 + 1 + 1))) (.string wFun) (fnR 51 (w.heap.size + 1 + 1))).run Tryz.prog w1 = .ok () w2 ∧
    (Instr.mapUpdate 103 (.map (some (w.heap.size + 1 + 1 + 1))) (.string wExport) (fnR 52 (w.heap.size + 1 + 1))).run Tryz.prog w2 = .ok () w3 ∧
    w3.heap[w.heap.size + 1 + 1]? = some (.cells #[.map none, .map none, .map (some w.heap.size), .map (some (w.heap.size + 1))] 106 (0, 0)) ∧
    (Instr.mapUpdate 104 (.map (some w3.heap.size)) (.string wSec) (fnR 53 (w.heap.size + 1 + 1))).run Tryz.prog ((w3.setCell ⟨w.heap.size + 1 + 1, 0, none⟩ (.map (some (w.heap.size + 1 + 1 + 1)))).alloc (.map #[] 0)) = .ok () v1 ∧
    (Instr.mapUpdate 104 (.map (some w3.heap.size)) (.string wPtr) (fnR 54 (w.heap.size + 1 + 1))).run Tryz.prog v1 = .ok () v2 ∧
    v2.heap[w.heap.size + 1 + 1]? = some (.cells #[.map (some (w.heap.size + 1 + 1 + 1)), .map none, .map (some w.heap.size), .map (some (w.heap.size + 1))] 106 (0, 0)) ∧
    NrA w w3.heap.size (v2.setCell ⟨w.heap.size + 1 + 1, 1, none⟩ (.map (some w3.heap.size))) := by
  have hb0 : Below w.heap.size w (nr4 w) := ((((Below.refl w.heap.size w).alloc (Nat.le_refl _) (.map #[] 0)).alloc (by simp) (.map #[] 0)).alloc (by simp; omega) (.cells #[.map none, .map none, .map (some w.heap.size), .map (some (w.heap.size + 1))] 106)).alloc (by simp; omega) (.map #[] 0)
  obtain ⟨g1, g2, _, _⟩ := two_new w (.map #[] 0) (.map #[] 0)
  have g3 := heap_alloc_new ((w.alloc (.map #[] 0)).alloc (.map #[] 0)) (.cells #[.map none, .map none, .map (some w.heap.size), .map (some (w.heap.size + 1))] 106)
  rw [show ((w.alloc (.map #[] 0)).alloc (.map #[] 0)).heap.size = w.heap.size + 1 + 1 by simp] at g3
  have g1 := (heap_alloc_old _ (.cells #[.map none, .map none, .map (some w.heap.size), .map (some (w.heap.size + 1))] 106) (Array.getElem?_eq_some_iff.1 g1).1).trans g1
  have g2 := (heap_alloc_old _ (.cells #[.map none, .map none, .map (some w.heap.size), .map (some (w.heap.size + 1))] 106) (Array.getElem?_eq_some_iff.1 g2).1).trans g2
  have hN := StrAt.new (w := (((w.alloc (.map #[] 0)).alloc (.map #[] 0)).alloc (.cells #[.map none, .map none, .map (some w.heap.size), .map (some (w.heap.size + 1))] 106))) (c := 0)
  have g1 := (heap_alloc_old _ (.map #[] 0) (Array.getElem?_eq_some_iff.1 g1).1).trans g1
  have g2 := (heap_alloc_old _ (.map #[] 0) (Array.getElem?_eq_some_iff.1 g2).1).trans g2
  have g3 := (heap_alloc_old _ (.map #[] 0) (Array.getElem?_eq_some_iff.1 g3).1).trans g3
  rw [show (((w.alloc (.map #[] 0)).alloc (.map #[] 0)).alloc (.cells #[.map none, .map none, .map (some w.heap.size), .map (some (w.heap.size + 1))] 106)).heap.size = w.heap.size + 1 + 1 + 1 by simp] at hN
  have hs4 : (nr4 w).heap.size = w.heap.size + 1 + 1 + 1 + 1 := by unfold nr4; simp
  change (nr4 w).heap[_]? = _ at g1 g2 g3
  change StrAt (nr4 w) _ _ at hN
  obtain ⟨w1, w2, w3, e1, e2, e3, st3, k3, o3, t3, u3, n3⟩ := put_three (M := 103) Tryz.underlying103 wSecret wFun wExport (fnR 50 (w.heap.size + 1 + 1)) (fnR 51 (w.heap.size + 1 + 1)) (fnR 52 (w.heap.size + 1 + 1)) (by decide) (by decide) (by decide) hN
  have c3 := (k3 (w.heap.size + 1 + 1) (by omega) (by omega)).trans g3
  have hp := StrAt.new (w := w3.setCell ⟨w.heap.size + 1 + 1, 0, none⟩ (.map (some (w.heap.size + 1 + 1 + 1)))) (c := 0)
  rw [show (w3.setCell ⟨w.heap.size + 1 + 1, 0, none⟩ (.map (some (w.heap.size + 1 + 1 + 1)))).heap.size = w3.heap.size by simp] at hp
  obtain ⟨v1, v2, a1, a2, sp, kp, op, tp, up, np⟩ := put_two (M := 104) Tryz.underlying104 wSec wPtr (fnR 53 (w.heap.size + 1 + 1)) (fnR 54 (w.heap.size + 1 + 1)) (by decide) hp
  have hsz : ((w3.setCell ⟨w.heap.size + 1 + 1, 0, none⟩ (.map (some (w.heap.size + 1 + 1 + 1)))).alloc (.map #[] 0)).heap.size = w3.heap.size + 1 := by simp
  have kk : ∀ b, b < w3.heap.size → v2.heap[b]? = (w3.setCell ⟨w.heap.size + 1 + 1, 0, none⟩ (.map (some (w.heap.size + 1 + 1 + 1)))).heap[b]? := fun b hb => (kp b (by omega) (by omega)).trans (heap_alloc_old _ _ (by simpa using hb))
  have kq : ∀ b, b < (nr4 w).heap.size → b ≠ w.heap.size + 1 + 1 → b ≠ w.heap.size + 1 + 1 + 1 → v2.heap[b]? = (nr4 w).heap[b]? := fun b hb h1 h2 => ((kk b (by omega)).trans (heap_set_off h1)).trans (k3 b hb h2)
  have c4 : v2.heap[w.heap.size + 1 + 1]? = some (.cells #[.map (some (w.heap.size + 1 + 1 + 1)), .map none, .map (some w.heap.size), .map (some (w.heap.size + 1))] 106 (0, 0)) := by
    rw [kk _ (by omega), heap_setCell_same _ _ 0 _ _ _ c3]; rfl
  have ks : ∀ b, b ≠ w.heap.size + 1 + 1 → (v2.setCell ⟨w.heap.size + 1 + 1, 1, none⟩ (.map (some w3.heap.size))).heap[b]? = v2.heap[b]? := fun b hb => heap_set_off hb
  have hB2 : Below w.heap.size w v2 := ⟨by rw [op]; exact o3.trans hb0.os, by rw [tp]; exact t3.trans hb0.tape, by rw [up]; exact u3.trans hb0.output, by omega, fun b hb => (kq b (by omega) (by omega) (by omega)).trans (hb0.block b hb)⟩
  refine ⟨w1, w2, w3, v1, v2, e1, e2, e3, c3, a1, a2, c4, ⟨tbelow_set hB2 (by omega), by rw [heap_setCell_same _ _ 1 _ _ _ c4]; rfl, (st3.move (((ks _ (by omega)).trans (kk _ (by omega))).trans (heap_set_off (by omega)))), sp.move (ks _ (by omega)), ?_, ?_, by omega⟩⟩
  · exact ⟨#[], 0, ((ks _ (by omega)).trans (kq _ (by omega) (by omega) (by omega))).trans g1, rfl⟩
  · exact ⟨#[], 0, ((ks _ (by omega)).trans (kq _ (by omega) (by omega) (by omega))).trans g2, rfl⟩
end Go.Proofs.YtbhdbglhejibbaaGreatDoor
namespace Go.Proofs.YtbhdbglhejibbaaGreatDoor
set_option maxRecDepth 100000
open Go.RowKit
set_option linter.unusedVariables false
/-- a reader whose statements' and expressions' maps hold ss and es -/
structure NrG (w : World) (n : Nat) (W : World) (ss es : List (ByteArray × Value)) : Prop where
  base : Below w.heap.size w W
  blk : W.heap[w.heap.size + 1 + 1]? = some (.cells #[.map (some (w.heap.size + 1 + 1 + 1)), .map (some n), .map (some w.heap.size), .map (some (w.heap.size + 1))] 106 (0, 0))
  items : StrAt W (w.heap.size + 1 + 1 + 1) (itemsL (w.heap.size + 1 + 1))
  params : StrAt W n (paramsL (w.heap.size + 1 + 1))
  stmts : StrAt W w.heap.size ss
  exprs : StrAt W (w.heap.size + 1) es
  far : w.heap.size + 1 + 1 + 1 < n
theorem NrA.g {w W : World} {n : Nat} (h : NrA w n W) : NrG w n W [] [] := ⟨h.base, h.blk, h.items, h.params, h.stmts, h.exprs, h.far⟩
section
variable {w W W' : World} {n : Nat} {ss es : List (ByteArray × Value)}
theorem NrG.below (h : NrG w n W ss es) (hb : Below W.heap.size W W') : NrG w n W' ss es where
  base := h.base.trans (hb.mono h.base.size)
  blk := (hb.block _ (Array.getElem?_eq_some_iff.1 h.blk).1).trans h.blk
  items := h.items.move (hb.block _ h.items.lt)
  params := h.params.move (hb.block _ h.params.lt)
  stmts := h.stmts.move (hb.block _ h.stmts.lt)
  exprs := h.exprs.move (hb.block _ h.exprs.lt)
  far := h.far
theorem NrG.low (h : NrG w n W ss es) {m : Nat} (hm : w.heap.size ≤ m) (hg : W.grownBy W' (some m)) : Below w.heap.size w W' :=
  h.base.trans ⟨hg.os, hg.tape, hg.output, hg.size, fun b hb => hg.block b (by have := h.base.size; omega) (fun e => by have := Option.some.inj e; omega)⟩
theorem NrG.putS (h : NrG w n W ss es) (s : ByteArray) (v : Value) (hs : strF ss s = none) :
    ∃ W', (Instr.mapUpdate 101 (.map (some w.heap.size)) (.string s) v).run Tryz.prog W = .ok () W' ∧ NrG w n W' (ss ++ [(s, v)]) es := by
  obtain ⟨W', e, h1, hg⟩ := h.stmts.put Tryz.underlying101 Tryz.underlying9 s v hs
  have hf := h.far
  have hk : ∀ b, b < W.heap.size → b ≠ w.heap.size → W'.heap[b]? = W.heap[b]? := fun b hb hne => hg.block b hb (fun e => hne (Option.some.inj e))
  exact ⟨W', e, h.low (Nat.le_refl _) hg, (hk _ (Array.getElem?_eq_some_iff.1 h.blk).1 (by omega)).trans h.blk, h.items.move (hk _ h.items.lt (by omega)), h.params.move (hk _ h.params.lt (by omega)), h1, h.exprs.move (hk _ h.exprs.lt (by omega)), hf⟩
theorem NrG.putE (h : NrG w n W ss es) (s : ByteArray) (v : Value) (hs : strF es s = none) :
    ∃ W', (Instr.mapUpdate 102 (.map (some (w.heap.size + 1))) (.string s) v).run Tryz.prog W = .ok () W' ∧ NrG w n W' ss (es ++ [(s, v)]) := by
  obtain ⟨W', e, h1, hg⟩ := h.exprs.put Tryz.underlying102 Tryz.underlying9 s v hs
  have hf := h.far
  have hk : ∀ b, b < W.heap.size → b ≠ w.heap.size + 1 → W'.heap[b]? = W.heap[b]? := fun b hb hne => hg.block b hb (fun e => hne (Option.some.inj e))
  exact ⟨W', e, h.low (by omega) hg, (hk _ (Array.getElem?_eq_some_iff.1 h.blk).1 (by omega)).trans h.blk, h.items.move (hk _ h.items.lt (by omega)), h.params.move (hk _ h.params.lt (by omega)), h.stmts.move (hk _ h.stmts.lt (by omega)), h1, hf⟩
/-- a reader whose maps are full -/
theorem NrG.done (hT : TrT w) (hL : LxT w) (h : NrG w n W (stmtsL (w.heap.size + 1 + 1)) (exprsL (w.heap.size + 1 + 1))) : RdIs ⟨w, w.heap.size + 1 + 1, w.heap.size + 1 + 1 + 1, n, w.heap.size, w.heap.size + 1, W.heap.size⟩ W where
  tab := hT
  lib := hL
  base := h.base
  low := h.base.size
  top := Nat.le_refl _
  blk := h.blk
  items := h.items
  params := h.params
  stmts := h.stmts
  exprs := h.exprs
  tops := ⟨(Array.getElem?_eq_some_iff.1 h.blk).1, h.items.lt, h.params.lt, h.stmts.lt, h.exprs.lt⟩
end
end Go.Proofs.YtbhdbglhejibbaaGreatDoor
namespace Go.Proofs.YtbhdbglhejibbaaGreatDoor
set_option maxRecDepth 100000
open Go.RowKit
set_option linter.unusedVariables false
theorem stmtsL_len (r : Nat) : (stmtsL r).length = 5 := by unfold stmtsL; simp
theorem stmtsL_at (r k : Nat) (hk : k < 5) : (stmtsL r)[k]'(by rw [stmtsL_len]; exact hk) = (stmW (k : Int), .func (.func 55) #[stV8 r k] #[]) := by unfold stmtsL; simp
theorem exprsL_len (r : Nat) : (exprsL r).length = 17 := by unfold exprsL kinL; simp
theorem exprsL_at (r k : Nat) (hk : k < 17) (h2 : k < kinL.length) : (exprsL r)[k]'(by rw [exprsL_len]; exact hk) = (kinL[k].1, .func (.func 56) #[exV8 r kinL[k].2] #[]) := by unfold exprsL; simp
/-- the next statement's form is put into its map -/
theorem NrG.nextS {w W : World} {n k : Nat} {es : List (ByteArray × Value)} (h : NrG w n W ((stmtsL (w.heap.size + 1 + 1)).take k) es) (hk : k < 5) :
    ∃ W', (Instr.mapUpdate 101 (.map (some w.heap.size)) (.string (stmW k)) (.func (.func 55) #[stV8 (w.heap.size + 1 + 1) k] #[])).run Tryz.prog W = .ok () W' ∧ NrG w n W' ((stmtsL (w.heap.size + 1 + 1)).take (k + 1)) es := by
  have hl : k < (stmtsL (w.heap.size + 1 + 1)).length := by rw [stmtsL_len]; exact hk
  have hf := strF_fresh (keysS (w.heap.size + 1 + 1)) hl
  have he := stmtsL_at (w.heap.size + 1 + 1) k hk
  rw [he] at hf
  obtain ⟨W', h1, h2⟩ := h.putS _ (.func (.func 55) #[stV8 (w.heap.size + 1 + 1) k] #[]) hf
  refine ⟨W', h1, ?_⟩
  rw [List.take_succ_eq_append_getElem hl, he]
  exact h2
theorem NrG.nextE {w W : World} {n k : Nat} {ss : List (ByteArray × Value)} (h : NrG w n W ss ((exprsL (w.heap.size + 1 + 1)).take k)) (hk : k < 17) (s : ByteArray) (x : Int × Int × Bool) (hx : kinL[k]? = some (s, x)) :
    ∃ W', (Instr.mapUpdate 102 (.map (some (w.heap.size + 1))) (.string s) (.func (.func 56) #[exV8 (w.heap.size + 1 + 1) x] #[])).run Tryz.prog W = .ok () W' ∧ NrG w n W' ss ((exprsL (w.heap.size + 1 + 1)).take (k + 1)) := by
  have hl : k < (exprsL (w.heap.size + 1 + 1)).length := by rw [exprsL_len]; exact hk
  have hf := strF_fresh (keysE (w.heap.size + 1 + 1)) hl
  obtain ⟨h2, e2⟩ := List.getElem?_eq_some_iff.1 hx
  have he := exprsL_at (w.heap.size + 1 + 1) k hk h2
  rw [e2] at he
  rw [he] at hf
  obtain ⟨W', h1, h3⟩ := h.putE _ (.func (.func 56) #[exV8 (w.heap.size + 1 + 1) x] #[]) hf
  refine ⟨W', h1, ?_⟩
  rw [List.take_succ_eq_append_getElem hl, he]
  exact h3
theorem kin_four (k : Nat) (hk : k < 4) : ∃ s q b, kinL[k]? = some (s, q, 0, b) ∧ (q = 2 ∨ q = 4 ∨ q = 5 ∨ q = 6) ∧ s = expW q ∧ b = (expR q.toNat).2.1 ∧ (∀ w, (Instr.index 115 (.agg #[.int .i64 2, .int .i64 4, .int .i64 5, .int .i64 6]) (.int .i64 k)).run Tryz.prog w = .ok (.int .i64 q) w) := by
  match k, hk with
  | 0, _ => exact ⟨_, _, _, rfl, by simp, rfl, rfl, fun w => by kernel_rfl⟩
  | 1, _ => exact ⟨_, _, _, rfl, by simp, rfl, rfl, fun w => by kernel_rfl⟩
  | 2, _ => exact ⟨_, _, _, rfl, by simp, rfl, rfl, fun w => by kernel_rfl⟩
  | 3, _ => exact ⟨_, _, _, rfl, by simp, rfl, rfl, fun w => by kernel_rfl⟩
theorem kin_ops (k : Nat) (hk : k < 13) : kinL[4 + k]? = some (opsW k, 3, (opsR k).2, false) := by
  match k, hk with
  | 0, _ => rfl
  | 1, _ => rfl
  | 2, _ => rfl
  | 3, _ => rfl
  | 4, _ => rfl
  | 5, _ => rfl
  | 6, _ => rfl
  | 7, _ => rfl
  | 8, _ => rfl
  | 9, _ => rfl
  | 10, _ => rfl
  | 11, _ => rfl
  | 12, _ => rfl
end Go.Proofs.YtbhdbglhejibbaaGreatDoor
namespace Go.Proofs.YtbhdbglhejibbaaGreatDoor
set_option maxRecDepth 100000
open Go.RowKit
set_option linter.unusedVariables false
theorem NrG.cells {w W : World} {n : Nat} {ss es : List (ByteArray × Value)} (h : NrG w n W ss es) : W.cell? ⟨w.heap.size + 1 + 1, 0, none⟩ = some (.map (some (w.heap.size + 1 + 1 + 1))) ∧ W.cell? ⟨w.heap.size + 1 + 1, 1, none⟩ = some (.map (some n)) ∧ W.cell? ⟨w.heap.size + 1 + 1, 2, none⟩ = some (.map (some w.heap.size)) ∧ W.cell? ⟨w.heap.size + 1 + 1, 3, none⟩ = some (.map (some (w.heap.size + 1))) := by
  refine ⟨?_, ?_, ?_, ?_⟩ <;> rw [cell_of_row W _ _ _ _ _ h.blk] <;> rfl
theorem row2c {W : World} {b : Nat} {v0 v1 : Value} {T : TypeId} (h : W.heap[b]? = some (.cells #[v0, v1] T (0, 0))) : W.cell? ⟨b, 0, none⟩ = some v0 ∧ W.cell? ⟨b, 1, none⟩ = some v1 := by
  refine ⟨?_, ?_⟩ <;> rw [cell_of_row W b _ _ _ _ h] <;> rfl
theorem row4c {W : World} {b : Nat} {v0 v1 v2 v3 : Value} {T : TypeId} (h : W.heap[b]? = some (.cells #[v0, v1, v2, v3] T (0, 0))) : W.cell? ⟨b, 0, none⟩ = some v0 ∧ W.cell? ⟨b, 1, none⟩ = some v1 ∧ W.cell? ⟨b, 2, none⟩ = some v2 ∧ W.cell? ⟨b, 3, none⟩ = some v3 := by
  refine ⟨?_, ?_, ?_, ?_⟩ <;> rw [cell_of_row W b _ _ _ _ h] <;> rfl
theorem row5c {W : World} {b : Nat} {v0 v1 v2 v3 v4 : Value} {T : TypeId} (h : W.heap[b]? = some (.cells #[v0, v1, v2, v3, v4] T (0, 0))) : W.cell? ⟨b, 0, none⟩ = some v0 ∧ W.cell? ⟨b, 1, none⟩ = some v1 ∧ W.cell? ⟨b, 2, none⟩ = some v2 ∧ W.cell? ⟨b, 3, none⟩ = some v3 ∧ W.cell? ⟨b, 4, none⟩ = some v4 := by
  refine ⟨?_, ?_, ?_, ?_, ?_⟩ <;> rw [cell_of_row W b _ _ _ _ h] <;> rfl
set_option maxHeartbeats 4000000 in
theorem newReader_any (w : World) (hT : TrT w) (hL : LxT w) : Calls Tryz.prog 31 #[] w (NewRd w) := by
  have hmf : ∀ (fn : Fn) (first cap : Array Value) (w : World), (Instr.makeFunc fn first cap).run Tryz.prog w = .ok (.func fn first cap) w := fun _ _ _ _ => rfl
  have hmm := @run_makeMap Tryz.prog
  have hbd : ∀ (a b : Nat) (w : World), (Instr.build 106 #[(2, .map (some a)), (3, .map (some b))]).run Tryz.prog w = .ok (.agg #[.map none, .map none, .map (some a), .map (some b)]) w := fun a b w => run_build w 106 _ _ (by kernel_rfl)
  obtain ⟨w1, w2, w3, v1, v2, e1, e2, e3, c3, a1, a2, c4, hA⟩ := nr_first w
  have HG := Lib.hid hA.g
  have HT := Lib.hid hT
  have HLx := Lib.hid hL
  have x0 := cell_of_row w3 (w.heap.size + 1 + 1) 0 _ _ _ c3
  have f0 := frozen_of_row w3 (w.heap.size + 1 + 1) 0 _ _ c3
  have x1 := cell_of_row v2 (w.heap.size + 1 + 1) 1 _ _ _ c4
  have f1 := frozen_of_row v2 (w.heap.size + 1 + 1) 1 _ _ c4
  simp only [List.getElem?_toArray, List.getElem?_cons_zero, List.getElem?_cons_succ] at x0 x1
  have HTs := Lib.hid (hT.below (hA.base)).stmLs
  clear hT hL c3 c4 hA
  unfold nr4 fnR wSecret at e1
  unfold fnR wFun at e2
  unfold fnR wExport at e3
  unfold fnR wSec at a1
  unfold fnR wPtr at a2
  go_enter Tryz.func31, Tryz.ntmps31
  go_wp2_with (refine wpList_load_row rfl 111 _ rfl _ 0 stmLs stmV rfl stm_agg stm_size rfl HTs.out ?_)
  clear e1 e2 e3 a1 a2 x0 x1 f0 f1 HTs hmm hbd
  generalize v2.setCell ⟨w.heap.size + 1 + 1, 1, none⟩ (.map (some w3.heap.size)) = W0 at *
  generalize w3.heap.size = n at *
  go_loopw [34] (fun i wr => ∃ k : Nat, k ≤ 5 ∧ i = .int .i64 k ∧ Hid (NrG w n wr ((stmtsL (w.heap.size + 1 + 1)).take k) [])) (fun i _ => 5 - (intOf i).toNat)
  case atStart => exact ⟨0, by omega, rfl, HG⟩
  case round =>
    obtain ⟨k, hk, rfl, HK⟩ := hrel
    clear HG
    by_cases hlt : k < 5
    · have hi : ∀ W : World, (Instr.index 111 (.agg stmV) (.int .i64 k)).run Tryz.prog W = .ok (.agg #[.string (stmW k), .bool (stmR k).2.1, .bool (stmR k).2.2.1, .int .i64 (stmR k).2.2.2.1, .int .i64 (stmR k).2.2.2.2]) W := fun W => stm_ix k hlt W
      have k1 : (k : Int) < 5 := by omega
      have hb1 := ((Below.refl wr.heap.size wr).alloc (Nat.le_refl _) (.cells #[(.string (stmW k)), .bool (stmR k).2.1, .bool (stmR k).2.2.1, .int .i64 (stmR k).2.2.2.1, .int .i64 (stmR k).2.2.2.2] 110))
      have hN1 := HK.out.below hb1
      obtain ⟨q0, q1, q2, q3⟩ := hN1.cells
      obtain ⟨y0, y1, y2, y3, y4⟩ := row5c (heap_alloc_new wr (.cells #[(.string (stmW k)), .bool (stmR k).2.1, .bool (stmR k).2.2.1, .int .i64 (stmR k).2.2.2.1, .int .i64 (stmR k).2.2.2.2] 110))
      obtain ⟨W2, hup, hN2⟩ := (hN1.below (Below.refl _ (wr.alloc _)).drew).nextS hlt
      have HN2 := Lib.hid hN2
      have HL := Lib.hid hlt
      have hbs : ∀ (b : Nat) (k x y : Int) (s : ByteArray) (c d : Bool) (w : World), (Instr.build 114 #[(0, .pointer (some ⟨b, 0, none⟩)), (1, .int .i64 k), (2, .agg #[.string s, .bool c, .bool d, .int .i64 x, .int .i64 y])]).run Tryz.prog w = .ok (.agg #[.pointer (some ⟨b, 0, none⟩), .int .i64 k, .string s, .bool c, .bool d, .int .i64 x, .int .i64 y]) w := fun _ _ _ _ _ _ _ w => run_build w 114 _ _ (by kernel_rfl)
      unfold stV8 at hup
      clear hN1 hN2 HK hb1 hk hlt
      generalize stmW (k : Int) = s0 at *
      go_wp2
      go_region
      go_wp2
      go_roundw
      case rel => exact ⟨k + 1, by have := HL.out; omega, by go_num, HN2⟩
      case measure => have := HL.out; simp [intOf]; omega
    · obtain rfl : k = 5 := by omega
      have HK1 := Lib.hid (show NrG w n wr (stmtsL (w.heap.size + 1 + 1)) ((exprsL (w.heap.size + 1 + 1)).take 0) from by
        have := HK.out
        rw [List.take_of_length_le (by rw [stmtsL_len]; omega)] at this
        exact this)
      clear HK hlt hk
      go_wp2
      go_loopw [51] (fun i wr => ∃ k : Nat, k ≤ 4 ∧ i = .int .i64 k ∧ Hid (NrG w n wr (stmtsL (w.heap.size + 1 + 1)) ((exprsL (w.heap.size + 1 + 1)).take k))) (fun i _ => 4 - (intOf i).toNat)
      case atStart => exact ⟨0, by omega, rfl, HK1⟩
      case round =>
        obtain ⟨k, hk, rfl, HK⟩ := hrel
        clear HK1
        by_cases hlt : k < 4
        · obtain ⟨s, q, b, hx, hq, hs, hb, hix⟩ := kin_four k hlt
          have k1 : (k : Int) < 4 := by omega
          have hbe : ∀ (b : Nat) (k : Int) (d : Bool) (w : World), (Instr.build 121 #[(0, .pointer (some ⟨b, 0, none⟩)), (1, .int .i64 k), (3, .bool d)]).run Tryz.prog w = .ok (.agg #[.pointer (some ⟨b, 0, none⟩), .int .i64 k, .int .u64 0, .bool d]) w := fun _ _ _ w => run_build w 121 _ _ (by kernel_rfl)
          subst hs hb
          rcases hq with rfl | rfl | rfl | rfl
          · have hTr := HT.out.below HK.out.base
            have z0 : wr.cell? ⟨2, 8, none⟩ = some (.string (expW 2)) := hTr.exp 2 (by omega) 0 (by omega)
            have z1 : wr.cell? ⟨2, 9, none⟩ = some (.bool true) := hTr.exp 2 (by omega) 1 (by omega)
            have z2 : wr.cell? ⟨2, 10, none⟩ = some (.int .i64 1) := hTr.exp 2 (by omega) 2 (by omega)
            have z3 : wr.cell? ⟨2, 11, none⟩ = some (.int .i64 1) := hTr.exp 2 (by omega) 3 (by omega)
            have hb1 := ((Below.refl wr.heap.size wr).alloc (Nat.le_refl _) (.cells #[.string (expW 2), .bool true, .int .i64 1, .int .i64 1] 117))
            have hN1 := HK.out.below hb1
            obtain ⟨q0, q1, q2, q3⟩ := hN1.cells
            obtain ⟨y0, y1, y2, y3⟩ := row4c (heap_alloc_new wr (.cells #[.string (expW 2), .bool true, .int .i64 1, .int .i64 1] 117))
            obtain ⟨W2, hup, hN2⟩ := (hN1.below (Below.refl _ (wr.alloc _)).drew).nextE (by omega) (expW 2) (2, 0, true) hx
            have HN2 := Lib.hid hN2
            have HL := Lib.hid hlt
            unfold exV8 at hup
            simp only at hup
            clear hN1 hN2 HK hb1 hk hlt hTr hx
            generalize expW 2 = s0 at *
            go_wp2
            go_region
            go_wp2
            go_roundw
            case rel => exact ⟨k + 1, by have := HL.out; omega, by go_num, HN2⟩
            case measure => have := HL.out; simp [intOf]; omega
          · have hTr := HT.out.below HK.out.base
            have z0 : wr.cell? ⟨2, 16, none⟩ = some (.string (expW 4)) := hTr.exp 4 (by omega) 0 (by omega)
            have z1 : wr.cell? ⟨2, 17, none⟩ = some (.bool false) := hTr.exp 4 (by omega) 1 (by omega)
            have z2 : wr.cell? ⟨2, 18, none⟩ = some (.int .i64 3) := hTr.exp 4 (by omega) 2 (by omega)
            have z3 : wr.cell? ⟨2, 19, none⟩ = some (.int .i64 3) := hTr.exp 4 (by omega) 3 (by omega)
            have hb1 := ((Below.refl wr.heap.size wr).alloc (Nat.le_refl _) (.cells #[.string (expW 4), .bool false, .int .i64 3, .int .i64 3] 117))
            have hN1 := HK.out.below hb1
            obtain ⟨q0, q1, q2, q3⟩ := hN1.cells
            obtain ⟨y0, y1, y2, y3⟩ := row4c (heap_alloc_new wr (.cells #[.string (expW 4), .bool false, .int .i64 3, .int .i64 3] 117))
            obtain ⟨W2, hup, hN2⟩ := (hN1.below (Below.refl _ (wr.alloc _)).drew).nextE (by omega) (expW 4) (4, 0, false) hx
            have HN2 := Lib.hid hN2
            have HL := Lib.hid hlt
            unfold exV8 at hup
            simp only at hup
            clear hN1 hN2 HK hb1 hk hlt hTr hx
            generalize expW 4 = s0 at *
            go_wp2
            go_region
            go_wp2
            go_roundw
            case rel => exact ⟨k + 1, by have := HL.out; omega, by go_num, HN2⟩
            case measure => have := HL.out; simp [intOf]; omega
          · have hTr := HT.out.below HK.out.base
            have z0 : wr.cell? ⟨2, 20, none⟩ = some (.string (expW 5)) := hTr.exp 5 (by omega) 0 (by omega)
            have z1 : wr.cell? ⟨2, 21, none⟩ = some (.bool true) := hTr.exp 5 (by omega) 1 (by omega)
            have z2 : wr.cell? ⟨2, 22, none⟩ = some (.int .i64 0) := hTr.exp 5 (by omega) 2 (by omega)
            have z3 : wr.cell? ⟨2, 23, none⟩ = some (.int .i64 6) := hTr.exp 5 (by omega) 3 (by omega)
            have hb1 := ((Below.refl wr.heap.size wr).alloc (Nat.le_refl _) (.cells #[.string (expW 5), .bool true, .int .i64 0, .int .i64 6] 117))
            have hN1 := HK.out.below hb1
            obtain ⟨q0, q1, q2, q3⟩ := hN1.cells
            obtain ⟨y0, y1, y2, y3⟩ := row4c (heap_alloc_new wr (.cells #[.string (expW 5), .bool true, .int .i64 0, .int .i64 6] 117))
            obtain ⟨W2, hup, hN2⟩ := (hN1.below (Below.refl _ (wr.alloc _)).drew).nextE (by omega) (expW 5) (5, 0, true) hx
            have HN2 := Lib.hid hN2
            have HL := Lib.hid hlt
            unfold exV8 at hup
            simp only at hup
            clear hN1 hN2 HK hb1 hk hlt hTr hx
            generalize expW 5 = s0 at *
            go_wp2
            go_region
            go_wp2
            go_roundw
            case rel => exact ⟨k + 1, by have := HL.out; omega, by go_num, HN2⟩
            case measure => have := HL.out; simp [intOf]; omega
          · have hTr := HT.out.below HK.out.base
            have z0 : wr.cell? ⟨2, 24, none⟩ = some (.string (expW 6)) := hTr.exp 6 (by omega) 0 (by omega)
            have z1 : wr.cell? ⟨2, 25, none⟩ = some (.bool false) := hTr.exp 6 (by omega) 1 (by omega)
            have z2 : wr.cell? ⟨2, 26, none⟩ = some (.int .i64 1) := hTr.exp 6 (by omega) 2 (by omega)
            have z3 : wr.cell? ⟨2, 27, none⟩ = some (.int .i64 1) := hTr.exp 6 (by omega) 3 (by omega)
            have hb1 := ((Below.refl wr.heap.size wr).alloc (Nat.le_refl _) (.cells #[.string (expW 6), .bool false, .int .i64 1, .int .i64 1] 117))
            have hN1 := HK.out.below hb1
            obtain ⟨q0, q1, q2, q3⟩ := hN1.cells
            obtain ⟨y0, y1, y2, y3⟩ := row4c (heap_alloc_new wr (.cells #[.string (expW 6), .bool false, .int .i64 1, .int .i64 1] 117))
            obtain ⟨W2, hup, hN2⟩ := (hN1.below (Below.refl _ (wr.alloc _)).drew).nextE (by omega) (expW 6) (6, 0, false) hx
            have HN2 := Lib.hid hN2
            have HL := Lib.hid hlt
            unfold exV8 at hup
            simp only at hup
            clear hN1 hN2 HK hb1 hk hlt hTr hx
            generalize expW 6 = s0 at *
            go_wp2
            go_region
            go_wp2
            go_roundw
            case rel => exact ⟨k + 1, by have := HL.out; omega, by go_num, HN2⟩
            case measure => have := HL.out; simp [intOf]; omega
        · obtain rfl : k = 4 := by omega
          have HK2 := Lib.hid (show NrG w n wr (stmtsL (w.heap.size + 1 + 1)) ((exprsL (w.heap.size + 1 + 1)).take (4 + 0)) from HK.out)
          have HTo := Lib.hid (HT.out.below HK.out.base).opsLs
          clear HK hlt hk
          go_wp2_with (refine wpList_load_row rfl 77 _ rfl _ 0 opsLs opsV rfl ops_agg ops_size rfl HTo.out ?_)
          go_loopw [71] (fun i wr => ∃ k : Nat, k ≤ 13 ∧ i = .int .i64 k ∧ Hid (NrG w n wr (stmtsL (w.heap.size + 1 + 1)) ((exprsL (w.heap.size + 1 + 1)).take (4 + k)))) (fun i _ => 13 - (intOf i).toNat)
          case atStart => exact ⟨0, by omega, rfl, HK2⟩
          case round =>
            obtain ⟨k, hk, rfl, HK⟩ := hrel
            clear HK2 HTo
            by_cases hlt : k < 13
            · have hi := fun W => ops_ix k hlt W
              have k1 : (k : Int) < 13 := by omega
              have hu := opsR_u k hlt
              have hb1 := ((Below.refl wr.heap.size wr).alloc (Nat.le_refl _) (.cells #[.string (opsW k), .int .i64 (opsR k).2] 76))
              have hN1 := HK.out.below hb1
              obtain ⟨q0, q1, q2, q3⟩ := hN1.cells
              obtain ⟨y0, y1⟩ := row2c (heap_alloc_new wr (.cells #[.string (opsW k), .int .i64 (opsR k).2] 76))
              obtain ⟨W2, hup, hN2⟩ := (hN1.below (Below.refl _ (wr.alloc _)).drew).nextE (k := 4 + k) (by omega) (opsW k) (3, (opsR k).2, false) (kin_ops k hlt)
              have HN2 := Lib.hid (show NrG w n W2 (stmtsL (w.heap.size + 1 + 1)) ((exprsL (w.heap.size + 1 + 1)).take (4 + (k + 1))) from hN2)
              have HL := Lib.hid hlt
              have hbe : ∀ (b : Nat) (k u : Int) (w : World), (Instr.build 121 #[(0, .pointer (some ⟨b, 0, none⟩)), (1, .int .i64 k), (2, .int .u64 u)]).run Tryz.prog w = .ok (.agg #[.pointer (some ⟨b, 0, none⟩), .int .i64 k, .int .u64 u, .bool false]) w := fun _ _ _ w => run_build w 121 _ _ (by kernel_rfl)
              unfold exV8 at hup
              simp only at hup
              clear hN1 hN2 HK hb1 hk hlt
              generalize opsW k = s0 at *
              generalize (opsR k).2 = v at *
              go_wp2
              go_region
              go_wp2
              go_roundw
              case rel => exact ⟨k + 1, by have := HL.out; omega, by go_num, HN2⟩
              case measure => have := HL.out; simp [intOf]; omega
            · obtain rfl : k = 13 := by omega
              have HFin := Lib.hid (show NewRd w (.returned (.pointer (some ⟨w.heap.size + 1 + 1, 0, none⟩))) wr from by
                have h2 := HK.out
                rw [List.take_of_length_le (by rw [exprsL_len]; omega)] at h2
                exact ⟨⟨w, w.heap.size + 1 + 1, w.heap.size + 1 + 1 + 1, n, w.heap.size, w.heap.size + 1, wr.heap.size⟩, rfl, h2.done HT.out HLx.out, h2.base⟩)
              clear HK hk hlt
              go_wp2
              go_ret
              exact HFin.out
end Go.Proofs.YtbhdbglhejibbaaGreatDoor
