/- Layer 7: a count in the map of uses, one more: what the map is between the two halves of it. No condition. -/
import Derived.Test.YthoehbmbmjmpbaaDoorSymH
import Derived.WideKeyEntry
namespace Go.Proofs.YthoehbmbmjmpbaaDoor
set_option maxRecDepth 100000
open Go.RowKit Go.Maps
set_option linter.unusedVariables false
theorem lawUsK : WideMaps.KeyLaw Tryd.prog 92 := deep_law_laid laidAllO (m := 2) (by omega) rowUs (by kernel_rfl) wideUs
theorem UsK.same {w w2 : World} {b n : Nat} {U : Us → Option Int} (h : UsK w b n U) (e : w2.heap[b]? = w.heap[b]?) : UsK w2 b n U := by
  obtain ⟨D, ⟨es, clock, q1, q2⟩, q3⟩ := h
  exact ⟨D, ⟨es, clock, e.trans q1, q2⟩, q3⟩
theorem UsK.mono {w : World} {b n m : Nat} {U : Us → Option Int} (h : UsK w b n U) (hn : n ≤ m) : UsK w b m U := by
  obtain ⟨D, h1, h2⟩ := h
  exact ⟨D, h1.mono hn, h2⟩
theorem set_same {w : World} {b : Nat} {o o' : Obj} (hb : w.heap[b]? = some o) : (ChangeMaps.setBlock w b o').heap[b]? = some o' := (MapKept.heap_set hb).1
theorem set_grown {w : World} {b : Nat} {o o' : Obj} (hb : w.heap[b]? = some o) : w.grownBy (ChangeMaps.setBlock w b o') (some b) :=
  ⟨rfl, rfl, rfl, by simp [ChangeMaps.setBlock], fun k _ hne => (MapKept.heap_set hb).2 k (fun e => hne (by rw [e]))⟩
/-- the first half makes the entry, if there is none; the second one sets it -/
theorem UsK.entry {w : World} {b n : Nat} {U : Us → Option Int} (h : UsK w b n U) (hn : n < 1000000) {t : Us} (ht : UsW t) :
    ∃ (v0 : Value) (st : Nat) (w1 : World), (Instr.mapEntry 84 (.map (some b)) (usV t)).run Tryd.prog w = .ok (.tuple #[v0, goInt st]) w1 ∧ w.grownBy w1 (some b) ∧ w1.heap.size = w.heap.size ∧ (∃ U1, UsK w1 b (n + 1) U1 ∧ (U1 t).getD 0 = (U t).getD 0) ∧
      ∀ (w2 : World) (c : Int), w2.heap[b]? = w1.heap[b]? → 0 ≤ c → c ≤ 1000000 → ∃ w3, (Instr.entryStore 84 (.map (some b)) (goInt st) (.int .i64 c)).run Tryd.prog w2 = .ok () w3 ∧ UsK w3 b (n + 1) (fun u => if u = t then some c else U u) ∧ w2.grownBy w3 (some b) ∧ w3.heap.size = w2.heap.size := by
  have h' := h
  obtain ⟨D, ⟨es, clock, hb, F, hsz, hD⟩, hmap, hdom, hat⟩ := h'
  obtain ⟨v0, st, es1, clock1, hr, hv, hst⟩ := WideElems.entry_then_store lawUsK Tryd.underlying84 zeroIntO hb F (uKey_of ht)
  refine ⟨v0, st, _, hr, set_grown hb, by simp [ChangeMaps.setBlock], ?_, fun w2 c he h0 h1 => ?_⟩
  · rcases lawUsK.find w (uKey_of ht) es.toList F.keys with ⟨f1, f2⟩ | ⟨j, e0, f1, f2, f3⟩
    · obtain ⟨w', hu, hU, _⟩ := h.put hn ht 0 (by omega) (by omega)
      have e1 : (Instr.mapEntry 84 (.map (some b)) (usV t)).run Tryd.prog w = .ok (.tuple #[.int .i64 0, goInt clock]) (ChangeMaps.setBlock w b (.map (es.push ⟨usV t, .int .i64 0, clock⟩) (clock + 1))) := by
        simp [Instr.mapEntry, run_underlying Tryd.underlying84, MapKept.run_getObj_map hb, lawUsK.check w false (uKey_of ht), f1, MapKept.run_setObj_map _ hb, Result.andThen, ChangeMaps.setBlock]
      have e2 : (Instr.mapUpdate 84 (.map (some b)) (usV t) (.int .i64 0)).run Tryd.prog w = .ok () (ChangeMaps.setBlock w b (.map (es.push ⟨usV t, .int .i64 0, clock⟩) (clock + 1))) := by
        simp [Instr.mapUpdate, run_underlying Tryd.underlying84, MapKept.run_getObj_map hb, lawUsK.check w false (uKey_of ht), f1, MapKept.run_setObj_map _ hb, Result.andThen, ChangeMaps.setBlock]
      rw [hr] at e1
      rw [hu] at e2
      have e3 := (Result.ok.inj e1).2
      have e4 := (Result.ok.inj e2).2
      refine ⟨_, by rw [e3, ← e4]; exact hU, ?_⟩
      have e5 : (Instr.lookup 84 (.map (some b)) (usV t) true).run Tryd.prog w = .ok (.tuple #[.int .i64 0, .bool false]) w := by
        simp [Instr.lookup, run_underlying Tryd.underlying84, MapKept.run_getObj_map hb, lawUsK.check w _ (uKey_of ht), f1, Result.andThen]
      rw [h.look ht] at e5
      have e6 := (Result.ok.inj e5).1
      unfold usA at e6
      simp only [Value.tuple.injEq, Array.mk.injEq, List.cons.injEq, Value.int.injEq, true_and] at e6
      rw [e6.1]
      simp
    · have hj : es[j]? = some e0 := by simpa using f2
      have hsame : es.modify j (fun e => { e with key := usV t }) = es := by
        apply Array.ext'
        rw [Array.toList_modify, ChangeMaps.modify_eq_set _ _ _ _ f2]
        have : ({ e0 with key := usV t } : MapEntry) = e0 := by rw [← f3]
        rw [this]
        exact WideElems.set_self _ _ _ f2
      have e1 : (Instr.mapEntry 84 (.map (some b)) (usV t)).run Tryd.prog w = .ok (.tuple #[e0.val, goInt e0.born]) (ChangeMaps.setBlock w b (.map es clock)) := by
        simp [Instr.mapEntry, run_underlying Tryd.underlying84, MapKept.run_getObj_map hb, lawUsK.check w false (uKey_of ht), f1, hj, f3, lawUsK.stays w (uKey_of ht), hsame, MapKept.run_setObj_map _ hb, Result.andThen, ChangeMaps.setBlock]
      rw [hr] at e1
      have e3 := (Result.ok.inj e1).2
      exact ⟨U, by rw [e3]; exact (h.same ((set_same hb).trans hb.symm)).mono (Nat.le_succ n), rfl⟩
  · obtain ⟨es', clock', hrun, hupd⟩ := hst w2 (.int .i64 c) (he.trans (set_same hb))
    obtain ⟨w', hu, hU, _⟩ := h.put hn ht c h0 h1
    rw [hu] at hupd
    have e4 := (Result.ok.inj hupd).2
    have hb2 := he.trans (set_same hb)
    refine ⟨_, hrun, ?_, set_grown hb2, by simp [ChangeMaps.setBlock]⟩
    rw [e4] at hU
    exact hU.same ((set_same hb2).trans (set_same hb).symm)
end Go.Proofs.YthoehbmbmjmpbaaDoor
