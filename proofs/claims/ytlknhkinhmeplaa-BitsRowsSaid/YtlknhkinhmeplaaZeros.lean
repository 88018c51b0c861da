/- append(s, make([]byte, k)...) where s is a row of the call's own: a law of no program. -/
import Derived.Test.YtlknhkinhmeplaaArgs
import Derived.Lib.AppendZerosOnto
namespace Go.Proofs.Ytlknhkinhmeplaa
open Go.RowKit
set_option linter.unusedVariables false

theorem zero_cells (z : Value) (hz : z.cells = #[z]) (k : Nat) : (Builtin.zeroCells z.cells k).toList = List.replicate k z := by
  unfold Builtin.zeroCells
  rw [hz]
  refine List.ext_getElem (by simp) fun i h1 h2 => ?_
  simp [Nat.mod_one]
theorem zero_one (z : Value) (hz : z.cells = #[z]) (h : z.oneCell' = true) (k : Nat) : ∀ u ∈ (Builtin.zeroCells z.cells k).toList, u.oneCell' = true := by
  rw [zero_cells z hz]
  intro u hu
  rw [(List.mem_replicate.1 hu).2]; exact h
/-- zeros onto a row of the call's own: at the row's end or in a new one -/
theorem run_append_zeros_own {P : Program} (w : World) (base : Nat) (t tn ty e : TypeId) (i : TypeInfo) (z : Value) (kq kn : IntKind) (ht : P.underlying t = some (.slice e)) (htn : P.underlying tn = some (.int kn)) (hi : P.info? e = some i) (hz : i.zero = some z)
    (hsz : i.size = 1) (hby : i.bytes = 1) (hzc : z.cells = #[z]) (h1 : z.oneCell' = true)
    (g n cap : Nat) (xs : List Value) (hown : w.ownsRow base e 1 (.slice (some ⟨g, 0, none⟩) n cap) n xs) (k : Nat) (h63 : n + k ≤ 1000000) (hbase : base ≤ w.heap.size) :
    ∃ g' cap' w', (Builtin.append_ #[t, tn] ty #[.slice (some ⟨g, 0, none⟩) n cap, .int kq k]).run P w = .ok (.slice (some ⟨g', 0, none⟩) (n + k) cap') w' ∧
      w'.ownsRow base e 1 (.slice (some ⟨g', 0, none⟩) (n + k) cap') (n + k) (xs ++ List.replicate k z) ∧ w.grownBy w' (some g) := by
  have hlen : (xs ++ List.replicate k z).length = (n + k) * 1 := by rw [List.length_append, hown.1, List.length_replicate]; omega
  obtain ⟨hxl, hx⟩ := hown
  rcases hx with ⟨he, _⟩ | ⟨g', cap', cur, he, hbg, hg, hnc, hcm, hcs, htake⟩
  · cases he
  · injection he with he1 he2 he3
    injection he1 with he1
    injection he1 with he1
    subst he1 he3
    by_cases h0 : k = 0
    · subst h0
      refine ⟨g, cap, w, ?_, ⟨hlen, .inr ⟨g, cap, cur, rfl, hbg, hg, by omega, hcm, hcs, ?_⟩⟩, ⟨rfl, rfl, rfl, Nat.le_refl _, fun _ _ _ => rfl⟩⟩
      · have hw : IntKind.i64.wrap 0 = 0 := by rw [IntKind.wrap_i64]; omega
        have hroom : n ≤ cap := hnc
        simp [Builtin.append_, run_underlying ht, run_underlying htn, sizeOf, typeInfo, hi, hby, asInt, asIntOf, hw, hroom, storeCells]
      · simpa using htake
    have h0 : 0 < k := by omega
    by_cases hroom : n + k ≤ cap
    · have hzl : (Builtin.zeroCells z.cells k).toList.length = k := by rw [zero_cells z hzc]; simp
      have hst := run_storeCells_at P g n e (Builtin.zeroCells z.cells k).toList 0 cur w hg (by rw [hzl]; omega) (zero_one z hzc h1 k)
      simp only [Nat.add_zero] at hst
      have hk : k ≠ 0 := by omega
      have hw : IntKind.i64.wrap (k : Int) = k := by rw [IntKind.wrap_i64]; omega
      have hneg : ¬ ((k : Int) < 0) := by omega
      have h48i : ¬ (281474976710656 < (k : Int)) := by omega
      refine ⟨g, cap, w.setRow g (cur.toList.take n ++ (Builtin.zeroCells z.cells k).toList ++ cur.toList.drop (n + (Builtin.zeroCells z.cells k).toList.length)).toArray, ?_, ⟨hlen, .inr ⟨g, cap, _, rfl, hbg, setRow_heap w g cur _ e _ hg, hroom, hcm, ?_, ?_⟩⟩, ⟨rfl, rfl, rfl, by simp, fun j _ hj => setRow_other w g j _ (fun e => hj (by rw [e]))⟩⟩
      · simp at hst
        simp [Builtin.append_, run_underlying ht, run_underlying htn, sizeOf, typeInfo, zeroValue, hi, hz, hsz, hby, asInt, asIntOf, hw, hneg, h48i, hk, hroom, Addr.add_lit, hst]
      · simp only [List.size_toArray, List.length_append, List.length_take, List.length_drop, Array.length_toList, hzl]
        omega
      · rw [zero_cells z hzc, Nat.mul_one] 
        have : cur.toList.take n = xs := by rw [← htake, Nat.mul_one]
        rw [this]
        have hl2 : (xs ++ List.replicate k z).length = n + k := by rw [hlen, Nat.mul_one]
        rw [← hl2]
        exact List.take_left
    · have holds : ∀ j u, xs[j]? = some u → w.drew.cell? ((⟨g, 0, none⟩ : Addr).add j) = some u :=
        World.ownsRow.cells (w := w.drew) ⟨hxl, .inr ⟨g, cap, cur, rfl, hbg, hg, hnc, hcm, hcs, htake⟩⟩ (g := g) rfl
      have hf := run_firstCells_some (P := P) w.drew 1 n ⟨g, 0, none⟩ n cap xs hxl holds
      have hr := Lib.run_append_grow_zeros (P := P) w t tn ty e i z kq kn ht htn hi hz (some ⟨g, 0, none⟩) n cap xs (by rw [hsz]; exact hf) k h0 (by omega) (by omega) (by omega) (by rw [hby]; omega) (growslice_fits (by omega) (by rw [hby]; omega))
      have hge := grownCap_ge w (n + k) cap e
      have hcm' := grownCap_le_maxLen w (n + k) cap e (by unfold maxLen; omega)
      refine ⟨_, _, _, hr, ⟨hlen, .inr ⟨w.heap.size, _, _, rfl, hbase, heap_alloc_new w.drew _, hge, hcm', ?_, ?_⟩⟩, ⟨rfl, rfl, rfl, by simp, fun j hj _ => heap_alloc_old w.drew _ hj⟩⟩
      · have e1 : (Builtin.zeroCells z.cells k).size = k := by rw [size_zeroCells, hzc]; simp
        have e2 : (Builtin.zeroCells z.cells (grownCap w (n + k) cap e - (n + k))).size = grownCap w (n + k) cap e - (n + k) := by rw [size_zeroCells, hzc]; simp
        simp only [Array.size_append, List.size_toArray, e1, e2, hxl]
        omega
      · have hl2 : (xs ++ List.replicate k z).length = (n + k) * 1 := hlen
        simp only [Array.toList_append, List.append_assoc]
        rw [zero_cells z hzc, ← List.append_assoc, ← hl2]
        exact List.take_left
end Go.Proofs.Ytlknhkinhmeplaa
