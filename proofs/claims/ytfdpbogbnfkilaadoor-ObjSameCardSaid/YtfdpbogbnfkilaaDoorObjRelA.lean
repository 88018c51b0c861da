/- Layer 6: the looker's rel, of any place. Condition: the tables of package ins read as they should. -/
import Derived.Test.YtfdpbogbnfkilaaDoorObjRelN
import Derived.Test.YtfdpbogbnfkilaaDoorObjRdL
namespace Go.Proofs.YtfdpbogbnfkilaaDoor
set_option maxRecDepth 100000
open Go.RowKit Go.Maps
set_option linter.unusedVariables false
theorem flat_get {α : Type} {enc : α → List Value} {sz : Nat} (hs : ∀ x, (enc x).length = sz) : ∀ {xs : List α} {j i : Nat} (hj : j < xs.length), i < sz → (xs.flatMap enc)[j * sz + i]? = (enc xs[j])[i]?
  | x :: xs, 0, i, hj, hi => by
    rw [List.flatMap_cons, Nat.zero_mul, Nat.zero_add, List.getElem?_append_left (by rw [hs]; exact hi)]; rfl
  | x :: xs, j + 1, i, hj, hi => by
    have hj' : j < xs.length := by simpa using hj
    rw [List.flatMap_cons, List.getElem?_append_right (by rw [hs, Nat.succ_mul]; omega), hs, show (j + 1) * sz + i - sz = j * sz + i by rw [Nat.succ_mul]; omega, flat_get hs hj' hi]; rfl
theorem flat_len {α : Type} {enc : α → List Value} {sz : Nat} (hs : ∀ x, (enc x).length = sz) (xs : List α) : (xs.flatMap enc).length = xs.length * sz := by
  induction xs with
  | nil => simp
  | cons x xs ih => rw [List.flatMap_cons, List.length_append, hs, ih, List.length_cons, Nat.succ_mul]; omega
theorem RowC.at_ {α : Type} {w : World} {lo hi : Nat} {A : Option Addr} {enc : α → List Value} {sz : Nat} {xs : List α} (h : RowC w lo hi A (xs.flatMap enc)) (hs : ∀ x, (enc x).length = sz) (h0 : 0 < sz) (hx : 0 < xs.length) :
    ∃ b o, A = some ⟨b, o, none⟩ ∧ lo ≤ b ∧ b < hi ∧ ∀ j (hj : j < xs.length) i v, (enc xs[j])[i]? = some v → w.cell? ⟨b, o + (j * sz + i), none⟩ = some v := by
  rcases h with h | ⟨b, o, e, h1, h2, h3⟩
  · have := flat_len hs xs
    rw [h] at this
    have : xs.length * sz ≠ 0 := by intro e; rcases Nat.mul_eq_zero.1 e with e | e <;> omega
    simp at *; omega
  · refine ⟨b, o, e, h1, h2, fun j hj i v hv => h3 _ _ ?_⟩
    have hi : i < sz := by have := (List.getElem?_eq_some_iff.1 hv).1; rw [hs] at this; exact this
    rw [flat_get hs hj hi, hv]
theorem far_false {M : Th → Option Int} {ops : List Int} {r : RelD} (h : r.1.tmod 4 ≠ 0 ∨ r.1 < 0 ∨ 4 * (ops.length : Int) - 1 < r.1) : relB M ops r = false := by
  unfold relB
  rcases h with h | h | h
  · have : (r.1.tmod 4 == 0) = false := by rw [beq_eq_false_iff_ne]; exact h
    rw [this]; simp
  · rw [inB_neg h]; simp
  · have : inB r.1 (4 * (ops.length : Int) - 1) = false := by unfold inB; rw [decide_eq_false (by omega : ¬ r.1 ≤ _)]; simp
    rw [this]; simp
set_option maxHeartbeats 1000000 in
theorem rel_any (v1 v2 v3 v4 v5 : Value) (A6 : Option Addr) (ops : List Int) (c6 lo hi : Nat) (b n : Nat) (M : Th → Option Int) (i : Int) (hi0 : 0 ≤ i) (hi1 : i ≤ 1000000) (hn : n < 1000000) (h6 : ops.length ≤ 4096) (hops : ∀ x ∈ ops, ∃ o : Nat, x = o ∧ o < 43)
    (r : RelD) (hr : IsI r.1 ∧ IsI r.2.2.2) (w : World) (hT : Tabs w) (hrow : RowC w lo hi A6 (ops.flatMap encI64)) (hhi : hi ≤ w.heap.size) (hK : SeenK w b n M) :
    Calls Tryd.prog 85 #[.agg #[v1, v2, v3, v4, v5, .slice A6 ops.length c6, .map (some b)], .int .i64 i, .agg #[.int .i64 r.1, .int .i64 r.2.1, .string r.2.2.1, .int .i64 r.2.2.2]] w fun e w' =>
      e = .returned (.bool (relB M ops r)) ∧ MapOut b w w' ∧ (relB M ops r = true → SeenK w' b (n + 1) (putM M (1, ⟨#[]⟩, r.1) i)) := by
  obtain ⟨a, k, s, d⟩ := r
  simp only at hr ⊢
  by_cases hfar : a.tmod 4 ≠ 0 ∨ a < 0 ∨ 4 * (ops.length : Int) - 1 < a
  · have hf := far_false (M := M) (ops := ops) (r := (a, k, s, d)) hfar
    rw [hf]
    refine (rel_far v1 v2 v3 v4 v5 A6 ops.length c6 b i h6 a k s d hr.1 hfar w).mono ?_
    rintro e w' ⟨rfl, hb⟩
    exact ⟨rfl, OutO.of_below hb, fun h => by cases h⟩
  · have h1 : a.tmod 4 = 0 := by
      by_cases e : a.tmod 4 = 0
      · exact e
      · exact absurd (.inl e) hfar
    have h2 : 0 ≤ a := by
      by_cases e : 0 ≤ a
      · exact e
      · exact absurd (.inr (.inl (by omega))) hfar
    have h3 : a ≤ 4 * (ops.length : Int) - 1 := by
      by_cases e : a ≤ 4 * (ops.length : Int) - 1
      · exact e
      · exact absurd (.inr (.inr (by omega))) hfar
    rw [Int.tmod_eq_emod_of_nonneg h2] at h1
    obtain ⟨j, rfl⟩ : ∃ j : Nat, a = 4 * (j : Int) := ⟨(a / 4).toNat, by omega⟩
    have hj : j < ops.length := by omega
    obtain ⟨o, ho, ho2⟩ := hops _ (List.getElem_mem hj)
    obtain ⟨bo, oo, rfl, _, hb2, hcell⟩ := hrow.at_ (sz := 1) (fun x => rfl) (by omega) (by omega)
    have hc := hcell j hj 0 (.int .i64 o) (by rw [ho]; rfl)
    rw [show oo + (j * 1 + 0) = oo + j by omega] at hc
    have hbo : bo < w.heap.size := by omega
    have hop : (nth ops (4 * (j : Int) / 4).toNat).toNat = o := by
      rw [show (4 * (j : Int) / 4).toNat = j by omega, nth_get hj, ho]; rfl
    have hrel : relB M ops (4 * (j : Int), k, s, d) = (suitB k o && (M (1, ⟨#[]⟩, 4 * (j : Int))).isNone && nameB (sB s) && decide (-65536 ≤ d) && decide (d ≤ 65536)) := by
      unfold relB
      simp only [hop]
      rw [tmod4, inB_pos h2, decide_eq_true h3]
      simp
    rw [hrel]
    cases hs : suitB k o with
    | false =>
      refine (rel_unsuit v1 v2 v3 v4 v5 bo oo ops.length c6 b i h6 j hj o ho2 k s d w hT hbo hc hs).mono ?_
      rintro e w' ⟨rfl, hb⟩
      exact ⟨by simp, OutO.of_below hb, fun h => by simp at h⟩
    | true =>
      cases hM : M (1, ⟨#[]⟩, 4 * (j : Int)) with
      | some q =>
        refine (rel_seen v1 v2 v3 v4 v5 bo oo ops.length c6 b n M i hi0 hi1 hn h6 j hj o ho2 k s d hr.2 w hT hbo hK hc hs q hM).mono ?_
        rintro e w' ⟨rfl, hb⟩
        exact ⟨by simp, OutO.of_below hb, fun h => by simp at h⟩
      | none =>
        refine (rel_new v1 v2 v3 v4 v5 bo oo ops.length c6 b n M i hi0 hi1 hn h6 j hj o ho2 k s d hr.2 w hT hbo hK hc hs hM).mono ?_
        rintro e w' ⟨rfl, hb, hs'⟩
        exact ⟨by simp, hb, fun _ => hs'⟩
end Go.Proofs.YtfdpbogbnfkilaaDoor
