/- Layer 8: what a right list fixes; all texts, walked. Condition: the tables of package ins read as they should. -/
import Derived.Test.YtjngkifoaljmaaaDoorPlaG
namespace Go.Proofs.YtjngkifoaljmaaaDoor
set_option maxRecDepth 100000
open Go.RowKit
set_option linter.unusedVariables false
theorem chk_found {l : List ObjD} (h : (chkF l).2 = 0) {i : Nat} (hi : i < l.length) {r : RelD} (hr : r ∈ l[i].rels) : ∃ (k : Nat) (hk : k < l.length) (j : Nat) (hj : j < l[k].syms.length), fndD l (i : Int) r.2.2.1 = some ((k : Int), (j : Int)) := by
  have hm := chkF_may h
  have hv : vdN l = [] := by
    unfold chkF at h
    rw [if_neg (by rw [hm]; simp)] at h
    cases hc : clN l with
    | cons x t => rw [hc] at h; exact absurd h (by simp)
    | nil =>
      rw [hc] at h
      cases hv : vdN l with
      | nil => rfl
      | cons x t => rw [hv] at h; exact absurd h (by simp)
  have hs : (findP l i r.2.2.1).isSome = true := by
    have hn : r.2.2.1 ∉ vdN l := by rw [hv]; simp
    have hin : r.2.2.1 ∈ relN l := by
      unfold relN
      rw [List.mem_flatMap]
      exact ⟨l[i], List.getElem_mem hi, List.mem_map.2 ⟨r, hr, rfl⟩⟩
    have hrel : relIn (nAt l i) r.2.2.1 = true := by
      unfold relIn
      rw [nAt_get hi, List.any_eq_true]
      exact ⟨r, hr, by simp⟩
    by_cases ho : ownIn (nAt l i) r.2.2.1 = true
    · unfold ownIn at ho
      rw [← idx_isSome] at ho
      obtain ⟨j, hj⟩ := Option.isSome_iff_exists.1 ho
      rw [own_find hj]; rfl
    · by_cases hx : ∃ j, j < l.length ∧ outIn (nAt l j) r.2.2.1 = true
      · obtain ⟨j, h1, h2⟩ := hx
        exact find_out hi h1 h2
      · exfalso
        apply hn
        unfold vdN
        rw [List.mem_filter]
        refine ⟨hin, (vdB_iff l _).2 ⟨i, hi, hrel, by simpa using ho, fun j hj => ?_⟩⟩
        cases e : outIn (nAt l j) r.2.2.1 with
        | false => rfl
        | true => exact absurd ⟨j, hj, e⟩ hx
  obtain ⟨x, hx⟩ := Option.isSome_iff_exists.1 hs
  obtain ⟨k, hk, j, hj, e, _⟩ := find_some' hi hx
  exact ⟨k, hk, j, hj, by rw [fnd_plain hi, hx, e]⟩
/-- what a right list's relocation is -/
theorem may_rel {l : List ObjD} (h : mayLs l = true) {i j : Nat} (hi : i < l.length) (hj : j < l[i].rels.length) :
    relOkB l[i] j = true ∧ (∀ x ∈ l[i].text, (opOf x).isSome = true) := by
  unfold mayLs at h
  simp only [Bool.and_eq_true] at h
  have h1 := List.all_eq_true.1 h.2 l[i] (List.getElem_mem hi)
  unfold mayO at h1
  simp only [Bool.and_eq_true] at h1
  obtain ⟨⟨⟨⟨_, h2⟩, _⟩, h3⟩, _⟩ := h1
  exact ⟨range_all_of h3 hj, fun x hx => List.all_eq_true.1 h2 x hx⟩
theorem rel_spot {d : ObjD} {j : Nat} (h : relOkB d j = true) : 0 ≤ (relAt d j).1 ∧ (relAt d j).1 ≤ 4 * (d.text.length : Int) - 1 ∧ (relAt d j).1 = 4 * (posR d j : Int) ∧ posR d j < d.text.length ∧ (∀ k, k < j → posR d k ≠ posR d j ∨ ¬ relOkB d k = true) ∧ suitB (relAt d j).2.1 (nth (opsL d.text) (posR d j)).toNat = true := by
  have h0 := h
  unfold relOkB at h
  simp only [Bool.and_eq_true, decide_eq_true_eq, beq_iff_eq] at h
  obtain ⟨⟨⟨⟨⟨⟨h1, h2⟩, h3⟩, h4⟩, _⟩, _⟩, _⟩ := h
  unfold inB at h2
  simp only [Bool.and_eq_true, decide_eq_true_eq] at h2
  obtain ⟨h5, h6⟩ := h2
  have hm : (relAt d j).1 % 4 = 0 := by rw [Int.tmod_eq_emod_of_nonneg h5] at h1; exact h1
  have hp : (relAt d j).1 = 4 * (posR d j : Int) := by unfold posR; omega
  refine ⟨h5, h6, hp, by omega, fun k hk => ?_, h3⟩
  by_cases hok : relOkB d k = true
  · left
    intro e
    have hk4 := List.all_eq_true.1 h4 k (List.mem_range.2 hk)
    simp only [Bool.not_eq_true', decide_eq_false_iff_not] at hk4
    apply hk4
    unfold relOkB at hok
    simp only [Bool.and_eq_true, decide_eq_true_eq, beq_iff_eq] at hok
    obtain ⟨⟨⟨⟨⟨⟨g1, g2⟩, _⟩, _⟩, _⟩, _⟩, _⟩ := hok
    unfold inB at g2
    simp only [Bool.and_eq_true, decide_eq_true_eq] at g2
    have gm : (relAt d k).1 % 4 = 0 := by rw [Int.tmod_eq_emod_of_nonneg g2.1] at g1; exact g1
    have gp : (relAt d k).1 = 4 * (posR d k : Int) := by unfold posR; omega
    omega
  · right; exact hok
end Go.Proofs.YtjngkifoaljmaaaDoor
