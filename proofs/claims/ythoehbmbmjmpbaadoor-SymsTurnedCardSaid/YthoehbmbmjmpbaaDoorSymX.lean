/- Layer 7: rows that are sorted and have no two alike: names in their order, without those that follow their like. No condition. -/
import Derived.Test.YthoehbmbmjmpbaaDoorSymO
import Derived.Test.YthoehbmbmjmpbaaDoorSymG
namespace Go.Proofs.YthoehbmbmjmpbaaDoor
set_option linter.unusedVariables false
section
variable {α : Type} [Inhabited α] [DecidableEq α] {lt : α → α → Prop}
/-- what is kept of a sorted row: strictly rising, the same elements -/
theorem compact_rises (hi : ∀ x, ¬ lt x x) (ht : ∀ x y z, lt x y → lt y z → lt x z) (h3 : ∀ x y, ¬ lt x y → x ≠ y → lt y x) (d : Array α) (hs : ∀ i j, i < j → j < d.size → ¬ lt d[j]! d[i]!) :
    ∀ m, m ≤ d.size → (∀ x, x ∈ Lib.compactUpTo d m ↔ ∃ j, j < m ∧ d[j]! = x) ∧ (Lib.compactUpTo d m).Pairwise lt := by
  intro m
  induction m with
  | zero => intro _; simp [Lib.compactUpTo]
  | succ m ih =>
    intro hm
    obtain ⟨h1, h2⟩ := ih (by omega)
    rw [Lib.compactUpTo_succ]
    cases hk : Lib.keeps d m
    case false =>
      rw [if_neg (by simp), List.append_nil]
      have hd : m ≠ 0 ∧ d[m]! = d[m - 1]! := by
        unfold Lib.keeps at hk
        simp at hk
        exact ⟨hk.1, hk.2⟩
      refine ⟨fun x => ?_, h2⟩
      rw [h1 x]
      constructor
      · rintro ⟨j, hj, e⟩; exact ⟨j, by omega, e⟩
      · rintro ⟨j, hj, e⟩
        by_cases hjm : j = m
        · subst hjm; exact ⟨j - 1, by omega, by rw [← e, hd.2]⟩
        · exact ⟨j, by omega, e⟩
    case true =>
      rw [if_pos rfl]
      refine ⟨fun x => ?_, ?_⟩
      · rw [List.mem_append, List.mem_singleton, h1 x]
        constructor
        · rintro (⟨j, hj, e⟩ | rfl)
          · exact ⟨j, by omega, e⟩
          · exact ⟨m, by omega, rfl⟩
        · rintro ⟨j, hj, e⟩
          by_cases hjm : j = m
          · subst hjm; exact .inr e.symm
          · exact .inl ⟨j, by omega, e⟩
      · rw [List.pairwise_append]
        refine ⟨h2, by simp, fun x hx y hy => ?_⟩
        rw [List.mem_singleton] at hy
        subst hy
        obtain ⟨j, hj, rfl⟩ := (h1 x).1 hx
        have hd : d[m]! ≠ d[m - 1]! := by
          unfold Lib.keeps at hk
          simp at hk
          rcases hk with h | h
          · omega
          · exact h
        have hl : lt d[m - 1]! d[m]! := h3 _ _ (hs (m - 1) m (by omega) (by omega)) hd
        by_cases hjm : j = m - 1
        · rw [hjm]; exact hl
        · have hle := hs j (m - 1) (by omega) (by omega)
          by_cases he : d[j]! = d[m - 1]!
          · rw [he]; exact hl
          · exact ht _ _ _ (h3 _ _ hle (fun e => he e.symm)) hl
omit [Inhabited α] [DecidableEq α] in
theorem rises_unique (hi : ∀ x, ¬ lt x x) (ht : ∀ x y z, lt x y → lt y z → lt x z) : ∀ {xs ys : List α}, xs.Pairwise lt → ys.Pairwise lt → (∀ x, x ∈ xs ↔ x ∈ ys) → xs = ys
  | [], [], _, _, _ => rfl
  | [], y :: ys, _, _, h => absurd ((h y).2 (by simp)) (by simp)
  | x :: xs, [], _, _, h => absurd ((h x).1 (by simp)) (by simp)
  | x :: xs, y :: ys, hx, hy, h => by
    rw [List.pairwise_cons] at hx hy
    have e : x = y := by
      rcases List.mem_cons.1 ((h x).1 (by simp)) with e | e
      · exact e
      · rcases List.mem_cons.1 ((h y).2 (by simp)) with e' | e'
        · exact e'.symm
        · exact absurd (ht _ _ _ (hy.1 x e) (hx.1 y e')) (hi _)
    subst e
    congr 1
    refine rises_unique hi ht hx.2 hy.2 fun z => ?_
    constructor
    · intro hz
      rcases List.mem_cons.1 ((h z).1 (List.mem_cons_of_mem _ hz)) with e | e
      · subst e; exact absurd (hx.1 z hz) (hi _)
      · exact e
    · intro hz
      rcases List.mem_cons.1 ((h z).2 (List.mem_cons_of_mem _ hz)) with e | e
      · subst e; exact absurd (hy.1 z hz) (hi _)
      · exact e
end
def ltB (x y : List UInt8) : Prop := x < y
theorem ltB_irr (x : List UInt8) : ¬ ltB x x := List.lt_irrefl x
theorem ltB_tr (x y z : List UInt8) (h1 : ltB x y) (h2 : ltB y z) : ltB x z := List.lt_trans h1 h2
theorem ltB_tri (x y : List UInt8) (h : ¬ ltB x y) (hne : x ≠ y) : ltB y x := lst_tri h hne
theorem srtB_sorted (ss : List (List UInt8)) : (srtB ss).Pairwise fun x y => ¬ ltB y x := by
  unfold srtB ltB
  have h := List.pairwise_mergeSort (le := fun (x y : List UInt8) => decide (x ≤ y)) (fun a b c h1 h2 => by simp at *; exact List.le_trans h1 h2) (fun a b => by simp; exact List.le_total a b) ss
  exact h.imp fun h => by simpa using h
/-- names, sorted and without those that follow their like: rising, the same names -/
theorem outs_rise (names : List ByteArray) : (rowsB (cmpN (srtN names))).Pairwise ltB ∧ ∀ s, s ∈ cmpN (srtN names) ↔ s ∈ names := by
  have hr : ∀ zs : List (List UInt8), rowsB (namesL zs) = zs := fun zs => by
    unfold rowsB namesL
    rw [List.map_map]
    conv => rhs; rw [← List.map_id zs]
    exact List.map_congr_left fun z _ => by simp
  have hs := srtB_sorted (rowsB names)
  have hc := compact_rises ltB_irr ltB_tr ltB_tri (srtB (rowsB names)).toArray (fun i j hij hj => by
    have hj' : j < (srtB (rowsB names)).length := by simpa using hj
    have := List.pairwise_iff_getElem.1 hs i j (by omega) hj' hij
    simpa [hj', show i < (srtB (rowsB names)).length by omega] using this) (srtB (rowsB names)).length (by simp)
  unfold cmpN
  rw [show rowsB (srtN names) = srtB (rowsB names) from by unfold srtN; exact hr _, hr]
  refine ⟨hc.2, fun s => ?_⟩
  have hm : ∀ z, z ∈ Lib.compact (srtB (rowsB names)) ↔ z ∈ rowsB names := fun z => by
    have h1 := hc.1 z
    unfold Lib.compact
    rw [h1]
    unfold srtB
    rw [← List.mem_mergeSort (le := fun x y => decide (x ≤ y)) (a := z) (l := rowsB names), List.mem_iff_getElem]
    constructor
    · rintro ⟨j, hj, e⟩; exact ⟨j, hj, by rw [← e, getElem!_pos _ j (by simpa using hj)]; simp⟩
    · rintro ⟨j, hj, e⟩; exact ⟨j, hj, by rw [← e, getElem!_pos _ j (by simpa using hj)]; simp⟩
  unfold namesL
  rw [List.mem_map]
  constructor
  · rintro ⟨z, hz, rfl⟩
    have := (hm z).1 hz
    unfold rowsB at this
    obtain ⟨t, ht, rfl⟩ := List.mem_map.1 this
    have e : (⟨t.data.toList.toArray⟩ : ByteArray) = t := ba_ext (by simp)
    rw [e]; exact ht
  · intro hs'
    exact ⟨s.data.toList, (hm _).2 (by unfold rowsB; exact List.mem_map.2 ⟨s, hs', rfl⟩), ba_ext (by simp)⟩
theorem rowsB_inj {a b : List ByteArray} (h : rowsB a = rowsB b) : a = b := by
  unfold rowsB at h
  exact (List.map_inj_right (fun x y e => ba_ext e)).1 h
/-- names that rise are told by which they are -/
theorem names_unique {a b : List ByteArray} (ha : (rowsB a).Pairwise ltB) (hb : (rowsB b).Pairwise ltB) (h : ∀ s, s ∈ a ↔ s ∈ b) : a = b := by
  refine rowsB_inj (rises_unique ltB_irr ltB_tr ha hb fun z => ?_)
  unfold rowsB
  constructor
  · intro hz; obtain ⟨t, ht, rfl⟩ := List.mem_map.1 hz; exact List.mem_map.2 ⟨t, (h t).1 ht, rfl⟩
  · intro hz; obtain ⟨t, ht, rfl⟩ := List.mem_map.1 hz; exact List.mem_map.2 ⟨t, (h t).2 ht, rfl⟩
end Go.Proofs.YthoehbmbmjmpbaaDoor
