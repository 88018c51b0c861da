/- Layer 7: slices.SortFunc by place of Defs, of rows that the call made. No condition. -/
import Derived.Test.YthoehbmbmjmpbaaDoorSymT
import Derived.Test.YthoehbmbmjmpbaaDoorSymX
import Derived.Test.YthoehbmbmjmpbaaDoorSynE
namespace Go.Proofs.YthoehbmbmjmpbaaDoor
set_option maxRecDepth 100000
open Go.RowKit Go.Maps Go.Sort
set_option linter.unusedVariables false
theorem heap_putRowK {w : World} {g n : Nat} {os : Array Obj} {cur : Array Value} {e : TypeId} {fr : Nat × Nat} (d : Array (Int × Int)) (hb : w.heap[g]? = some (.cells cur e fr)) :
    (grow (putRowK encDef 2 (Sort.ahead w n) g 0 d) os).heap[g]? = some (.cells (putCells id 0 (flatK encDef 2 d) cur) e fr) := by
  have hg : g < w.heap.size := (Array.getElem?_eq_some_iff.1 hb).1
  rw [heap_grow_old _ _ (by simpa [putRowK, putRow, mapBlock, Sort.ahead] using hg)]
  simp [putRowK, putRow, mapBlock, Sort.ahead, Array.getElem?_modify, hb, onCells]
theorem grown_putRowK {w : World} {g n : Nat} {os : Array Obj} (d : Array (Int × Int)) : w.grownBy (grow (putRowK encDef 2 (Sort.ahead w n) g 0 d) os) (some g) := by
  refine ⟨rfl, rfl, rfl, by simp [putRowK, putRow, mapBlock, Sort.ahead, grow], fun k hk hne => ?_⟩
  rw [heap_grow_old _ _ (by simpa [putRowK, putRow, mapBlock, Sort.ahead] using hk)]
  have : g ≠ k := fun e => hne (by rw [e])
  simp [putRowK, putRow, mapBlock, Sort.ahead, Array.getElem?_modify, this]
theorem take_putK (cur : Array Value) (ds : List (Int × Int)) (h : ds.length * 2 ≤ cur.size) : (putCells id 0 (flatK encDef 2 ds.toArray) cur).toList.take (ds.length * 2) = ds.flatMap encDef := by
  apply List.ext_getElem?
  intro j
  by_cases hj : j < ds.length * 2
  · have hq : j / 2 < ds.length := by omega
    have hg := flat_get (enc := encDef) (sz := 2) (xs := ds) (fun _ => rfl) (j := j / 2) (i := j % 2) hq (by omega)
    rw [show j / 2 * 2 + j % 2 = j by omega] at hg
    rw [hg, List.getElem?_take_of_lt hj, Array.getElem?_toList]
    have hk := get_flatK encDef 2 ds.toArray j (by simpa using hj)
    have hfs : (flatK encDef 2 ds.toArray).size = ds.length * 2 := by simp [flatK]
    simp only [putCells, Array.getElem?_mapIdx]
    rw [Array.getElem?_eq_getElem (show j < cur.size by omega), Option.map_some, if_pos (by rw [hfs]; omega), Nat.sub_zero, hk]
    rw [getElem!_pos ds.toArray (j / 2) (by simpa using hq)]
    rcases (show j % 2 = 0 ∨ j % 2 = 1 by omega) with e | e <;> rw [e] <;> rfl
  · rw [List.getElem?_take_eq_none (by omega), List.getElem?_eq_none (by rw [flat_len (enc := encDef) (sz := 2) (fun _ => rfl)]; omega)]
/-- Defs by their place -/
def srtD (ds : List (Int × Int)) : List (Int × Int) := ds.mergeSort fun x y => !(ltOf cfD) y x
theorem srtD_length (ds : List (Int × Int)) : (srtD ds).length = ds.length := by unfold srtD; rw [List.length_mergeSort]
theorem sort_defs (ds : List (Int × Int)) (base : Nat) (v : Value) (w : World) (hbw : base ≤ w.heap.size) (hn : ds.length ≤ 1000000) (h : DefsAt w base ds v) :
    Calls Tryd.prog 41 #[v, .func (.func 42) #[] #[]] w fun e w' => e = .returned (.tuple #[]) ∧ DefsAt w' base (srtD ds) v ∧ Below base w w' := by
  obtain ⟨A, c, rfl, ho⟩ := h
  rcases ho.2 with ⟨e, e0⟩ | ⟨g, cap, cur, e, hb, hg, hnc, hcm, hcs, htk⟩
  · have hd : ds = [] := List.eq_nil_of_length_eq_zero e0
    subst hd
    refine (AnyF.slices_SortFunc_none Tryd.laysSortF A c _ w).mono ?_
    rintro e w' ⟨rfl, rfl⟩
    exact ⟨rfl, ⟨A, c, by rw [srtD_length], by unfold srtD; rw [List.mergeSort_nil]; exact ho⟩, Below.refl _ _⟩
  · injection e with e1 e2 e3
    subst e1 e3
    have hlt : g < w.heap.size := (Array.getElem?_eq_some_iff.1 hg).1
    have hH : HoldsK encDef 2 w g 0 ds.toArray := by
      intro j hj
      have hj2 : j < ds.length * 2 := by simpa [flatK] using hj
      refine ⟨?_, by simp [World.frozen?, hg]⟩
      rw [get_flatK encDef 2 ds.toArray j (by simpa using hj2)]
      have hq : j / 2 < ds.length := by omega
      have hgt := flat_get (enc := encDef) (sz := 2) (xs := ds) (fun _ => rfl) (j := j / 2) (i := j % 2) hq (by omega)
      rw [show j / 2 * 2 + j % 2 = j by omega] at hgt
      have hcell := World.ownsRow.cells ho (g := g) rfl j
      rw [getElem!_pos ds.toArray (j / 2) (by simpa using hq)]
      have hd : (ds.flatMap encDef)[j]? = some ((encDef ds.toArray[j / 2])[j % 2]!) := by
        rw [hgt]
        rcases (show j % 2 = 0 ∨ j % 2 = 1 by omega) with e | e <;> rw [e] <;> rfl
      have := hcell _ hd
      have ea : (⟨g, 0, none⟩ : Addr).add j = ⟨g, j, none⟩ := by simpa using addO g 0 j
      rw [ea] at this
      simpa using this
    refine (AnyQ.slices_SortFunc_total Tryd.laysSortF 2 Tryd.isAgg39 Tryd.sizeOf39 encDef (fun _ => rfl) one_def cfD swoD 42 #[] g 0 c ds.toArray w calls_place (fun m os dk hs a b => by_place a.1 a.2 b.1 b.2 _) hH hlt (by simp; omega) (fun a b h2 h3 => by
      rw [ltD] at h2 h3; simp at h2 h3
      exact Prod.ext (by omega) (by omega))).mono ?_
    rintro e w' ⟨rfl, n, os, hw⟩
    have hw2 : w' = grow (putRowK encDef 2 (Sort.ahead w n) g 0 (srtD ds).toArray) os := by rw [hw]; rfl
    have hb0 := heap_putRowK (n := n) (os := os) (srtD ds).toArray hg
    rw [← hw2] at hb0
    have hgr : w.grownBy w' (some g) := by rw [hw2]; exact grown_putRowK _
    refine ⟨rfl, ⟨_, c, by rw [srtD_length], ?_⟩, (Below.refl base w).grown hgr hbw (fun k hk => by cases hk; exact hb)⟩
    refine ⟨by rw [flat_len (enc := encDef) (sz := 2) (fun _ => rfl)], .inr ⟨g, c, _, by rw [srtD_length], hb, hb0, by rw [srtD_length]; exact hnc, hcm, by simpa [putCells] using hcs, ?_⟩⟩
    exact take_putK cur (srtD ds) (by rw [srtD_length, hcs]; omega)
/-- by place, strictly -/
def ltP (x y : Int × Int) : Prop := x.1 < y.1 ∨ (x.1 = y.1 ∧ x.2 < y.2)
theorem srtD_sorted (ds : List (Int × Int)) : (srtD ds).Pairwise fun x y => ¬ ltP y x := by
  unfold srtD
  have h := List.pairwise_mergeSort (le := fun (x y : Int × Int) => !(ltOf cfD) y x) (fun a b c h1 h2 => by rw [ltD] at *; simp at *; omega) (fun a b => by rw [ltD, ltD]; simp; omega) ds
  exact h.imp fun h => by rw [ltD] at h; unfold ltP; simp at h; omega
theorem ltP_irr (x : Int × Int) : ¬ ltP x x := by unfold ltP; omega
theorem ltP_tr (x y z : Int × Int) (h1 : ltP x y) (h2 : ltP y z) : ltP x z := by unfold ltP at *; omega
theorem ltP_tri (x y : Int × Int) (h : ¬ ltP x y) (hne : x ≠ y) : ltP y x := by
  have : ¬ (x.1 = y.1 ∧ x.2 = y.2) := fun e => hne (Prod.ext e.1 e.2)
  unfold ltP at *; omega
theorem defs_rise (ds : List (Int × Int)) : (Lib.compact (srtD ds)).Pairwise ltP ∧ ∀ x, x ∈ Lib.compact (srtD ds) ↔ x ∈ ds := by
  have hs := srtD_sorted ds
  have hc := compact_rises ltP_irr ltP_tr ltP_tri (srtD ds).toArray (fun i j hij hj => by
    have hj' : j < (srtD ds).length := by simpa using hj
    have := List.pairwise_iff_getElem.1 hs i j (by omega) hj' hij
    simpa [hj', show i < (srtD ds).length by omega] using this) (srtD ds).length (by simp)
  refine ⟨hc.2, fun z => ?_⟩
  unfold Lib.compact
  rw [hc.1 z]
  unfold srtD
  rw [← List.mem_mergeSort (le := fun (x y : Int × Int) => !(ltOf cfD) y x) (a := z) (l := ds), List.mem_iff_getElem]
  constructor
  · rintro ⟨j, hj, e⟩; exact ⟨j, hj, by rw [← e, getElem!_pos _ j (by simpa using hj)]; simp⟩
  · rintro ⟨j, hj, e⟩; exact ⟨j, hj, by rw [← e, getElem!_pos _ j (by simpa using hj)]; simp⟩
theorem cmp_le (ds : List (Int × Int)) : (Lib.compact ds).length ≤ ds.length := by
  unfold Lib.compact Lib.compactUpTo
  rw [List.length_map]
  exact Nat.le_trans (List.length_filter_le _ _) (by simp)
end Go.Proofs.YthoehbmbmjmpbaaDoor
