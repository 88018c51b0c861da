/- Layer 7: slices.Sort and slices.Compact of strings, of rows that the call made: by the library's contracts, laid at this program in plain words (YthoehbmbmjmpbaaDoorShelf: tools/shelf.sh). No condition beside. -/
import Derived.Test.YthoehbmbmjmpbaaDoorSymM
import Derived.Test.YthoehbmbmjmpbaaDoorShelf
import Derived.Shelf.Slices.In.SortNone
import Derived.Sort.OwnSorted
import Derived.Sort.EveryDepth
import Derived.Lib.OwnBridge
namespace Go.Proofs.YthoehbmbmjmpbaaDoor
set_option maxRecDepth 100000
open Go.RowKit Go.Sort
set_option linter.unusedVariables false
/-- a row of bytes' rows in their order -/
def srtB (ss : List (List UInt8)) : List (List UInt8) := ss.mergeSort fun x y => decide (x ≤ y)
theorem sort_rows (ss : List (List UInt8)) (base n : Nat) (v : Value) (w : World) (h : w.ownsRow base 9 1 v n (ss.map Proofs.encStr)) (hn : n ≤ 100000000) :
    Calls Tryd.prog 36 #[v] w fun e w' => e = .returned (.tuple #[]) ∧ w'.ownsRow base 9 1 v n ((srtB ss).map Proofs.encStr) ∧ Below base w w' := by
  have hl : ss.length = n := by simpa using h.1
  rcases h.2 with ⟨rfl, rfl⟩ | ⟨g, cap, cur, rfl, hbase, hb, h1, h2, h3, h4⟩
  · have hs : ss = [] := List.eq_nil_of_length_eq_zero hl
    subst hs
    refine (calls_of_every_depth fun D => AnyS.slices_Sort_string_none_alone Tryd.laysSort D none 0 w).mono ?_
    rintro e w' ⟨rfl, rfl⟩
    exact ⟨rfl, by unfold srtB; rw [List.mergeSort_nil]; exact h, Below.refl _ _⟩
  · have hg : g < w.heap.size := (Array.getElem?_eq_some_iff.1 hb).1
    have hH : Holds Proofs.encStr w g 0 ss.toArray := holds_of_block hb (by rw [hl]; simpa using h4)
    subst hl
    refine (calls_of_every_depth fun D => AnyS.slices_Sort_string_alone Tryd.laysSort D g 0 cap ss w hH hg (by omega)).mono ?_
    rintro e w' ⟨rfl, q, os, rfl⟩
    exact ⟨rfl, ownsRow_sorted (List.length_mergeSort ss) hbase hb h1 h2 h3, (Below.refl base w).grown (grownBy_sorted _) (by omega) (fun k hk => by cases hk; exact hbase)⟩
theorem compact_rows (ss : List (List UInt8)) (base n : Nat) (v : Value) (w : World) (h : w.ownsRow base 9 1 v n (ss.map Proofs.encStr)) (hn : n ≤ 100000000) :
    Calls Tryd.prog 37 #[v] w fun e w' => ∃ v', e = .returned v' ∧ w'.ownsRow base 9 1 v' (Lib.compact ss).length ((Lib.compact ss).map Proofs.encStr) ∧ Below base w w' := by
  have hl : ss.length = n := by simpa using h.1
  rcases h.2 with ⟨rfl, rfl⟩ | ⟨g, cap, cur, rfl, hbase, hb, h1, h2, h3, h4⟩
  · have hs : ss = [] := List.eq_nil_of_length_eq_zero hl
    subst hs
    refine (calls_of_every_depth fun D => AnyS.slices_Compact_string_empty_in Tryd.laysCompact D none 0 w).mono ?_
    rintro e w' ⟨rfl, rfl⟩
    exact ⟨_, rfl, h, Below.refl _ _⟩
  · have hg : g < w.heap.size := (Array.getElem?_eq_some_iff.1 hb).1
    have hH : Holds Proofs.encStr w g 0 ss.toArray := holds_of_block hb (by rw [hl]; simpa using h4)
    subst hl
    refine (calls_of_every_depth fun D => AnyS.slices_Compact_string_in Tryd.laysCompact D g 0 cap ss w hH (by omega) h1).mono ?_
    rintro e w' ⟨rfl, q, rfl⟩
    have hle := Lib.compact_length_le ss
    have hc := Lib.ownsRow_putRow (q := q) (k := (Lib.compact ss).length) (ys := Lib.compact ss ++ List.replicate (ss.length - (Lib.compact ss).length) []) h (by simp; omega) hle
    rw [List.take_left] at hc
    exact ⟨_, rfl, hc, Lib.below_putRow (Below.refl base w) hbase⟩
def rowsB (names : List ByteArray) : List (List UInt8) := names.map (·.data.toList)
def namesL (ss : List (List UInt8)) : List ByteArray := ss.map fun l => ⟨l.toArray⟩
theorem flat_bytes (names : List ByteArray) : names.flatMap encStr = (rowsB names).map Proofs.encStr := by
  unfold rowsB encStr
  rw [Lib.map_encStr]
  induction names with
  | nil => rfl
  | cons a l ih => rw [List.flatMap_cons, ih]; rfl
theorem flat_names (ss : List (List UInt8)) : (namesL ss).flatMap encStr = ss.map Proofs.encStr := by
  unfold namesL encStr
  induction ss with
  | nil => rfl
  | cons a l ih => rw [List.map_cons, List.flatMap_cons, ih]; rfl
/-- names in their order; names without those that follow their like -/
def srtN (names : List ByteArray) : List ByteArray := namesL (srtB (rowsB names))
def cmpN (names : List ByteArray) : List ByteArray := namesL (Lib.compact (rowsB names))
theorem srtN_length (names : List ByteArray) : (srtN names).length = names.length := by
  unfold srtN namesL srtB rowsB
  rw [List.length_map, List.length_mergeSort, List.length_map]
theorem sort_names (names : List ByteArray) (base : Nat) (v : Value) (w : World) (h : NamesAt w base names v) (hn : names.length ≤ 100000000) :
    Calls Tryd.prog 36 #[v] w fun e w' => e = .returned (.tuple #[]) ∧ NamesAt w' base (srtN names) v ∧ Below base w w' := by
  obtain ⟨A, c, hv, ho⟩ := h
  rw [flat_bytes] at ho
  refine (sort_rows _ base _ v w ho hn).mono ?_
  rintro e w' ⟨he, h1, h2⟩
  refine ⟨he, ⟨A, c, by rw [srtN_length]; exact hv, ?_⟩, h2⟩
  rw [srtN_length]
  unfold srtN
  rw [flat_names]
  exact h1
theorem compact_names (names : List ByteArray) (base : Nat) (v : Value) (w : World) (h : NamesAt w base names v) (hn : names.length ≤ 100000000) :
    Calls Tryd.prog 37 #[v] w fun e w' => ∃ v', e = .returned v' ∧ NamesAt w' base (cmpN names) v' ∧ Below base w w' := by
  obtain ⟨A, c, hv, ho⟩ := h
  rw [flat_bytes] at ho
  refine (compact_rows _ base _ v w ho hn).mono ?_
  rintro e w' ⟨v', he, h1, h2⟩
  have hl : (cmpN names).length = (Lib.compact (rowsB names)).length := by unfold cmpN namesL; rw [List.length_map]
  have hs : ∃ A' c', v' = .slice A' (cmpN names).length c' := by
    rw [hl]
    rcases h1.2 with ⟨e0, e1⟩ | ⟨g, cap, cur, e0, _⟩
    · exact ⟨none, 0, by rw [e0, e1]⟩
    · exact ⟨_, _, e0⟩
  obtain ⟨A', c', hv'⟩ := hs
  refine ⟨v', he, ⟨A', c', hv', ?_⟩, h2⟩
  rw [hl]
  unfold cmpN
  rw [flat_names]
  exact h1
end Go.Proofs.YthoehbmbmjmpbaaDoor
