/- Layer 7: slices.Sort and slices.Compact of strings, of rows that the call made: by the library's contracts, laid at this program in plain words (YtjngkifoaljmaaaGreatDoorShelf: tools/shelf.sh). No condition beside.
   Layer 7: Outs. No condition.
   Layer 7: cmp.Compare of ints. No condition.
   Layer 7: cmp.Or of two ints; byPlace. No condition. -/
import Derived.Test.YtjngkifoaljmaaaGreatDoorSymF
import Derived.Test.YtjngkifoaljmaaaGreatDoorShelf
import Derived.Sort.OwnSorted
import Derived.Sort.EveryDepth
import Derived.Lib.OwnBridge
namespace Go.Proofs.YtjngkifoaljmaaaGreatDoor
set_option maxRecDepth 100000
open Go.RowKit Go.Sort
set_option linter.unusedVariables false
/-- a row of bytes' rows in their order -/
def srtB (ss : List (List UInt8)) : List (List UInt8) := ss.mergeSort fun x y => decide (x ≤ y)
def rowsB (names : List ByteArray) : List (List UInt8) := names.map (·.data.toList)
def namesL (ss : List (List UInt8)) : List ByteArray := ss.map fun l => ⟨l.toArray⟩
theorem flat_bytes (names : List ByteArray) : names.flatMap encStr = (rowsB names).map Proofs.encStr := by
  unfold rowsB encStr
  rw [Lib.map_encStr]
  induction names with
  | nil => rfl
  | cons a l ih => rw [List.flatMap_cons, ih]; rfl
theorem flat_names (ss : List (List UInt8)) : (namesL ss).flatMap encStr = ss.map Proofs.encStr := by
  unfold namesL encStr
  induction ss with
  | nil => rfl
  | cons a l ih => rw [List.map_cons, List.flatMap_cons, ih]; rfl
/-- names in their order; names without those that follow their like -/
def srtN (names : List ByteArray) : List ByteArray := namesL (srtB (rowsB names))
def cmpN (names : List ByteArray) : List ByteArray := namesL (Lib.compact (rowsB names))
theorem srtN_length (names : List ByteArray) : (srtN names).length = names.length := by
  unfold srtN namesL srtB rowsB
  rw [List.length_map, List.length_mergeSort, List.length_map]
end Go.Proofs.YtjngkifoaljmaaaGreatDoor
namespace Go.Proofs.YtjngkifoaljmaaaGreatDoor
set_option maxRecDepth 100000
open Go.RowKit Go.Maps
set_option linter.unusedVariables false
/-- the names, Out, of those keys that have gone by -/
def NmO (D : DataW Unit) (left : Lit → Bool) (names : List ByteArray) : Prop :=
  ∀ s, s ∈ names ↔ ∃ t, KnW t ∧ t.1 = s ∧ t.2.2 = true ∧ has D (kKey t) = true ∧ left (kKey t) = false
theorem NmO.start (D : DataW Unit) : NmO D (has D) [] := fun s =>
  ⟨fun h => (by cases h), fun ⟨t, _, _, _, h1, h2⟩ => (by rw [h1] at h2; cases h2)⟩
theorem NmO.miss {D : DataW Unit} {left : Lit → Bool} {names : List ByteArray} {t : Kn} (h : NmO D left names) (ht : KnW t) (hm : ¬ t.2.2 = true) : NmO D (fun z => left z && !z.sameKey (kKey t)) names := fun s => by
  rw [h s]
  constructor
  · rintro ⟨u, h1, h2, h3, h4, h5⟩
    exact ⟨u, h1, h2, h3, h4, (left_next ht h1).2 (.inl h5)⟩
  · rintro ⟨u, h1, h2, h3, h4, h5⟩
    rcases (left_next ht h1).1 h5 with h | rfl
    · exact ⟨u, h1, h2, h3, h4, h⟩
    · exact absurd h3 hm
theorem NmO.hit {D : DataW Unit} {left : Lit → Bool} {names : List ByteArray} {t : Kn} (h : NmO D left names) (ht : KnW t) (hm : t.2.2 = true) (hd : has D (kKey t) = true) : NmO D (fun z => left z && !z.sameKey (kKey t)) (names ++ [t.1]) := fun s => by
  rw [List.mem_append, List.mem_singleton, h s]
  constructor
  · rintro (⟨u, h1, h2, h3, h4, h5⟩ | rfl)
    · exact ⟨u, h1, h2, h3, h4, (left_next ht h1).2 (.inl h5)⟩
    · exact ⟨t, ht, rfl, hm, hd, (left_next ht ht).2 (.inr rfl)⟩
  · rintro ⟨u, h1, h2, h3, h4, h5⟩
    rcases (left_next ht h1).1 h5 with h | rfl
    · exact .inl ⟨u, h1, h2, h3, h4, h⟩
    · exact .inr h2.symm
/-- a name is Out in an object -/
def outP (M : Kn → Option Int) (s : ByteArray) : Prop := ∃ i : Int, KnW (s, i, true) ∧ (M (s, i, true)).isSome = true
theorem outs_iff {D : DataW Unit} {M : Kn → Option Int} {left : Lit → Bool} {names : List ByteArray} (h : NmO D left names) (hl : ∀ kl, left kl = false) (hat : ∀ t, KnW t → (M t = none → has D (kKey t) = false) ∧ ∀ c, M t = some c → has D (kKey t) = true ∧ ∀ z, D.atKey (kKey t) z = .lit (.int .i64 c)) : ∀ s, s ∈ names ↔ outP M s := fun s => by
  rw [h s]
  constructor
  · rintro ⟨⟨s', i, o⟩, h1, rfl, h3, h6, _⟩
    simp only at h3
    subst h3
    exact ⟨i, h1, has_some hat h1 h6⟩
  · rintro ⟨i, h1, h2⟩
    obtain ⟨c, hc⟩ := Option.isSome_iff_exists.1 h2
    exact ⟨(s, i, true), h1, rfl, rfl, ((hat _ h1).2 c hc).1, hl _⟩
theorem field_book (n : Int) (b : Nat) (w : World) : (Instr.field 87 (.agg #[.int .i64 n, .map (some b)]) 1).run Tryz.prog w = .ok (.map (some b)) w := by kernel_rfl
attribute [local go_sem ↓] field_book
end Go.Proofs.YtjngkifoaljmaaaGreatDoor
namespace Go.Proofs.YtjngkifoaljmaaaGreatDoor
set_option maxRecDepth 100000
open Go.RowKit Go.Maps
set_option linter.unusedVariables false
/-- cmp.Compare -/
def cmpI (x y : Int) : Int := if x < y then -1 else if y < x then 1 else 0
end Go.Proofs.YtjngkifoaljmaaaGreatDoor
namespace Go.Proofs.YtjngkifoaljmaaaGreatDoor
set_option maxRecDepth 100000
open Go.RowKit Go.Maps
set_option linter.unusedVariables false
/-- cmp.Or of two -/
def orI (x y : Int) : Int := if x = 0 then y else x
end Go.Proofs.YtjngkifoaljmaaaGreatDoor
