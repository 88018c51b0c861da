/- Layer 7: Entries. Condition: the tables of package ins read as they should. -/
import Derived.Test.YtjngkifoaljmaaaGreatDoorSymR
import Derived.Test.YtjngkifoaljmaaaGreatDoorSynA
namespace Go.Proofs.YtjngkifoaljmaaaGreatDoor
set_option maxRecDepth 100000
open Go.RowKit Go.Maps
set_option linter.unusedVariables false
/-- what an entry's name means -/
def entD (l : List ObjD) (k : Nat) (e : EntD) : Int × Int := valD (bookM l) l.length (e.1, (k : Int))
def entL (l : List ObjD) : Nat → List (Int × Int)
  | 0 => []
  | k + 1 => entL l k ++ (nAt l k).ents.map (entD l k)
theorem entL_len (l : List ObjD) : ∀ k, k ≤ l.length → (entL l k).length = ((l.take k).map fun d => d.ents.length).sum
  | 0, _ => rfl
  | k + 1, hk => by
    rw [entL, List.length_append, entL_len l k (by omega), List.take_succ_eq_append_getElem (by omega), List.map_append, List.sum_append, nAt_get (by omega)]
    simp
theorem may_ents {l : List ObjD} (h : mayLs l = true) : ∀ k, k ≤ l.length → (entL l k).length ≤ k * 64
  | 0, _ => by simp [entL]
  | k + 1, hk => by
    have h1 := may_ents h k (by omega)
    have h2 : (nAt l k).ents.length ≤ 64 := by
      unfold mayLs at h
      simp only [Bool.and_eq_true, decide_eq_true_eq] at h
      have h3 := List.all_eq_true.1 h.2 (nAt l k) (nAt_mem (by omega))
      rw [mayO_eq] at h3
      simp only [Bool.and_eq_true] at h3
      exact (few_of h3.1.1).2.2.2.2
    rw [entL, List.length_append, List.length_map]
    omega
def EntA7 (l : List ObjD) (w : World) (e : Ending) (w' : World) : Prop := ∃ ds v, e = .returned v ∧ DefsAt w' w.heap.size ds v ∧ (okL l → ds = entL l l.length) ∧ (¬ okL l → ds = []) ∧ Below w.heap.size w w'
end Go.Proofs.YtjngkifoaljmaaaGreatDoor
