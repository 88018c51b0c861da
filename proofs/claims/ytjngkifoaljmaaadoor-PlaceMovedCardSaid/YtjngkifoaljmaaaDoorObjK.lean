/- Layer 6: the reference's entries: each may be. No condition.
   Layer 6: the reference's May. No condition. -/
import Derived.Test.YtjngkifoaljmaaaDoorObjJ
namespace Go.Proofs.YtjngkifoaljmaaaDoor
set_option maxRecDepth 100000
open Go.RowKit
set_option linter.unusedVariables false
/-- is one of the first k Syms such as an entry s leads to? -/
def fndB (d : ObjD) (s : ByteArray) (k : Nat) : Bool := (d.syms.take k).any fun t => decide (t.1 = s) && !t.2.1 && t.2.2.2
theorem fnd_zero (d : ObjD) (s : ByteArray) : fndB d s 0 = false := rfl
theorem fnd_all {d : ObjD} {s : ByteArray} {n : Nat} (h : d.syms.length = n) : fndB d s n = (d.syms.any fun t => decide (t.1 = s) && !t.2.1 && t.2.2.2) := by
  unfold fndB; rw [List.take_of_length_le (by omega)]
theorem fnd_go {d : ObjD} {s : ByteArray} {k : Nat} (h : k < d.syms.length) : fndB d s (k + 1) = (fndB d s k || (decide ((symAt d k).1 = s) && !(symAt d k).2.1 && (symAt d k).2.2.2)) := by
  have e : d.syms[k] = symAt d k := by unfold symAt; rw [List.getD_eq_getElem?_getD, List.getElem?_eq_getElem h]; rfl
  unfold fndB
  rw [List.take_succ_eq_append_getElem h, List.any_append, e]
  simp
/-- what is asked of an entry beside its name's being new -/
def entR (d : ObjD) (i : Nat) : Bool := (d.syms.any fun t => decide (t.1 = (entAt d i).1) && !t.2.1 && t.2.2.2) && parB (entAt d i).2
theorem entOk_split (d : ObjD) (i : Nat) : entOkB d i = (entR d i && (List.range i).all fun j => !decide ((entAt d j).1 = (entAt d i).1)) := by
  unfold entOkB entR
  generalize ((List.range i).all fun j => !decide ((entAt d j).1 = (entAt d i).1)) = a
  generalize parB (entAt d i).2 = b
  generalize (d.syms.any fun t => decide (t.1 = (entAt d i).1) && !t.2.1 && t.2.2.2) = c
  cases a <;> cases b <;> cases c <;> rfl
theorem entR_of {d : ObjD} {i n : Nat} {s : ByteArray} {zs : List Int} (h : entAt d i = (s, zs)) (hn : d.syms.length = n) : entR d i = (fndB d s n && parB zs) := by
  unfold entR; rw [h, fnd_all hn]
theorem ents_no {d : ObjD} {i : Nat} (hi : i < d.ents.length) (h : entR d i = false) : entsB d = false := range_all_no hi (by rw [entOk_split, h]; rfl)
theorem ents_twice {d : ObjD} {i j : Nat} (hi : i < d.ents.length) (hj : j < i) (h : (entAt d j).1 = (entAt d i).1) : entsB d = false := range_all_no hi (by rw [entOk_split, range_all_no hj (by simp [h])]; simp)
theorem ent_yes {d : ObjD} {i : Nat} (h : entR d i = true) (hn : ∀ j, j < i → (entAt d j).1 ≠ (entAt d i).1) : entOkB d i = true := by
  rw [entOk_split, h, range_all_yes (fun j hj => by simp [hn j hj])]; rfl
theorem RowC.raw {w : World} {lo hi : Nat} {A : Option Addr} {cs : List Value} (h : RowC w lo hi A cs) (h0 : 0 < cs.length) : ∃ b o, A = some ⟨b, o, none⟩ ∧ lo ≤ b ∧ b < hi ∧ ∀ j v, cs[j]? = some v → w.cell? ⟨b, o + j, none⟩ = some v := by
  rcases h with h | h
  · subst h; exact absurd h0 (by simp)
  · exact h
end Go.Proofs.YtjngkifoaljmaaaDoor
namespace Go.Proofs.YtjngkifoaljmaaaDoor
set_option maxRecDepth 100000
open Go.RowKit
set_option linter.unusedVariables false
theorem ObjAt.below {w w' : World} {lo hi : Nat} {d : ObjD} {v : Value} (h : ObjAt w lo hi d v) (hh : hi ≤ w.heap.size) (hb : Below w.heap.size w w') : ObjAt w' lo hi d v :=
  h.move (Nat.le_refl _) (Nat.le_refl _) (fun b _ h2 => hb.block b (by omega))
theorem rdecode_o (v : Int) (hv : IsW v) : ∃ q0 q1 q2 q3 q4 : Int, ∀ w, Calls Tryd.prog 10 #[.int .u32 v] w fun e w' => e = .returned (.tuple #[.agg #[.int .i64 q0, .int .i64 q1, .int .i64 q2, .int .i64 q3, .int .i64 q4], .int .i64 (if (opOf v).isSome then 0 else 3)]) ∧ Below w.heap.size w w' := by
  cases h : opOf v with
  | none => exact ⟨0, 0, 0, 0, 0, fun w => rdecode_no v w hv (opOf_none h)⟩
  | some n =>
    obtain ⟨h1, h2⟩ := opOf_some h
    exact ⟨n, _, _, _, _, fun w => rdecode_yes v n w hv h1 h2⟩
theorem few_no {d : ObjD} (h : fewB d.text.length d.data.length d.syms.length d.rels.length d.ents.length = false) : mayO d = false := by unfold mayO; rw [h]; rfl
theorem may_text_no {d : ObjD} {j : Nat} (hj : j < d.text.length) (h : (opOf d.text[j]).isSome = false) : mayO d = false := by
  have : textB d.text = false := List.all_eq_false.2 ⟨d.text[j], List.getElem_mem hj, by rw [h]; exact Bool.false_ne_true⟩
  unfold mayO; rw [this]; simp
end Go.Proofs.YtjngkifoaljmaaaDoor
