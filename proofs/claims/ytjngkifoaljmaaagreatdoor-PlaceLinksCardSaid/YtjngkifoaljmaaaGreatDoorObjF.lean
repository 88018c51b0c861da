/- Layer 6: the writer of package obj: a whole object.
   Layer 6: Encode of package obj. Condition: the tables of package ins read as they should.
   Layer 6: the deferred function of package obj's Decode.
   Layer 6: Decode of package obj. Condition: the tables of package ins read as they should. -/
import Derived.Test.YtjngkifoaljmaaaGreatDoorObjA
import Derived.Test.YtjngkifoaljmaaaGreatDoorObjE
import Derived.Test.YtjngkifoaljmaaaGreatDoorObjD
import Derived.Defers
import Derived.Recover
namespace Go.Proofs.YtjngkifoaljmaaaGreatDoor
set_option maxRecDepth 100000
open Go.RowKit
set_option linter.unusedVariables false
theorem take_flat {α : Type} (e : α → List Int) {xs : List α} {k : Nat} (hk : k < xs.length) : (xs.take (k + 1)).flatMap e = (xs.take k).flatMap e ++ e xs[k] := by
  rw [List.take_succ_eq_append_getElem hk, List.flatMap_append, List.flatMap_cons, List.flatMap_nil, List.append_nil]
theorem take_flat_len {α : Type} (e : α → List Int) (xs : List α) (k : Nat) : ((xs.take k).flatMap e).length ≤ (xs.flatMap e).length := by
  conv => rhs; rw [← List.take_append_drop k xs]
  rw [List.flatMap_append, List.length_append]; omega
def cntsL (d : ObjD) : List Int := [(d.text.length : Int), d.data.length, d.syms.length, d.rels.length, d.ents.length]
def P1 (d : ObjD) : List Int := magicW ++ (cntsL d).flatMap (fun x => bytesL x 2)
def P2 (d : ObjD) : List Int := P1 d ++ d.text.flatMap (fun x => bytesL x 4)
def P3 (d : ObjD) : List Int := P2 d ++ d.data.flatMap (fun x => bytesL x 8)
def P4 (d : ObjD) : List Int := P3 d ++ d.syms.flatMap symWt
def P5 (d : ObjD) : List Int := P4 d ++ d.rels.flatMap relWt
theorem P6_eq (d : ObjD) : P5 d ++ d.ents.flatMap entWt = encB d := by
  unfold P5 P4 P3 P2 P1 encB headW cntsL
  simp only [List.flatMap_cons, List.flatMap_nil, List.append_nil, List.append_assoc]
theorem P_len (d : ObjD) : (P1 d).length ≤ (P2 d).length ∧ (P2 d).length ≤ (P3 d).length ∧ (P3 d).length ≤ (P4 d).length ∧ (P4 d).length ≤ (P5 d).length ∧ (P5 d).length ≤ (encB d).length := by
  rw [← P6_eq]
  unfold P5 P4 P3 P2
  simp only [List.length_append]
  omega
end Go.Proofs.YtjngkifoaljmaaaGreatDoor
namespace Go.Proofs.YtjngkifoaljmaaaGreatDoor
set_option maxRecDepth 100000
open Go.RowKit
set_option linter.unusedVariables false
theorem flat_le {α : Type} {e : α → List Int} {m : Nat} : ∀ {xs : List α}, (∀ x ∈ xs, (e x).length ≤ m) → (xs.flatMap e).length ≤ xs.length * m
  | [], _ => by simp
  | x :: xs, h => by
    rw [List.flatMap_cons, List.length_append, List.length_cons, Nat.succ_mul]
    have h1 := h x (by simp)
    have h2 := flat_le (xs := xs) (fun y hy => h y (by simp [hy]))
    omega
theorem encB_len {d : ObjD} (hF : ObjF d) (hf : d.text.length ≤ 4096 ∧ d.data.length ≤ 1024 ∧ d.syms.length ≤ 256 ∧ d.rels.length ≤ 1024 ∧ d.ents.length ≤ 64) : (encB d).length ≤ 700000 := by
  have a1 := flat_le (e := fun x => bytesL x 4) (m := 4) (xs := d.text) (fun x _ => by simp [bytesL_length])
  have a2 := flat_le (e := fun x => bytesL x 8) (m := 8) (xs := d.data) (fun x _ => by simp [bytesL_length])
  have a3 := flat_le (e := symWt) (m := 261) (xs := d.syms) (fun x hx => by unfold symWt; rw [symW_len]; have := (hF.syms x hx).1; omega)
  have a4 := flat_le (e := relWt) (m := 269) (xs := d.rels) (fun x hx => by unfold relWt; rw [relW_len]; have := (hF.rels x hx).2.2.1; omega)
  have a5 := flat_le (e := entWt) (m := 512) (xs := d.ents) (fun x hx => by unfold entWt entryW; simp only [List.length_append, nameW_len, bytesL_length, paramW_len]; have h := hF.ents x hx; have h1 := h.1; have h2 := h.2.1; omega)
  have a0 : (headW d).length = 10 := by unfold headW; simp [bytesL_length]
  unfold encB magicW
  simp only [List.length_append, List.length_cons, List.length_nil]
  omega
/-- bytes of a row of the call's own -/
def EncP (d : ObjD) (w : World) (e : Ending) (w' : World) : Prop :=
  Below w.heap.size w w' ∧ (mayO d = false → e = .returned (.tuple #[.slice none 0 0, .int .i64 1])) ∧
    (mayO d = true → ∃ A c, e = .returned (.tuple #[.slice A (encB d).length c, .int .i64 0]) ∧ SlB w' w'.heap.size A (encB d) ∧ (encB d).length ≤ c ∧ c ≤ maxLen ∧ ∀ b o, A = some ⟨b, o, none⟩ → w.heap.size ≤ b)
end Go.Proofs.YtjngkifoaljmaaaGreatDoor
namespace Go.Proofs.YtjngkifoaljmaaaGreatDoor
set_option maxRecDepth 100000
open Go.RowKit
set_option linter.unusedVariables false
end Go.Proofs.YtjngkifoaljmaaaGreatDoor
namespace Go.Proofs.YtjngkifoaljmaaaGreatDoor
set_option maxRecDepth 100000
open Go.RowKit
set_option linter.unusedVariables false
abbrev nil5 : Value := .agg #[.slice none 0 0, .slice none 0 0, .slice none 0 0, .slice none 0 0, .slice none 0 0]
def DecP (r : Option ObjD) (w : World) (e : Ending) (w' : World) : Prop :=
  Below w.heap.size w w' ∧ match r with
    | none => e = .returned (.tuple #[nil5, .int .i64 3])
    | some d => ∃ v, e = .returned (.tuple #[v, .int .i64 0]) ∧ ObjAt w' w.heap.size w'.heap.size d v
theorem DecP.mkNo {r : Option ObjD} {w w' : World} {e : Ending} (hr : r = none) (hb : Below w.heap.size w w') (he : e = .returned (.tuple #[nil5, .int .i64 3])) : DecP r w e w' := by subst hr; exact ⟨hb, he⟩
theorem DecP.mkYes {r : Option ObjD} {w w' : World} {e : Ending} {d : ObjD} {v : Value} (hr : r = some d) (hb : Below w.heap.size w w') (he : e = .returned (.tuple #[v, .int .i64 0])) (ho : ObjAt w' w.heap.size w'.heap.size d v) : DecP r w e w' := by subst hr; exact ⟨hb, v, he, ho⟩
theorem decB_top {l : List Int} : decB l = (rdTop l).bind (fun d => if mayO d then some d else none) := by
  unfold decB rdTop
  cases rdObj l with
  | none => rfl
  | some p =>
    obtain ⟨d, r⟩ := p
    cases r with
    | nil => rfl
    | cons x r => rfl
end Go.Proofs.YtjngkifoaljmaaaGreatDoor
