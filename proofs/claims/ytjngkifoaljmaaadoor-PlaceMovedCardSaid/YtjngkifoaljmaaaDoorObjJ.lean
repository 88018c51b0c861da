/- Regions that draw their order, whose operations and callees come to the same in every world of a class. No condition.
   Layer 6: the reference's syms: each Sym may be. No condition.
   Layer 6: the reference's fits, of a word that is an instruction. No condition.
   Layer 6: the reference's rels: each relocation may be, where every word is an instruction. No condition. -/
import Derived.Test.YtjngkifoaljmaaaDoorObjH
import Derived.BigQuiet
import Derived.Test.YtjngkifoaljmaaaDoorObjE
import Derived.Test.YtjngkifoaljmaaaDoorInsRDecode
namespace Go.Proofs.YtjngkifoaljmaaaDoor
set_option maxRecDepth 100000
open Go.RowKit
theorem wp_region_cls (C : World → Prop) {P : Program} {id : Nat} {Q : Exit → Act → World → Prop} {a : Act} {w : World} {l : List Oper}
    (hC : C w.drew) (hm : P.follows .mixedOrders = true) (hB : Region.lexB .any l.toArray = true)
    (h : ∀ (T : Type) [Nonempty T] (V : T → World), (∀ i, C (V i)) → (∀ w', C w' → ∃ i, w' = V i) → wpQuiet P l.toArray (fun w' => ∃ i, w' = V i) (fun a' => ∀ w', (∃ i, w' = V i) → Q .normal a' w') l a) :
    (Code.region id l.toArray true).wp P Q a w := by
  haveI : Nonempty {w' // C w'} := ⟨⟨_, hC⟩⟩
  have h1 := h {w' // C w'} Subtype.val (fun i => i.2) (fun w' hw => ⟨⟨w', hw⟩, rfl⟩)
  exact wp_region_quiet (C := fun w' => ∃ i : {w' // C w'}, w' = i.val) hm hB ⟨⟨_, hC⟩, rfl⟩ (by simpa using h1)
/-- a call whose contract asks for a world of the class, and leaves one -/
theorem cls_call {C : World → Prop} {T : Type} {V : T → World} (hV : ∀ i, C (V i)) (hE : ∀ w', C w' → ∃ i, w' = V i) {P : Program} {f : FuncId} {args : Array Value} {v : Value}
    (h : ∀ w, C w → Calls P f args w fun e w' => e = .returned v ∧ C w') (i : T) : Calls P f args (V i) fun e w' => e = .returned v ∧ ∃ j, w' = V j :=
  (h _ (hV i)).mono fun _ _ h => ⟨h.1, hE _ h.2⟩
end Go.Proofs.YtjngkifoaljmaaaDoor
namespace Go.Proofs.YtjngkifoaljmaaaDoor
set_option maxRecDepth 100000
open Go.RowKit
set_option linter.unusedVariables false
/-- what the reference asks of a Sym beside its name's being new -/
def symR (d : ObjD) (i : Nat) : Bool := nameB (sB (symAt d i).1) && ((symAt d i).2.2.1.tmod (unitI (symAt d i).2.1) == 0 && inB (symAt d i).2.2.1 (unitI (symAt d i).2.1 * (if (symAt d i).2.1 then d.data.length else d.text.length : Nat)))
theorem symOk_split (d : ObjD) (i : Nat) : symOkB d i = (symR d i && (List.range i).all fun j => !decide ((symAt d j).1 = (symAt d i).1)) := by
  unfold symOkB symR
  cases nameB (sB (symAt d i).1) <;> cases ((List.range i).all fun j => !decide ((symAt d j).1 = (symAt d i).1)) <;> simp
theorem symR_of {d : ObjD} {i : Nat} {s : ByteArray} {b : Bool} {o : Int} {p : Bool} (h : symAt d i = (s, b, o, p)) : symR d i = (nameB (sB s) && (o.tmod (unitI b) == 0 && inB o (unitI b * (if b then d.data.length else d.text.length : Nat)))) := by
  unfold symR; rw [h]
theorem symR_text {d : ObjD} {i n : Nat} {s : ByteArray} {o : Int} {p : Bool} (h : symAt d i = (s, false, o, p)) (hn : d.text.length = n) : symR d i = (nameB (sB s) && (o.tmod 4 == 0 && (decide (0 ≤ o) && decide (o ≤ 4 * n)))) := by
  rw [symR_of h]; subst hn; rfl
theorem symR_data {d : ObjD} {i n : Nat} {s : ByteArray} {o : Int} {p : Bool} (h : symAt d i = (s, true, o, p)) (hn : d.data.length = n) : symR d i = (nameB (sB s) && (o.tmod 8 == 0 && (decide (0 ≤ o) && decide (o ≤ 8 * n)))) := by
  rw [symR_of h]; subst hn; rfl
theorem syms_no {d : ObjD} {i : Nat} (hi : i < d.syms.length) (h : symR d i = false) : symsB d = false := range_all_no hi (by rw [symOk_split, h]; rfl)
theorem syms_twice {d : ObjD} {i j : Nat} (hi : i < d.syms.length) (hj : j < i) (h : (symAt d j).1 = (symAt d i).1) : symsB d = false := range_all_no hi (by rw [symOk_split, range_all_no hj (by simp [h])]; simp)
theorem sym_yes {d : ObjD} {i : Nat} (h : symR d i = true) (hn : ∀ j, j < i → (symAt d j).1 ≠ (symAt d i).1) : symOkB d i = true := by
  rw [symOk_split, h, range_all_yes (fun j hj => by simp [hn j hj])]; rfl
end Go.Proofs.YtjngkifoaljmaaaDoor
namespace Go.Proofs.YtjngkifoaljmaaaDoor
set_option maxRecDepth 100000
open Go.RowKit
set_option linter.unusedVariables false
theorem letB_tell {n : Nat} (hn : n < 43) : decide (letS (opS n) = ⟨#[66]⟩) = (opS n == 4) := all43 (p := fun n => decide (letS (opS n) = ⟨#[66]⟩) = (opS n == 4)) (by decide +kernel) hn
theorem nat_beq (n : Nat) : ((n : Int) == 38) = (n == 38) ∧ ((n : Int) == 16) = (n == 16) ∧ ((n : Int) == 26) = (n == 26) ∧ ((n : Int) == 28) = (n == 28) ∧ ((n : Int) == 29) = (n == 29) ∧ ((n : Int) == 31) = (n == 31) ∧ ((n : Int) == 40) = (n == 40) := by
  refine ⟨?_, ?_, ?_, ?_, ?_, ?_, ?_⟩ <;> (rw [Bool.eq_iff_iff]; simp only [beq_iff_eq]; omega)
end Go.Proofs.YtjngkifoaljmaaaDoor
namespace Go.Proofs.YtjngkifoaljmaaaDoor
set_option maxRecDepth 100000
open Go.RowKit
set_option linter.unusedVariables false
/-- what is asked of a relocation beside its place's being new -/
def relR (d : ObjD) (i : Nat) : Bool := nameB (sB (relAt d i).2.2.1) && ((relAt d i).1.tmod 4 == 0 && (inB (relAt d i).1 (4 * (d.text.length : Int) - 1) && (decide (-65536 ≤ (relAt d i).2.2.2) && (decide ((relAt d i).2.2.2 ≤ 65536) && suitB (relAt d i).2.1 (nth (opsL d.text) ((relAt d i).1 / 4).toNat).toNat))))
theorem relOk_split (d : ObjD) (i : Nat) : relOkB d i = (relR d i && (List.range i).all fun j => !decide ((relAt d j).1 = (relAt d i).1)) := by
  unfold relOkB relR
  generalize ((List.range i).all fun j => !decide ((relAt d j).1 = (relAt d i).1)) = a
  generalize suitB (relAt d i).2.1 (nth (opsL d.text) ((relAt d i).1 / 4).toNat).toNat = b
  generalize nameB (sB (relAt d i).2.2.1) = c
  generalize inB (relAt d i).1 (4 * (d.text.length : Int) - 1) = e
  generalize decide (-65536 ≤ (relAt d i).2.2.2) = f
  generalize decide ((relAt d i).2.2.2 ≤ 65536) = g
  generalize ((relAt d i).1.tmod 4 == 0) = h
  cases a <;> cases b <;> cases c <;> cases e <;> cases f <;> cases g <;> cases h <;> rfl
theorem relR_of {d : ObjD} {i n : Nat} {at_ kd ad : Int} {s : ByteArray} (h : relAt d i = (at_, kd, s, ad)) (hn : d.text.length = n) : relR d i = (nameB (sB s) && (at_.tmod 4 == 0 && ((decide (0 ≤ at_) && decide (at_ ≤ 4 * (n : Int) - 1)) && (decide (-65536 ≤ ad) && (decide (ad ≤ 65536) && suitB kd (nth (opsL d.text) (at_ / 4).toNat).toNat))))) := by
  unfold relR inB; rw [h, hn]
theorem rels_no {d : ObjD} {i : Nat} (hi : i < d.rels.length) (h : relR d i = false) : relsB d = false := range_all_no hi (by rw [relOk_split, h]; rfl)
theorem rels_twice {d : ObjD} {i j : Nat} (hi : i < d.rels.length) (hj : j < i) (h : (relAt d j).1 = (relAt d i).1) : relsB d = false := range_all_no hi (by rw [relOk_split, range_all_no hj (by simp [h])]; simp)
theorem rel_yes {d : ObjD} {i : Nat} (h : relR d i = true) (hn : ∀ j, j < i → (relAt d j).1 ≠ (relAt d i).1) : relOkB d i = true := by
  rw [relOk_split, h, range_all_yes (fun j hj => by simp [hn j hj])]; rfl
/-- what the region asks of each world in it -/
abbrev RlS (w0 : World) (hq : Nat) (v0 v1 v2 v3 v4 : Value) (at_ kd : Int) (s : ByteArray) (ad : Int) (w : World) : Prop :=
  ((w.cell? ⟨w0.heap.size, 0, none⟩ = some v0 ∧ w.cell? ⟨w0.heap.size, 3, none⟩ = some v3) ∧ w.cell? ⟨hq, 0, none⟩ = some (.int .i64 at_) ∧ w.cell? ⟨hq, 1, none⟩ = some (.int .i64 kd) ∧ w.cell? ⟨hq, 2, none⟩ = some (.string s) ∧ w.cell? ⟨hq, 3, none⟩ = some (.int .i64 ad)) ∧
  w.heap[w0.heap.size]? = some (.cells #[v0, v1, v2, v3, v4] 45 (0, 0)) ∧ w.heap[hq]? = some (.cells #[.int .i64 at_, .int .i64 kd, .string s, .int .i64 ad] 47 (0, 0)) ∧ Below w0.heap.size w0 w
section
variable {w0 w w' : World} {hq : Nat} {v0 v1 v2 v3 v4 : Value} {at_ kd : Int} {s : ByteArray} {ad : Int}
theorem rlS_of (h1 : w.heap[w0.heap.size]? = some (.cells #[v0, v1, v2, v3, v4] 45 (0, 0))) (h2 : w.heap[hq]? = some (.cells #[.int .i64 at_, .int .i64 kd, .string s, .int .i64 ad] 47 (0, 0))) (h3 : Below w0.heap.size w0 w) : RlS w0 hq v0 v1 v2 v3 v4 at_ kd s ad w := by
  obtain ⟨⟨x0, x1, x2, x3, x4⟩, _⟩ := row_cells5 h1
  have y0 := cell_of_row w hq 0 _ _ _ h2
  have y1 := cell_of_row w hq 1 _ _ _ h2
  have y2 := cell_of_row w hq 2 _ _ _ h2
  have y3 := cell_of_row w hq 3 _ _ _ h2
  simp only [List.getElem?_toArray, List.getElem?_cons_zero, List.getElem?_cons_succ] at y0 y1 y2 y3
  exact ⟨⟨⟨x0, x3⟩, y0, y1, y2, y3⟩, h1, h2, h3⟩
theorem rlS_below (h : RlS w0 hq v0 v1 v2 v3 v4 at_ kd s ad w) (hb : Below w.heap.size w w') : RlS w0 hq v0 v1 v2 v3 v4 at_ kd s ad w' := by
  obtain ⟨_, h1, h2, h3⟩ := h
  exact rlS_of ((hb.block _ (Array.getElem?_eq_some_iff.1 h1).1).trans h1) ((hb.block _ (Array.getElem?_eq_some_iff.1 h2).1).trans h2) (h3.trans (hb.mono h3.size))
theorem rlS_drew (h : RlS w0 hq v0 v1 v2 v3 v4 at_ kd s ad w) : RlS w0 hq v0 v1 v2 v3 v4 at_ kd s ad w.drew := rlS_below h (Below.drew (Below.refl _ _))
theorem rlS_drewN (h : RlS w0 hq v0 v1 v2 v3 v4 at_ kd s ad w) (n : Nat) : RlS w0 hq v0 v1 v2 v3 v4 at_ kd s ad (w.drewN n) := rlS_below h (belq (Below.refl _ _) n)
/-- the same, and a word of the text -/
abbrev RlT (w0 : World) (hq : Nat) (v0 v1 v2 v3 v4 : Value) (at_ kd : Int) (s : ByteArray) (ad : Int) (b1 p1 : Nat) (x : Int) (w : World) : Prop :=
  w.cell? ⟨b1, p1, none⟩ = some (.int .u32 x) ∧ RlS w0 hq v0 v1 v2 v3 v4 at_ kd s ad w
variable {b1 p1 : Nat} {x : Int}
theorem rlT_below (h : RlT w0 hq v0 v1 v2 v3 v4 at_ kd s ad b1 p1 x w) (hb : Below w.heap.size w w') : RlT w0 hq v0 v1 v2 v3 v4 at_ kd s ad b1 p1 x w' :=
  ⟨by rw [hb.cell (p := ⟨b1, p1, none⟩) (block_lt h.1)]; exact h.1, rlS_below h.2 hb⟩
theorem rlT_drew (h : RlT w0 hq v0 v1 v2 v3 v4 at_ kd s ad b1 p1 x w) : RlT w0 hq v0 v1 v2 v3 v4 at_ kd s ad b1 p1 x w.drew := rlT_below h (Below.drew (Below.refl _ _))
theorem rlT_drewN (h : RlT w0 hq v0 v1 v2 v3 v4 at_ kd s ad b1 p1 x w) (n : Nat) : RlT w0 hq v0 v1 v2 v3 v4 at_ kd s ad b1 p1 x (w.drewN n) := rlT_below h (belq (Below.refl _ _) n)
end
theorem opsL_nth {l : List Int} {j n : Nat} (hj : j < l.length) (h : opOf l[j] = some n) : (nth (opsL l) j).toNat = n := by
  rw [nth_get (by rw [opsL_len]; exact hj)]
  simp [opsL, h]
end Go.Proofs.YtjngkifoaljmaaaDoor
