/- Layer 6: which objects may be: plain mathematics. -/
import Derived.Test.YtfdpbogbnfkilaaDoorObjPure
import Derived.Test.YtfdpbogbnfkilaaDoorObjSym
namespace Go.Proofs.YtfdpbogbnfkilaaDoor
set_option maxRecDepth 100000
open Go.RowKit
set_option linter.unusedVariables false
/-- a word's operation -/
def matchB (v : Int) (n : Nat) : Bool := ((opF n : Int) == fld v 0 7) && ((opK n : Int) == tK v (opS n)) && ((opR n : Int) == tR v (opS n))
theorem matchB_iff {v : Int} {n : Nat} : matchB v n = true ↔ Match v n := by
  unfold matchB Match
  simp only [Bool.and_eq_true, beq_iff_eq, and_assoc]
def opOf (v : Int) : Option Nat := (List.range 43).find? (matchB v)
theorem opOf_some {v : Int} {n : Nat} (h : opOf v = some n) : n < 43 ∧ Match v n := by
  unfold opOf at h
  have h1 := List.find?_some h
  have h2 := List.mem_of_find?_eq_some h
  exact ⟨List.mem_range.1 h2, matchB_iff.1 h1⟩
theorem opOf_none {v : Int} (h : opOf v = none) : ∀ n, n < 43 → ¬ Match v n := by
  intro n hn hm
  unfold opOf at h
  rw [List.find?_eq_none] at h
  exact h n (List.mem_range.2 hn) (matchB_iff.2 hm)
def textB (l : List Int) : Bool := l.all (fun v => (opOf v).isSome)
def opsL (l : List Int) : List Int := l.map (fun v => (((opOf v).getD 0 : Nat) : Int))
theorem opsL_len (l : List Int) : (opsL l).length = l.length := by unfold opsL; rw [List.length_map]
def symAt (d : ObjD) (i : Nat) : SymD := d.syms.getD i (ByteArray.empty, false, 0, false)
def relAt (d : ObjD) (i : Nat) : RelD := d.rels.getD i (0, 0, ByteArray.empty, 0)
def entAt (d : ObjD) (i : Nat) : EntD := d.ents.getD i (ByteArray.empty, [])
def symOkB (d : ObjD) (i : Nat) : Bool :=
  nameB (sB (symAt d i).1) && ((List.range i).all fun j => !decide ((symAt d j).1 = (symAt d i).1)) && (symAt d i).2.2.1.tmod (unitI (symAt d i).2.1) == 0 && inB (symAt d i).2.2.1 (unitI (symAt d i).2.1 * (if (symAt d i).2.1 then d.data.length else d.text.length : Nat))
def relOkB (d : ObjD) (i : Nat) : Bool :=
  (relAt d i).1.tmod 4 == 0 && inB (relAt d i).1 (4 * (d.text.length : Int) - 1) && suitB (relAt d i).2.1 (nth (opsL d.text) ((relAt d i).1 / 4).toNat).toNat && ((List.range i).all fun j => !decide ((relAt d j).1 = (relAt d i).1)) && nameB (sB (relAt d i).2.2.1) && decide (-65536 ≤ (relAt d i).2.2.2) && decide ((relAt d i).2.2.2 ≤ 65536)
def entOkB (d : ObjD) (i : Nat) : Bool :=
  (d.syms.any fun t => decide (t.1 = (entAt d i).1) && !t.2.1 && t.2.2.2) && ((List.range i).all fun j => !decide ((entAt d j).1 = (entAt d i).1)) && parB (entAt d i).2
def symsB (d : ObjD) : Bool := (List.range d.syms.length).all (symOkB d)
def relsB (d : ObjD) : Bool := (List.range d.rels.length).all (relOkB d)
def entsB (d : ObjD) : Bool := (List.range d.ents.length).all (entOkB d)
def mayO (d : ObjD) : Bool := fewB d.text.length d.data.length d.syms.length d.rels.length d.ents.length && textB d.text && symsB d && relsB d && entsB d
theorem range_all_yes {n : Nat} {p : Nat → Bool} (h : ∀ i, i < n → p i = true) : (List.range n).all p = true := List.all_eq_true.2 fun i hi => h i (List.mem_range.1 hi)
theorem range_all_no {n : Nat} {p : Nat → Bool} {i : Nat} (hi : i < n) (h : p i = false) : (List.range n).all p = false := by
  rw [← Bool.not_eq_true, List.all_eq_true]
  intro h'
  have := h' i (List.mem_range.2 hi)
  rw [h] at this; cases this
theorem range_all_of {n : Nat} {p : Nat → Bool} (h : (List.range n).all p = true) {i : Nat} (hi : i < n) : p i = true := List.all_eq_true.1 h i (List.mem_range.2 hi)
theorem getD_mem {α : Type} {l : List α} {i : Nat} {z : α} (h : i < l.length) : l.getD i z ∈ l := by
  rw [List.getD_eq_getElem?_getD, List.getElem?_eq_getElem h]; exact List.getElem_mem h
theorem mem_getD {α : Type} {l : List α} {x z : α} (h : x ∈ l) : ∃ i, i < l.length ∧ l.getD i z = x := by
  obtain ⟨i, hi, e⟩ := List.mem_iff_getElem.1 h
  exact ⟨i, hi, by rw [List.getD_eq_getElem?_getD, List.getElem?_eq_getElem hi]; exact e⟩
/-- as the parts came in: numbers of their kinds, strings of a length that may be -/
structure ObjW (d : ObjD) : Prop where
  text : ∀ x ∈ d.text, IsW x
  data : ∀ x ∈ d.data, IsU x
  syms : ∀ s ∈ d.syms, s.1.size ≤ maxLen ∧ IsI s.2.2.1
  rels : ∀ s ∈ d.rels, IsI s.1 ∧ IsI s.2.1 ∧ s.2.2.1.size ≤ maxLen ∧ IsI s.2.2.2
  ents : ∀ s ∈ d.ents, s.1.size ≤ maxLen ∧ (∀ z ∈ s.2, IsI z) ∧ s.2.length ≤ maxLen
theorem nameB_24 {s : ByteArray} (h : nameB (sB s) = true) : s.size ≤ 24 := by
  rw [← sB_len]
  unfold nameB at h
  simp only [Bool.and_eq_true, decide_eq_true_eq] at h
  exact h.1.1.2
theorem suitB_kind {k : Int} {n : Nat} (h : suitB k n = true) : 0 ≤ k ∧ k ≤ 3 := by
  unfold suitB at h
  by_cases h0 : k = 0
  · omega
  by_cases h1 : k = 1
  · omega
  by_cases h2 : k = 2
  · omega
  by_cases h3 : k = 3
  · omega
  simp [h0, h1, h2, h3] at h
theorem few_of {a b c d e : Nat} (h : fewB a b c d e = true) : a ≤ 4096 ∧ b ≤ 1024 ∧ c ≤ 256 ∧ d ≤ 1024 ∧ e ≤ 64 := by
  unfold fewB at h
  simp only [Bool.and_eq_true, decide_eq_true_eq] at h
  exact ⟨h.1.1.1.1, h.1.1.1.2, h.1.1.2, h.1.2, h.2⟩
theorem inB_of {x m : Int} (h : inB x m = true) : 0 ≤ x ∧ x ≤ m := by
  unfold inB at h
  simp only [Bool.and_eq_true, decide_eq_true_eq] at h
  exact h
theorem parB_of {zs : List Int} (h : parB zs = true) : zs.length ≤ 6 ∧ ∀ z ∈ zs, 0 ≤ z ∧ z ≤ 64 := by
  unfold parB at h
  simp only [Bool.and_eq_true, decide_eq_true_eq, List.all_eq_true] at h
  exact ⟨h.1, fun z hz => inB_of (h.2 z hz)⟩
theorem symF_of {d : ObjD} (hf : d.text.length ≤ 4096 ∧ d.data.length ≤ 1024) {i : Nat} (h : symOkB d i = true) : SymF (symAt d i) := by
  unfold symOkB at h
  simp only [Bool.and_eq_true] at h
  have hn := nameB_24 h.1.1.1
  have hi := inB_of h.2
  refine ⟨by omega, hi.1, ?_⟩
  have h2 := hi.2
  unfold unitI at h2
  split at h2 <;> omega
theorem relF_of {d : ObjD} (hf : d.text.length ≤ 4096) {i : Nat} (h : relOkB d i = true) : RelF (relAt d i) := by
  unfold relOkB at h
  simp only [Bool.and_eq_true, decide_eq_true_eq] at h
  have hn := nameB_24 h.1.1.2
  have hi := inB_of h.1.1.1.1.1.2
  have hk := suitB_kind h.1.1.1.1.2
  exact ⟨⟨hi.1, by omega⟩, ⟨hk.1, by omega⟩, by omega, ⟨by omega, by omega⟩⟩
theorem entOk_name {d : ObjD} {i : Nat} (h : entOkB d i = true) : ∃ t ∈ d.syms, t.1 = (entAt d i).1 ∧ t.2.1 = false ∧ t.2.2.2 = true := by
  unfold entOkB at h
  simp only [Bool.and_eq_true, List.any_eq_true] at h
  obtain ⟨⟨⟨t, ht, h1, h2⟩, _⟩, _⟩ := h
  exact ⟨t, ht, by simpa using h1.1, by simpa using h1.2, h2⟩
theorem may_fits {d : ObjD} (hw : ObjW d) (h : mayO d = true) : ObjF d := by
  unfold mayO at h
  simp only [Bool.and_eq_true] at h
  obtain ⟨⟨⟨⟨hf, ht⟩, hs⟩, hr⟩, he⟩ := h
  obtain ⟨f1, f2, f3, f4, f5⟩ := few_of hf
  have hsy : ∀ x ∈ d.syms, SymF x ∧ nameB (sB x.1) = true := fun x hx => by
    obtain ⟨i, hi, rfl⟩ := mem_getD (z := (ByteArray.empty, false, 0, false)) hx
    have h := range_all_of hs hi
    refine ⟨symF_of ⟨f1, f2⟩ h, ?_⟩
    unfold symOkB at h
    simp only [Bool.and_eq_true] at h
    exact h.1.1.1
  refine ⟨by omega, by omega, by omega, by omega, by omega, hw.text, hw.data, fun x hx => (hsy x hx).1, fun x hx => ?_, fun x hx => ?_⟩
  · obtain ⟨i, hi, rfl⟩ := mem_getD (z := (0, 0, ByteArray.empty, 0)) hx
    exact relF_of f1 (range_all_of hr hi)
  · obtain ⟨i, hi, rfl⟩ := mem_getD (z := (ByteArray.empty, [])) hx
    have h := range_all_of he hi
    obtain ⟨t, ht, h1, _⟩ := entOk_name h
    have hn := nameB_24 (hsy t ht).2
    unfold entOkB at h
    simp only [Bool.and_eq_true] at h
    have hp := parB_of h.2
    unfold entAt at h1 hp
    refine ⟨by rw [← h1]; omega, by omega, fun z hz => ⟨(hp.2 z hz).1, by have := (hp.2 z hz).2; omega⟩⟩
/-! ### decoding -/
def decB (b : List Int) : Option ObjD := match rdObj b with
  | some (d, []) => if mayO d then some d else none
  | _ => none
theorem fits_W {d : ObjD} (h : ObjF d) : ObjW d := by
  obtain ⟨_, _, _, _, _, h1, h2, h3, h4, h5⟩ := h
  have hm : (255 : Nat) ≤ maxLen := by unfold maxLen; omega
  exact ⟨h1, h2, fun s hs => ⟨by have := (h3 s hs).1; omega, ⟨by have := (h3 s hs).2.1; omega, by have := (h3 s hs).2.2; omega⟩⟩,
    fun s hs => ⟨⟨by have := (h4 s hs).1; omega, by have := (h4 s hs).1; omega⟩, ⟨by have := (h4 s hs).2.1; omega, by have := (h4 s hs).2.1; omega⟩, by have := (h4 s hs).2.2.1; omega, (h4 s hs).2.2.2⟩,
    fun s hs => ⟨by have := (h5 s hs).1; omega, fun z hz => ⟨by have := (h5 s hs).2.2 z hz; omega, by have := (h5 s hs).2.2 z hz; omega⟩, by have := (h5 s hs).2.1; omega⟩⟩
theorem decB_put {d : ObjD} (hw : ObjW d) (h : mayO d = true) : decB (encB d) = some d := by
  have h1 := rdObj_put (may_fits hw h) []
  rw [List.append_nil] at h1
  unfold decB
  rw [h1]
  simp only [h, if_true]
theorem decB_parts {b : List Int} {d : ObjD} (h : decB b = some d) : rdObj b = some (d, []) ∧ mayO d = true := by
  unfold decB at h
  cases hr : rdObj b with
  | none => rw [hr] at h; cases h
  | some p =>
    obtain ⟨e, r⟩ := p
    rw [hr] at h
    cases r with
    | cons x r => cases h
    | nil =>
      simp only at h
      split at h
      next hm => cases h; exact ⟨rfl, hm⟩
      next => cases h
theorem decB_back {b : List Int} {d : ObjD} (ha : AllB b) (h : decB b = some d) : encB d = b ∧ mayO d = true ∧ ObjF d := by
  obtain ⟨h1, h2⟩ := decB_parts h
  obtain ⟨e, _, w⟩ := rdObj_back _ _ _ ha h1
  rw [List.append_nil] at e
  exact ⟨e, h2, w⟩
theorem enc_inj {a b : ObjD} (ha : ObjW a) (hb : ObjW b) (ma : mayO a = true) (mb : mayO b = true) (h : encB a = encB b) : a = b := by
  have h1 := decB_put ha ma
  rw [h, decB_put hb mb] at h1
  cases h1; rfl
/-- no beginning is an object -/
theorem decB_cut {d : ObjD} (hw : ObjW d) (h : mayO d = true) {k : Nat} (hk : k < (encB d).length) : decB ((encB d).take k) = none := by
  cases hd : decB ((encB d).take k) with
  | none => rfl
  | some e =>
    have h1 := (decB_parts hd).1
    have h2 := More.obj _ _ ((encB d).drop k) _ h1
    rw [List.take_append_drop] at h2
    have h3 := rdObj_put (may_fits hw h) []
    rw [List.append_nil, h2] at h3
    simp only [Option.some.injEq, Prod.mk.injEq, List.nil_append] at h3
    have := congrArg List.length h3.2
    simp at this
    omega
theorem decB_long {d : ObjD} (hw : ObjW d) (h : mayO d = true) (x : Int) : decB (encB d ++ [x]) = none := by
  have h3 := rdObj_put (may_fits hw h) [x]
  unfold decB
  rw [h3]
end Go.Proofs.YtfdpbogbnfkilaaDoor
