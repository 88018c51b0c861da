/- Layer 6: the reference's Decode: how its memory lies, and what a list read so far is. No condition. -/
import Derived.Test.YtmpieeadkkeniaaGreatDoorObjMa
namespace Go.Proofs.YtmpieeadkkeniaaGreatDoor
set_option maxRecDepth 100000
open Go.RowKit
set_option linter.unusedVariables false
/-! ### lists read so far -/
theorem rdL_none {α : Type} {f : Rd α} {l : List Int} {k : Nat} (h : rdL f k l = none) : ∀ m, rdL f (k + m) l = none
  | 0 => h
  | m + 1 => by rw [← Nat.add_assoc, rdL_snoc]; exact rdBind_no (rdL_none h m)
/-- all of n elements are read, or something was missing -/
theorem rf_done {α : Type} {f : Rd α} {l0 l : List Int} {bad0 bad : Bool} {k n : Nat} {xs : List α} (hk : k ≤ n) (hb : bad = false → k = n) (h : (if bad0 then none else rdL f k l0) = (if bad then none else some (xs, l))) : (if bad0 then none else rdL f n l0) = (if bad then none else some (xs, l)) := by
  cases bad with
  | false => rw [← hb rfl]; exact h
  | true =>
    cases bad0 with
    | true => rfl
    | false =>
      obtain ⟨m, rfl⟩ : ∃ m, n = k + m := ⟨n - k, by omega⟩
      exact rdL_none h m
/-- one more -/
theorem rf_round {α : Type} {f : Rd α} {l0 l l' : List Int} {bad0 bad' : Bool} {k : Nat} {xs : List α} {x : α} (h1 : (if bad0 then none else rdL f k l0) = (if false then none else some (xs, l))) (h2 : (if false then none else f l) = (if bad' then none else some (x, l'))) : (if bad0 then none else rdL f (k + 1) l0) = (if bad' then none else some (xs ++ [x], l')) := by
  cases bad0 with
  | true => cases h1
  | false =>
    have h1 : rdL f k l0 = some (xs, l) := h1
    have h2 : f l = (if bad' then none else some (x, l')) := h2
    show rdL f (k + 1) l0 = _
    rw [rdL_snoc, rdBind_at h1]
    cases bad' with
    | true => exact rdBind_no h2
    | false => exact rdBind_at h2
/-- one more, whatever was missing ahead of it (a loop that doesn't ask) -/
theorem rf_next {α : Type} {f : Rd α} {l0 l l' : List Int} {bad0 bad bad' : Bool} {k : Nat} {xs : List α} {x : α} (h1 : (if bad0 then none else rdL f k l0) = (if bad then none else some (xs, l))) (h2 : (if bad then none else f l) = (if bad' then none else some (x, l'))) : (if bad0 then none else rdL f (k + 1) l0) = (if bad' then none else some (xs ++ [x], l')) := by
  cases bad with
  | false => exact rf_round h1 h2
  | true =>
    cases bad' with
    | false => cases h2
    | true =>
      cases bad0 with
      | true => rfl
      | false => exact rdL_none h1 1
theorem rf_start {α : Type} {f : Rd α} {l0 : List Int} {bad0 : Bool} : (if bad0 then none else rdL f 0 l0) = (if bad0 then none else some (([] : List α), l0)) := rfl
/-! ### memory -/
structure DS (w0 : World) (q : Nat) (l : List Int) (bad : Bool) (o0 o1 o2 o3 o4 : Value) (n0 n1 n2 n3 n4 : Nat) (w : World) : Prop where
  rd : RfIs w (w0.heap.size + 1 + 1) w0.heap.size l bad
  r : w.heap[w0.heap.size]? = some (.cells #[.slice none 0 0, .slice none 0 0, .slice none 0 0, .slice none 0 0, .slice none 0 0] 28 (0, 0))
  o : w.heap[w0.heap.size + 1]? = some (.cells #[o0, o1, o2, o3, o4] 28 (0, 0))
  n : w.heap[q]? = some (.cells #[.int .i64 n0, .int .i64 n1, .int .i64 n2, .int .i64 n3, .int .i64 n4] 77 (0, 0))
  q : w0.heap.size + 1 + 1 < q
  b : Below w0.heap.size w0 w
section
variable {w0 w w' : World} {q : Nat} {l l' : List Int} {bad bad' : Bool} {o0 o1 o2 o3 o4 : Value} {n0 n1 n2 n3 n4 : Nat}
theorem DS.lt (h : DS w0 q l bad o0 o1 o2 o3 o4 n0 n1 n2 n3 n4 w) : q < w.heap.size := (Array.getElem?_eq_some_iff.1 h.n).1
theorem DS.keep (h : DS w0 q l bad o0 o1 o2 o3 o4 n0 n1 n2 n3 n4 w) (hR : RfIs w' (w0.heap.size + 1 + 1) w0.heap.size l' bad') (hb : Below w0.heap.size w0 w') (hk : ∀ k, k < w.heap.size → k ≤ q → w0.heap.size ≤ k → k ≠ w0.heap.size + 1 + 1 → w'.heap[k]? = w.heap[k]?) : DS w0 q l' bad' o0 o1 o2 o3 o4 n0 n1 n2 n3 n4 w' := by
  have h1 := h.lt
  have h2 := h.q
  exact ⟨hR, (hk _ (by omega) (by omega) (by omega) (by omega)).trans h.r, (hk _ (by omega) (by omega) (by omega) (by omega)).trans h.o, (hk _ (by omega) (by omega) (by omega) (by omega)).trans h.n, h.q, hb⟩
theorem DS.step (h : DS w0 q l bad o0 o1 o2 o3 o4 n0 n1 n2 n3 n4 w) (ho : RdOut (w0.heap.size + 1 + 1) w w') (hR : RfIs w' (w0.heap.size + 1 + 1) w0.heap.size l' bad') : DS w0 q l' bad' o0 o1 o2 o3 o4 n0 n1 n2 n3 n4 w' :=
  h.keep hR (ho.to_below h.b (by omega)) (fun k hk _ _ hn => ho.block k hk hn)
theorem DS.below (h : DS w0 q l bad o0 o1 o2 o3 o4 n0 n1 n2 n3 n4 w) (hb : Below w.heap.size w w') : DS w0 q l bad o0 o1 o2 o3 o4 n0 n1 n2 n3 n4 w' :=
  h.keep (h.rd.below hb) (h.b.trans (hb.mono h.b.size)) (fun k hk _ _ _ => hb.block k hk)
theorem DS.drew (h : DS w0 q l bad o0 o1 o2 o3 o4 n0 n1 n2 n3 n4 w) : DS w0 q l bad o0 o1 o2 o3 o4 n0 n1 n2 n3 n4 w.drew := h.below (Below.drew (Below.refl _ _))
theorem DS.alloc (h : DS w0 q l bad o0 o1 o2 o3 o4 n0 n1 n2 n3 n4 w) (o : Obj) : DS w0 q l bad o0 o1 o2 o3 o4 n0 n1 n2 n3 n4 (w.alloc o) := h.below ((Below.refl _ _).alloc (Nat.le_refl _) o)
theorem DS.grown {row : Option Nat} (h : DS w0 q l bad o0 o1 o2 o3 o4 n0 n1 n2 n3 n4 w) (hg : w.grownBy w' row) (hr : ∀ g, row = some g → q < g) : DS w0 q l bad o0 o1 o2 o3 o4 n0 n1 n2 n3 n4 w' :=
  h.keep (h.rd.grown hg (fun g e => by have := hr g e; have := h.q; omega)) (h.b.grown hg h.b.size (fun g e => by have := hr g e; have := h.q; omega)) (fun k hk h2 _ _ => hg.block k hk (fun e => by have := hr k e.symm; omega))
theorem DS.setNew {b o : Nat} {v : Value} (h : DS w0 q l bad o0 o1 o2 o3 o4 n0 n1 n2 n3 n4 w) (hb : q < b) : DS w0 q l bad o0 o1 o2 o3 o4 n0 n1 n2 n3 n4 (w.setCell ⟨b, o, none⟩ v) := h.grown (grown_setO w b o v) (fun g e => by cases e; exact hb)
theorem DS.other {j : Nat} {v : Value} (h : DS w0 q l bad o0 o1 o2 o3 o4 n0 n1 n2 n3 n4 w) (b : Nat) (hb : b = w0.heap.size + 1 ∨ b = q) : RfIs (w.setCell ⟨b, j, none⟩ v) (w0.heap.size + 1 + 1) w0.heap.size l bad ∧ Below w0.heap.size w0 (w.setCell ⟨b, j, none⟩ v) ∧ ∀ k, k ≠ b → (w.setCell ⟨b, j, none⟩ v).heap[k]? = w.heap[k]? :=
  ⟨h.rd.setNew (by have := h.q; omega), h.b.grown (grown_setO w b j v) h.b.size (fun g e => by cases e; have := h.q; omega), fun k hk => heap_setCell_other w _ k v hk⟩
theorem DS.set0 (h : DS w0 q l bad o0 o1 o2 o3 o4 n0 n1 n2 n3 n4 w) (v : Value) : DS w0 q l bad v o1 o2 o3 o4 n0 n1 n2 n3 n4 (w.setCell ⟨w0.heap.size + 1, 0, none⟩ v) := by
  obtain ⟨h1, h2, h3⟩ := h.other (j := 0) (v := v) _ (.inl rfl)
  have := h.q
  exact ⟨h1, (h3 _ (by omega)).trans h.r, heap_setCell_same w _ 0 _ _ _ h.o, (h3 _ (by omega)).trans h.n, h.q, h2⟩
theorem DS.set1 (h : DS w0 q l bad o0 o1 o2 o3 o4 n0 n1 n2 n3 n4 w) (v : Value) : DS w0 q l bad o0 v o2 o3 o4 n0 n1 n2 n3 n4 (w.setCell ⟨w0.heap.size + 1, 1, none⟩ v) := by
  obtain ⟨h1, h2, h3⟩ := h.other (j := 1) (v := v) _ (.inl rfl)
  have := h.q
  exact ⟨h1, (h3 _ (by omega)).trans h.r, heap_setCell_same w _ 1 _ _ _ h.o, (h3 _ (by omega)).trans h.n, h.q, h2⟩
theorem DS.set2 (h : DS w0 q l bad o0 o1 o2 o3 o4 n0 n1 n2 n3 n4 w) (v : Value) : DS w0 q l bad o0 o1 v o3 o4 n0 n1 n2 n3 n4 (w.setCell ⟨w0.heap.size + 1, 2, none⟩ v) := by
  obtain ⟨h1, h2, h3⟩ := h.other (j := 2) (v := v) _ (.inl rfl)
  have := h.q
  exact ⟨h1, (h3 _ (by omega)).trans h.r, heap_setCell_same w _ 2 _ _ _ h.o, (h3 _ (by omega)).trans h.n, h.q, h2⟩
theorem DS.set3 (h : DS w0 q l bad o0 o1 o2 o3 o4 n0 n1 n2 n3 n4 w) (v : Value) : DS w0 q l bad o0 o1 o2 v o4 n0 n1 n2 n3 n4 (w.setCell ⟨w0.heap.size + 1, 3, none⟩ v) := by
  obtain ⟨h1, h2, h3⟩ := h.other (j := 3) (v := v) _ (.inl rfl)
  have := h.q
  exact ⟨h1, (h3 _ (by omega)).trans h.r, heap_setCell_same w _ 3 _ _ _ h.o, (h3 _ (by omega)).trans h.n, h.q, h2⟩
theorem DS.set4 (h : DS w0 q l bad o0 o1 o2 o3 o4 n0 n1 n2 n3 n4 w) (v : Value) : DS w0 q l bad o0 o1 o2 o3 v n0 n1 n2 n3 n4 (w.setCell ⟨w0.heap.size + 1, 4, none⟩ v) := by
  obtain ⟨h1, h2, h3⟩ := h.other (j := 4) (v := v) _ (.inl rfl)
  have := h.q
  exact ⟨h1, (h3 _ (by omega)).trans h.r, heap_setCell_same w _ 4 _ _ _ h.o, (h3 _ (by omega)).trans h.n, h.q, h2⟩
theorem DS.setN {k m : Nat} (hk : k < 5) (h : DS w0 q l bad o0 o1 o2 o3 o4 n0 n1 n2 n3 n4 w) : DS w0 q l bad o0 o1 o2 o3 o4 (if k = 0 then m else n0) (if k = 1 then m else n1) (if k = 2 then m else n2) (if k = 3 then m else n3) (if k = 4 then m else n4) (w.setCell ⟨q, k, none⟩ (.int .i64 m)) := by
  obtain ⟨h1, h2, h3⟩ := h.other (j := k) (v := .int .i64 m) _ (.inr rfl)
  have := h.q
  refine ⟨h1, (h3 _ (by omega)).trans h.r, (h3 _ (by omega)).trans h.o, ?_, h.q, h2⟩
  rw [heap_setCell_same w _ k _ _ _ h.n]
  rcases (by omega : k = 0 ∨ k = 1 ∨ k = 2 ∨ k = 3 ∨ k = 4) with rfl | rfl | rfl | rfl | rfl <;> rfl
/-- a row of the call's own outlives a cell that is set -/
theorem own_set {base sz n b j : Nat} {ty : TypeId} {v u : Value} {cs : List Value} (h : w.ownsRow base ty sz v n cs) (hb : b < base) : (w.setCell ⟨b, j, none⟩ u).ownsRow base ty sz v n cs :=
  rowO_kept h (grown_setO w b j u) (fun g hg e => by cases e; have := (ownO_lt h hg).2.1; omega)
end
theorem mnew_at {w : World} {o : Obj} {n : Nat} (h : w.heap.size = n) : (w.alloc o).heap[n]? = some o := by subst h; exact heap_alloc_new w o
/-- how a call of Decode begins -/
theorem rdec_start (A : Option Addr) (l : List Int) (n c : Nat) (w : World) (hs : SlB w w.heap.size A l) (hn : l.length = n) (ha : AllB l) (hc : n ≤ c) (hm : c ≤ maxLen) :
    ∃ W, W = (((w.alloc (.cells #[.slice none 0 0, .slice none 0 0, .slice none 0 0, .slice none 0 0, .slice none 0 0] 28)).alloc (.cells #[.slice none 0 0, .slice none 0 0, .slice none 0 0, .slice none 0 0, .slice none 0 0] 28)).alloc (.cells #[.slice A n c, .bool false] 74)) ∧ RfIs W (w.heap.size + 1 + 1) w.heap.size l false ∧
      W.heap[w.heap.size]? = some (.cells #[.slice none 0 0, .slice none 0 0, .slice none 0 0, .slice none 0 0, .slice none 0 0] 28 (0, 0)) ∧ W.heap[w.heap.size + 1]? = some (.cells #[.slice none 0 0, .slice none 0 0, .slice none 0 0, .slice none 0 0, .slice none 0 0] 28 (0, 0)) ∧ Below w.heap.size w W := by
  have hb : Below w.heap.size w (((w.alloc (.cells #[.slice none 0 0, .slice none 0 0, .slice none 0 0, .slice none 0 0, .slice none 0 0] 28)).alloc (.cells #[.slice none 0 0, .slice none 0 0, .slice none 0 0, .slice none 0 0, .slice none 0 0] 28)).alloc (.cells #[.slice A n c, .bool false] 74)) := (((Below.refl w.heap.size w).alloc (Nat.le_refl _) _).alloc (by simp) _).alloc (by simp; omega) _
  have e1 := mnew_at (w := w) (o := (.cells #[.slice none 0 0, .slice none 0 0, .slice none 0 0, .slice none 0 0, .slice none 0 0] 28)) rfl
  have e2 := mnew_at (w := w.alloc (.cells #[.slice none 0 0, .slice none 0 0, .slice none 0 0, .slice none 0 0, .slice none 0 0] 28)) (o := (.cells #[.slice none 0 0, .slice none 0 0, .slice none 0 0, .slice none 0 0, .slice none 0 0] 28)) (n := w.heap.size + 1) (by simp)
  have e3 := mnew_at (w := (w.alloc (.cells #[.slice none 0 0, .slice none 0 0, .slice none 0 0, .slice none 0 0, .slice none 0 0] 28)).alloc (.cells #[.slice none 0 0, .slice none 0 0, .slice none 0 0, .slice none 0 0, .slice none 0 0] 28)) (o := (.cells #[.slice A n c, .bool false] 74)) (n := w.heap.size + 1 + 1) (by simp)
  refine ⟨_, rfl, ⟨A, n, c, e3, hn.symm, ha, ?_, hc, hm, by omega⟩, ?_, ?_, hb⟩
  · rcases hs with h | ⟨b, off, e, hlt, hcell⟩
    · exact .inl h
    · exact .inr ⟨b, off, e, hlt, by omega, fun k hk => (hb.cell (p := ⟨b, off + k, none⟩) hlt).trans (hcell k hk)⟩
  · exact (heap_alloc_old _ _ (by simp; omega)).trans ((heap_alloc_old _ _ (by simp)).trans e1)
  · exact (heap_alloc_old _ _ (by simp)).trans e2
theorem DS.start {w0 w1 : World} {l' : List Int} {bad : Bool} (hr : w1.heap[w0.heap.size]? = some (.cells #[.slice none 0 0, .slice none 0 0, .slice none 0 0, .slice none 0 0, .slice none 0 0] 28 (0, 0))) (ho : w1.heap[w0.heap.size + 1]? = some (.cells #[.slice none 0 0, .slice none 0 0, .slice none 0 0, .slice none 0 0, .slice none 0 0] 28 (0, 0))) (hb : Below w0.heap.size w0 w1) (hR : RfIs w1 (w0.heap.size + 1 + 1) w0.heap.size l' bad) :
    DS w0 w1.heap.size l' bad (.slice none 0 0) (.slice none 0 0) (.slice none 0 0) (.slice none 0 0) (.slice none 0 0) 0 0 0 0 0 (w1.alloc (.cells #[.int .i64 0, .int .i64 0, .int .i64 0, .int .i64 0, .int .i64 0] 77)) := by
  have hlt := hR.lt.2
  refine ⟨hR.alloc _, (heap_alloc_old _ _ (by omega)).trans hr, (heap_alloc_old _ _ (by omega)).trans ho, heap_alloc_new w1 _, hlt, ?_⟩
  exact hb.trans (((Below.refl w1.heap.size w1).alloc (Nat.le_refl _) _).mono hb.size)
/-! ### with what is read already -/
/-- what hangs on blocks from q on, below hi, alone -/
def Keeps (X : World → Prop) (q hi : Nat) : Prop := ∀ w w', X w → (∀ k, q < k → k < hi → w'.heap[k]? = w.heap[k]?) → X w'
structure DX (w0 : World) (X : World → Prop) (hi q : Nat) (l : List Int) (bad : Bool) (o0 o1 o2 o3 o4 : Value) (n0 n1 n2 n3 n4 : Nat) (w : World) : Prop where
  d : DS w0 q l bad o0 o1 o2 o3 o4 n0 n1 n2 n3 n4 w
  x : X w
  h : hi ≤ w.heap.size
section
variable {w0 w w' : World} {X : World → Prop} {hi q : Nat} {l l' : List Int} {bad bad' : Bool} {o0 o1 o2 o3 o4 : Value} {n0 n1 n2 n3 n4 : Nat}
theorem DX.step (hk : Keeps X q hi) (h : DX w0 X hi q l bad o0 o1 o2 o3 o4 n0 n1 n2 n3 n4 w) (ho : RdOut (w0.heap.size + 1 + 1) w w') (hR : RfIs w' (w0.heap.size + 1 + 1) w0.heap.size l' bad') : DX w0 X hi q l' bad' o0 o1 o2 o3 o4 n0 n1 n2 n3 n4 w' :=
  ⟨h.d.step ho hR, hk _ _ h.x (fun k h1 h2 => ho.block k (Nat.lt_of_lt_of_le h2 h.h) (by have := h.d.q; omega)), Nat.le_trans h.h ho.size⟩
theorem DX.below (hk : Keeps X q hi) (h : DX w0 X hi q l bad o0 o1 o2 o3 o4 n0 n1 n2 n3 n4 w) (hb : Below w.heap.size w w') : DX w0 X hi q l bad o0 o1 o2 o3 o4 n0 n1 n2 n3 n4 w' :=
  ⟨h.d.below hb, hk _ _ h.x (fun k h1 h2 => hb.block k (Nat.lt_of_lt_of_le h2 h.h)), Nat.le_trans h.h hb.size⟩
theorem DX.drew (hk : Keeps X q hi) (h : DX w0 X hi q l bad o0 o1 o2 o3 o4 n0 n1 n2 n3 n4 w) : DX w0 X hi q l bad o0 o1 o2 o3 o4 n0 n1 n2 n3 n4 w.drew := h.below hk (Below.drew (Below.refl _ _))
theorem DX.alloc (hk : Keeps X q hi) (h : DX w0 X hi q l bad o0 o1 o2 o3 o4 n0 n1 n2 n3 n4 w) (o : Obj) : DX w0 X hi q l bad o0 o1 o2 o3 o4 n0 n1 n2 n3 n4 (w.alloc o) := h.below hk ((Below.refl _ _).alloc (Nat.le_refl _) o)
theorem DX.grown (hk : Keeps X q hi) (hq : q < hi) {row : Option Nat} (h : DX w0 X hi q l bad o0 o1 o2 o3 o4 n0 n1 n2 n3 n4 w) (hg : w.grownBy w' row) (hr : ∀ g, row = some g → hi ≤ g) : DX w0 X hi q l bad o0 o1 o2 o3 o4 n0 n1 n2 n3 n4 w' :=
  ⟨h.d.grown hg (fun g e => Nat.lt_of_lt_of_le hq (hr g e)), hk _ _ h.x (fun k h1 h2 => hg.block k (Nat.lt_of_lt_of_le h2 h.h) (fun e => by have := hr k e.symm; omega)), Nat.le_trans h.h hg.size⟩
theorem DX.setNew (hk : Keeps X q hi) (hq : q < hi) {b o : Nat} {v : Value} (h : DX w0 X hi q l bad o0 o1 o2 o3 o4 n0 n1 n2 n3 n4 w) (hb : hi ≤ b) : DX w0 X hi q l bad o0 o1 o2 o3 o4 n0 n1 n2 n3 n4 (w.setCell ⟨b, o, none⟩ v) := h.grown hk hq (grown_setO w b o v) (fun g e => by cases e; exact hb)
theorem DX.set0 (hk : Keeps X q hi) (h : DX w0 X hi q l bad o0 o1 o2 o3 o4 n0 n1 n2 n3 n4 w) (v : Value) : DX w0 X hi q l bad v o1 o2 o3 o4 n0 n1 n2 n3 n4 (w.setCell ⟨w0.heap.size + 1, 0, none⟩ v) :=
  ⟨h.d.set0 v, hk _ _ h.x (fun k h1 h2 => heap_setCell_other w _ k v (by have := h.d.q; show k ≠ w0.heap.size + 1; omega)), by rw [size_set]; exact h.h⟩
theorem DX.set1 (hk : Keeps X q hi) (h : DX w0 X hi q l bad o0 o1 o2 o3 o4 n0 n1 n2 n3 n4 w) (v : Value) : DX w0 X hi q l bad o0 v o2 o3 o4 n0 n1 n2 n3 n4 (w.setCell ⟨w0.heap.size + 1, 1, none⟩ v) :=
  ⟨h.d.set1 v, hk _ _ h.x (fun k h1 h2 => heap_setCell_other w _ k v (by have := h.d.q; show k ≠ w0.heap.size + 1; omega)), by rw [size_set]; exact h.h⟩
theorem DX.set2 (hk : Keeps X q hi) (h : DX w0 X hi q l bad o0 o1 o2 o3 o4 n0 n1 n2 n3 n4 w) (v : Value) : DX w0 X hi q l bad o0 o1 v o3 o4 n0 n1 n2 n3 n4 (w.setCell ⟨w0.heap.size + 1, 2, none⟩ v) :=
  ⟨h.d.set2 v, hk _ _ h.x (fun k h1 h2 => heap_setCell_other w _ k v (by have := h.d.q; show k ≠ w0.heap.size + 1; omega)), by rw [size_set]; exact h.h⟩
theorem DX.set3 (hk : Keeps X q hi) (h : DX w0 X hi q l bad o0 o1 o2 o3 o4 n0 n1 n2 n3 n4 w) (v : Value) : DX w0 X hi q l bad o0 o1 o2 v o4 n0 n1 n2 n3 n4 (w.setCell ⟨w0.heap.size + 1, 3, none⟩ v) :=
  ⟨h.d.set3 v, hk _ _ h.x (fun k h1 h2 => heap_setCell_other w _ k v (by have := h.d.q; show k ≠ w0.heap.size + 1; omega)), by rw [size_set]; exact h.h⟩
theorem DX.set4 (hk : Keeps X q hi) (h : DX w0 X hi q l bad o0 o1 o2 o3 o4 n0 n1 n2 n3 n4 w) (v : Value) : DX w0 X hi q l bad o0 o1 o2 o3 v n0 n1 n2 n3 n4 (w.setCell ⟨w0.heap.size + 1, 4, none⟩ v) :=
  ⟨h.d.set4 v, hk _ _ h.x (fun k h1 h2 => heap_setCell_other w _ k v (by have := h.d.q; show k ≠ w0.heap.size + 1; omega)), by rw [size_set]; exact h.h⟩
theorem Keeps.true (q hi : Nat) : Keeps (fun _ => True) q hi := fun _ _ _ _ => trivial
theorem Keeps.more {hi' bt : Nat} {A : Option Addr} {cs : List Value} (h : Keeps X q hi) (hh : hi ≤ hi') (hq : q < bt) : Keeps (fun w => X w ∧ RowC w bt hi' A cs) q hi' :=
  fun w w' hx hk => ⟨h w w' hx.1 (fun k h1 h2 => hk k h1 (by omega)), hx.2.move (Nat.le_refl _) (Nat.le_refl _) (fun b h1 h2 => hk b (by omega) h2)⟩
end
/-! ### an entry that is being read -/
structure EX (w0 : World) (X : World → Prop) (hi q : Nat) (l : List Int) (bad : Bool) (o0 o1 o2 o3 o4 : Value) (n0 n1 n2 n3 n4 : Nat) (bx hE : Nat) (s : ByteArray) (k : Nat) (cs : List Value) (es : List EntD) (v : Value) (w : World) : Prop where
  d : DX w0 X hi q l bad o0 o1 o2 o3 o4 n0 n1 n2 n3 n4 w
  b : w.heap[bx]? = some (.cells #[.string s, v] 52 (0, 0))
  o : w.ownsRow hi 52 2 o4 k cs
  e : EntC w hi hE o4.ownBlock es cs
  h : hi ≤ bx ∧ hE ≤ bx ∧ (∀ g, o4.ownBlock = some g → g < bx)
section
variable {w0 w w' : World} {X : World → Prop} {hi q : Nat} {l l' : List Int} {bad bad' : Bool} {o0 o1 o2 o3 o4 : Value} {n0 n1 n2 n3 n4 : Nat} {bx hE : Nat} {s : ByteArray} {k : Nat} {cs : List Value} {es : List EntD} {v v' : Value}
theorem EX.lt (h : EX w0 X hi q l bad o0 o1 o2 o3 o4 n0 n1 n2 n3 n4 bx hE s k cs es v w) : bx < w.heap.size := (Array.getElem?_eq_some_iff.1 h.b).1
theorem EX.step (hk : Keeps X q hi) (hq : q < hi) (h : EX w0 X hi q l bad o0 o1 o2 o3 o4 n0 n1 n2 n3 n4 bx hE s k cs es v w) (ho : RdOut (w0.heap.size + 1 + 1) w w') (hR : RfIs w' (w0.heap.size + 1 + 1) w0.heap.size l' bad') : EX w0 X hi q l' bad' o0 o1 o2 o3 o4 n0 n1 n2 n3 n4 bx hE s k cs es v w' := by
  have h1 := h.d.d.q
  have h2 := h.lt
  have h3 := h.h
  exact ⟨h.d.step hk ho hR, ho.row h.b (by omega), OutO.rowKept h.o ho (by omega), h.e.move (Nat.le_refl _) (fun _ _ _ h => h) (fun b _ _ _ => ho.block b (by omega) (by omega)), h.h⟩
theorem EX.below (hk : Keeps X q hi) (h : EX w0 X hi q l bad o0 o1 o2 o3 o4 n0 n1 n2 n3 n4 bx hE s k cs es v w) (hb : Below w.heap.size w w') : EX w0 X hi q l bad o0 o1 o2 o3 o4 n0 n1 n2 n3 n4 bx hE s k cs es v w' := by
  have h2 := h.lt
  have h3 := h.h
  exact ⟨h.d.below hk hb, (hb.block bx h2).trans h.b, rowO_below h.o hb, h.e.move (Nat.le_refl _) (fun _ _ _ h => h) (fun b _ _ _ => hb.block b (by omega)), h.h⟩
theorem EX.drew (hk : Keeps X q hi) (h : EX w0 X hi q l bad o0 o1 o2 o3 o4 n0 n1 n2 n3 n4 bx hE s k cs es v w) : EX w0 X hi q l bad o0 o1 o2 o3 o4 n0 n1 n2 n3 n4 bx hE s k cs es v w.drew := h.below hk (Below.drew (Below.refl _ _))
theorem EX.alloc (hk : Keeps X q hi) (h : EX w0 X hi q l bad o0 o1 o2 o3 o4 n0 n1 n2 n3 n4 bx hE s k cs es v w) (o : Obj) : EX w0 X hi q l bad o0 o1 o2 o3 o4 n0 n1 n2 n3 n4 bx hE s k cs es v (w.alloc o) := h.below hk ((Below.refl _ _).alloc (Nat.le_refl _) o)
theorem EX.grown (hk : Keeps X q hi) (hq : q < hi) {row : Option Nat} (h : EX w0 X hi q l bad o0 o1 o2 o3 o4 n0 n1 n2 n3 n4 bx hE s k cs es v w) (hg : w.grownBy w' row) (hr : ∀ g, row = some g → bx < g) : EX w0 X hi q l bad o0 o1 o2 o3 o4 n0 n1 n2 n3 n4 bx hE s k cs es v w' := by
  have h2 := h.lt
  obtain ⟨h3, h4, h5⟩ := h.h
  exact ⟨h.d.grown hk hq hg (fun g e => by have := hr g e; omega), (hg.block bx h2 (fun e => by have := hr bx e.symm; omega)).trans h.b, rowO_kept h.o hg (fun g e e2 => by have := hr g e2.symm; have := h5 g e; omega), h.e.move (Nat.le_refl _) (fun _ _ _ h => h) (fun b _ _ _ => hg.block b (by omega) (fun e => by have := hr b e.symm; omega)), h.h⟩
theorem EX.put (hk : Keeps X q hi) (hq : q < hi) (h : EX w0 X hi q l bad o0 o1 o2 o3 o4 n0 n1 n2 n3 n4 bx hE s k cs es v w) (v' : Value) : EX w0 X hi q l bad o0 o1 o2 o3 o4 n0 n1 n2 n3 n4 bx hE s k cs es v' (w.setCell ⟨bx, 1, none⟩ v') := by
  have hg := grown_setO w bx 1 v'
  obtain ⟨h3, h4, h5⟩ := h.h
  refine ⟨h.d.setNew hk hq h3, ?_, rowO_kept h.o hg (fun g e e2 => by cases e2; have := h5 _ e; omega), h.e.move (Nat.le_refl _) (fun _ _ _ h => h) (fun b _ _ _ => heap_setCell_other w _ b v' (by show b ≠ bx; omega)), h.h⟩
  rw [heap_setCell_same w bx 1 _ _ _ h.b]; rfl
/-- a list of entries as far as it is read -/
def RdX (D : List Int → Bool → Value → World → Prop) (bt : Nat) (l0 : List Int) (b0 : Bool) (k : Nat) (w : World) : Prop :=
  ∃ (es : List EntD) (cs : List Value) (l : List Int) (bad : Bool) (A : Option Addr) (e : Nat), es.length = k ∧ D l bad (.slice A k e) w ∧ w.ownsRow bt 52 2 (.slice A k e) k cs ∧ EntC w bt w.heap.size (Value.slice A k e).ownBlock es cs ∧ bt ≤ w.heap.size ∧ (∀ x ∈ es, EntF x) ∧ (if b0 then none else rdL rdEnt k l0) = (if bad then none else some (es, l))
def RdZ (D : List Int → Bool → Value → World → Prop) (bt n : Nat) (l0 : List Int) (b0 : Bool) (w : World) : Prop :=
  ∃ (es : List EntD) (cs : List Value) (l : List Int) (bad : Bool) (A : Option Addr) (e : Nat), es.length ≤ n ∧ D l bad (.slice A es.length e) w ∧ RowC w bt w.heap.size A cs ∧ EntC w bt w.heap.size none es cs ∧ bt ≤ w.heap.size ∧ (∀ x ∈ es, EntF x) ∧ (if b0 then none else rdL rdEnt n l0) = (if bad then none else some (es, l))
theorem RdX.start {D : List Int → Bool → Value → World → Prop} {bt : Nat} {l0 : List Int} {b0 : Bool} {w : World} (h : D l0 b0 (.slice none 0 0) w) (hb : bt ≤ w.heap.size) : RdX D bt l0 b0 0 w :=
  ⟨[], [], l0, b0, none, 0, rfl, h, World.ownsRow_nil w _ _ _, rfl, hb, fun x hx => (by cases hx), rf_start⟩
theorem RdZ.of {D : List Int → Bool → Value → World → Prop} {bt : Nat} {l0 : List Int} {b0 : Bool} {w : World} {k n : Nat} {es : List EntD} {cs : List Value} {l : List Int} {bad : Bool} {A : Option Addr} {e : Nat} (hk : k ≤ n) (hl : es.length = k) (hD : D l bad (.slice A k e) w) (ho : w.ownsRow bt 52 2 (.slice A k e) k cs) (he : EntC w bt w.heap.size (Value.slice A k e).ownBlock es cs) (hb : bt ≤ w.heap.size) (hx : ∀ x ∈ es, EntF x) (hE : (if b0 then none else rdL rdEnt k l0) = (if bad then none else some (es, l))) (hB : bad = false → k = n) : RdZ D bt n l0 b0 w := by
  subst hl
  exact ⟨es, cs, l, bad, A, e, hk, hD, RowC.of_own ho, he.move (Nat.le_refl _) (fun b _ _ _ e => by cases e) (fun b _ _ _ => rfl), hb, hx, rf_done hk hB hE⟩
/-- one entry more -/
theorem RdX.next {D : List Int → Bool → Value → World → Prop} {bt hE bp : Nat} {l0 l : List Int} {b0 bad : Bool} {w w2 w3 w4 : World} {k : Nat} {es : List EntD} {cs : List Value} {x : EntD} {Ak A Aw : Option Addr} {ek c ew : Nat} (hl : es.length = k) (he : EntC w bt hE (Value.slice Ak k ek).ownBlock es cs) (hx : RowC w bp w.heap.size A (x.2.flatMap encI64)) (hob : ∀ g, (Value.slice Ak k ek).ownBlock = some g → g < bp) (hbp : bt ≤ bp) (hsz : hE ≤ w.heap.size)
    (hb : Below w.heap.size w w2) (hg : w2.grownBy w3 (Value.slice Ak k ek).ownBlock) (hv : (Value.slice Aw (k + 1) ew).ownBlock = (Value.slice Ak k ek).ownBlock ∨ (Value.slice Aw (k + 1) ew).ownBlock = some w2.heap.size) (h4 : ∀ b, bt ≤ b → w4.heap[b]? = w3.heap[b]?) (hs4 : w4.heap.size = w3.heap.size)
    (hD : D l bad (.slice Aw (k + 1) ew) w4) (ho : w4.ownsRow bt 52 2 (.slice Aw (k + 1) ew) (k + 1) (cs ++ [.string x.1, .slice A x.2.length c])) (hbt : bt ≤ w4.heap.size) (hF : ∀ x ∈ es, EntF x) (hF1 : EntF x) (hEq : (if b0 then none else rdL rdEnt (k + 1) l0) = (if bad then none else some (es ++ [x], l))) : RdX D bt l0 b0 (k + 1) w4 := by
  refine ⟨es ++ [x], _, l, bad, Aw, ew, by simp [hl], hD, ho, ?_, hbt, fun y hy => ?_, hEq⟩
  · have s1 := hb.size
    have s2 := hg.size
    have hE1 : EntC w bt w.heap.size (Value.slice Ak k ek).ownBlock es cs := he.move hsz (fun _ _ _ h => h) (fun _ _ _ _ => rfl)
    have hx1 : RowO w bt w.heap.size (Value.slice Ak k ek).ownBlock A (x.2.flatMap encI64) := by
      rcases hx with h | ⟨b, o, e, h1, h2, h3⟩
      · exact .inl h
      · exact .inr ⟨b, o, e, by omega, h2, fun e => by have := hob b e.symm; omega, h3⟩
    refine (EntC.snoc hx1 hE1).move (by omega) (fun b h1 h2 h3 e => ?_) (fun b h1 h2 h3 => (h4 b h1).trans ((hg.block b (by omega) h3).trans (hb.block b h2)))
    rcases hv with hv | hv
    · exact h3 (e.trans hv)
    · rw [hv] at e; cases e; omega
  · rcases List.mem_append.1 hy with h | h
    · exact hF y h
    · rw [List.mem_singleton.1 h]; exact hF1
end
end Go.Proofs.YtmpieeadkkeniaaGreatDoor
