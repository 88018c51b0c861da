/- Layer 6: the reader of package obj: what it is in memory, and what its parts answer. -/
import Derived.Test.YtfdpbogbnfkilaaDoorObjPure
import Derived.Test.YtfdpbogbnfkilaaDoorObjWr
import Derived.Test.YtfdpbogbnfkilaaDoorBitA
namespace Go.Proofs.YtfdpbogbnfkilaaDoor
set_option maxRecDepth 100000
open Go.RowKit
set_option linter.unusedVariables false
/-- bytes that lie below B, and not in block p -/
def SlO (w : World) (p B : Nat) (A : Option Addr) (l : List Int) : Prop := l = [] ∨ ∃ b off, A = some ⟨b, off, none⟩ ∧ b < B ∧ b ≠ p ∧ ∀ k, k < l.length → w.cell? ⟨b, off + k, none⟩ = some (.int .u8 (nth l k))
/-- block p is a reader that has l left; all of it lies below B -/
def RdV (w : World) (p B : Nat) (l : List Int) (A : Option Addr) (n c : Nat) : Prop :=
  w.heap[p]? = some (.cells #[.slice A n c] 124 (0, 0)) ∧ n = l.length ∧ AllB l ∧ SlO w p B A l ∧ n ≤ c ∧ c ≤ maxLen ∧ p < B ∧ B ≤ w.heap.size
def RdIs (w : World) (p B : Nat) (l : List Int) : Prop := ∃ A n c, RdV w p B l A n c
/-- nothing that was has turned but block p -/
def RdOut (p : Nat) (w w' : World) : Prop := OutO (fun k => k = p) w w'
section
variable {w w1 w2 w' : World} {p B : Nat} {l : List Int} {A : Option Addr} {n c : Nat}
theorem RdV.cell (h : RdV w p B l A n c) : w.cell? ⟨p, 0, none⟩ = some (.slice A n c) := by rw [cell_of_row w p 0 _ _ _ h.1]; rfl
theorem RdV.free (h : RdV w p B l A n c) : w.frozen? ⟨p, 0, none⟩ = false := frozen_of_row w p 0 _ _ h.1
theorem SlO.keep (h : SlO w p B A l) (hk : ∀ k, k < B → k ≠ p → w'.heap[k]? = w.heap[k]?) : SlO w' p B A l := by
  rcases h with h | ⟨b, off, e, hb, hp, hc⟩
  · exact .inl h
  · exact .inr ⟨b, off, e, hb, hp, fun k hk' => by rw [World.cell?_of_block (hk b hb hp)]; exact hc k hk'⟩
theorem RdV.keep (h : RdV w p B l A n c) (hs : w.heap.size ≤ w'.heap.size) (hk : ∀ k, k < B → w'.heap[k]? = w.heap[k]?) : RdV w' p B l A n c := by
  obtain ⟨h1, h2, h3, h4, h5, h6, h7, h8⟩ := h
  exact ⟨by rw [hk p h7]; exact h1, h2, h3, h4.keep (fun k hb _ => hk k hb), h5, h6, h7, Nat.le_trans h8 hs⟩
theorem RdIs.keep (h : RdIs w p B l) (hs : w.heap.size ≤ w'.heap.size) (hk : ∀ k, k < B → w'.heap[k]? = w.heap[k]?) : RdIs w' p B l := by
  obtain ⟨A, n, c, h⟩ := h; exact ⟨A, n, c, h.keep hs hk⟩
theorem RdIs.lt (h : RdIs w p B l) : p < B ∧ B ≤ w.heap.size := by obtain ⟨A, n, c, h⟩ := h; exact ⟨h.2.2.2.2.2.2.1, h.2.2.2.2.2.2.2⟩
theorem RdIs.all (h : RdIs w p B l) : AllB l := by obtain ⟨A, n, c, h⟩ := h; exact h.2.2.1
theorem RdIs.below (h : RdIs w p B l) (hb : Below w.heap.size w w') : RdIs w' p B l := h.keep hb.size (fun k hk => hb.block k (Nat.lt_of_lt_of_le hk h.lt.2))
theorem RdIs.grown {row : Option Nat} (h : RdIs w p B l) (hg : w.grownBy w' row) (hr : ∀ g, row = some g → B ≤ g) : RdIs w' p B l :=
  h.keep hg.size (fun k hk => hg.block k (Nat.lt_of_lt_of_le hk h.lt.2) (fun e => by have := hr k e.symm; omega))
/-- what is left is stored -/
theorem RdV.set (h : RdV w p B l A n c) {l' : List Int} {A' : Option Addr} {n' c' : Nat} (hn : n' = l'.length) (ha : AllB l') (hs : SlO w p B A' l') (hc : n' ≤ c') (hm : c' ≤ maxLen) : RdIs (w.setCell ⟨p, 0, none⟩ (.slice A' n' c')) p B l' ∧ RdOut p w (w.setCell ⟨p, 0, none⟩ (.slice A' n' c')) := by
  have g := grown_setO w p 0 (.slice A' n' c')
  refine ⟨⟨A', n', c', ?_, hn, ha, hs.keep (fun k hk hp => g.block k (Nat.lt_of_lt_of_le hk h.2.2.2.2.2.2.2) (fun e => hp (by cases e; rfl))), hc, hm, h.2.2.2.2.2.2.1, Nat.le_trans h.2.2.2.2.2.2.2 g.size⟩, OutO.of_grown g (fun k e => by cases e; rfl)⟩
  rw [heap_setCell_same w p 0 _ _ _ h.1]; rfl
end
/-- the address behind k of c bytes -/
def dropA (A : Option Addr) (k c : Nat) : Option Addr := if c = k then A else A.map (·.add (k * 1))
theorem SlO.take {w : World} {p B : Nat} {A : Option Addr} {l : List Int} (h : SlO w p B A l) (k : Nat) : SlO w p B A (l.take k) := by
  rcases h with h | ⟨b, off, e, hb, hp, hc⟩
  · exact .inl (by rw [h, List.take_nil])
  · refine .inr ⟨b, off, e, hb, hp, fun j hj => ?_⟩
    have hj' : j < l.length := by rw [List.length_take] at hj; omega
    have hj2 : j < k := by rw [List.length_take] at hj; omega
    rw [hc j hj', nth_get hj, nth_get hj', List.getElem_take]
theorem SlO.drop {w : World} {p B : Nat} {A : Option Addr} {l : List Int} (h : SlO w p B A l) (k c : Nat) (hc : l.length ≤ c) : SlO w p B (dropA A k c) (l.drop k) := by
  by_cases e : c = k
  · left; rw [List.drop_eq_nil_iff]; omega
  unfold dropA
  rw [if_neg e]
  rcases h with h | ⟨b, off, rfl, hb, hp, hcell⟩
  · exact .inl (by rw [h]; simp)
  · refine .inr ⟨b, off + k, by simp [Addr.add], hb, hp, fun j hj => ?_⟩
    have hj' : k + j < l.length := by rw [List.length_drop] at hj; omega
    have := hcell (k + j) hj'
    rw [← Nat.add_assoc] at this
    rw [this, nth_get hj, nth_get hj', List.getElem_drop]
theorem SlO.sl {w : World} {p B : Nat} {A : Option Addr} {l : List Int} (h : SlO w p B A l) : Sl w A l := by
  rcases h with h | ⟨b, off, e, hb, hp, hc⟩
  · exact .inl h
  · exact .inr ⟨b, off, e, hc⟩
/-- what leaves by a panic: the code that tells of it -/
def lackV : Value := .iface 83 (.int .i64 3)
end Go.Proofs.YtfdpbogbnfkilaaDoor
