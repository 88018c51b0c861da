/- Slices of bytes in memory, and the reference's comparison of two of them: it tells whether they are the same list. -/
import Derived.Test.YthmjelkckamkdaaDoorBits
import Derived.Handy
namespace Go.Proofs.YthmjelkckamkdaaDoor
open Go.RowKit
set_option linter.unusedVariables false

def nth (l : List Int) (k : Nat) : Int := l.getD k 0
/-- the slice at A reads as the bytes l -/
def Sl (w : World) (A : Option Addr) (l : List Int) : Prop := l = [] ∨ ∃ b off, A = some ⟨b, off, none⟩ ∧ ∀ k, k < l.length → w.cell? ⟨b, off + k, none⟩ = some (.int .u8 (nth l k))

theorem block_lt {w : World} {b o : Nat} {v : Value} (h : w.cell? ⟨b, o, none⟩ = some v) : b < w.heap.size := by
  rcases Nat.lt_or_ge b w.heap.size with h1 | h1
  · exact h1
  · simp [World.cell?, Array.getElem?_eq_none h1] at h
theorem Sl.below {w w' : World} {A : Option Addr} {l : List Int} (h : Sl w A l) (hb : Below w.heap.size w w') : Sl w' A l := by
  rcases h with h | ⟨b, off, rfl, hc⟩
  · exact .inl h
  · exact .inr ⟨b, off, rfl, fun k hk => by
      have h1 := hc k hk
      rw [hb.cell (p := ⟨b, off + k, none⟩) (block_lt h1)]
      exact h1⟩
theorem Sl.drewN {w : World} {A : Option Addr} {l : List Int} (h : Sl w A l) (n : Nat) : Sl (w.drewN n) A l := h

def SameTo (la lb : List Int) (k : Nat) : Prop := ∀ j, j < k → nth la j = nth lb j
theorem same_step {la lb : List Int} {k : Nat} (h : SameTo la lb k) (he : (nth la k != nth lb k) = false) : SameTo la lb (k + 1) := by
  intro j hj
  by_cases e : j = k
  · subst e; simpa using he
  · exact h j (by omega)
theorem same_end {la lb : List Int} (hl : la.length = lb.length) (h : SameTo la lb la.length) : (la == lb) = true := by
  rw [beq_iff_eq]
  refine List.ext_getElem hl fun i h1 h2 => ?_
  have := h i h1
  simpa [nth, List.getD_eq_getElem?_getD, List.getElem?_eq_getElem h1, List.getElem?_eq_getElem h2] using this
theorem same_diff {la lb : List Int} {k : Nat} (he : (nth la k != nth lb k) = true) : (la == lb) = false := by
  rw [beq_eq_false_iff_ne]
  rintro rfl
  simp at he
end Go.Proofs.YthmjelkckamkdaaDoor
