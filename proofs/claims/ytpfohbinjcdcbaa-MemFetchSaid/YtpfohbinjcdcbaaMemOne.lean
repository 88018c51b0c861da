/- Layer 4: tables of one region. -/
import Derived.Test.YtpfohbinjcdcbaaMemAwake
namespace Go.Proofs.Ytpfohbinjcdcbaa
open Go.RowKit Go.Maps
set_option linter.unusedVariables false
def T1 (lo hi x y : Int) : List Rg := [(lo, hi, x, y)]
section
variable {lo hi x y : Int}
theorem t1_zero : nthR (T1 lo hi x y) 0 = (lo, hi, x, y) := rfl
theorem t1_w (h0 : 0 ≤ lo) (h1 : lo < hi) (h2 : hi < 1000) (hx : 0 ≤ x ∧ x ≤ 7) (hy : 0 ≤ y ∧ y ≤ 7) : TabW (T1 lo hi x y) := by
  intro i hi
  have : i = 0 := by simp [T1] at hi; omega
  subst this
  rw [t1_zero]
  unfold RgW IsU IsI rlo rhi rown rout
  dsimp only
  omega
theorem t1_may (h0 : 0 ≤ lo) (h1 : lo < hi) (h2 : hi < 1000) (h3 : lo % 8 = 0) (h4 : hi % 8 = 0) (hx : 0 ≤ x ∧ x ≤ 7) (hy : 0 ≤ y ∧ y ≤ 7) : mayB (T1 lo hi x y) = true := by
  have h : okB (lo, hi, x, y) = true := okB_iff.2 (by unfold rlo rhi rown rout; dsimp only; omega)
  have h5 : decide ((0 : Int) ≤ rlo (lo, hi, x, y)) = true := by rw [decide_eq_true_eq]; exact h0
  simp [mayB, T1, chk, h, h5]
theorem t1_f {p q : Int} (h0 : lo ≤ p) (hq : 1 ≤ q) (h1 : p + q ≤ hi) : FindYes (T1 lo hi x y) p q 0 := by
  refine ⟨hq, by simp [T1], hitB_iff.2 ?_, fun j hj => by omega⟩
  rw [t1_zero]
  unfold rlo rhi
  dsimp only
  omega
theorem t1_n {p q : Int} (h : p < lo ∨ hi < p + q) (hq : 1 ≤ q) : FindNo (T1 lo hi x y) p q := by
  refine .inr (fun j hj => hitB_no.2 ?_)
  have : j = 0 := by simp [T1] at hj; omega
  subst this
  rw [t1_zero]
  unfold rlo rhi
  dsimp only
  omega
theorem t1_right {own : Bool} : rightI (nthR (T1 lo hi x y) 0) own = if own then x else y := rfl
theorem t1_tab (w : World) : TabAt (w.alloc (.cells #[.int .u64 lo, .int .u64 hi, .int .i64 x, .int .i64 y] 35)) w.heap.size 0 (T1 lo hi x y) := by
  intro i hi
  have : i = 0 := by simp [T1] at hi; omega
  subst this
  exact ⟨by simp [go_sem]; rfl, by simp [go_sem]; rfl, by simp [go_sem]; rfl, by simp [go_sem]; rfl⟩
end
theorem has4 {x : Int} (h0 : 0 ≤ x) (h1 : x ≤ 7) : hasB x 4 = decide (x / 4 = 1) := by
  have : x = 0 ∨ x = 1 ∨ x = 2 ∨ x = 3 ∨ x = 4 ∨ x = 5 ∨ x = 6 ∨ x = 7 := by omega
  rcases this with rfl | rfl | rfl | rfl | rfl | rfl | rfl | rfl <;> decide
theorem has1 {x : Int} (h0 : 0 ≤ x) (h1 : x ≤ 7) : hasB x 1 = decide (x % 2 = 1) := by
  have : x = 0 ∨ x = 1 ∨ x = 2 ∨ x = 3 ∨ x = 4 ∨ x = 5 ∨ x = 6 ∨ x = 7 := by omega
  rcases this with rfl | rfl | rfl | rfl | rfl | rfl | rfl | rfl <;> decide
/-- a new block of bytes -/
theorem sl_new (w : World) (l : List Int) : Sl (w.alloc (.cells (l.map (Value.int .u8)).toArray 5)) (some ⟨w.heap.size, 0, none⟩) l := by
  have h : Row (w.alloc (.cells (l.map (Value.int .u8)).toArray 5)) w.heap.size l := heap_alloc_new w _
  have := h.sl 0 l.length (by omega)
  simpa using this
end Go.Proofs.Ytpfohbinjcdcbaa
