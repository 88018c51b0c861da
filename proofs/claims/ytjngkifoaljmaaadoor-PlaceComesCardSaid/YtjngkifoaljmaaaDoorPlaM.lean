/- Layer 8: what awake asks, plainly. No condition. -/
import Derived.Test.YtjngkifoaljmaaaDoorPlaL
namespace Go.Proofs.YtjngkifoaljmaaaDoor
set_option maxRecDepth 100000
open Go.RowKit
set_option linter.unusedVariables false
/-- the object that awake links twice -/
def wkO : ObjD := ⟨[695, 111], [7], [(⟨#[100]⟩, true, 0, false), (⟨#[102]⟩, false, 4, false)], [(0, 0, ⟨#[100]⟩, 0), (4, 2, ⟨#[102]⟩, 0)], []⟩
theorem wk_enc : encI 38 5 0 0 0 = 695 := by decide +kernel
theorem wk_hi : relV 695 0 0 77823 = (78519, 0) := by decide +kernel
theorem wk_lo : relV 695 1 0 0 = (0, 1) := by decide +kernel
theorem wk_chk : chkF [wkO, wkO] = (⟨#[]⟩, 0) := by decide +kernel
theorem wk_sp : spC [wkO, wkO] 4096 77824 = 0 := by decide +kernel
theorem wk_tx : txT [wkO, wkO] (spL [wkO, wkO] 4096 77824 2) 2 = some [78519, 111, 78519, 111] := by decide +kernel
theorem wk_da : daT [wkO, wkO] 2 = [7, 7] := by decide +kernel
theorem wk_lk : lkC [wkO, wkO] 4096 77824 2 = 0 := by decide +kernel
theorem wk_w : ObjW wkO where
  text := fun x hx => by simp only [wkO, List.mem_cons, List.not_mem_nil, or_false] at hx; rcases hx with rfl | rfl <;> (unfold IsW; omega)
  data := fun x hx => by simp only [wkO, List.mem_cons, List.not_mem_nil, or_false] at hx; subst hx; exact ⟨by omega, by omega⟩
  syms := fun x hx => by
    simp only [wkO, List.mem_cons, List.not_mem_nil, or_false] at hx
    rcases hx with rfl | rfl <;> exact ⟨show 1 ≤ maxLen from by unfold maxLen; omega, by unfold IsI; simp⟩
  rels := fun x hx => by
    simp only [wkO, List.mem_cons, List.not_mem_nil, or_false] at hx
    rcases hx with rfl | rfl <;> exact ⟨by unfold IsI; simp, by unfold IsI; simp, show 1 ≤ maxLen from by unfold maxLen; omega, by unfold IsI; simp⟩
  ents := by simp [wkO]
theorem wk_at {w : World} {b1 b2 b3 b4 K : Nat} {T1 T2 T3 T4 : TypeId} (h1 : w.heap[b1]? = some (.cells #[.int .u32 695, .int .u32 111] T1 (0, 0))) (h2 : w.heap[b2]? = some (.cells #[.int .u64 7] T2 (0, 0)))
    (h3 : w.heap[b3]? = some (.cells #[.string ⟨#[100]⟩, .bool true, .int .i64 0, .bool false, .string ⟨#[102]⟩, .bool false, .int .i64 4, .bool false] T3 (0, 0)))
    (h4 : w.heap[b4]? = some (.cells #[.int .i64 0, .int .i64 0, .string ⟨#[100]⟩, .int .i64 0, .int .i64 4, .int .i64 2, .string ⟨#[102]⟩, .int .i64 0] T4 (0, 0))) (k1 : b1 < K) (k2 : b2 < K) (k3 : b3 < K) (k4 : b4 < K) :
    ObjAt w 0 K wkO (.agg #[.slice (some ⟨b1, 0, none⟩) 2 2, .slice (some ⟨b2, 0, none⟩) 1 1, .slice (some ⟨b3, 0, none⟩) 2 2, .slice (some ⟨b4, 0, none⟩) 2 2, .slice none 0 0]) :=
  ⟨_, 2, _, 1, _, 2, _, 2, none, 0, [], rfl, rowC_one h1 k1, rowC_one h2 k2, rowC_one h3 k3, rowC_one h4 k4, .inl rfl, rfl⟩
end Go.Proofs.YtjngkifoaljmaaaDoor
