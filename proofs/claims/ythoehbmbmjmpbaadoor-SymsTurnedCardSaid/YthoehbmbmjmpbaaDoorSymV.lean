/- Layer 7: lists of one and of two objects that a caller lays. No condition. -/
import Derived.Test.YthoehbmbmjmpbaaDoorSymC
namespace Go.Proofs.YthoehbmbmjmpbaaDoor
set_option maxRecDepth 100000
open Go.RowKit
set_option linter.unusedVariables false
theorem alloc_keeps (w : World) (o : Obj) (b : Nat) (h : b < w.heap.size) : (w.alloc o).heap[b]? = w.heap[b]? :=
  ((Below.refl w.heap.size w).alloc (Nat.le_refl _) o).block b h
theorem objs_one {w : World} {lo hi : Nat} {d : ObjD} {v0 v1 v2 v3 v4 : Value} {T : TypeId} (hh : hi ≤ w.heap.size) (h : ObjAt w lo hi d (.agg #[v0, v1, v2, v3, v4])) :
    ObjsAt (w.alloc (.cells #[v0, v1, v2, v3, v4] T)) 0 (w.heap.size + 1) [d] (some ⟨w.heap.size, 0, none⟩) := by
  refine ⟨[v0, v1, v2, v3, v4], rfl, .inr ⟨w.heap.size, 0, rfl, Nat.zero_le _, Nat.lt_succ_self _, fun j v hj => ?_⟩, fun i hi_ => ?_⟩
  · rw [World.cell?_alloc_new, Nat.zero_add, ← Array.getElem?_toList]; exact hj
  · have hi0 : i = 0 := by simp at hi_; exact hi_
    subst hi0
    exact ⟨v0, v1, v2, v3, v4, ⟨rfl, rfl, rfl, rfl, rfl⟩, h.move (Nat.zero_le _) (by omega) (fun b _ hb => alloc_keeps w _ b (by omega))⟩
theorem objs_two {w : World} {lo hi : Nat} {d e : ObjD} {v0 v1 v2 v3 v4 u0 u1 u2 u3 u4 : Value} {T : TypeId} (hh : hi ≤ w.heap.size) (h : ObjAt w lo hi d (.agg #[v0, v1, v2, v3, v4])) (h' : ObjAt w lo hi e (.agg #[u0, u1, u2, u3, u4])) :
    ObjsAt (w.alloc (.cells #[v0, v1, v2, v3, v4, u0, u1, u2, u3, u4] T)) 0 (w.heap.size + 1) [d, e] (some ⟨w.heap.size, 0, none⟩) := by
  refine ⟨[v0, v1, v2, v3, v4, u0, u1, u2, u3, u4], rfl, .inr ⟨w.heap.size, 0, rfl, Nat.zero_le _, Nat.lt_succ_self _, fun j v hj => ?_⟩, fun i hi_ => ?_⟩
  · rw [World.cell?_alloc_new, Nat.zero_add, ← Array.getElem?_toList]; exact hj
  · have hi2 : i = 0 ∨ i = 1 := by simp at hi_; omega
    rcases hi2 with rfl | rfl
    · exact ⟨v0, v1, v2, v3, v4, ⟨rfl, rfl, rfl, rfl, rfl⟩, h.move (Nat.zero_le _) (by omega) (fun b _ hb => alloc_keeps w _ b (by omega))⟩
    · exact ⟨u0, u1, u2, u3, u4, ⟨rfl, rfl, rfl, rfl, rfl⟩, h'.move (Nat.zero_le _) (by omega) (fun b _ hb => alloc_keeps w _ b (by omega))⟩
end Go.Proofs.YthoehbmbmjmpbaaDoor
