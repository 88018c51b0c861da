/- Layer 7: what the document fixes (awake). Condition: the tables of package ins read as they should. -/
import Derived.Test.YthoehbmbmjmpbaaDoorSymT
import Derived.Test.YthoehbmbmjmpbaaDoorSymX
namespace Go.Proofs.YthoehbmbmjmpbaaDoor
set_option maxRecDepth 100000
open Go.RowKit
set_option linter.unusedVariables false
theorem row5 {W : World} {b : Nat} {v0 v1 v2 v3 v4 : Value} {T : TypeId} (h : W.heap[b]? = some (.cells #[v0, v1, v2, v3, v4] T (0, 0))) : W.cell? ⟨b, 0, none⟩ = some v0 ∧ W.cell? ⟨b, 1, none⟩ = some v1 ∧ W.cell? ⟨b, 2, none⟩ = some v2 ∧ W.cell? ⟨b, 3, none⟩ = some v3 ∧ W.cell? ⟨b, 4, none⟩ = some v4 ∧ ∀ o, W.frozen? ⟨b, o, none⟩ = false := by
  have y0 := cell_of_row W b 0 _ _ _ h
  have y1 := cell_of_row W b 1 _ _ _ h
  have y2 := cell_of_row W b 2 _ _ _ h
  have y3 := cell_of_row W b 3 _ _ _ h
  have y4 := cell_of_row W b 4 _ _ _ h
  simp only [List.getElem?_toArray, List.getElem?_cons_zero, List.getElem?_cons_succ] at y0 y1 y2 y3 y4
  exact ⟨y0, y1, y2, y3, y4, fun o => frozen_of_row W b o _ _ h⟩
def fD : ObjD := ⟨[1048691], [], [(⟨#[102]⟩, false, 0, true)], [], []⟩
def gD : ObjD := ⟨[111], [], [], [(0, 2, ⟨#[102]⟩, 0)], []⟩
theorem fD_w : ObjW fD where
  text := fun x hx => by simp only [fD, List.mem_singleton] at hx; subst hx; unfold IsW; omega
  data := by simp [fD]
  syms := fun x hx => by simp only [fD, List.mem_singleton] at hx; subst hx; exact ⟨show 1 ≤ maxLen from by unfold maxLen; omega, by unfold IsI; simp⟩
  rels := by simp [fD]
  ents := by simp [fD]
theorem gD_w : ObjW gD where
  text := fun x hx => by simp only [gD, List.mem_singleton] at hx; subst hx; unfold IsW; omega
  data := by simp [gD]
  syms := by simp [gD]
  rels := fun x hx => by simp only [gD, List.mem_singleton] at hx; subst hx; exact ⟨by unfold IsI; simp, by unfold IsI; simp, show 1 ≤ maxLen from by unfold maxLen; omega, by unfold IsI; simp⟩
  ents := by simp [gD]
theorem chk_ff : chkF [fD, fD] = (⟨#[102]⟩, 6) := by decide +kernel
theorem chk_g : chkF [gD] = (⟨#[102]⟩, 7) := by decide +kernel
theorem chk_gf : chkF [gD, fD] = (⟨#[]⟩, 0) := by decide +kernel
theorem find_gf : fndD [gD, fD] 0 ⟨#[102]⟩ = some (1, 0) := by decide +kernel
theorem rowC_one {w : World} {b : Nat} {cs : List Value} {T : TypeId} {K : Nat} (h : w.heap[b]? = some (.cells cs.toArray T (0, 0))) (hb : b < K) : RowC w 0 K (some ⟨b, 0, none⟩) cs :=
  .inr ⟨b, 0, rfl, Nat.zero_le _, hb, fun j v hj => by
    rw [cell_of_row w b (0 + j) _ _ _ h, Nat.zero_add, ← Array.getElem?_toList]; exact hj⟩
theorem f_at {w : World} {b1 b2 K : Nat} {T1 T2 : TypeId} (h1 : w.heap[b1]? = some (.cells #[.int .u32 1048691] T1 (0, 0))) (h2 : w.heap[b2]? = some (.cells #[.string ⟨#[102]⟩, .bool false, .int .i64 0, .bool true] T2 (0, 0))) (k1 : b1 < K) (k2 : b2 < K) :
    ObjAt w 0 K fD (.agg #[.slice (some ⟨b1, 0, none⟩) 1 1, .slice none 0 0, .slice (some ⟨b2, 0, none⟩) 1 1, .slice none 0 0, .slice none 0 0]) :=
  ⟨_, 1, none, 0, _, 1, none, 0, none, 0, [], rfl, rowC_one h1 k1, .inl rfl, rowC_one h2 k2, .inl rfl, .inl rfl, rfl⟩
theorem g_at {w : World} {b1 b2 K : Nat} {T1 T2 : TypeId} (h1 : w.heap[b1]? = some (.cells #[.int .u32 111] T1 (0, 0))) (h2 : w.heap[b2]? = some (.cells #[.int .i64 0, .int .i64 2, .string ⟨#[102]⟩, .int .i64 0] T2 (0, 0))) (k1 : b1 < K) (k2 : b2 < K) :
    ObjAt w 0 K gD (.agg #[.slice (some ⟨b1, 0, none⟩) 1 1, .slice none 0 0, .slice none 0 0, .slice (some ⟨b2, 0, none⟩) 1 1, .slice none 0 0]) :=
  ⟨_, 1, none, 0, none, 0, _, 1, none, 0, [], rfl, rowC_one h1 k1, .inl rfl, .inl rfl, rowC_one h2 k2, .inl rfl, rfl⟩
end Go.Proofs.YthoehbmbmjmpbaaDoor
