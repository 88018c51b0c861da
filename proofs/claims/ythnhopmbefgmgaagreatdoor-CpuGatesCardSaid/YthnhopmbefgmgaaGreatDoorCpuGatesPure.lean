/- Layer 5's statements: what CpuGates' run comes to: plain mathematics. -/
import Derived.Test.YthnhopmbefgmgaaGreatDoorCpuH
namespace Go.Proofs.YthnhopmbefgmgaaGreatDoor
set_option maxRecDepth 100000
open Go.RowKit Go.Maps
def gT : List Rg := [(0, 64, 4, 0), (64, 128, 0, 4)]
theorem gt_two {P : Nat → Prop} (h0 : P 0) (h1 : P 1) : ∀ j, j < gT.length → P j := by
  intro j hj
  have : j = 0 ∨ j = 1 := by simp [gT] at hj; omega
  rcases this with rfl | rfl
  · exact h0
  · exact h1
theorem gt_w : TabW gT := gt_two ⟨⟨by decide, by decide⟩, ⟨by decide, by decide⟩, ⟨by decide, by decide⟩, ⟨by decide, by decide⟩⟩ ⟨⟨by decide, by decide⟩, ⟨by decide, by decide⟩, ⟨by decide, by decide⟩, ⟨by decide, by decide⟩⟩
theorem gt_may : mayTB gT = true := by decide
theorem gt_tab (w : World) : TabAt (w.alloc (.cells #[.int .u64 0, .int .u64 64, .int .i64 4, .int .i64 0, .int .u64 64, .int .u64 128, .int .i64 0, .int .i64 4] 57)) w.heap.size 0 gT :=
  gt_two ⟨by simp [go_sem]; rfl, by simp [go_sem]; rfl, by simp [go_sem]; rfl, by simp [go_sem]; rfl⟩ ⟨by simp [go_sem]; rfl, by simp [go_sem]; rfl, by simp [go_sem]; rfl, by simp [go_sem]; rfl⟩
def gX1 : List X := [⟨41, 0, 6, 0, 0⟩, ⟨41, 0, 6, 0, 0⟩, ⟨41, 0, 6, 0, 0⟩, ⟨41, 0, 6, 0, 0⟩]
def gX2 : List X := [⟨41, 0, 5, 0, 0⟩, ⟨42, 0, 0, 0, 0⟩]
def gS (a : Nat) : CS := { s0 64 false with R := (zeroR.set 5 (4 * a)).set 6 68 }
def gSt (a : Nat) : St := { s := newS (gS a), ev := [], lk := [], B := bB gT [wordsL gX1, wordsL gX2] 2 }
def gFin (a b : Nat) : St := ranS gT [4 * (b : Int)] 9 (gSt a)
theorem g_len : ∀ a, a < 4 → ∀ b, b < 4 → (gFin a b).s.R.length = 32 := by decide +kernel
theorem g_no : ∀ a, a < 4 → ∀ b, b < 4 → a ≠ b → (gFin a b).s.dn = 2 ∧ (gFin a b).s.own = false ∧ (gFin a b).ev.length = 0 ∧ (gFin a b).lk.length = 0 := by decide +kernel
theorem g_yes : ∀ a, a < 4 → (gFin a a).s.dn = 1 ∧ (gFin a a).s.own = false ∧ (gFin a a).s.pc = 68 ∧ (gFin a a).lk.length = 1 ∧ (gFin a a).ev.length = 2 := by decide +kernel
theorem g_ev : ∀ a, a < 4 → (gFin a a).ev.map (fun e => (e.1, e.2.1, e.2.2.length)) = [(true, 4 * (a : Int), 8), (false, 68, 8)] := by decide +kernel
theorem g_few : ∀ a, a < 4 → ∀ b, b < 4 → (gFin a b).ev.length ≤ 10 ∧ (gFin a b).lk.length ≤ 10 := by decide +kernel
theorem evs_two {l : List Ev} {a b : Bool} {p q : Int} (h : l.map (fun e => (e.1, e.2.1, e.2.2.length)) = [(a, p, 8), (b, q, 8)]) : (evsL l)[0]? = some (.bool a) ∧ (evsL l)[1]? = some (.int .u64 p) ∧ (evsL l)[10]? = some (.bool b) ∧ (evsL l)[11]? = some (.int .u64 q) := by
  match l, h with
  | [], h => simp at h
  | [_], h => simp at h
  | _ :: _ :: _ :: _, h => simp at h
  | [(a', p', A), (b', q', B)], h =>
    simp only [List.map_cons, List.map_nil, List.cons.injEq, Prod.mk.injEq, and_true] at h
    obtain ⟨⟨rfl, rfl, h1⟩, rfl, rfl, h2⟩ := h
    match A, h1 with
    | [c0, c1, c2, c3, c4, c5, c6, c7], _ => exact ⟨rfl, rfl, rfl, rfl⟩
end Go.Proofs.YthnhopmbefgmgaaGreatDoor
