/- The walk of the statement AluBranches: it returns true, and writes nothing that was there. Condition: the table of package alu reads as it should. -/
import Derived.Test.YtndaphdfhlefoaaDoorAluLit
import Derived.LoopN
namespace Go.Proofs.YtndaphdfhlefoaaDoor.AluBranchesWalk
open Go.RowKit
set_option linter.unusedVariables false
abbrev Tk (op a b : Int) (c : Bool) : Prop := ∀ w, Calls Tryd.prog 16 #[.int .i64 op, .int .u64 a, .int .u64 b] w fun e w' => e = .returned (.tuple #[.bool c, .bool true]) ∧ Below w.heap.size w w'
theorem lt_of_cell {w : World} {b o : Nat} {v : Value} (hc : w.cell? ⟨b, o, none⟩ = some v) : b < w.heap.size := by
  rcases Nat.lt_or_ge b w.heap.size with h1 | h1
  · exact h1
  · simp [World.cell?, Array.getElem?_eq_none h1] at hc
theorem keptc {w w' : World} {b o : Nat} {v : Value} (hb : Below w.heap.size w w') (h : w.cell? ⟨b, o, none⟩ = some v) : w'.cell? ⟨b, o, none⟩ = some v := by
  rw [hb.cell (p := ⟨b, o, none⟩) (lt_of_cell h)]; exact h
abbrev R3 (w0 w : World) (B : Nat) (x0 x1 x2 : Int) : Prop := w.cell? ⟨B, 0, none⟩ = some (.int .i64 x0) ∧ w.cell? ⟨B, 1, none⟩ = some (.int .i64 x1) ∧ w.cell? ⟨B, 2, none⟩ = some (.int .i64 x2) ∧ B < w.heap.size ∧ Below w0.heap.size w0 w
abbrev R2 (w0 w : World) (B : Nat) (x0 x1 : Int) : Prop := w.cell? ⟨B, 0, none⟩ = some (.int .i64 x0) ∧ w.cell? ⟨B, 1, none⟩ = some (.int .i64 x1) ∧ B < w.heap.size ∧ Below w0.heap.size w0 w
theorem R3.step {w0 w w' : World} {B : Nat} {x0 x1 x2 : Int} (h : R3 w0 w B x0 x1 x2) (hb : Below w.heap.size w w') : R3 w0 w' B x0 x1 x2 :=
  ⟨keptc hb h.1, keptc hb h.2.1, keptc hb h.2.2.1, lt_of_cell (keptc hb h.1), h.2.2.2.2.trans (hb.mono h.2.2.2.2.size)⟩
theorem R2.step {w0 w w' : World} {B : Nat} {x0 x1 : Int} (h : R2 w0 w B x0 x1) (hb : Below w.heap.size w w') : R2 w0 w' B x0 x1 :=
  ⟨keptc hb h.1, keptc hb h.2.1, lt_of_cell (keptc hb h.1), h.2.2.2.trans (hb.mono h.2.2.2.size)⟩
theorem R3.new {w0 w : World} {x0 x1 x2 : Int} {t : TypeId} (h : Below w0.heap.size w0 w) : R3 w0 (w.alloc (.cells #[.int .i64 x0, .int .i64 x1, .int .i64 x2] t)) w.heap.size x0 x1 x2 :=
  ⟨by simp [go_sem], by simp [go_sem], by simp [go_sem], by simp, h.alloc h.size _⟩
theorem R2.new {w0 w : World} {x0 x1 : Int} {t : TypeId} (h : Below w0.heap.size w0 w) : R2 w0 (w.alloc (.cells #[.int .i64 x0, .int .i64 x1] t)) w.heap.size x0 x1 :=
  ⟨by simp [go_sem], by simp [go_sem], by simp, h.alloc h.size _⟩
set_option maxHeartbeats 4000000 in
theorem walk_e (a b : Int) (w : World) (HT : Hid (TabA w)) (c32 : Hid (Tk 32 a b true)) (c33 : Hid (Tk 33 a b false)) (c34 : Hid (Tk 34 a b false)) (c35 : Hid (Tk 35 a b true)) (c36 : Hid (Tk 36 a b false)) (c37 : Hid (Tk 37 a b true)) (d34 : Hid (Tk 34 b a false)) (d36 : Hid (Tk 36 b a false)) :
    Calls Tryd.prog 5 #[.int .u64 a, .int .u64 b] w fun e w' => e = .returned (.bool true) ∧ Below w.heap.size w w' := by
  go_enter Tryd.func5, Tryd.ntmps5
  go_wp2_with fail
  refine (awakeA_any _ HT.out).mono ?_
  rintro e w1 ⟨rfl, hb⟩
  have H1 := Lib.hid (R3.new (t := 3) (x0 := 32) (x1 := 34) (x2 := 36) hb.2)
  clear hb HT
  go_wp2
  refine wp_loop_rounds 4 ?_
  rw [rounds_succ]
  go_wp2_with fail
  refine (c32.out _).mono ?_
  rintro e w2 ⟨rfl, hb⟩
  have H2 := Lib.hid (H1.out.step hb)
  clear hb H1
  obtain ⟨x0, x1, x2, hz, -⟩ := H2.out
  go_wp2_with fail
  refine (c33.out _).mono ?_
  rintro e w3 ⟨rfl, hb⟩
  have H3 := Lib.hid (H2.out.step hb)
  clear hb H2
  obtain ⟨x0, x1, x2, hz, -⟩ := H3.out
  go_wp2
  rw [rounds_succ]
  go_wp2_with fail
  refine (c34.out _).mono ?_
  rintro e w4 ⟨rfl, hb⟩
  have H4 := Lib.hid (H3.out.step hb)
  clear hb H3
  obtain ⟨x0, x1, x2, hz, -⟩ := H4.out
  go_wp2_with fail
  refine (c35.out _).mono ?_
  rintro e w5 ⟨rfl, hb⟩
  have H5 := Lib.hid (H4.out.step hb)
  clear hb H4
  obtain ⟨x0, x1, x2, hz, -⟩ := H5.out
  go_wp2
  rw [rounds_succ]
  go_wp2_with fail
  refine (c36.out _).mono ?_
  rintro e w6 ⟨rfl, hb⟩
  have H6 := Lib.hid (H5.out.step hb)
  clear hb H5
  obtain ⟨x0, x1, x2, hz, -⟩ := H6.out
  go_wp2_with fail
  refine (c37.out _).mono ?_
  rintro e w7 ⟨rfl, hb⟩
  have H7 := Lib.hid (H6.out.step hb)
  clear hb H6
  obtain ⟨x0, x1, x2, hz, -⟩ := H7.out
  go_wp2
  rw [rounds_succ]
  have G := Lib.hid (R2.new (t := 3) (x0 := 34) (x1 := 36) H7.out.2.2.2.2)
  clear x0 x1 x2 hz
  go_wp2
  refine wp_loop_rounds 3 ?_
  rw [rounds_succ]
  go_wp2_with fail
  refine (c34.out _).mono ?_
  rintro e w8 ⟨rfl, hb⟩
  have H8 := Lib.hid (G.out.step hb)
  clear hb H7
  obtain ⟨x0, x1, hz, -⟩ := H8.out
  go_wp2_with fail
  refine (d34.out _).mono ?_
  rintro e w9 ⟨rfl, hb⟩
  have H9 := Lib.hid (H8.out.step hb)
  clear hb H8
  obtain ⟨x0, x1, hz, -⟩ := H9.out
  go_wp2_with fail
  refine (c32.out _).mono ?_
  rintro e w10 ⟨rfl, hb⟩
  have H10 := Lib.hid (H9.out.step hb)
  clear hb H9
  obtain ⟨x0, x1, hz, -⟩ := H10.out
  go_wp2
  refine wp_loop_rounds 4 ?_
  rw [rounds_succ]
  go_wp2
  rw [rounds_succ]
  go_wp2
  rw [rounds_succ]
  go_wp2
  rw [rounds_succ]
  go_wp2
  rw [rounds_succ]
  go_wp2_with fail
  refine (c36.out _).mono ?_
  rintro e w11 ⟨rfl, hb⟩
  have H11 := Lib.hid ((R2.step H10.out ((Below.refl _ _).alloc (Nat.le_refl _) _)).step hb)
  clear hb H10
  obtain ⟨x0, x1, hz, -⟩ := H11.out
  go_wp2_with fail
  refine (d36.out _).mono ?_
  rintro e w12 ⟨rfl, hb⟩
  have H12 := Lib.hid (H11.out.step hb)
  clear hb H11
  obtain ⟨x0, x1, hz, -⟩ := H12.out
  go_wp2_with fail
  refine (c32.out _).mono ?_
  rintro e w13 ⟨rfl, hb⟩
  have H13 := Lib.hid (H12.out.step hb)
  clear hb H12
  obtain ⟨x0, x1, hz, -⟩ := H13.out
  go_wp2
  refine wp_loop_rounds 4 ?_
  rw [rounds_succ]
  go_wp2
  rw [rounds_succ]
  go_wp2
  rw [rounds_succ]
  go_wp2
  rw [rounds_succ]
  go_wp2
  rw [rounds_succ]
  go_wp2
  go_ret
  exact ⟨rfl, H13.out.2.2.2.alloc H13.out.2.2.2.size _⟩
set_option maxHeartbeats 4000000 in
theorem walk_ll (a b : Int) (w : World) (HT : Hid (TabA w)) (c32 : Hid (Tk 32 a b false)) (c33 : Hid (Tk 33 a b true)) (c34 : Hid (Tk 34 a b true)) (c35 : Hid (Tk 35 a b false)) (c36 : Hid (Tk 36 a b true)) (c37 : Hid (Tk 37 a b false)) (d34 : Hid (Tk 34 b a false)) (d36 : Hid (Tk 36 b a false)) :
    Calls Tryd.prog 5 #[.int .u64 a, .int .u64 b] w fun e w' => e = .returned (.bool true) ∧ Below w.heap.size w w' := by
  go_enter Tryd.func5, Tryd.ntmps5
  go_wp2_with fail
  refine (awakeA_any _ HT.out).mono ?_
  rintro e w1 ⟨rfl, hb⟩
  have H1 := Lib.hid (R3.new (t := 3) (x0 := 32) (x1 := 34) (x2 := 36) hb.2)
  clear hb HT
  go_wp2
  refine wp_loop_rounds 4 ?_
  rw [rounds_succ]
  go_wp2_with fail
  refine (c32.out _).mono ?_
  rintro e w2 ⟨rfl, hb⟩
  have H2 := Lib.hid (H1.out.step hb)
  clear hb H1
  obtain ⟨x0, x1, x2, hz, -⟩ := H2.out
  go_wp2_with fail
  refine (c33.out _).mono ?_
  rintro e w3 ⟨rfl, hb⟩
  have H3 := Lib.hid (H2.out.step hb)
  clear hb H2
  obtain ⟨x0, x1, x2, hz, -⟩ := H3.out
  go_wp2
  rw [rounds_succ]
  go_wp2_with fail
  refine (c34.out _).mono ?_
  rintro e w4 ⟨rfl, hb⟩
  have H4 := Lib.hid (H3.out.step hb)
  clear hb H3
  obtain ⟨x0, x1, x2, hz, -⟩ := H4.out
  go_wp2_with fail
  refine (c35.out _).mono ?_
  rintro e w5 ⟨rfl, hb⟩
  have H5 := Lib.hid (H4.out.step hb)
  clear hb H4
  obtain ⟨x0, x1, x2, hz, -⟩ := H5.out
  go_wp2
  rw [rounds_succ]
  go_wp2_with fail
  refine (c36.out _).mono ?_
  rintro e w6 ⟨rfl, hb⟩
  have H6 := Lib.hid (H5.out.step hb)
  clear hb H5
  obtain ⟨x0, x1, x2, hz, -⟩ := H6.out
  go_wp2_with fail
  refine (c37.out _).mono ?_
  rintro e w7 ⟨rfl, hb⟩
  have H7 := Lib.hid (H6.out.step hb)
  clear hb H6
  obtain ⟨x0, x1, x2, hz, -⟩ := H7.out
  go_wp2
  rw [rounds_succ]
  have G := Lib.hid (R2.new (t := 3) (x0 := 34) (x1 := 36) H7.out.2.2.2.2)
  clear x0 x1 x2 hz
  go_wp2
  refine wp_loop_rounds 3 ?_
  rw [rounds_succ]
  go_wp2_with fail
  refine (c34.out _).mono ?_
  rintro e w8 ⟨rfl, hb⟩
  have H8 := Lib.hid (G.out.step hb)
  clear hb H7
  obtain ⟨x0, x1, hz, -⟩ := H8.out
  go_wp2_with fail
  refine (d34.out _).mono ?_
  rintro e w9 ⟨rfl, hb⟩
  have H9 := Lib.hid (H8.out.step hb)
  clear hb H8
  obtain ⟨x0, x1, hz, -⟩ := H9.out
  go_wp2_with fail
  refine (c32.out _).mono ?_
  rintro e w10 ⟨rfl, hb⟩
  have H10 := Lib.hid (H9.out.step hb)
  clear hb H9
  obtain ⟨x0, x1, hz, -⟩ := H10.out
  go_wp2
  refine wp_loop_rounds 4 ?_
  rw [rounds_succ]
  go_wp2
  rw [rounds_succ]
  go_wp2
  rw [rounds_succ]
  go_wp2
  rw [rounds_succ]
  go_wp2
  rw [rounds_succ]
  go_wp2_with fail
  refine (c36.out _).mono ?_
  rintro e w11 ⟨rfl, hb⟩
  have H11 := Lib.hid ((R2.step H10.out ((Below.refl _ _).alloc (Nat.le_refl _) _)).step hb)
  clear hb H10
  obtain ⟨x0, x1, hz, -⟩ := H11.out
  go_wp2_with fail
  refine (d36.out _).mono ?_
  rintro e w12 ⟨rfl, hb⟩
  have H12 := Lib.hid (H11.out.step hb)
  clear hb H11
  obtain ⟨x0, x1, hz, -⟩ := H12.out
  go_wp2_with fail
  refine (c32.out _).mono ?_
  rintro e w13 ⟨rfl, hb⟩
  have H13 := Lib.hid (H12.out.step hb)
  clear hb H12
  obtain ⟨x0, x1, hz, -⟩ := H13.out
  go_wp2
  refine wp_loop_rounds 4 ?_
  rw [rounds_succ]
  go_wp2
  rw [rounds_succ]
  go_wp2
  rw [rounds_succ]
  go_wp2
  rw [rounds_succ]
  go_wp2
  rw [rounds_succ]
  go_wp2
  go_ret
  exact ⟨rfl, H13.out.2.2.2.alloc H13.out.2.2.2.size _⟩
set_option maxHeartbeats 4000000 in
theorem walk_lg (a b : Int) (w : World) (HT : Hid (TabA w)) (c32 : Hid (Tk 32 a b false)) (c33 : Hid (Tk 33 a b true)) (c34 : Hid (Tk 34 a b true)) (c35 : Hid (Tk 35 a b false)) (c36 : Hid (Tk 36 a b false)) (c37 : Hid (Tk 37 a b true)) (d34 : Hid (Tk 34 b a false)) (d36 : Hid (Tk 36 b a true)) :
    Calls Tryd.prog 5 #[.int .u64 a, .int .u64 b] w fun e w' => e = .returned (.bool true) ∧ Below w.heap.size w w' := by
  go_enter Tryd.func5, Tryd.ntmps5
  go_wp2_with fail
  refine (awakeA_any _ HT.out).mono ?_
  rintro e w1 ⟨rfl, hb⟩
  have H1 := Lib.hid (R3.new (t := 3) (x0 := 32) (x1 := 34) (x2 := 36) hb.2)
  clear hb HT
  go_wp2
  refine wp_loop_rounds 4 ?_
  rw [rounds_succ]
  go_wp2_with fail
  refine (c32.out _).mono ?_
  rintro e w2 ⟨rfl, hb⟩
  have H2 := Lib.hid (H1.out.step hb)
  clear hb H1
  obtain ⟨x0, x1, x2, hz, -⟩ := H2.out
  go_wp2_with fail
  refine (c33.out _).mono ?_
  rintro e w3 ⟨rfl, hb⟩
  have H3 := Lib.hid (H2.out.step hb)
  clear hb H2
  obtain ⟨x0, x1, x2, hz, -⟩ := H3.out
  go_wp2
  rw [rounds_succ]
  go_wp2_with fail
  refine (c34.out _).mono ?_
  rintro e w4 ⟨rfl, hb⟩
  have H4 := Lib.hid (H3.out.step hb)
  clear hb H3
  obtain ⟨x0, x1, x2, hz, -⟩ := H4.out
  go_wp2_with fail
  refine (c35.out _).mono ?_
  rintro e w5 ⟨rfl, hb⟩
  have H5 := Lib.hid (H4.out.step hb)
  clear hb H4
  obtain ⟨x0, x1, x2, hz, -⟩ := H5.out
  go_wp2
  rw [rounds_succ]
  go_wp2_with fail
  refine (c36.out _).mono ?_
  rintro e w6 ⟨rfl, hb⟩
  have H6 := Lib.hid (H5.out.step hb)
  clear hb H5
  obtain ⟨x0, x1, x2, hz, -⟩ := H6.out
  go_wp2_with fail
  refine (c37.out _).mono ?_
  rintro e w7 ⟨rfl, hb⟩
  have H7 := Lib.hid (H6.out.step hb)
  clear hb H6
  obtain ⟨x0, x1, x2, hz, -⟩ := H7.out
  go_wp2
  rw [rounds_succ]
  have G := Lib.hid (R2.new (t := 3) (x0 := 34) (x1 := 36) H7.out.2.2.2.2)
  clear x0 x1 x2 hz
  go_wp2
  refine wp_loop_rounds 3 ?_
  rw [rounds_succ]
  go_wp2_with fail
  refine (c34.out _).mono ?_
  rintro e w8 ⟨rfl, hb⟩
  have H8 := Lib.hid (G.out.step hb)
  clear hb H7
  obtain ⟨x0, x1, hz, -⟩ := H8.out
  go_wp2_with fail
  refine (d34.out _).mono ?_
  rintro e w9 ⟨rfl, hb⟩
  have H9 := Lib.hid (H8.out.step hb)
  clear hb H8
  obtain ⟨x0, x1, hz, -⟩ := H9.out
  go_wp2_with fail
  refine (c32.out _).mono ?_
  rintro e w10 ⟨rfl, hb⟩
  have H10 := Lib.hid (H9.out.step hb)
  clear hb H9
  obtain ⟨x0, x1, hz, -⟩ := H10.out
  go_wp2
  refine wp_loop_rounds 4 ?_
  rw [rounds_succ]
  go_wp2
  rw [rounds_succ]
  go_wp2
  rw [rounds_succ]
  go_wp2
  rw [rounds_succ]
  go_wp2
  rw [rounds_succ]
  go_wp2_with fail
  refine (c36.out _).mono ?_
  rintro e w11 ⟨rfl, hb⟩
  have H11 := Lib.hid ((R2.step H10.out ((Below.refl _ _).alloc (Nat.le_refl _) _)).step hb)
  clear hb H10
  obtain ⟨x0, x1, hz, -⟩ := H11.out
  go_wp2_with fail
  refine (d36.out _).mono ?_
  rintro e w12 ⟨rfl, hb⟩
  have H12 := Lib.hid (H11.out.step hb)
  clear hb H11
  obtain ⟨x0, x1, hz, -⟩ := H12.out
  go_wp2_with fail
  refine (c32.out _).mono ?_
  rintro e w13 ⟨rfl, hb⟩
  have H13 := Lib.hid (H12.out.step hb)
  clear hb H12
  obtain ⟨x0, x1, hz, -⟩ := H13.out
  go_wp2
  refine wp_loop_rounds 4 ?_
  rw [rounds_succ]
  go_wp2
  rw [rounds_succ]
  go_wp2
  rw [rounds_succ]
  go_wp2
  rw [rounds_succ]
  go_wp2
  rw [rounds_succ]
  go_wp2
  go_ret
  exact ⟨rfl, H13.out.2.2.2.alloc H13.out.2.2.2.size _⟩
set_option maxHeartbeats 4000000 in
theorem walk_gl (a b : Int) (w : World) (HT : Hid (TabA w)) (c32 : Hid (Tk 32 a b false)) (c33 : Hid (Tk 33 a b true)) (c34 : Hid (Tk 34 a b false)) (c35 : Hid (Tk 35 a b true)) (c36 : Hid (Tk 36 a b true)) (c37 : Hid (Tk 37 a b false)) (d34 : Hid (Tk 34 b a true)) (d36 : Hid (Tk 36 b a false)) :
    Calls Tryd.prog 5 #[.int .u64 a, .int .u64 b] w fun e w' => e = .returned (.bool true) ∧ Below w.heap.size w w' := by
  go_enter Tryd.func5, Tryd.ntmps5
  go_wp2_with fail
  refine (awakeA_any _ HT.out).mono ?_
  rintro e w1 ⟨rfl, hb⟩
  have H1 := Lib.hid (R3.new (t := 3) (x0 := 32) (x1 := 34) (x2 := 36) hb.2)
  clear hb HT
  go_wp2
  refine wp_loop_rounds 4 ?_
  rw [rounds_succ]
  go_wp2_with fail
  refine (c32.out _).mono ?_
  rintro e w2 ⟨rfl, hb⟩
  have H2 := Lib.hid (H1.out.step hb)
  clear hb H1
  obtain ⟨x0, x1, x2, hz, -⟩ := H2.out
  go_wp2_with fail
  refine (c33.out _).mono ?_
  rintro e w3 ⟨rfl, hb⟩
  have H3 := Lib.hid (H2.out.step hb)
  clear hb H2
  obtain ⟨x0, x1, x2, hz, -⟩ := H3.out
  go_wp2
  rw [rounds_succ]
  go_wp2_with fail
  refine (c34.out _).mono ?_
  rintro e w4 ⟨rfl, hb⟩
  have H4 := Lib.hid (H3.out.step hb)
  clear hb H3
  obtain ⟨x0, x1, x2, hz, -⟩ := H4.out
  go_wp2_with fail
  refine (c35.out _).mono ?_
  rintro e w5 ⟨rfl, hb⟩
  have H5 := Lib.hid (H4.out.step hb)
  clear hb H4
  obtain ⟨x0, x1, x2, hz, -⟩ := H5.out
  go_wp2
  rw [rounds_succ]
  go_wp2_with fail
  refine (c36.out _).mono ?_
  rintro e w6 ⟨rfl, hb⟩
  have H6 := Lib.hid (H5.out.step hb)
  clear hb H5
  obtain ⟨x0, x1, x2, hz, -⟩ := H6.out
  go_wp2_with fail
  refine (c37.out _).mono ?_
  rintro e w7 ⟨rfl, hb⟩
  have H7 := Lib.hid (H6.out.step hb)
  clear hb H6
  obtain ⟨x0, x1, x2, hz, -⟩ := H7.out
  go_wp2
  rw [rounds_succ]
  have G := Lib.hid (R2.new (t := 3) (x0 := 34) (x1 := 36) H7.out.2.2.2.2)
  clear x0 x1 x2 hz
  go_wp2
  refine wp_loop_rounds 3 ?_
  rw [rounds_succ]
  go_wp2_with fail
  refine (c34.out _).mono ?_
  rintro e w8 ⟨rfl, hb⟩
  have H8 := Lib.hid (G.out.step hb)
  clear hb H7
  obtain ⟨x0, x1, hz, -⟩ := H8.out
  go_wp2_with fail
  refine (d34.out _).mono ?_
  rintro e w9 ⟨rfl, hb⟩
  have H9 := Lib.hid (H8.out.step hb)
  clear hb H8
  obtain ⟨x0, x1, hz, -⟩ := H9.out
  go_wp2_with fail
  refine (c32.out _).mono ?_
  rintro e w10 ⟨rfl, hb⟩
  have H10 := Lib.hid (H9.out.step hb)
  clear hb H9
  obtain ⟨x0, x1, hz, -⟩ := H10.out
  go_wp2
  refine wp_loop_rounds 4 ?_
  rw [rounds_succ]
  go_wp2
  rw [rounds_succ]
  go_wp2
  rw [rounds_succ]
  go_wp2
  rw [rounds_succ]
  go_wp2
  rw [rounds_succ]
  go_wp2_with fail
  refine (c36.out _).mono ?_
  rintro e w11 ⟨rfl, hb⟩
  have H11 := Lib.hid ((R2.step H10.out ((Below.refl _ _).alloc (Nat.le_refl _) _)).step hb)
  clear hb H10
  obtain ⟨x0, x1, hz, -⟩ := H11.out
  go_wp2_with fail
  refine (d36.out _).mono ?_
  rintro e w12 ⟨rfl, hb⟩
  have H12 := Lib.hid (H11.out.step hb)
  clear hb H11
  obtain ⟨x0, x1, hz, -⟩ := H12.out
  go_wp2_with fail
  refine (c32.out _).mono ?_
  rintro e w13 ⟨rfl, hb⟩
  have H13 := Lib.hid (H12.out.step hb)
  clear hb H12
  obtain ⟨x0, x1, hz, -⟩ := H13.out
  go_wp2
  refine wp_loop_rounds 4 ?_
  rw [rounds_succ]
  go_wp2
  rw [rounds_succ]
  go_wp2
  rw [rounds_succ]
  go_wp2
  rw [rounds_succ]
  go_wp2
  rw [rounds_succ]
  go_wp2
  go_ret
  exact ⟨rfl, H13.out.2.2.2.alloc H13.out.2.2.2.size _⟩
set_option maxHeartbeats 4000000 in
theorem walk_gg (a b : Int) (w : World) (HT : Hid (TabA w)) (c32 : Hid (Tk 32 a b false)) (c33 : Hid (Tk 33 a b true)) (c34 : Hid (Tk 34 a b false)) (c35 : Hid (Tk 35 a b true)) (c36 : Hid (Tk 36 a b false)) (c37 : Hid (Tk 37 a b true)) (d34 : Hid (Tk 34 b a true)) (d36 : Hid (Tk 36 b a true)) :
    Calls Tryd.prog 5 #[.int .u64 a, .int .u64 b] w fun e w' => e = .returned (.bool true) ∧ Below w.heap.size w w' := by
  go_enter Tryd.func5, Tryd.ntmps5
  go_wp2_with fail
  refine (awakeA_any _ HT.out).mono ?_
  rintro e w1 ⟨rfl, hb⟩
  have H1 := Lib.hid (R3.new (t := 3) (x0 := 32) (x1 := 34) (x2 := 36) hb.2)
  clear hb HT
  go_wp2
  refine wp_loop_rounds 4 ?_
  rw [rounds_succ]
  go_wp2_with fail
  refine (c32.out _).mono ?_
  rintro e w2 ⟨rfl, hb⟩
  have H2 := Lib.hid (H1.out.step hb)
  clear hb H1
  obtain ⟨x0, x1, x2, hz, -⟩ := H2.out
  go_wp2_with fail
  refine (c33.out _).mono ?_
  rintro e w3 ⟨rfl, hb⟩
  have H3 := Lib.hid (H2.out.step hb)
  clear hb H2
  obtain ⟨x0, x1, x2, hz, -⟩ := H3.out
  go_wp2
  rw [rounds_succ]
  go_wp2_with fail
  refine (c34.out _).mono ?_
  rintro e w4 ⟨rfl, hb⟩
  have H4 := Lib.hid (H3.out.step hb)
  clear hb H3
  obtain ⟨x0, x1, x2, hz, -⟩ := H4.out
  go_wp2_with fail
  refine (c35.out _).mono ?_
  rintro e w5 ⟨rfl, hb⟩
  have H5 := Lib.hid (H4.out.step hb)
  clear hb H4
  obtain ⟨x0, x1, x2, hz, -⟩ := H5.out
  go_wp2
  rw [rounds_succ]
  go_wp2_with fail
  refine (c36.out _).mono ?_
  rintro e w6 ⟨rfl, hb⟩
  have H6 := Lib.hid (H5.out.step hb)
  clear hb H5
  obtain ⟨x0, x1, x2, hz, -⟩ := H6.out
  go_wp2_with fail
  refine (c37.out _).mono ?_
  rintro e w7 ⟨rfl, hb⟩
  have H7 := Lib.hid (H6.out.step hb)
  clear hb H6
  obtain ⟨x0, x1, x2, hz, -⟩ := H7.out
  go_wp2
  rw [rounds_succ]
  have G := Lib.hid (R2.new (t := 3) (x0 := 34) (x1 := 36) H7.out.2.2.2.2)
  clear x0 x1 x2 hz
  go_wp2
  refine wp_loop_rounds 3 ?_
  rw [rounds_succ]
  go_wp2_with fail
  refine (c34.out _).mono ?_
  rintro e w8 ⟨rfl, hb⟩
  have H8 := Lib.hid (G.out.step hb)
  clear hb H7
  obtain ⟨x0, x1, hz, -⟩ := H8.out
  go_wp2_with fail
  refine (d34.out _).mono ?_
  rintro e w9 ⟨rfl, hb⟩
  have H9 := Lib.hid (H8.out.step hb)
  clear hb H8
  obtain ⟨x0, x1, hz, -⟩ := H9.out
  go_wp2_with fail
  refine (c32.out _).mono ?_
  rintro e w10 ⟨rfl, hb⟩
  have H10 := Lib.hid (H9.out.step hb)
  clear hb H9
  obtain ⟨x0, x1, hz, -⟩ := H10.out
  go_wp2
  refine wp_loop_rounds 4 ?_
  rw [rounds_succ]
  go_wp2
  rw [rounds_succ]
  go_wp2
  rw [rounds_succ]
  go_wp2
  rw [rounds_succ]
  go_wp2
  rw [rounds_succ]
  go_wp2_with fail
  refine (c36.out _).mono ?_
  rintro e w11 ⟨rfl, hb⟩
  have H11 := Lib.hid ((R2.step H10.out ((Below.refl _ _).alloc (Nat.le_refl _) _)).step hb)
  clear hb H10
  obtain ⟨x0, x1, hz, -⟩ := H11.out
  go_wp2_with fail
  refine (d36.out _).mono ?_
  rintro e w12 ⟨rfl, hb⟩
  have H12 := Lib.hid (H11.out.step hb)
  clear hb H11
  obtain ⟨x0, x1, hz, -⟩ := H12.out
  go_wp2_with fail
  refine (c32.out _).mono ?_
  rintro e w13 ⟨rfl, hb⟩
  have H13 := Lib.hid (H12.out.step hb)
  clear hb H12
  obtain ⟨x0, x1, hz, -⟩ := H13.out
  go_wp2
  refine wp_loop_rounds 4 ?_
  rw [rounds_succ]
  go_wp2
  rw [rounds_succ]
  go_wp2
  rw [rounds_succ]
  go_wp2
  rw [rounds_succ]
  go_wp2
  rw [rounds_succ]
  go_wp2
  go_ret
  exact ⟨rfl, H13.out.2.2.2.alloc H13.out.2.2.2.size _⟩
theorem walk (a b : Int) (w : World) (w0 : (Lit.int .u64 a).wf = true) (w1 : (Lit.int .u64 b).wf = true) (hT : TabA w) :
    Calls Tryd.prog 5 #[.int .u64 a, .int .u64 b] w fun e w' => e = .returned (.bool true) ∧ Below w.heap.size w w' := by
  obtain ⟨a0, a1⟩ := isU_of_wf w0
  obtain ⟨b0, b1⟩ := isU_of_wf w1
  have HT := Lib.hid hT
  have k32 : ∀ c, (a == b) = c → Hid (Tk 32 a b c) := fun c h => Lib.hid (fun w => tak_as (beq_call a b w) h)
  have k33 : ∀ c, (!(a == b)) = c → Hid (Tk 33 a b c) := fun c h => Lib.hid (fun w => tak_as (bne_call a b w) h)
  have k34 : ∀ c, sltB a b = c → Hid (Tk 34 a b c) := fun c h => Lib.hid (fun w => tak_as (blt_call a b w) h)
  have k35 : ∀ c, (!sltB a b) = c → Hid (Tk 35 a b c) := fun c h => Lib.hid (fun w => tak_as (bge_call a b w) h)
  have k36 : ∀ c, sltuB a b = c → Hid (Tk 36 a b c) := fun c h => Lib.hid (fun w => tak_as (bltu_call a b w) h)
  have k37 : ∀ c, (!sltuB a b) = c → Hid (Tk 37 a b c) := fun c h => Lib.hid (fun w => tak_as (bgeu_call a b w) h)
  have l34 : ∀ c, sltB b a = c → Hid (Tk 34 b a c) := fun c h => Lib.hid (fun w => tak_as (blt_call b a w) h)
  have l36 : ∀ c, sltuB b a = c → Hid (Tk 36 b a c) := fun c h => Lib.hid (fun w => tak_as (bltu_call b a w) h)
  by_cases he : a = b
  · subst he
    have y1 : sltB a a = false := by unfold sltB; simp
    have y2 : sltuB a a = false := by unfold sltuB; simp
    exact walk_e a a w HT (k32 _ (by simp)) (k33 _ (by simp)) (k34 _ y1) (k35 _ (by rw [y1]; rfl)) (k36 _ y2) (k37 _ (by rw [y2]; rfl)) (l34 _ y1) (l36 _ y2)
  · have y0 : (a == b) = false := by rw [beq_eq_false_iff_ne]; exact he
    by_cases h1 : wrap64 a < wrap64 b <;> by_cases h2 : a < b
    · have y1 : sltB a b = true := by unfold sltB; simp; omega
      have y2 : sltuB a b = true := by unfold sltuB; simp; omega
      have y3 : sltB b a = false := by unfold sltB; simp; unfold wrap64 at *; omega
      have y4 : sltuB b a = false := by unfold sltuB; simp; omega
      exact walk_ll a b w HT (k32 _ y0) (k33 _ (by rw [y0]; rfl)) (k34 _ y1) (k35 _ (by rw [y1]; rfl)) (k36 _ y2) (k37 _ (by rw [y2]; rfl)) (l34 _ y3) (l36 _ y4)
    · have y1 : sltB a b = true := by unfold sltB; simp; omega
      have y2 : sltuB a b = false := by unfold sltuB; simp; omega
      have y3 : sltB b a = false := by unfold sltB; simp; unfold wrap64 at *; omega
      have y4 : sltuB b a = true := by unfold sltuB; simp; omega
      exact walk_lg a b w HT (k32 _ y0) (k33 _ (by rw [y0]; rfl)) (k34 _ y1) (k35 _ (by rw [y1]; rfl)) (k36 _ y2) (k37 _ (by rw [y2]; rfl)) (l34 _ y3) (l36 _ y4)
    · have y1 : sltB a b = false := by unfold sltB; simp; omega
      have y2 : sltuB a b = true := by unfold sltuB; simp; omega
      have y3 : sltB b a = true := by unfold sltB; simp; unfold wrap64 at *; omega
      have y4 : sltuB b a = false := by unfold sltuB; simp; omega
      exact walk_gl a b w HT (k32 _ y0) (k33 _ (by rw [y0]; rfl)) (k34 _ y1) (k35 _ (by rw [y1]; rfl)) (k36 _ y2) (k37 _ (by rw [y2]; rfl)) (l34 _ y3) (l36 _ y4)
    · have y1 : sltB a b = false := by unfold sltB; simp; omega
      have y2 : sltuB a b = false := by unfold sltuB; simp; omega
      have y3 : sltB b a = true := by unfold sltB; simp; unfold wrap64 at *; omega
      have y4 : sltuB b a = true := by unfold sltuB; simp; omega
      exact walk_gg a b w HT (k32 _ y0) (k33 _ (by rw [y0]; rfl)) (k34 _ y1) (k35 _ (by rw [y1]; rfl)) (k36 _ y2) (k37 _ (by rw [y2]; rfl)) (l34 _ y3) (l36 _ y4)
end Go.Proofs.YtndaphdfhlefoaaDoor.AluBranchesWalk
