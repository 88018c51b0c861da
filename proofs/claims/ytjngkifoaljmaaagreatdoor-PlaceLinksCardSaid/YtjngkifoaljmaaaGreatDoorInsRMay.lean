/- Layer 2: what the reference's May answers: the same as the program's. Conditions: registers fit an int. -/
import Derived.Test.YtjngkifoaljmaaaGreatDoorInsC
namespace Go.Proofs.YtjngkifoaljmaaaGreatDoor
set_option maxRecDepth 100000
open Go.RowKit
set_option linter.unusedVariables false
theorem rform_let (n : Nat) (w : World) (h1 : n < 43) (L : UInt8) (hL : letS (opS n) = ⟨#[L]⟩) :
    Calls Tryz.prog 31 #[.int .i64 n] w fun e w' => e = .returned (.string ⟨#[L]⟩) ∧ w = w' := by
  rw [← hL]; exact rform_in n w h1
theorem rmay_out (op rd r1 r2 imm : Int) (w : World) (h : op < 0 ∨ 43 ≤ op) :
    Calls Tryz.prog 30 #[.agg (insA op rd r1 r2 imm)] w fun e w' => e = .returned (.bool false) ∧ Below w.heap.size w w' := by
  unfold insA
  have H := Lib.hid h
  clear h
  go_enter Tryz.func30, Tryz.ntmps30
  go_wp2_with fail
  refine (rform_out _ _ H.out).mono ?_
  rintro e w1 ⟨rfl, rfl⟩
  go_wp2
  go_ret
  exact ⟨rfl, (Below.refl _ _).alloc (Nat.le_refl _) _⟩
/-- a register that is none -/
theorem may_reg {n : Nat} {rd r1 r2 imm : Int} (h : ¬ (0 ≤ rd ∧ rd ≤ 31 ∧ 0 ≤ r1 ∧ r1 ≤ 31 ∧ 0 ≤ r2 ∧ r2 ≤ 31)) : false = mayB n rd r1 r2 imm := by
  cases e : mayB n rd r1 r2 imm with
  | false => rfl
  | true =>
    obtain ⟨a, b, c, _⟩ := may_parts e
    obtain ⟨a0, a1, _⟩ := fitB_true a
    obtain ⟨b0, b1, _⟩ := fitB_true b
    obtain ⟨c0, c1, _⟩ := fitB_true c
    exact absurd ⟨a0, by omega, b0, by omega, c0, by omega⟩ h
theorem letN (s : Nat) : (letS s).toList.isEmpty = false ∨ 8 ≤ s := by
  rcases Nat.lt_or_ge s 8 with h | h
  · exact .inl (all8 (p := fun s => (letS s).toList.isEmpty = false) (by decide +kernel) h)
  · exact .inr h
set_option maxRecDepth 100000 in
set_option maxHeartbeats 2000000 in
theorem rmay_reg (n : Nat) (rd r1 r2 imm : Int) (w : World) (hn : n < 43) (h : ¬ (0 ≤ rd ∧ rd ≤ 31 ∧ 0 ≤ r1 ∧ r1 ≤ 31 ∧ 0 ≤ r2 ∧ r2 ≤ 31)) :
    Calls Tryz.prog 30 #[.agg (insA n rd r1 r2 imm)] w fun e w' => e = .returned (.bool (mayB n rd r1 r2 imm)) ∧ Below w.heap.size w w' := by
  have HM := Lib.hid (may_reg (n := n) (imm := imm) h)
  unfold insA
  have hl : (letS (opS n)).toList.isEmpty = false := by
    rcases letN (opS n) with h | h
    · exact h
    · have := opS_lt hn; omega
  have hc : rd < 0 ∨ (0 ≤ rd ∧ rd > 31) ∨ (0 ≤ rd ∧ rd ≤ 31 ∧ r1 < 0) ∨ (0 ≤ rd ∧ rd ≤ 31 ∧ 0 ≤ r1 ∧ r1 > 31) ∨ (0 ≤ rd ∧ rd ≤ 31 ∧ 0 ≤ r1 ∧ r1 ≤ 31 ∧ r2 < 0) ∨ (0 ≤ rd ∧ rd ≤ 31 ∧ 0 ≤ r1 ∧ r1 ≤ 31 ∧ 0 ≤ r2 ∧ r2 > 31) := by omega
  clear h
  rcases hc with h | ⟨h0, h⟩ | ⟨h0, h1, h⟩ | ⟨h0, h1, h2, h⟩ | ⟨h0, h1, h2, h3, h⟩ | ⟨h0, h1, h2, h3, h4, h⟩
  all_goals
    go_enter Tryz.func30, Tryz.ntmps30
    go_wp2_with fail
    refine (rform_in _ _ hn).mono ?_
    rintro e w1 ⟨rfl, rfl⟩
    go_wp2
    go_ret
    exact ⟨ret_bool HM.out, (Below.refl _ _).alloc (Nat.le_refl _) _⟩
/-- registers that are some: what else an instruction must be -/
theorem may_char {n : Nat} {rd r1 r2 imm : Int} (s : Nat) (hs : opS n = s) (h8 : s < 8) (hi : IsI imm) (h0 : 0 ≤ rd) (h1 : rd ≤ 31) (h2 : 0 ≤ r1) (h3 : r1 ≤ 31) (h4 : 0 ≤ r2) (h5 : r2 ≤ 31) :
    mayB n rd r1 r2 imm = true ↔ (lRd s = true ∨ rd = 0) ∧ (lR1 s = true ∨ r1 = 0) ∧ (lR2 s = true ∨ r2 = 0) ∧ NumOk s imm := by
  subst hs
  have hk := num_ok imm hi h8
  have hfit (r : Int) (b : Bool) (g0 : 0 ≤ r) (g1 : r ≤ 31) : fitB r b = true ↔ (b = true ∨ r = 0) := by
    unfold fitB regB
    cases b with
    | true => simp; omega
    | false => simp
  unfold mayB
  simp only [Bool.and_eq_true, beq_iff_eq, hfit _ _ h0 h1, hfit _ _ h2 h3, hfit _ _ h4 h5, hk, and_assoc]
theorem bool_eq {a b : Bool} {P : Prop} (hb : b = true ↔ P) (ha : a = true ↔ P) : a = b := by
  cases a <;> cases b <;> simp_all
theorem rshift_at (n : Nat) (w : World) (hn : n < 43) (b : Bool) (hb : shiftB n = b) :
    Calls Tryz.prog 36 #[.int .i64 n] w fun e w' => e = .returned (.bool b) ∧ w = w' := by
  subst hb; exact rshift n w hn
end Go.Proofs.YtjngkifoaljmaaaGreatDoor
