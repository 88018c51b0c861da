/- Layer 2: what the reference's calls Form, Shift and May answer. Conditions: said at each. -/
import Derived.Test.YthmjelkckamkdaaDoorInsNum
namespace Go.Proofs.YthmjelkckamkdaaDoor
open Go.RowKit
set_option linter.unusedVariables false
theorem letter_at {n : Nat} (hn : n < 43) : (n ≤ 15 → opS n = 0) ∧ (16 ≤ n → n ≤ 28 → (opS n = 1 ∧ (n < 22 ∨ 24 < n)) ∨ (opS n = 2 ∧ 22 ≤ n ∧ n ≤ 24)) ∧ (29 ≤ n → n ≤ 31 → opS n = 3) ∧ (32 ≤ n → n ≤ 37 → opS n = 4) ∧ (38 ≤ n → n ≤ 39 → opS n = 5) ∧ (n = 40 → opS n = 6) ∧ (n = 41 → opS n = 1) ∧ (n = 42 → opS n = 7) :=
  all43 (p := fun n => (n ≤ 15 → opS n = 0) ∧ (16 ≤ n → n ≤ 28 → (opS n = 1 ∧ (n < 22 ∨ 24 < n)) ∨ (opS n = 2 ∧ 22 ≤ n ∧ n ≤ 24)) ∧ (29 ≤ n → n ≤ 31 → opS n = 3) ∧ (32 ≤ n → n ≤ 37 → opS n = 4) ∧ (38 ≤ n → n ≤ 39 → opS n = 5) ∧ (n = 40 → opS n = 6) ∧ (n = 41 → opS n = 1) ∧ (n = 42 → opS n = 7)) (by decide +kernel) hn
theorem rform_out (n : Int) (w : World) (h : n < 0 ∨ 43 ≤ n) :
    Calls Tryd.prog 23 #[.int .i64 n] w fun e w' => e = .returned (.string ⟨#[]⟩) ∧ w = w' := by
  rcases h with h | h
  · go_enter Tryd.func23, Tryd.ntmps23
    go_wp2
    go_ret
    exact ⟨rfl, rfl⟩
  · have h1 : ¬ n < 0 := by omega
    have h2 : n > 42 := by omega
    go_enter Tryd.func23, Tryd.ntmps23
    go_wp2
    go_ret
    exact ⟨rfl, rfl⟩
theorem str_eq {a b : ByteArray} (h : a = b) : Ending.returned (.string a) = Ending.returned (.string b) := by rw [h]
set_option maxHeartbeats 1000000 in
theorem rform_in (n : Nat) (w : World) (hn : n < 43) :
    Calls Tryd.prog 23 #[.int .i64 n] w fun e w' => e = .returned (.string (letS (opS n))) ∧ w = w' := by
  have H := Lib.hid (letter_at hn)
  have g1 : ¬ (n : Int) < 0 := by omega
  have g2 : ¬ (n : Int) > 42 := by omega
  have hc : n ≤ 15 ∨ (16 ≤ n ∧ n ≤ 28) ∨ (29 ≤ n ∧ n ≤ 31) ∨ (32 ≤ n ∧ n ≤ 37) ∨ (38 ≤ n ∧ n ≤ 39) ∨ n = 40 ∨ n = 41 ∨ n = 42 := by omega
  rcases hc with h | h | h | h | h | h | h | h
  · have k1 : (n : Int) ≤ 15 := by omega
    go_enter Tryd.func23, Tryd.ntmps23
    go_wp2
    go_ret
    exact ⟨str_eq (by rw [H.out.1 h]; rfl), rfl⟩
  · obtain ⟨h, h'⟩ := h
    have k1 : ¬ (n : Int) ≤ 15 := by omega
    have k2 : (n : Int) ≤ 28 := by omega
    go_enter Tryd.func23, Tryd.ntmps23
    go_wp2
    go_ret
    refine ⟨str_eq ?_, rfl⟩
    rcases H.out.2.1 h h' with ⟨e, _⟩ | ⟨e, _⟩
    · rw [e]; rfl
    · rw [e]; rfl
  · obtain ⟨h, h'⟩ := h
    have k1 : ¬ (n : Int) ≤ 15 := by omega
    have k2 : ¬ (n : Int) ≤ 28 := by omega
    have k3 : ((n : Int) == 41) = false := by rw [beq_eq_false_iff_ne]; omega
    have k4 : (n : Int) ≤ 31 := by omega
    go_enter Tryd.func23, Tryd.ntmps23
    go_wp2
    go_ret
    exact ⟨str_eq (by rw [H.out.2.2.1 h h']; rfl), rfl⟩
  · obtain ⟨h, h'⟩ := h
    have k1 : ¬ (n : Int) ≤ 15 := by omega
    have k2 : ¬ (n : Int) ≤ 28 := by omega
    have k3 : ((n : Int) == 41) = false := by rw [beq_eq_false_iff_ne]; omega
    have k4 : ¬ (n : Int) ≤ 31 := by omega
    have k5 : (n : Int) ≤ 37 := by omega
    go_enter Tryd.func23, Tryd.ntmps23
    go_wp2
    go_ret
    exact ⟨str_eq (by rw [H.out.2.2.2.1 h h']; rfl), rfl⟩
  · obtain ⟨h, h'⟩ := h
    have k1 : ¬ (n : Int) ≤ 15 := by omega
    have k2 : ¬ (n : Int) ≤ 28 := by omega
    have k3 : ((n : Int) == 41) = false := by rw [beq_eq_false_iff_ne]; omega
    have k4 : ¬ (n : Int) ≤ 31 := by omega
    have k5 : ¬ (n : Int) ≤ 37 := by omega
    have k6 : (n : Int) ≤ 39 := by omega
    go_enter Tryd.func23, Tryd.ntmps23
    go_wp2
    go_ret
    exact ⟨str_eq (by rw [H.out.2.2.2.2.1 h h']; rfl), rfl⟩
  · subst h
    go_enter Tryd.func23, Tryd.ntmps23
    go_wp2
    go_ret
    exact ⟨rfl, rfl⟩
  · subst h
    go_enter Tryd.func23, Tryd.ntmps23
    go_wp2
    go_ret
    exact ⟨rfl, rfl⟩
  · subst h
    go_enter Tryd.func23, Tryd.ntmps23
    go_wp2
    go_ret
    exact ⟨rfl, rfl⟩
/-- shifts by a number are those of shape 2 -/
def shiftB (n : Nat) : Bool := opS n == 2
theorem shiftB_iff {n : Nat} (hn : n < 43) : shiftB n = true ↔ 22 ≤ n ∧ n ≤ 24 :=
  all43 (p := fun n => shiftB n = true ↔ 22 ≤ n ∧ n ≤ 24) (by decide +kernel) hn
theorem rshift (n : Nat) (w : World) (hn : n < 43) :
    Calls Tryd.prog 26 #[.int .i64 n] w fun e w' => e = .returned (.bool (shiftB n)) ∧ w = w' := by
  have H := Lib.hid (shiftB_iff hn)
  have H2 (b : Bool) (h : (22 ≤ n ∧ n ≤ 24) ↔ b = true) : b = shiftB n := by
    have := H.out.trans h
    cases b <;> cases e : shiftB n <;> simp_all
  have HH := Lib.hid H2
  clear H2
  by_cases h : (22 : Int) ≤ n
  · by_cases h2 : (n : Int) ≤ 24
    · go_enter Tryd.func26, Tryd.ntmps26
      go_wp2
      go_ret
      exact ⟨ret_bool (HH.out _ (by simp; omega)), rfl⟩
    · go_enter Tryd.func26, Tryd.ntmps26
      go_wp2
      go_ret
      exact ⟨ret_bool (HH.out _ (by simp; omega)), rfl⟩
  · go_enter Tryd.func26, Tryd.ntmps26
    go_wp2
    go_ret
    exact ⟨ret_bool (HH.out _ (by simp; omega)), rfl⟩
end Go.Proofs.YthmjelkckamkdaaDoor
