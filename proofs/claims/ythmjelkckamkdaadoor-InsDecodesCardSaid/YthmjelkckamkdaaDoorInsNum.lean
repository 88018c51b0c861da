/- Layer 2, plain mathematics: which numbers an instruction of a shape may have. -/
import Derived.Test.YthmjelkckamkdaaDoorInsBack
namespace Go.Proofs.YthmjelkckamkdaaDoor
set_option linter.unusedVariables false
/-- the number again that was spread -/
def backN (s y : Nat) : Nat :=
  match s with
  | 1 => y % 4096
  | 2 => y % 64
  | 3 => y % 4096
  | 4 => y % 8192 / 2 * 2
  | 5 => y / 4096 % 1048576 * 4096
  | 6 => y % 2097152 / 2 * 2
  | _ => 0
theorem back3 {a b p : Nat} (ha : a < 32) (hb : b < 128) (hp : p = a * 128 + b * 33554432) : p / 128 % 32 = a ∧ p / 33554432 % 128 = b := by omega
theorem back_lit (s y : Nat) (hs : s < 8) : numberN s (spreadN s y) = backN s y := by
  obtain rfl | rfl | rfl | rfl | rfl | rfl | rfl | rfl : s = 0 ∨ s = 1 ∨ s = 2 ∨ s = 3 ∨ s = 4 ∨ s = 5 ∨ s = 6 ∨ s = 7 := by omega
  · rw [nN0]; simp [backN]
  · rw [nN1, sN1, ← fldN_at (w := fldN y 0 12 * 1048576) 20 12 (by decide) (fldN_lt2 y 0 12) (by have := fldN_lt2 y 0 12; omega)]
    have := fldN_lt2 y 0 12
    have e : fldN (fldN y 0 12 * 1048576) 20 12 = fldN y 0 12 := by
      generalize fldN y 0 12 = q at *
      show q * 1048576 / 1048576 % 4096 = q
      omega
    rw [e]
    simp [backN, fldN]
  · have := fldN_lt2 y 0 6
    rw [nN2, sN2]
    have e : fldN (fldN y 0 6 * 1048576) 20 6 = fldN y 0 6 := by
      generalize fldN y 0 6 = q at *
      show q * 1048576 / 1048576 % 64 = q
      omega
    rw [e]
    simp [backN, fldN]
  · obtain ⟨t0, t1⟩ := back3 (fldN_lt2 y 0 5) (fldN_lt2 y 5 7) (p := spreadN 3 y) (by simp [spreadN])
    have e1 : fldN (spreadN 3 y) 7 5 = fldN y 0 5 := t0
    have e2 : fldN (spreadN 3 y) 25 7 = fldN y 5 7 := t1
    have e : numberN 3 (spreadN 3 y) = fldN (spreadN 3 y) 7 5 + fldN (spreadN 3 y) 25 7 * 32 := by simp [numberN]
    rw [e, e1, e2]
    simp [backN, fldN]
    omega
  · obtain ⟨_, _, _, _, _, t5, t6, t7, t8⟩ := parts4 (F := 0) (K := 0) (r1 := 0) (r2 := 0) (by omega) (by omega) (by omega) (by omega) (fldN_lt2 y 1 4) (fldN_lt2 y 5 6) (fldN_lt2 y 11 1) (fldN_lt2 y 12 1) (w := spreadN 4 y) (by simp [spreadN])
    have e1 : fldN (spreadN 4 y) 8 4 = fldN y 1 4 := t5
    have e2 : fldN (spreadN 4 y) 25 6 = fldN y 5 6 := t6
    have e3 : fldN (spreadN 4 y) 7 1 = fldN y 11 1 := t7
    have e4 : fldN (spreadN 4 y) 31 1 = fldN y 12 1 := t8
    have e : numberN 4 (spreadN 4 y) = fldN (spreadN 4 y) 8 4 * 2 + fldN (spreadN 4 y) 25 6 * 32 + fldN (spreadN 4 y) 7 1 * 2048 + fldN (spreadN 4 y) 31 1 * 4096 := by simp [numberN]
    rw [e, e1, e2, e3, e4]
    simp [backN, fldN]
    omega
  · have := fldN_lt2 y 12 20
    rw [nN5, sN5]
    have e : fldN (fldN y 12 20 * 4096) 12 20 = fldN y 12 20 := by
      generalize fldN y 12 20 = q at *
      show q * 4096 / 4096 % 1048576 = q
      omega
    rw [e]
    simp [backN, fldN]
  · obtain ⟨_, _, _, t3, t4, t5, t6⟩ := parts6 (F := 0) (rd := 0) (by omega) (by omega) (fldN_lt2 y 1 10) (fldN_lt2 y 11 1) (fldN_lt2 y 12 8) (fldN_lt2 y 20 1) (w := spreadN 6 y) (by simp [spreadN])
    have e1 : fldN (spreadN 6 y) 21 10 = fldN y 1 10 := t3
    have e2 : fldN (spreadN 6 y) 20 1 = fldN y 11 1 := t4
    have e3 : fldN (spreadN 6 y) 12 8 = fldN y 12 8 := t5
    have e4 : fldN (spreadN 6 y) 31 1 = fldN y 20 1 := t6
    have e : numberN 6 (spreadN 6 y) = fldN (spreadN 6 y) 21 10 * 2 + fldN (spreadN 6 y) 20 1 * 2048 + fldN (spreadN 6 y) 12 8 * 4096 + fldN (spreadN 6 y) 31 1 * 1048576 := by simp [numberN]
    rw [e, e1, e2, e3, e4]
    simp [backN, fldN]
    omega
  · rw [nN7]; simp [backN]
/-- which numbers -/
def NumOk (s : Nat) (x : Int) : Prop :=
  match s with
  | 1 => -2048 ≤ x ∧ x ≤ 2047
  | 2 => 0 ≤ x ∧ x ≤ 63
  | 3 => -2048 ≤ x ∧ x ≤ 2047
  | 4 => -4096 ≤ x ∧ x ≤ 4094 ∧ x % 2 = 0
  | 5 => -2147483648 ≤ x ∧ x ≤ 2147483647 ∧ x % 4096 = 0
  | 6 => -1048576 ≤ x ∧ x ≤ 1048574 ∧ x % 2 = 0
  | _ => x = 0
theorem number_back (x : Int) {s : Nat} (hs : s < 8) : numberI (spreadI x s) s = if lSg s = 0 then RowKit.wrap64 (backN s (wordN x) : Nat) else sgn (backN s (wordN x) : Nat) (lSg s) := by
  unfold numberI
  rw [spreadI_lit x hs, numberK_nat, number_lit s _ hs, back_lit s _ hs]
theorem sgn_nat (m n : Nat) : sgn (m : Int) (n : Int) = if 2 * (m % 2 ^ n) < 2 ^ n then ((m % 2 ^ n : Nat) : Int) else ((m % 2 ^ n : Nat) : Int) - ((2 ^ n : Nat) : Int) := rfl
theorem num_ok (x : Int) (hx : IsI x) {s : Nat} (hs : s < 8) : numberI (spreadI x s) s = x ↔ NumOk s x := by
  obtain ⟨x0, x1⟩ := hx
  have hw := wordN_eq x
  obtain rfl | rfl | rfl | rfl | rfl | rfl | rfl | rfl : s = 0 ∨ s = 1 ∨ s = 2 ∨ s = 3 ∨ s = 4 ∨ s = 5 ∨ s = 6 ∨ s = 7 := by omega
  · rw [number_back x (by omega), if_pos (show lSg 0 = 0 by decide)]
    have e : backN 0 (wordN x) = 0 := by simp [backN]
    have g : NumOk 0 x = (x = 0) := rfl
    rw [e, g]
    unfold RowKit.wrap64
    generalize wordN x = y at *
    omega
  · rw [number_back x (by omega), if_neg (show ¬ lSg 1 = 0 by decide), sgn_nat]
    have e : backN 1 (wordN x) = wordN x % 4096 := by simp [backN]
    have g : NumOk 1 x = (-2048 ≤ x ∧ x ≤ 2047) := rfl
    rw [e, g, show lSg 1 = 12 from rfl]
    generalize wordN x = y at *
    have p : (2 : Nat) ^ 12 = 4096 := by decide
    rw [p]
    split <;> omega
  · rw [number_back x (by omega), if_pos (show lSg 2 = 0 by decide)]
    have e : backN 2 (wordN x) = wordN x % 64 := by simp [backN]
    have g : NumOk 2 x = (0 ≤ x ∧ x ≤ 63) := rfl
    rw [e, g]
    unfold RowKit.wrap64
    generalize wordN x = y at *
    omega
  · rw [number_back x (by omega), if_neg (show ¬ lSg 3 = 0 by decide), sgn_nat]
    have e : backN 3 (wordN x) = wordN x % 4096 := by simp [backN]
    have g : NumOk 3 x = (-2048 ≤ x ∧ x ≤ 2047) := rfl
    rw [e, g, show lSg 3 = 12 from rfl]
    generalize wordN x = y at *
    have p : (2 : Nat) ^ 12 = 4096 := by decide
    rw [p]
    split <;> omega
  · rw [number_back x (by omega), if_neg (show ¬ lSg 4 = 0 by decide), sgn_nat]
    have e : backN 4 (wordN x) = wordN x % 8192 / 2 * 2 := by simp [backN]
    have g : NumOk 4 x = (-4096 ≤ x ∧ x ≤ 4094 ∧ x % 2 = 0) := rfl
    rw [e, g, show lSg 4 = 13 from rfl]
    generalize wordN x = y at *
    have p : (2 : Nat) ^ 13 = 8192 := by decide
    rw [p]
    split <;> omega
  · rw [number_back x (by omega), if_neg (show ¬ lSg 5 = 0 by decide), sgn_nat]
    have e : backN 5 (wordN x) = wordN x / 4096 % 1048576 * 4096 := by simp [backN]
    have g : NumOk 5 x = (-2147483648 ≤ x ∧ x ≤ 2147483647 ∧ x % 4096 = 0) := rfl
    rw [e, g, show lSg 5 = 32 from rfl]
    generalize wordN x = y at *
    have p : (2 : Nat) ^ 32 = 4294967296 := by decide
    rw [p]
    split <;> omega
  · rw [number_back x (by omega), if_neg (show ¬ lSg 6 = 0 by decide), sgn_nat]
    have e : backN 6 (wordN x) = wordN x % 2097152 / 2 * 2 := by simp [backN]
    have g : NumOk 6 x = (-1048576 ≤ x ∧ x ≤ 1048574 ∧ x % 2 = 0) := rfl
    rw [e, g, show lSg 6 = 21 from rfl]
    generalize wordN x = y at *
    have p : (2 : Nat) ^ 21 = 2097152 := by decide
    rw [p]
    split <;> omega
  · rw [number_back x (by omega), if_pos (show lSg 7 = 0 by decide)]
    have e : backN 7 (wordN x) = 0 := by simp [backN]
    have g : NumOk 7 x = (x = 0) := rfl
    rw [e, g]
    unfold RowKit.wrap64
    generalize wordN x = y at *
    omega
end Go.Proofs.YthmjelkckamkdaaDoor
