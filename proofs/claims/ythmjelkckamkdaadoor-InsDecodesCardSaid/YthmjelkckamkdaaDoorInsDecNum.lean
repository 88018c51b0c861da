/- Layer 2, plain mathematics: the number read of a word is one that may stand, and spread again it is the word's part. -/
import Derived.Test.YthmjelkckamkdaaDoorInsNum
namespace Go.Proofs.YthmjelkckamkdaaDoor
set_option linter.unusedVariables false
theorem num_at (v : Nat) {s : Nat} (hs : s < 8) : numberI (v : Int) s = if lSg s = 0 then RowKit.wrap64 (numberN s v : Nat) else sgn (numberN s v : Nat) (lSg s) := by
  unfold numberI
  rw [numberK_nat, number_lit s v hs]
theorem dec_num1 (v : Nat) : NumOk 1 (numberI (v : Int) 1) ∧ spreadN 1 (wordN (numberI (v : Int) 1)) = fldN v 20 12 * 1048576 := by
  rw [num_at v (by decide), show numberN 1 v = fldN v 20 12 by simp [numberN]]
  have ha := fldN_lt2 v 20 12
  rw [show (2 : Nat) ^ 12 = 4096 from rfl] at ha
  generalize fldN v 20 12 = a at ha ⊢
  have key (x : Int) (y : Nat) (hy : x % 18446744073709551616 = (y : Int)) (hx : x = ((a : Nat) : Int) ∨ x = ((a : Nat) : Int) - 4096) (hr : -2048 ≤ x ∧ x ≤ 2047) : spreadN 1 y = a * 1048576 := by
    have e : spreadN 1 y = y / 1 % 4096 * 1048576 := by simp [spreadN, fldN]
    have e0 : y % 4096 = a := by omega
    clear hy hx hr
    have e1 : y = a + 4096 * (y / 4096) := by omega
    generalize y / 4096 = q at e1
    clear e0
    have ka : y / 1 % 4096 = a := by
      have : y / 1 = a + q * 4096 := by omega
      omega
    rw [e, ka]
  have hx : ∀ x : Int, x = sgn ((a : Nat) : Int) ((12 : Nat) : Int) → (x = ((a : Nat) : Int) ∨ x = ((a : Nat) : Int) - 4096) ∧ (-2048 ≤ x ∧ x ≤ 2047) := by
    intro x e
    rw [sgn_nat, show (2 : Nat) ^ 12 = 4096 from rfl] at e
    split at e <;> (constructor <;> omega)
  show NumOk 1 (sgn ((a : Nat) : Int) ((12 : Nat) : Int)) ∧ spreadN 1 (wordN (sgn ((a : Nat) : Int) ((12 : Nat) : Int))) = _
  obtain ⟨h1, h2⟩ := hx _ rfl
  exact ⟨h2, key _ _ (wordN_eq _) h1 h2⟩
theorem dec_num3 (v : Nat) : NumOk 3 (numberI (v : Int) 3) ∧ spreadN 3 (wordN (numberI (v : Int) 3)) = fldN v 7 5 * 128 + fldN v 25 7 * 33554432 := by
  rw [num_at v (by decide), show numberN 3 v = fldN v 7 5 + fldN v 25 7 * 32 by simp [numberN]]
  have ha := fldN_lt2 v 7 5
  rw [show (2 : Nat) ^ 5 = 32 from rfl] at ha
  generalize fldN v 7 5 = a at ha ⊢
  have hb := fldN_lt2 v 25 7
  rw [show (2 : Nat) ^ 7 = 128 from rfl] at hb
  generalize fldN v 25 7 = b at hb ⊢
  have key (x : Int) (y : Nat) (hy : x % 18446744073709551616 = (y : Int)) (hx : x = ((a + b * 32 : Nat) : Int) ∨ x = ((a + b * 32 : Nat) : Int) - 4096) (hr : -2048 ≤ x ∧ x ≤ 2047) : spreadN 3 y = a * 128 + b * 33554432 := by
    have e : spreadN 3 y = y / 1 % 32 * 128 + y / 32 % 128 * 33554432 := by simp [spreadN, fldN]
    have e0 : y % 4096 = a + b * 32 := by omega
    clear hy hx hr
    have e1 : y = a + b * 32 + 4096 * (y / 4096) := by omega
    generalize y / 4096 = q at e1
    clear e0
    have ka : y / 1 % 32 = a := by
      have : y / 1 = a + b * 32 + q * 4096 := by omega
      omega
    have kb : y / 32 % 128 = b := by
      have : y / 32 = b + q * 128 := by omega
      omega
    rw [e, ka, kb]
  have hx : ∀ x : Int, x = sgn ((a + b * 32 : Nat) : Int) ((12 : Nat) : Int) → (x = ((a + b * 32 : Nat) : Int) ∨ x = ((a + b * 32 : Nat) : Int) - 4096) ∧ (-2048 ≤ x ∧ x ≤ 2047) := by
    intro x e
    rw [sgn_nat, show (2 : Nat) ^ 12 = 4096 from rfl] at e
    split at e <;> (constructor <;> omega)
  show NumOk 3 (sgn ((a + b * 32 : Nat) : Int) ((12 : Nat) : Int)) ∧ spreadN 3 (wordN (sgn ((a + b * 32 : Nat) : Int) ((12 : Nat) : Int))) = _
  obtain ⟨h1, h2⟩ := hx _ rfl
  exact ⟨h2, key _ _ (wordN_eq _) h1 h2⟩
theorem dec_num4 (v : Nat) : NumOk 4 (numberI (v : Int) 4) ∧ spreadN 4 (wordN (numberI (v : Int) 4)) = fldN v 8 4 * 256 + fldN v 25 6 * 33554432 + fldN v 7 1 * 128 + fldN v 31 1 * 2147483648 := by
  rw [num_at v (by decide), show numberN 4 v = fldN v 8 4 * 2 + fldN v 25 6 * 32 + fldN v 7 1 * 2048 + fldN v 31 1 * 4096 by simp [numberN]]
  have ha := fldN_lt2 v 8 4
  rw [show (2 : Nat) ^ 4 = 16 from rfl] at ha
  generalize fldN v 8 4 = a at ha ⊢
  have hb := fldN_lt2 v 25 6
  rw [show (2 : Nat) ^ 6 = 64 from rfl] at hb
  generalize fldN v 25 6 = b at hb ⊢
  have hc := fldN_lt2 v 7 1
  rw [show (2 : Nat) ^ 1 = 2 from rfl] at hc
  generalize fldN v 7 1 = c at hc ⊢
  have hd := fldN_lt2 v 31 1
  rw [show (2 : Nat) ^ 1 = 2 from rfl] at hd
  generalize fldN v 31 1 = d at hd ⊢
  have key (x : Int) (y : Nat) (hy : x % 18446744073709551616 = (y : Int)) (hx : x = ((a * 2 + b * 32 + c * 2048 + d * 4096 : Nat) : Int) ∨ x = ((a * 2 + b * 32 + c * 2048 + d * 4096 : Nat) : Int) - 8192) (hr : -4096 ≤ x ∧ x ≤ 4094 ∧ x % 2 = 0) : spreadN 4 y = a * 256 + b * 33554432 + c * 128 + d * 2147483648 := by
    have e : spreadN 4 y = y / 2 % 16 * 256 + y / 32 % 64 * 33554432 + y / 2048 % 2 * 128 + y / 4096 % 2 * 2147483648 := by simp [spreadN, fldN]
    have e0 : y % 8192 = a * 2 + b * 32 + c * 2048 + d * 4096 := by omega
    clear hy hx hr
    have e1 : y = a * 2 + b * 32 + c * 2048 + d * 4096 + 8192 * (y / 8192) := by omega
    generalize y / 8192 = q at e1
    clear e0
    have ka : y / 2 % 16 = a := by
      have : y / 2 = a + b * 16 + c * 1024 + d * 2048 + q * 4096 := by omega
      omega
    have kb : y / 32 % 64 = b := by
      have : y / 32 = b + c * 64 + d * 128 + q * 256 := by omega
      omega
    have kc : y / 2048 % 2 = c := by
      have : y / 2048 = c + d * 2 + q * 4 := by omega
      omega
    have kd : y / 4096 % 2 = d := by
      have : y / 4096 = d + q * 2 := by omega
      omega
    rw [e, ka, kb, kc, kd]
  have hx : ∀ x : Int, x = sgn ((a * 2 + b * 32 + c * 2048 + d * 4096 : Nat) : Int) ((13 : Nat) : Int) → (x = ((a * 2 + b * 32 + c * 2048 + d * 4096 : Nat) : Int) ∨ x = ((a * 2 + b * 32 + c * 2048 + d * 4096 : Nat) : Int) - 8192) ∧ (-4096 ≤ x ∧ x ≤ 4094 ∧ x % 2 = 0) := by
    intro x e
    rw [sgn_nat, show (2 : Nat) ^ 13 = 8192 from rfl] at e
    split at e <;> (constructor <;> omega)
  show NumOk 4 (sgn ((a * 2 + b * 32 + c * 2048 + d * 4096 : Nat) : Int) ((13 : Nat) : Int)) ∧ spreadN 4 (wordN (sgn ((a * 2 + b * 32 + c * 2048 + d * 4096 : Nat) : Int) ((13 : Nat) : Int))) = _
  obtain ⟨h1, h2⟩ := hx _ rfl
  exact ⟨h2, key _ _ (wordN_eq _) h1 h2⟩
theorem dec_num5 (v : Nat) : NumOk 5 (numberI (v : Int) 5) ∧ spreadN 5 (wordN (numberI (v : Int) 5)) = fldN v 12 20 * 4096 := by
  rw [num_at v (by decide), show numberN 5 v = fldN v 12 20 * 4096 by simp [numberN]]
  have ha := fldN_lt2 v 12 20
  rw [show (2 : Nat) ^ 20 = 1048576 from rfl] at ha
  generalize fldN v 12 20 = a at ha ⊢
  have key (x : Int) (y : Nat) (hy : x % 18446744073709551616 = (y : Int)) (hx : x = ((a * 4096 : Nat) : Int) ∨ x = ((a * 4096 : Nat) : Int) - 4294967296) (hr : -2147483648 ≤ x ∧ x ≤ 2147483647 ∧ x % 4096 = 0) : spreadN 5 y = a * 4096 := by
    have e : spreadN 5 y = y / 4096 % 1048576 * 4096 := by simp [spreadN, fldN]
    have e0 : y % 4294967296 = a * 4096 := by omega
    clear hy hx hr
    have e1 : y = a * 4096 + 4294967296 * (y / 4294967296) := by omega
    generalize y / 4294967296 = q at e1
    clear e0
    have ka : y / 4096 % 1048576 = a := by
      have : y / 4096 = a + q * 1048576 := by omega
      omega
    rw [e, ka]
  have hx : ∀ x : Int, x = sgn ((a * 4096 : Nat) : Int) ((32 : Nat) : Int) → (x = ((a * 4096 : Nat) : Int) ∨ x = ((a * 4096 : Nat) : Int) - 4294967296) ∧ (-2147483648 ≤ x ∧ x ≤ 2147483647 ∧ x % 4096 = 0) := by
    intro x e
    rw [sgn_nat, show (2 : Nat) ^ 32 = 4294967296 from rfl] at e
    split at e <;> (constructor <;> omega)
  show NumOk 5 (sgn ((a * 4096 : Nat) : Int) ((32 : Nat) : Int)) ∧ spreadN 5 (wordN (sgn ((a * 4096 : Nat) : Int) ((32 : Nat) : Int))) = _
  obtain ⟨h1, h2⟩ := hx _ rfl
  exact ⟨h2, key _ _ (wordN_eq _) h1 h2⟩
theorem dec_num6 (v : Nat) : NumOk 6 (numberI (v : Int) 6) ∧ spreadN 6 (wordN (numberI (v : Int) 6)) = fldN v 21 10 * 2097152 + fldN v 20 1 * 1048576 + fldN v 12 8 * 4096 + fldN v 31 1 * 2147483648 := by
  rw [num_at v (by decide), show numberN 6 v = fldN v 21 10 * 2 + fldN v 20 1 * 2048 + fldN v 12 8 * 4096 + fldN v 31 1 * 1048576 by simp [numberN]]
  have ha := fldN_lt2 v 21 10
  rw [show (2 : Nat) ^ 10 = 1024 from rfl] at ha
  generalize fldN v 21 10 = a at ha ⊢
  have hb := fldN_lt2 v 20 1
  rw [show (2 : Nat) ^ 1 = 2 from rfl] at hb
  generalize fldN v 20 1 = b at hb ⊢
  have hc := fldN_lt2 v 12 8
  rw [show (2 : Nat) ^ 8 = 256 from rfl] at hc
  generalize fldN v 12 8 = c at hc ⊢
  have hd := fldN_lt2 v 31 1
  rw [show (2 : Nat) ^ 1 = 2 from rfl] at hd
  generalize fldN v 31 1 = d at hd ⊢
  have key (x : Int) (y : Nat) (hy : x % 18446744073709551616 = (y : Int)) (hx : x = ((a * 2 + b * 2048 + c * 4096 + d * 1048576 : Nat) : Int) ∨ x = ((a * 2 + b * 2048 + c * 4096 + d * 1048576 : Nat) : Int) - 2097152) (hr : -1048576 ≤ x ∧ x ≤ 1048574 ∧ x % 2 = 0) : spreadN 6 y = a * 2097152 + b * 1048576 + c * 4096 + d * 2147483648 := by
    have e : spreadN 6 y = y / 2 % 1024 * 2097152 + y / 2048 % 2 * 1048576 + y / 4096 % 256 * 4096 + y / 1048576 % 2 * 2147483648 := by simp [spreadN, fldN]
    have e0 : y % 2097152 = a * 2 + b * 2048 + c * 4096 + d * 1048576 := by omega
    clear hy hx hr
    have e1 : y = a * 2 + b * 2048 + c * 4096 + d * 1048576 + 2097152 * (y / 2097152) := by omega
    generalize y / 2097152 = q at e1
    clear e0
    have ka : y / 2 % 1024 = a := by
      have : y / 2 = a + b * 1024 + c * 2048 + d * 524288 + q * 1048576 := by omega
      omega
    have kb : y / 2048 % 2 = b := by
      have : y / 2048 = b + c * 2 + d * 512 + q * 1024 := by omega
      omega
    have kc : y / 4096 % 256 = c := by
      have : y / 4096 = c + d * 256 + q * 512 := by omega
      omega
    have kd : y / 1048576 % 2 = d := by
      have : y / 1048576 = d + q * 2 := by omega
      omega
    rw [e, ka, kb, kc, kd]
  have hx : ∀ x : Int, x = sgn ((a * 2 + b * 2048 + c * 4096 + d * 1048576 : Nat) : Int) ((21 : Nat) : Int) → (x = ((a * 2 + b * 2048 + c * 4096 + d * 1048576 : Nat) : Int) ∨ x = ((a * 2 + b * 2048 + c * 4096 + d * 1048576 : Nat) : Int) - 2097152) ∧ (-1048576 ≤ x ∧ x ≤ 1048574 ∧ x % 2 = 0) := by
    intro x e
    rw [sgn_nat, show (2 : Nat) ^ 21 = 2097152 from rfl] at e
    split at e <;> (constructor <;> omega)
  show NumOk 6 (sgn ((a * 2 + b * 2048 + c * 4096 + d * 1048576 : Nat) : Int) ((21 : Nat) : Int)) ∧ spreadN 6 (wordN (sgn ((a * 2 + b * 2048 + c * 4096 + d * 1048576 : Nat) : Int) ((21 : Nat) : Int))) = _
  obtain ⟨h1, h2⟩ := hx _ rfl
  exact ⟨h2, key _ _ (wordN_eq _) h1 h2⟩
end Go.Proofs.YthmjelkckamkdaaDoor
