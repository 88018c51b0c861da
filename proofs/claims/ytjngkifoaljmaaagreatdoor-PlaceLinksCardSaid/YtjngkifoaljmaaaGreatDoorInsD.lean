/- Layer 2, plain mathematics: the number read of a word is one that may stand, and spread again it is the word's part.
   Layer 2, plain mathematics: what is read of a word that an operation matches may be an instruction of it, and its word is the word. -/
import Derived.Test.YtjngkifoaljmaaaGreatDoorInsC
namespace Go.Proofs.YtjngkifoaljmaaaGreatDoor
set_option maxRecDepth 100000
set_option linter.unusedVariables false
theorem num_at (v : Nat) {s : Nat} (hs : s < 8) : numberI (v : Int) s = if lSg s = 0 then RowKit.wrap64 (numberN s v : Nat) else sgn (numberN s v : Nat) (lSg s) := by
  unfold numberI
  rw [numberK_nat, number_lit s v hs]
theorem dec_num1 (v : Nat) : NumOk 1 (numberI (v : Int) 1) ∧ spreadN 1 (wordN (numberI (v : Int) 1)) = fldN v 20 12 * 1048576 := by
  rw [num_at v (by decide), show numberN 1 v = fldN v 20 12 by simp [numberN]]
  have ha := fldN_lt2 v 20 12
  rw [show (2 : Nat) ^ 12 = 4096 from rfl] at ha
  generalize fldN v 20 12 = a at ha ⊢
  have key (x : Int) (y : Nat) (hy : x % 18446744073709551616 = (y : Int)) (hx : x = ((a : Nat) : Int) ∨ x = ((a : Nat) : Int) - 4096) (hr : -2048 ≤ x ∧ x ≤ 2047) : spreadN 1 y = a * 1048576 := by
    have e : spreadN 1 y = y / 1 % 4096 * 1048576 := by simp [spreadN, fldN]
    have e0 : y % 4096 = a := by omega
    clear hy hx hr
    have e1 : y = a + 4096 * (y / 4096) := by omega
    generalize y / 4096 = q at e1
    clear e0
    have ka : y / 1 % 4096 = a := by
      have : y / 1 = a + q * 4096 := by omega
      omega
    rw [e, ka]
  have hx : ∀ x : Int, x = sgn ((a : Nat) : Int) ((12 : Nat) : Int) → (x = ((a : Nat) : Int) ∨ x = ((a : Nat) : Int) - 4096) ∧ (-2048 ≤ x ∧ x ≤ 2047) := by
    intro x e
    rw [sgn_nat, show (2 : Nat) ^ 12 = 4096 from rfl] at e
    split at e <;> (constructor <;> omega)
  show NumOk 1 (sgn ((a : Nat) : Int) ((12 : Nat) : Int)) ∧ spreadN 1 (wordN (sgn ((a : Nat) : Int) ((12 : Nat) : Int))) = _
  obtain ⟨h1, h2⟩ := hx _ rfl
  exact ⟨h2, key _ _ (wordN_eq _) h1 h2⟩
theorem dec_num3 (v : Nat) : NumOk 3 (numberI (v : Int) 3) ∧ spreadN 3 (wordN (numberI (v : Int) 3)) = fldN v 7 5 * 128 + fldN v 25 7 * 33554432 := by
  rw [num_at v (by decide), show numberN 3 v = fldN v 7 5 + fldN v 25 7 * 32 by simp [numberN]]
  have ha := fldN_lt2 v 7 5
  rw [show (2 : Nat) ^ 5 = 32 from rfl] at ha
  generalize fldN v 7 5 = a at ha ⊢
  have hb := fldN_lt2 v 25 7
  rw [show (2 : Nat) ^ 7 = 128 from rfl] at hb
  generalize fldN v 25 7 = b at hb ⊢
  have key (x : Int) (y : Nat) (hy : x % 18446744073709551616 = (y : Int)) (hx : x = ((a + b * 32 : Nat) : Int) ∨ x = ((a + b * 32 : Nat) : Int) - 4096) (hr : -2048 ≤ x ∧ x ≤ 2047) : spreadN 3 y = a * 128 + b * 33554432 := by
    have e : spreadN 3 y = y / 1 % 32 * 128 + y / 32 % 128 * 33554432 := by simp [spreadN, fldN]
    have e0 : y % 4096 = a + b * 32 := by omega
    clear hy hx hr
    have e1 : y = a + b * 32 + 4096 * (y / 4096) := by omega
    generalize y / 4096 = q at e1
    clear e0
    have ka : y / 1 % 32 = a := by
      have : y / 1 = a + b * 32 + q * 4096 := by omega
      omega
    have kb : y / 32 % 128 = b := by
      have : y / 32 = b + q * 128 := by omega
      omega
    rw [e, ka, kb]
  have hx : ∀ x : Int, x = sgn ((a + b * 32 : Nat) : Int) ((12 : Nat) : Int) → (x = ((a + b * 32 : Nat) : Int) ∨ x = ((a + b * 32 : Nat) : Int) - 4096) ∧ (-2048 ≤ x ∧ x ≤ 2047) := by
    intro x e
    rw [sgn_nat, show (2 : Nat) ^ 12 = 4096 from rfl] at e
    split at e <;> (constructor <;> omega)
  show NumOk 3 (sgn ((a + b * 32 : Nat) : Int) ((12 : Nat) : Int)) ∧ spreadN 3 (wordN (sgn ((a + b * 32 : Nat) : Int) ((12 : Nat) : Int))) = _
  obtain ⟨h1, h2⟩ := hx _ rfl
  exact ⟨h2, key _ _ (wordN_eq _) h1 h2⟩
theorem dec_num4 (v : Nat) : NumOk 4 (numberI (v : Int) 4) ∧ spreadN 4 (wordN (numberI (v : Int) 4)) = fldN v 8 4 * 256 + fldN v 25 6 * 33554432 + fldN v 7 1 * 128 + fldN v 31 1 * 2147483648 := by
  rw [num_at v (by decide), show numberN 4 v = fldN v 8 4 * 2 + fldN v 25 6 * 32 + fldN v 7 1 * 2048 + fldN v 31 1 * 4096 by simp [numberN]]
  have ha := fldN_lt2 v 8 4
  rw [show (2 : Nat) ^ 4 = 16 from rfl] at ha
  generalize fldN v 8 4 = a at ha ⊢
  have hb := fldN_lt2 v 25 6
  rw [show (2 : Nat) ^ 6 = 64 from rfl] at hb
  generalize fldN v 25 6 = b at hb ⊢
  have hc := fldN_lt2 v 7 1
  rw [show (2 : Nat) ^ 1 = 2 from rfl] at hc
  generalize fldN v 7 1 = c at hc ⊢
  have hd := fldN_lt2 v 31 1
  rw [show (2 : Nat) ^ 1 = 2 from rfl] at hd
  generalize fldN v 31 1 = d at hd ⊢
  have key (x : Int) (y : Nat) (hy : x % 18446744073709551616 = (y : Int)) (hx : x = ((a * 2 + b * 32 + c * 2048 + d * 4096 : Nat) : Int) ∨ x = ((a * 2 + b * 32 + c * 2048 + d * 4096 : Nat) : Int) - 8192) (hr : -4096 ≤ x ∧ x ≤ 4094 ∧ x % 2 = 0) : spreadN 4 y = a * 256 + b * 33554432 + c * 128 + d * 2147483648 := by
    have e : spreadN 4 y = y / 2 % 16 * 256 + y / 32 % 64 * 33554432 + y / 2048 % 2 * 128 + y / 4096 % 2 * 2147483648 := by simp [spreadN, fldN]
    have e0 : y % 8192 = a * 2 + b * 32 + c * 2048 + d * 4096 := by omega
    clear hy hx hr
    have e1 : y = a * 2 + b * 32 + c * 2048 + d * 4096 + 8192 * (y / 8192) := by omega
    generalize y / 8192 = q at e1
    clear e0
    have ka : y / 2 % 16 = a := by
      have : y / 2 = a + b * 16 + c * 1024 + d * 2048 + q * 4096 := by omega
      omega
    have kb : y / 32 % 64 = b := by
      have : y / 32 = b + c * 64 + d * 128 + q * 256 := by omega
      omega
    have kc : y / 2048 % 2 = c := by
      have : y / 2048 = c + d * 2 + q * 4 := by omega
      omega
    have kd : y / 4096 % 2 = d := by
      have : y / 4096 = d + q * 2 := by omega
      omega
    rw [e, ka, kb, kc, kd]
  have hx : ∀ x : Int, x = sgn ((a * 2 + b * 32 + c * 2048 + d * 4096 : Nat) : Int) ((13 : Nat) : Int) → (x = ((a * 2 + b * 32 + c * 2048 + d * 4096 : Nat) : Int) ∨ x = ((a * 2 + b * 32 + c * 2048 + d * 4096 : Nat) : Int) - 8192) ∧ (-4096 ≤ x ∧ x ≤ 4094 ∧ x % 2 = 0) := by
    intro x e
    rw [sgn_nat, show (2 : Nat) ^ 13 = 8192 from rfl] at e
    split at e <;> (constructor <;> omega)
  show NumOk 4 (sgn ((a * 2 + b * 32 + c * 2048 + d * 4096 : Nat) : Int) ((13 : Nat) : Int)) ∧ spreadN 4 (wordN (sgn ((a * 2 + b * 32 + c * 2048 + d * 4096 : Nat) : Int) ((13 : Nat) : Int))) = _
  obtain ⟨h1, h2⟩ := hx _ rfl
  exact ⟨h2, key _ _ (wordN_eq _) h1 h2⟩
theorem dec_num5 (v : Nat) : NumOk 5 (numberI (v : Int) 5) ∧ spreadN 5 (wordN (numberI (v : Int) 5)) = fldN v 12 20 * 4096 := by
  rw [num_at v (by decide), show numberN 5 v = fldN v 12 20 * 4096 by simp [numberN]]
  have ha := fldN_lt2 v 12 20
  rw [show (2 : Nat) ^ 20 = 1048576 from rfl] at ha
  generalize fldN v 12 20 = a at ha ⊢
  have key (x : Int) (y : Nat) (hy : x % 18446744073709551616 = (y : Int)) (hx : x = ((a * 4096 : Nat) : Int) ∨ x = ((a * 4096 : Nat) : Int) - 4294967296) (hr : -2147483648 ≤ x ∧ x ≤ 2147483647 ∧ x % 4096 = 0) : spreadN 5 y = a * 4096 := by
    have e : spreadN 5 y = y / 4096 % 1048576 * 4096 := by simp [spreadN, fldN]
    have e0 : y % 4294967296 = a * 4096 := by omega
    clear hy hx hr
    have e1 : y = a * 4096 + 4294967296 * (y / 4294967296) := by omega
    generalize y / 4294967296 = q at e1
    clear e0
    have ka : y / 4096 % 1048576 = a := by
      have : y / 4096 = a + q * 1048576 := by omega
      omega
    rw [e, ka]
  have hx : ∀ x : Int, x = sgn ((a * 4096 : Nat) : Int) ((32 : Nat) : Int) → (x = ((a * 4096 : Nat) : Int) ∨ x = ((a * 4096 : Nat) : Int) - 4294967296) ∧ (-2147483648 ≤ x ∧ x ≤ 2147483647 ∧ x % 4096 = 0) := by
    intro x e
    rw [sgn_nat, show (2 : Nat) ^ 32 = 4294967296 from rfl] at e
    split at e <;> (constructor <;> omega)
  show NumOk 5 (sgn ((a * 4096 : Nat) : Int) ((32 : Nat) : Int)) ∧ spreadN 5 (wordN (sgn ((a * 4096 : Nat) : Int) ((32 : Nat) : Int))) = _
  obtain ⟨h1, h2⟩ := hx _ rfl
  exact ⟨h2, key _ _ (wordN_eq _) h1 h2⟩
theorem dec_num6 (v : Nat) : NumOk 6 (numberI (v : Int) 6) ∧ spreadN 6 (wordN (numberI (v : Int) 6)) = fldN v 21 10 * 2097152 + fldN v 20 1 * 1048576 + fldN v 12 8 * 4096 + fldN v 31 1 * 2147483648 := by
  rw [num_at v (by decide), show numberN 6 v = fldN v 21 10 * 2 + fldN v 20 1 * 2048 + fldN v 12 8 * 4096 + fldN v 31 1 * 1048576 by simp [numberN]]
  have ha := fldN_lt2 v 21 10
  rw [show (2 : Nat) ^ 10 = 1024 from rfl] at ha
  generalize fldN v 21 10 = a at ha ⊢
  have hb := fldN_lt2 v 20 1
  rw [show (2 : Nat) ^ 1 = 2 from rfl] at hb
  generalize fldN v 20 1 = b at hb ⊢
  have hc := fldN_lt2 v 12 8
  rw [show (2 : Nat) ^ 8 = 256 from rfl] at hc
  generalize fldN v 12 8 = c at hc ⊢
  have hd := fldN_lt2 v 31 1
  rw [show (2 : Nat) ^ 1 = 2 from rfl] at hd
  generalize fldN v 31 1 = d at hd ⊢
  have key (x : Int) (y : Nat) (hy : x % 18446744073709551616 = (y : Int)) (hx : x = ((a * 2 + b * 2048 + c * 4096 + d * 1048576 : Nat) : Int) ∨ x = ((a * 2 + b * 2048 + c * 4096 + d * 1048576 : Nat) : Int) - 2097152) (hr : -1048576 ≤ x ∧ x ≤ 1048574 ∧ x % 2 = 0) : spreadN 6 y = a * 2097152 + b * 1048576 + c * 4096 + d * 2147483648 := by
    have e : spreadN 6 y = y / 2 % 1024 * 2097152 + y / 2048 % 2 * 1048576 + y / 4096 % 256 * 4096 + y / 1048576 % 2 * 2147483648 := by simp [spreadN, fldN]
    have e0 : y % 2097152 = a * 2 + b * 2048 + c * 4096 + d * 1048576 := by omega
    clear hy hx hr
    have e1 : y = a * 2 + b * 2048 + c * 4096 + d * 1048576 + 2097152 * (y / 2097152) := by omega
    generalize y / 2097152 = q at e1
    clear e0
    have ka : y / 2 % 1024 = a := by
      have : y / 2 = a + b * 1024 + c * 2048 + d * 524288 + q * 1048576 := by omega
      omega
    have kb : y / 2048 % 2 = b := by
      have : y / 2048 = b + c * 2 + d * 512 + q * 1024 := by omega
      omega
    have kc : y / 4096 % 256 = c := by
      have : y / 4096 = c + d * 256 + q * 512 := by omega
      omega
    have kd : y / 1048576 % 2 = d := by
      have : y / 1048576 = d + q * 2 := by omega
      omega
    rw [e, ka, kb, kc, kd]
  have hx : ∀ x : Int, x = sgn ((a * 2 + b * 2048 + c * 4096 + d * 1048576 : Nat) : Int) ((21 : Nat) : Int) → (x = ((a * 2 + b * 2048 + c * 4096 + d * 1048576 : Nat) : Int) ∨ x = ((a * 2 + b * 2048 + c * 4096 + d * 1048576 : Nat) : Int) - 2097152) ∧ (-1048576 ≤ x ∧ x ≤ 1048574 ∧ x % 2 = 0) := by
    intro x e
    rw [sgn_nat, show (2 : Nat) ^ 21 = 2097152 from rfl] at e
    split at e <;> (constructor <;> omega)
  show NumOk 6 (sgn ((a * 2 + b * 2048 + c * 4096 + d * 1048576 : Nat) : Int) ((21 : Nat) : Int)) ∧ spreadN 6 (wordN (sgn ((a * 2 + b * 2048 + c * 4096 + d * 1048576 : Nat) : Int) ((21 : Nat) : Int))) = _
  obtain ⟨h1, h2⟩ := hx _ rfl
  exact ⟨h2, key _ _ (wordN_eq _) h1 h2⟩
end Go.Proofs.YtjngkifoaljmaaaGreatDoor
namespace Go.Proofs.YtjngkifoaljmaaaGreatDoor
set_option maxRecDepth 100000
set_option linter.unusedVariables false
theorem dec_num2 (v : Nat) : NumOk 2 (numberI (v : Int) 2) ∧ spreadN 2 (wordN (numberI (v : Int) 2)) = fldN v 20 6 * 1048576 := by
  rw [num_at v (by decide), if_pos (show lSg 2 = 0 by decide), show numberN 2 v = fldN v 20 6 by simp [numberN]]
  have ha := fldN_lt2 v 20 6
  rw [show (2 : Nat) ^ 6 = 64 from rfl] at ha
  generalize fldN v 20 6 = a at *
  have e : RowKit.wrap64 ((a : Nat) : Int) = a := by unfold RowKit.wrap64; omega
  have ew : wordN ((a : Nat) : Int) = a := by unfold wordN; omega
  rw [e, ew, sN2]
  have g : NumOk 2 ((a : Nat) : Int) = (0 ≤ ((a : Nat) : Int) ∧ ((a : Nat) : Int) ≤ 63) := rfl
  rw [g]
  refine ⟨⟨by omega, by omega⟩, ?_⟩
  show a / 1 % 64 * 1048576 = _
  omega
theorem dec_num0 (v : Nat) : NumOk 0 (numberI (v : Int) 0) ∧ spreadN 0 (wordN (numberI (v : Int) 0)) = 0 := by
  rw [num_at v (by decide), if_pos (show lSg 0 = 0 by decide), show numberN 0 v = 0 by simp [numberN]]
  have e : RowKit.wrap64 ((0 : Nat) : Int) = 0 := by unfold RowKit.wrap64; omega
  rw [e]
  exact ⟨rfl, rfl⟩
theorem dec_num7 (v : Nat) : NumOk 7 (numberI (v : Int) 7) ∧ spreadN 7 (wordN (numberI (v : Int) 7)) = 0 := by
  rw [num_at v (by decide), if_pos (show lSg 7 = 0 by decide), show numberN 7 v = 0 by simp [numberN]]
  have e : RowKit.wrap64 ((0 : Nat) : Int) = 0 := by unfold RowKit.wrap64; omega
  rw [e]
  exact ⟨rfl, rfl⟩
theorem num_isI {s : Nat} {x : Int} (hs : s < 8) (h : NumOk s x) : IsI x := by
  obtain rfl | rfl | rfl | rfl | rfl | rfl | rfl | rfl : s = 0 ∨ s = 1 ∨ s = 2 ∨ s = 3 ∨ s = 4 ∨ s = 5 ∨ s = 6 ∨ s = 7 := by omega
  · have h : x = 0 := h; exact ⟨by omega, by omega⟩
  · have h : -2048 ≤ x ∧ x ≤ 2047 := h; exact ⟨by omega, by omega⟩
  · have h : 0 ≤ x ∧ x ≤ 63 := h; exact ⟨by omega, by omega⟩
  · have h : -2048 ≤ x ∧ x ≤ 2047 := h; exact ⟨by omega, by omega⟩
  · have h : -4096 ≤ x ∧ x ≤ 4094 ∧ x % 2 = 0 := h; exact ⟨by omega, by omega⟩
  · have h : -2147483648 ≤ x ∧ x ≤ 2147483647 ∧ x % 4096 = 0 := h; exact ⟨by omega, by omega⟩
  · have h : -1048576 ≤ x ∧ x ≤ 1048574 ∧ x % 2 = 0 := h; exact ⟨by omega, by omega⟩
  · have h : x = 0 := h; exact ⟨by omega, by omega⟩
/-- the word put together again out of its own fields -/
def regN (v a : Nat) (has : Bool) : Nat := if has then v / 2 ^ a % 32 else 0
def DecSum (s : Nat) : Prop := ∀ v F K R : Nat, v < 4294967296 → F = v % 128 → K = (if lKd s then v / 4096 % 8 else 0) → R = v / 2 ^ lRest s % 2 ^ (32 - lRest s) →
  NumOk s (numberI (v : Int) s) ∧ encN s F K R (regN v 7 (lRd s)) (regN v 15 (lR1 s)) (regN v 20 (lR2 s)) (wordN (numberI (v : Int) s)) = v
theorem dec_sum0 : DecSum 0 := by
  intro v F K R hv hF hK hR
  obtain ⟨h1, h2⟩ := dec_num0 v
  refine ⟨h1, ?_⟩
  have hK : K = v / 4096 % 8 := hK
  have hR : R = v / 33554432 % 128 := hR
  show F + K * 4096 + R * 33554432 % 4294967296 + v / 128 % 32 * 128 + v / 32768 % 32 * 32768 + v / 1048576 % 32 * 1048576 + spreadN 0 (wordN (numberI (v : Int) 0)) = v
  rw [h2]; subst hF hK hR; clear h1 h2; omega
theorem dec_sum1 : DecSum 1 := by
  intro v F K R hv hF hK hR
  obtain ⟨h1, h2⟩ := dec_num1 v
  refine ⟨h1, ?_⟩
  have hK : K = v / 4096 % 8 := hK
  have hR : R = v / 4294967296 % 1 := hR
  have hR : R = 0 := by omega
  show F + K * 4096 + R * 4294967296 % 4294967296 + v / 128 % 32 * 128 + v / 32768 % 32 * 32768 + 0 * 1048576 + spreadN 1 (wordN (numberI (v : Int) 1)) = v
  rw [h2]; subst hF hK hR; clear h1 h2
  show _ + v / 1048576 % 4096 * 1048576 = v
  omega
theorem dec_sum2 : DecSum 2 := by
  intro v F K R hv hF hK hR
  obtain ⟨h1, h2⟩ := dec_num2 v
  refine ⟨h1, ?_⟩
  have hK : K = v / 4096 % 8 := hK
  have hR : R = v / 67108864 % 64 := hR
  show F + K * 4096 + R * 67108864 % 4294967296 + v / 128 % 32 * 128 + v / 32768 % 32 * 32768 + 0 * 1048576 + spreadN 2 (wordN (numberI (v : Int) 2)) = v
  rw [h2]; subst hF hK hR; clear h1 h2
  show _ + v / 1048576 % 64 * 1048576 = v
  omega
theorem dec_sum3 : DecSum 3 := by
  intro v F K R hv hF hK hR
  obtain ⟨h1, h2⟩ := dec_num3 v
  refine ⟨h1, ?_⟩
  have hK : K = v / 4096 % 8 := hK
  have hR : R = v / 4294967296 % 1 := hR
  have hR : R = 0 := by omega
  show F + K * 4096 + R * 4294967296 % 4294967296 + 0 * 128 + v / 32768 % 32 * 32768 + v / 1048576 % 32 * 1048576 + spreadN 3 (wordN (numberI (v : Int) 3)) = v
  rw [h2]; subst hF hK hR; clear h1 h2
  show _ + (v / 128 % 32 * 128 + v / 33554432 % 128 * 33554432) = v
  omega
theorem dec_sum4 : DecSum 4 := by
  intro v F K R hv hF hK hR
  obtain ⟨h1, h2⟩ := dec_num4 v
  refine ⟨h1, ?_⟩
  have hK : K = v / 4096 % 8 := hK
  have hR : R = v / 4294967296 % 1 := hR
  have hR : R = 0 := by omega
  show F + K * 4096 + R * 4294967296 % 4294967296 + 0 * 128 + v / 32768 % 32 * 32768 + v / 1048576 % 32 * 1048576 + spreadN 4 (wordN (numberI (v : Int) 4)) = v
  rw [h2]; subst hF hK hR; clear h1 h2
  show _ + (v / 256 % 16 * 256 + v / 33554432 % 64 * 33554432 + v / 128 % 2 * 128 + v / 2147483648 % 2 * 2147483648) = v
  omega
theorem dec_sum5 : DecSum 5 := by
  intro v F K R hv hF hK hR
  obtain ⟨h1, h2⟩ := dec_num5 v
  refine ⟨h1, ?_⟩
  have hK : K = 0 := hK
  have hR : R = v / 4294967296 % 1 := hR
  have hR : R = 0 := by omega
  show F + K * 4096 + R * 4294967296 % 4294967296 + v / 128 % 32 * 128 + 0 * 32768 + 0 * 1048576 + spreadN 5 (wordN (numberI (v : Int) 5)) = v
  rw [h2]; subst hF hK hR; clear h1 h2
  show _ + v / 4096 % 1048576 * 4096 = v
  omega
theorem dec_sum6 : DecSum 6 := by
  intro v F K R hv hF hK hR
  obtain ⟨h1, h2⟩ := dec_num6 v
  refine ⟨h1, ?_⟩
  have hK : K = 0 := hK
  have hR : R = v / 4294967296 % 1 := hR
  have hR : R = 0 := by omega
  show F + K * 4096 + R * 4294967296 % 4294967296 + v / 128 % 32 * 128 + 0 * 32768 + 0 * 1048576 + spreadN 6 (wordN (numberI (v : Int) 6)) = v
  rw [h2]; subst hF hK hR; clear h1 h2
  show _ + (v / 2097152 % 1024 * 2097152 + v / 1048576 % 2 * 1048576 + v / 4096 % 256 * 4096 + v / 2147483648 % 2 * 2147483648) = v
  omega
theorem dec_sum7 : DecSum 7 := by
  intro v F K R hv hF hK hR
  obtain ⟨h1, h2⟩ := dec_num7 v
  refine ⟨h1, ?_⟩
  have hK : K = 0 := hK
  have hR : R = v / 128 % 33554432 := hR
  show F + K * 4096 + R * 128 % 4294967296 + 0 * 128 + 0 * 32768 + 0 * 1048576 + spreadN 7 (wordN (numberI (v : Int) 7)) = v
  rw [h2]; subst hF hK hR; clear h1 h2
  omega
theorem dec_sum {s : Nat} (hs : s < 8) : DecSum s := by
  obtain rfl | rfl | rfl | rfl | rfl | rfl | rfl | rfl : s = 0 ∨ s = 1 ∨ s = 2 ∨ s = 3 ∨ s = 4 ∨ s = 5 ∨ s = 6 ∨ s = 7 := by omega
  · exact dec_sum0
  · exact dec_sum1
  · exact dec_sum2
  · exact dec_sum3
  · exact dec_sum4
  · exact dec_sum5
  · exact dec_sum6
  · exact dec_sum7
theorem regI_nat (v a : Nat) (has : Bool) : regI (v : Int) (a : Int) has = (regN v a has : Nat) := by
  unfold regI regN
  cases has <;> rfl
theorem regN_lt (v a : Nat) (has : Bool) : regN v a has < 32 := by
  unfold regN; split <;> omega
theorem fit_reg (v a : Nat) (has : Bool) : fitB ((regN v a has : Nat) : Int) has = true := by
  have h := regN_lt v a has
  unfold fitB regB
  cases has with
  | true => simp; omega
  | false => rfl
theorem dec_enc {v : Int} (hv : IsW v) {n : Nat} (hn : n < 43) (h : Match v n) :
    mayB n (regI v 7 (lRd (opS n))) (regI v 15 (lR1 (opS n))) (regI v 20 (lR2 (opS n))) (numberI v (opS n)) = true ∧ encI n (regI v 7 (lRd (opS n))) (regI v 15 (lR1 (opS n))) (regI v 20 (lR2 (opS n))) (numberI v (opS n)) = v := by
  obtain ⟨v0, v1⟩ := hv
  obtain ⟨v, rfl⟩ := Int.eq_ofNat_of_zero_le v0
  obtain ⟨m1, m2, m3⟩ := h
  have hs := opS_lt hn
  have lr := lRest_bd hs
  have hF : opF n = v % 128 := by
    have : ((opF n : Nat) : Int) = ((v / 1 % 128 : Nat) : Int) := m1
    omega
  have hK : opK n = (if lKd (opS n) then v / 4096 % 8 else 0) := by
    unfold tK at m2
    cases e : lKd (opS n) with
    | true =>
      rw [e] at m2
      have : ((opK n : Nat) : Int) = ((v / 4096 % 8 : Nat) : Int) := m2
      simp; omega
    | false =>
      rw [e] at m2
      have : ((opK n : Nat) : Int) = 0 := m2
      simp; omega
  have hR : opR n = v / 2 ^ lRest (opS n) % 2 ^ (32 - lRest (opS n)) := by
    unfold tR at m3
    rw [show (32 - (lRest (opS n) : Int)) = ((32 - lRest (opS n) : Nat) : Int) by omega, fld_lit] at m3
    exact Int.ofNat.inj m3
  obtain ⟨g1, g2⟩ := dec_sum hs v _ _ _ (by omega) hF hK hR
  have e7 := regI_nat v 7 (lRd (opS n))
  have e15 := regI_nat v 15 (lR1 (opS n))
  have e20 := regI_nat v 20 (lR2 (opS n))
  have e7 : regI (v : Int) 7 (lRd (opS n)) = (regN v 7 (lRd (opS n)) : Nat) := e7
  have e15 : regI (v : Int) 15 (lR1 (opS n)) = (regN v 15 (lR1 (opS n)) : Nat) := e15
  have e20 : regI (v : Int) 20 (lR2 (opS n)) = (regN v 20 (lR2 (opS n)) : Nat) := e20
  rw [e7, e15, e20]
  have hm : mayB n ((regN v 7 (lRd (opS n)) : Nat) : Int) ((regN v 15 (lR1 (opS n)) : Nat) : Int) ((regN v 20 (lR2 (opS n)) : Nat) : Int) (numberI (v : Int) (opS n)) = true := by
    unfold mayB
    rw [fit_reg, fit_reg, fit_reg, (num_ok _ (num_isI hs g1) hs).2 g1]
    simp
  refine ⟨hm, ?_⟩
  rw [encI_sum hn hm, Int.toNat_natCast, Int.toNat_natCast, Int.toNat_natCast, g2]
end Go.Proofs.YtjngkifoaljmaaaGreatDoor
