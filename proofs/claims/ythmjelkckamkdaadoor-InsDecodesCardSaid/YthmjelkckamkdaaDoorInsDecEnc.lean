/- Layer 2, plain mathematics: what is read of a word that an operation matches may be an instruction of it, and its word is the word. -/
import Derived.Test.YthmjelkckamkdaaDoorInsDecNum
namespace Go.Proofs.YthmjelkckamkdaaDoor
set_option linter.unusedVariables false
theorem dec_num2 (v : Nat) : NumOk 2 (numberI (v : Int) 2) ∧ spreadN 2 (wordN (numberI (v : Int) 2)) = fldN v 20 6 * 1048576 := by
  rw [num_at v (by decide), if_pos (show lSg 2 = 0 by decide), show numberN 2 v = fldN v 20 6 by simp [numberN]]
  have ha := fldN_lt2 v 20 6
  rw [show (2 : Nat) ^ 6 = 64 from rfl] at ha
  generalize fldN v 20 6 = a at *
  have e : RowKit.wrap64 ((a : Nat) : Int) = a := by unfold RowKit.wrap64; omega
  have ew : wordN ((a : Nat) : Int) = a := by unfold wordN; omega
  rw [e, ew, sN2]
  have g : NumOk 2 ((a : Nat) : Int) = (0 ≤ ((a : Nat) : Int) ∧ ((a : Nat) : Int) ≤ 63) := rfl
  rw [g]
  refine ⟨⟨by omega, by omega⟩, ?_⟩
  show a / 1 % 64 * 1048576 = _
  omega
theorem dec_num0 (v : Nat) : NumOk 0 (numberI (v : Int) 0) ∧ spreadN 0 (wordN (numberI (v : Int) 0)) = 0 := by
  rw [num_at v (by decide), if_pos (show lSg 0 = 0 by decide), show numberN 0 v = 0 by simp [numberN]]
  have e : RowKit.wrap64 ((0 : Nat) : Int) = 0 := by unfold RowKit.wrap64; omega
  rw [e]
  exact ⟨rfl, rfl⟩
theorem dec_num7 (v : Nat) : NumOk 7 (numberI (v : Int) 7) ∧ spreadN 7 (wordN (numberI (v : Int) 7)) = 0 := by
  rw [num_at v (by decide), if_pos (show lSg 7 = 0 by decide), show numberN 7 v = 0 by simp [numberN]]
  have e : RowKit.wrap64 ((0 : Nat) : Int) = 0 := by unfold RowKit.wrap64; omega
  rw [e]
  exact ⟨rfl, rfl⟩
theorem num_isI {s : Nat} {x : Int} (hs : s < 8) (h : NumOk s x) : IsI x := by
  obtain rfl | rfl | rfl | rfl | rfl | rfl | rfl | rfl : s = 0 ∨ s = 1 ∨ s = 2 ∨ s = 3 ∨ s = 4 ∨ s = 5 ∨ s = 6 ∨ s = 7 := by omega
  · have h : x = 0 := h; exact ⟨by omega, by omega⟩
  · have h : -2048 ≤ x ∧ x ≤ 2047 := h; exact ⟨by omega, by omega⟩
  · have h : 0 ≤ x ∧ x ≤ 63 := h; exact ⟨by omega, by omega⟩
  · have h : -2048 ≤ x ∧ x ≤ 2047 := h; exact ⟨by omega, by omega⟩
  · have h : -4096 ≤ x ∧ x ≤ 4094 ∧ x % 2 = 0 := h; exact ⟨by omega, by omega⟩
  · have h : -2147483648 ≤ x ∧ x ≤ 2147483647 ∧ x % 4096 = 0 := h; exact ⟨by omega, by omega⟩
  · have h : -1048576 ≤ x ∧ x ≤ 1048574 ∧ x % 2 = 0 := h; exact ⟨by omega, by omega⟩
  · have h : x = 0 := h; exact ⟨by omega, by omega⟩
/-- the word put together again out of its own fields -/
def regN (v a : Nat) (has : Bool) : Nat := if has then v / 2 ^ a % 32 else 0
def DecSum (s : Nat) : Prop := ∀ v F K R : Nat, v < 4294967296 → F = v % 128 → K = (if lKd s then v / 4096 % 8 else 0) → R = v / 2 ^ lRest s % 2 ^ (32 - lRest s) →
  NumOk s (numberI (v : Int) s) ∧ encN s F K R (regN v 7 (lRd s)) (regN v 15 (lR1 s)) (regN v 20 (lR2 s)) (wordN (numberI (v : Int) s)) = v
theorem dec_sum0 : DecSum 0 := by
  intro v F K R hv hF hK hR
  obtain ⟨h1, h2⟩ := dec_num0 v
  refine ⟨h1, ?_⟩
  have hK : K = v / 4096 % 8 := hK
  have hR : R = v / 33554432 % 128 := hR
  show F + K * 4096 + R * 33554432 % 4294967296 + v / 128 % 32 * 128 + v / 32768 % 32 * 32768 + v / 1048576 % 32 * 1048576 + spreadN 0 (wordN (numberI (v : Int) 0)) = v
  rw [h2]; subst hF hK hR; clear h1 h2; omega
theorem dec_sum1 : DecSum 1 := by
  intro v F K R hv hF hK hR
  obtain ⟨h1, h2⟩ := dec_num1 v
  refine ⟨h1, ?_⟩
  have hK : K = v / 4096 % 8 := hK
  have hR : R = v / 4294967296 % 1 := hR
  have hR : R = 0 := by omega
  show F + K * 4096 + R * 4294967296 % 4294967296 + v / 128 % 32 * 128 + v / 32768 % 32 * 32768 + 0 * 1048576 + spreadN 1 (wordN (numberI (v : Int) 1)) = v
  rw [h2]; subst hF hK hR; clear h1 h2
  show _ + v / 1048576 % 4096 * 1048576 = v
  omega
theorem dec_sum2 : DecSum 2 := by
  intro v F K R hv hF hK hR
  obtain ⟨h1, h2⟩ := dec_num2 v
  refine ⟨h1, ?_⟩
  have hK : K = v / 4096 % 8 := hK
  have hR : R = v / 67108864 % 64 := hR
  show F + K * 4096 + R * 67108864 % 4294967296 + v / 128 % 32 * 128 + v / 32768 % 32 * 32768 + 0 * 1048576 + spreadN 2 (wordN (numberI (v : Int) 2)) = v
  rw [h2]; subst hF hK hR; clear h1 h2
  show _ + v / 1048576 % 64 * 1048576 = v
  omega
theorem dec_sum3 : DecSum 3 := by
  intro v F K R hv hF hK hR
  obtain ⟨h1, h2⟩ := dec_num3 v
  refine ⟨h1, ?_⟩
  have hK : K = v / 4096 % 8 := hK
  have hR : R = v / 4294967296 % 1 := hR
  have hR : R = 0 := by omega
  show F + K * 4096 + R * 4294967296 % 4294967296 + 0 * 128 + v / 32768 % 32 * 32768 + v / 1048576 % 32 * 1048576 + spreadN 3 (wordN (numberI (v : Int) 3)) = v
  rw [h2]; subst hF hK hR; clear h1 h2
  show _ + (v / 128 % 32 * 128 + v / 33554432 % 128 * 33554432) = v
  omega
theorem dec_sum4 : DecSum 4 := by
  intro v F K R hv hF hK hR
  obtain ⟨h1, h2⟩ := dec_num4 v
  refine ⟨h1, ?_⟩
  have hK : K = v / 4096 % 8 := hK
  have hR : R = v / 4294967296 % 1 := hR
  have hR : R = 0 := by omega
  show F + K * 4096 + R * 4294967296 % 4294967296 + 0 * 128 + v / 32768 % 32 * 32768 + v / 1048576 % 32 * 1048576 + spreadN 4 (wordN (numberI (v : Int) 4)) = v
  rw [h2]; subst hF hK hR; clear h1 h2
  show _ + (v / 256 % 16 * 256 + v / 33554432 % 64 * 33554432 + v / 128 % 2 * 128 + v / 2147483648 % 2 * 2147483648) = v
  omega
theorem dec_sum5 : DecSum 5 := by
  intro v F K R hv hF hK hR
  obtain ⟨h1, h2⟩ := dec_num5 v
  refine ⟨h1, ?_⟩
  have hK : K = 0 := hK
  have hR : R = v / 4294967296 % 1 := hR
  have hR : R = 0 := by omega
  show F + K * 4096 + R * 4294967296 % 4294967296 + v / 128 % 32 * 128 + 0 * 32768 + 0 * 1048576 + spreadN 5 (wordN (numberI (v : Int) 5)) = v
  rw [h2]; subst hF hK hR; clear h1 h2
  show _ + v / 4096 % 1048576 * 4096 = v
  omega
theorem dec_sum6 : DecSum 6 := by
  intro v F K R hv hF hK hR
  obtain ⟨h1, h2⟩ := dec_num6 v
  refine ⟨h1, ?_⟩
  have hK : K = 0 := hK
  have hR : R = v / 4294967296 % 1 := hR
  have hR : R = 0 := by omega
  show F + K * 4096 + R * 4294967296 % 4294967296 + v / 128 % 32 * 128 + 0 * 32768 + 0 * 1048576 + spreadN 6 (wordN (numberI (v : Int) 6)) = v
  rw [h2]; subst hF hK hR; clear h1 h2
  show _ + (v / 2097152 % 1024 * 2097152 + v / 1048576 % 2 * 1048576 + v / 4096 % 256 * 4096 + v / 2147483648 % 2 * 2147483648) = v
  omega
theorem dec_sum7 : DecSum 7 := by
  intro v F K R hv hF hK hR
  obtain ⟨h1, h2⟩ := dec_num7 v
  refine ⟨h1, ?_⟩
  have hK : K = 0 := hK
  have hR : R = v / 128 % 33554432 := hR
  show F + K * 4096 + R * 128 % 4294967296 + 0 * 128 + 0 * 32768 + 0 * 1048576 + spreadN 7 (wordN (numberI (v : Int) 7)) = v
  rw [h2]; subst hF hK hR; clear h1 h2
  omega
theorem dec_sum {s : Nat} (hs : s < 8) : DecSum s := by
  obtain rfl | rfl | rfl | rfl | rfl | rfl | rfl | rfl : s = 0 ∨ s = 1 ∨ s = 2 ∨ s = 3 ∨ s = 4 ∨ s = 5 ∨ s = 6 ∨ s = 7 := by omega
  · exact dec_sum0
  · exact dec_sum1
  · exact dec_sum2
  · exact dec_sum3
  · exact dec_sum4
  · exact dec_sum5
  · exact dec_sum6
  · exact dec_sum7
theorem regI_nat (v a : Nat) (has : Bool) : regI (v : Int) (a : Int) has = (regN v a has : Nat) := by
  unfold regI regN
  cases has <;> rfl
theorem regN_lt (v a : Nat) (has : Bool) : regN v a has < 32 := by
  unfold regN; split <;> omega
theorem fit_reg (v a : Nat) (has : Bool) : fitB ((regN v a has : Nat) : Int) has = true := by
  have h := regN_lt v a has
  unfold fitB regB
  cases has with
  | true => simp; omega
  | false => rfl
theorem dec_enc {v : Int} (hv : IsW v) {n : Nat} (hn : n < 43) (h : Match v n) :
    mayB n (regI v 7 (lRd (opS n))) (regI v 15 (lR1 (opS n))) (regI v 20 (lR2 (opS n))) (numberI v (opS n)) = true ∧ encI n (regI v 7 (lRd (opS n))) (regI v 15 (lR1 (opS n))) (regI v 20 (lR2 (opS n))) (numberI v (opS n)) = v := by
  obtain ⟨v0, v1⟩ := hv
  obtain ⟨v, rfl⟩ := Int.eq_ofNat_of_zero_le v0
  obtain ⟨m1, m2, m3⟩ := h
  have hs := opS_lt hn
  have lr := lRest_bd hs
  have hF : opF n = v % 128 := by
    have : ((opF n : Nat) : Int) = ((v / 1 % 128 : Nat) : Int) := m1
    omega
  have hK : opK n = (if lKd (opS n) then v / 4096 % 8 else 0) := by
    unfold tK at m2
    cases e : lKd (opS n) with
    | true =>
      rw [e] at m2
      have : ((opK n : Nat) : Int) = ((v / 4096 % 8 : Nat) : Int) := m2
      simp; omega
    | false =>
      rw [e] at m2
      have : ((opK n : Nat) : Int) = 0 := m2
      simp; omega
  have hR : opR n = v / 2 ^ lRest (opS n) % 2 ^ (32 - lRest (opS n)) := by
    unfold tR at m3
    rw [show (32 - (lRest (opS n) : Int)) = ((32 - lRest (opS n) : Nat) : Int) by omega, fld_lit] at m3
    exact Int.ofNat.inj m3
  obtain ⟨g1, g2⟩ := dec_sum hs v _ _ _ (by omega) hF hK hR
  have e7 := regI_nat v 7 (lRd (opS n))
  have e15 := regI_nat v 15 (lR1 (opS n))
  have e20 := regI_nat v 20 (lR2 (opS n))
  have e7 : regI (v : Int) 7 (lRd (opS n)) = (regN v 7 (lRd (opS n)) : Nat) := e7
  have e15 : regI (v : Int) 15 (lR1 (opS n)) = (regN v 15 (lR1 (opS n)) : Nat) := e15
  have e20 : regI (v : Int) 20 (lR2 (opS n)) = (regN v 20 (lR2 (opS n)) : Nat) := e20
  rw [e7, e15, e20]
  have hm : mayB n ((regN v 7 (lRd (opS n)) : Nat) : Int) ((regN v 15 (lR1 (opS n)) : Nat) : Int) ((regN v 20 (lR2 (opS n)) : Nat) : Int) (numberI (v : Int) (opS n)) = true := by
    unfold mayB
    rw [fit_reg, fit_reg, fit_reg, (num_ok _ (num_isI hs g1) hs).2 g1]
    simp
  refine ⟨hm, ?_⟩
  rw [encI_sum hn hm, Int.toNat_natCast, Int.toNat_natCast, Int.toNat_natCast, g2]
end Go.Proofs.YthmjelkckamkdaaDoor
