/- What the calls of the reference package of layer 1 on numbers answer: May, Bit, Field, Put, Sign, Fits, FitsU. Conditions: each argument fits its kind, as said at each. -/
import Derived.Test.YthmjelkckamkdaaDoorBits
import Derived.Handy
namespace Go.Proofs.YthmjelkckamkdaaDoor
open Go.RowKit
set_option linter.unusedVariables false

def bitI (v i : Int) : Int := ((v.toNat / 2 ^ i.toNat % 2 : Nat) : Int)
theorem bitI_le (v i : Int) : 0 ≤ bitI v i ∧ bitI v i ≤ 1 := by unfold bitI; omega
theorem ret_u64 {a b : Int} (h : a = b) : Ending.returned (.int .u64 a) = Ending.returned (.int .u64 b) := by rw [h]
theorem bit_any (v i : Int) (w : World) (hv : IsU v) (h2 : 0 ≤ i) (h3 : i < 64) :
    Calls Tryd.prog 38 #[.int .u64 v, .int .i64 i] w fun e w' => e = .returned (.int .u64 (bitI v i)) ∧ w' = w := by
  obtain ⟨h0, h1⟩ := hv
  go_enter Tryd.func38, Tryd.ntmps38
  go_wp2
  go_ret
  refine ⟨ret_u64 ?_, rfl⟩
  obtain ⟨v, rfl⟩ := Int.eq_ofNat_of_zero_le h0
  have e : ((v : Nat) : Int) / 2 ^ i.toNat = ((v / 2 ^ i.toNat : Nat) : Int) := by simp
  show Int.tmod (((v : Nat) : Int) / 2 ^ i.toNat) 2 = _
  rw [e]
  unfold bitI
  rw [Int.tmod_eq_emod_of_nonneg (Int.natCast_nonneg _), Int.toNat_natCast]
  omega
theorem fmay_yes (f n : Int) (w : World) (hf : 0 ≤ f) (hn : 0 ≤ n) (h : f + n ≤ 64) :
    Calls Tryd.prog 39 #[.int .i64 f, .int .i64 n] w fun e w' => e = .returned (.bool true) ∧ w = w' := by
  go_enter Tryd.func39, Tryd.ntmps39
  go_wp2
  go_ret
  first | exact ⟨rfl, rfl⟩ | exact ⟨by simp; omega, rfl⟩
theorem fmay_no (f n : Int) (w : World) (h : NoFld f n) :
    Calls Tryd.prog 39 #[.int .i64 f, .int .i64 n] w fun e w' => e = .returned (.bool false) ∧ w = w' := by
  unfold NoFld at h
  by_cases h1 : 0 ≤ f
  · by_cases h2 : f ≤ 64
    · by_cases h3 : 0 ≤ n
      · by_cases h4 : n ≤ 64
        · have h5 : 64 < f + n := by omega
          clear h
          go_enter Tryd.func39, Tryd.ntmps39
          go_wp2
          go_ret
          first | exact ⟨rfl, rfl⟩ | exact ⟨by simp; omega, rfl⟩
        · clear h
          go_enter Tryd.func39, Tryd.ntmps39
          go_wp2
          go_ret
          exact ⟨rfl, rfl⟩
      · clear h
        go_enter Tryd.func39, Tryd.ntmps39
        go_wp2
        go_ret
        exact ⟨rfl, rfl⟩
    · clear h
      go_enter Tryd.func39, Tryd.ntmps39
      go_wp2
      go_ret
      exact ⟨rfl, rfl⟩
  · clear h
    go_enter Tryd.func39, Tryd.ntmps39
    go_wp2
    go_ret
    exact ⟨rfl, rfl⟩
theorem rfield_no (v f n : Int) (h : NoFld f n) (w : World) :
    Calls Tryd.prog 37 #[.int .u64 v, .int .i64 f, .int .i64 n] w fun e w' => e = .returned (.tuple #[.int .u64 0, .bool false]) ∧ w = w' := by
  go_enter Tryd.func37, Tryd.ntmps37
  go_wp2_with (go_at_call 39; refine (fmay_no _ _ _ h).mono ?_; rintro e w' ⟨rfl, rfl⟩)
  go_ret2
  exact ⟨rfl, rfl⟩
theorem val_u64 {a b : Int} (h : a = b) : Value.int .u64 a = Value.int .u64 b := by rw [h]
theorem fld_zero (v f n : Int) (h : n = 0) : fld v f n = 0 := by subst h; simp [fld, fldN, Nat.mod_one]
theorem fld_le (v f n : Int) (h : n ≤ 63) : 0 ≤ fld v f n ∧ fld v f n ≤ 9223372036854775807 := by
  have h1 := fldN_lt_pow v.toNat f.toNat n.toNat
  have h2 := Nat.pow_le_pow_right (n := 2) (by decide) (show n.toNat ≤ 63 by omega)
  unfold fld
  omega
theorem fld_step (v j a b c : Int) (hj : 0 ≤ j) (ha : a = j - 1 + 1) (hb : b = c + 1) (hc : 0 ≤ c) : 2 * fld v (j + 1) c + bitI v j = fld v a b := by
  subst ha hb
  unfold fld bitI fldN
  rw [show (j - 1 + 1).toNat = j.toNat from by omega, show (j + 1).toNat = j.toNat + 1 from by omega, show (c + 1).toNat = c.toNat + 1 from by omega, Nat.pow_succ 2 j.toNat, ← Nat.div_div_eq_div_mul, Nat.pow_succ', Nat.mod_mul]
  omega
theorem rfield_yes (v f n : Int) (hv : IsU v) (hf : 0 ≤ f) (hn : 0 ≤ n) (h : f + n ≤ 64) (w : World) :
    Calls Tryd.prog 37 #[.int .u64 v, .int .i64 f, .int .i64 n] w fun e w' => e = .returned (.tuple #[.int .u64 (fld v f n), .bool true]) ∧ w = w' := by
  go_enter Tryd.func37, Tryd.ntmps37
  go_wp2_with (go_at_call 39; refine (fmay_yes _ _ _ hf hn h).mono ?_; rintro e w' ⟨rfl, rfl⟩)
  go_loop [8, 9] (fun out i => ∃ j : Int, f - 1 ≤ j ∧ j ≤ f + n - 1 ∧ i = .int .i64 j ∧ out = .int .u64 (fld v (j + 1) (f + n - 1 - j))) (fun _ i => (intOf i - f + 1).toNat)
  case atStart => exact ⟨f + n - 1, by omega, by omega, rfl, by rw [fld_zero _ _ _ (by omega)]⟩
  case round =>
    obtain ⟨j, hj0, hj1, rfl, rfl⟩ := hrel
    by_cases hlt : f ≤ j
    · obtain ⟨b0, b1⟩ := fld_le v (j + 1) (f + n - 1 - j) (by omega)
      obtain ⟨c0, c1⟩ := bitI_le v j
      go_wp2_with (go_at_call 38; refine (bit_any _ _ _ hv (by omega) (by omega)).mono ?_; rintro e w' ⟨rfl, rfl⟩)
      go_round
      case rel => exact ⟨j - 1, by omega, by omega, rfl, val_u64 (fld_step v j _ _ _ (by omega) rfl (by omega) (by omega))⟩
      case measure => simp [intOf]; omega
    · obtain rfl : j = f - 1 := by omega
      go_wp2
      go_ret2
      exact ⟨ret_u64_tup (by congr 1 <;> omega), rfl⟩

/-- W, cut off below bit i -/
def top (W i : Int) : Int := ((W.toNat / 2 ^ i.toNat : Nat) : Int)
theorem top_zero {W : Int} (h : IsU W) : top W 64 = 0 := by
  obtain ⟨h0, h1⟩ := h
  unfold top
  rw [Nat.div_eq_of_lt]; rfl
  show W.toNat < 2 ^ 64
  omega
theorem top_all {W : Int} (h : IsU W) : top W 0 = W := by
  obtain ⟨h0, h1⟩ := h
  unfold top
  simp; omega
theorem top_le {W i : Int} (h : IsU W) (hi : 1 ≤ i) : 0 ≤ top W i ∧ top W i ≤ 9223372036854775807 := by
  obtain ⟨h0, h1⟩ := h
  unfold top
  obtain ⟨k, hk⟩ : ∃ k, i.toNat = k + 1 := ⟨i.toNat - 1, by omega⟩
  rw [hk, Nat.pow_succ', ← Nat.div_div_eq_div_mul]
  have := Nat.div_le_self (W.toNat / 2) (2 ^ k)
  generalize W.toNat / 2 / 2 ^ k = q at *
  omega
theorem top_step (W j a : Int) (hj : 0 ≤ j) (ha : a = j - 1 + 1) (b : Int) (hb : b = bitI W j) : 2 * top W (j + 1) + b = top W a := by
  subst ha hb
  unfold top bitI
  rw [show (j - 1 + 1).toNat = j.toNat from by omega, show (j + 1).toNat = j.toNat + 1 from by omega]
  have := div_step W.toNat j.toNat
  omega
theorem bit_put_in {v f n x j : Int} (hf : 0 ≤ f) (h1 : f ≤ j) (h2 : j < f + n) : bitI x (j - f) = bitI (put v f n x) j := by
  unfold bitI put
  rw [Int.toNat_natCast, bit_eq_of_testBit (b := putN v.toNat f.toNat n.toNat x.toNat) (j := j.toNat)]
  rw [testBit_putN, if_pos (by omega)]
  congr 1; omega
theorem bit_put_out {v f n x j : Int} (hf : 0 ≤ f) (hn : 0 ≤ n) (hj : 0 ≤ j) (h : j < f ∨ f + n ≤ j) : bitI v j = bitI (put v f n x) j := by
  unfold bitI put
  rw [Int.toNat_natCast, bit_eq_of_testBit (b := putN v.toNat f.toNat n.toNat x.toNat) (j := j.toNat)]
  rw [testBit_putN, if_neg (by omega)]
theorem rsign_no (v n : Int) (h : n < 1 ∨ 64 < n) (w : World) :
    Calls Tryd.prog 25 #[.int .u64 v, .int .i64 n] w fun e w' => e = .returned (.int .i64 0) ∧ w = w' := by
  rcases h with h | h
  · go_enter Tryd.func25, Tryd.ntmps25
    go_wp2
    go_ret
    exact ⟨rfl, rfl⟩
  · go_enter Tryd.func25, Tryd.ntmps25
    go_wp2
    go_ret
    exact ⟨rfl, rfl⟩
def sgnWI (v n : Int) : Int := (sgnW v.toNat n.toNat : Nat)
theorem isU_sgnW (v n : Int) (h : n ≤ 64) : IsU (sgnWI v n) := by
  unfold sgnWI IsU
  have := sgnW_lt v.toNat n.toNat (by omega)
  omega
theorem bit_sgn_in {v n j : Int} (hj : 0 ≤ j) (h0 : 1 ≤ n) (h64 : j < 64) (h1 : j < n) : bitI v j = bitI (sgnWI v n) j := by
  unfold bitI sgnWI
  rw [Int.toNat_natCast, bit_eq_of_testBit (b := sgnW v.toNat n.toNat) (j := j.toNat)]
  rw [testBit_sgnW _ _ _ (by omega) (by omega), if_pos (by omega)]
theorem bit_sgn_out {v n j : Int} (hj : 0 ≤ j) (h0 : 1 ≤ n) (h64 : j < 64) (h1 : n ≤ j) : bitI v (n - 1) = bitI (sgnWI v n) j := by
  unfold bitI sgnWI
  rw [Int.toNat_natCast, bit_eq_of_testBit (b := sgnW v.toNat n.toNat) (j := j.toNat)]
  rw [testBit_sgnW _ _ _ (by omega) (by omega), if_neg (by omega)]
  congr 1; omega
theorem rsign_yes (v n : Int) (hv : IsU v) (h0 : 1 ≤ n) (h1 : n ≤ 64) (w : World) :
    Calls Tryd.prog 25 #[.int .u64 v, .int .i64 n] w fun e w' => e = .returned (.int .i64 (sgn v n)) ∧ w = w' := by
  have hW := isU_sgnW v n h1
  go_enter Tryd.func25, Tryd.ntmps25
  go_wp2
  go_loop [5, 6] (fun out i => ∃ j : Int, -1 ≤ j ∧ j ≤ 63 ∧ i = .int .i64 j ∧ out = .int .u64 (top (sgnWI v n) (j + 1))) (fun _ i => (intOf i + 1).toNat)
  case atStart => exact ⟨63, by omega, by omega, rfl, val_u64 (top_zero hW).symm⟩
  case round =>
    obtain ⟨j, hj0, hj1, rfl, rfl⟩ := hrel
    by_cases hlt : 0 ≤ j
    · obtain ⟨b0, b1⟩ := top_le hW (i := j + 1) (by omega)
      obtain ⟨c0, c1⟩ := bitI_le v j
      obtain ⟨d0, d1⟩ := bitI_le v (n - 1)
      by_cases hin : j < n
      · have hbit := Lib.hid (bit_sgn_in (v := v) hlt h0 (by omega) hin)
        go_wp2_with (go_at_call 38; refine (bit_any _ _ _ (by assumption) (by omega) (by omega)).mono ?_; rintro e w' ⟨rfl, rfl⟩)
        go_round
        case rel => exact ⟨j - 1, by omega, by omega, rfl, val_u64 (top_step _ j _ (by omega) rfl _ hbit.out)⟩
        case measure => simp [intOf]; omega
      · have hbit := Lib.hid (bit_sgn_out (v := v) hlt h0 (by omega) (by omega : n ≤ j))
        go_wp2_with (go_at_call 38; refine (bit_any _ _ _ (by assumption) (by omega) (by omega)).mono ?_; rintro e w' ⟨rfl, rfl⟩)
        go_round
        case rel => exact ⟨j - 1, by omega, by omega, rfl, val_u64 (top_step _ j _ (by omega) rfl _ hbit.out)⟩
        case measure => simp [intOf]; omega
    · obtain rfl : j = -1 := by omega
      go_wp2
      go_ret
      refine ⟨ret_i64 ?_, rfl⟩
      show wrap64 (top (sgnWI v n) 0) = _
      rw [top_all hW, wrap64, sgnWI, sgnW_wrap _ _ (by omega) (by omega), Int.toNat_of_nonneg hv.1, Int.toNat_of_nonneg (by omega)]
theorem fld_eq_of_bits {x n : Int} (hx : IsU x) (hn : 0 ≤ n) (h : ∀ j : Int, n ≤ j → j < 64 → bitI x j = 0) : fld x 0 n = x := by
  obtain ⟨hx0, hx1⟩ := hx
  have : x.toNat < 2 ^ n.toNat := by
    refine Nat.lt_pow_two_of_testBit _ fun i hi => ?_
    by_cases h64 : i < 64
    · have := h i (by omega) (by omega)
      unfold bitI at this
      rw [Int.toNat_natCast] at this
      rw [Nat.testBit_eq_decide_div_mod_eq]
      simp; omega
    · exact testBit_of_lt64 (by omega) (by omega)
  unfold fld fldN
  simp [Nat.mod_eq_of_lt this]
  omega
theorem fld_ne_of_bit {x n j : Int} (hn : 0 ≤ n) (h0 : n ≤ j) (hb : bitI x j = 1) : (fld x 0 n == x) = false := by
  rw [beq_eq_false_iff_ne]
  intro h
  have h1 : bitI (fld x 0 n) j = 0 := by
    have hl := fldN_lt_pow x.toNat 0 n.toNat
    have hp := Nat.pow_le_pow_right (n := 2) (by decide) (show n.toNat ≤ j.toNat by omega)
    unfold bitI fld
    rw [Int.toNat_natCast, Nat.div_eq_of_lt]
    · rfl
    · simp at hl ⊢; omega
  rw [h] at h1
  omega
def ClearTo (x n j : Int) : Prop := ∀ k, n ≤ k → k < j → bitI x k = 0
theorem clear_step {x n j : Int} (h : ClearTo x n j) (hb : (bitI x j == 1) = false) : ClearTo x n (j + 1) := by
  intro k h1 h2
  by_cases e : k = j
  · subst e
    rw [beq_eq_false_iff_ne] at hb
    have := bitI_le x k
    omega
  · exact h k h1 (by omega)
end Go.Proofs.YthmjelkckamkdaaDoor
