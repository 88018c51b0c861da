/- The walk of the statement AluShifts: it returns true, and writes nothing that was there. Condition: the table of package alu reads as it should. -/
import Derived.Test.YtndaphdfhlefoaaDoorAluLit
namespace Go.Proofs.YtndaphdfhlefoaaDoor.AluShiftsWalk
open Go.RowKit
set_option linter.unusedVariables false
theorem pow_u64 {k : Nat} (h : k ≤ 63) : (0 : Int) < 2 ^ k ∧ (2 : Int) ^ k < 18446744073709551616 := by
  refine ⟨Int.pow_pos (by decide), ?_⟩
  have h1 := Nat.pow_le_pow_right (n := 2) (by decide) h
  have e : (2 : Int) ^ k = ((2 ^ k : Nat) : Int) := by simp
  rw [e]; omega
theorem pow_i64 {k : Nat} (h : k ≤ 62) : (0 : Int) < 2 ^ k ∧ (2 : Int) ^ k < 9223372036854775808 := by
  refine ⟨Int.pow_pos (by decide), ?_⟩
  have h1 := Nat.pow_le_pow_right (n := 2) (by decide) h
  have e : (2 : Int) ^ k = ((2 ^ k : Nat) : Int) := by simp
  rw [e]; omega
theorem wrap_pow {k : Nat} (h : k ≤ 63) : IntKind.u64.wrap (2 ^ k) = 2 ^ k := by
  rw [wrapU]; unfold modU; exact Int.emod_eq_of_lt (Int.le_of_lt (pow_u64 h).1) (pow_u64 h).2
theorem mod_k {k : Nat} (h : k < 64) : ((k : Int) % 64).toNat = k := by omega
theorem up_down {a : Int} (k : Nat) (h : k < 64) (h0 : ¬ k = 0) : srlI (sllI a k) k = a % IntKind.u64.wrap (2 ^ (64 - k)) := by
  rw [wrap_pow (by omega)]
  unfold srlI sllI modU
  rw [mod_k h]
  have e : (18446744073709551616 : Int) = 2 ^ (64 - k) * 2 ^ k := by rw [← Int.pow_add, show 64 - k + k = 64 from by omega]; rfl
  have hp := (pow_u64 (k := k) (by omega)).1
  rw [e, Int.mul_comm a, Int.mul_comm (2 ^ (64 - k)), Int.mul_emod_mul_of_pos _ _ hp, Int.mul_ediv_cancel_left _ (by omega)]
theorem up_down0 {a : Int} (h : IsU a) : srlI (sllI a 0) 0 = a := by
  obtain ⟨_, _⟩ := h
  unfold srlI sllI modU
  rw [show ((0 : Int) % 64).toNat = 0 from rfl, Int.pow_zero, Int.mul_one, Int.ediv_one]
  omega
theorem sar_more (a : Int) (k : Nat) : sraI a (k + 64) = sraI a k := by
  unfold sraI; rw [show ((k : Int) + 64) % 64 = (k : Int) % 64 from by omega]
theorem sar_one (a : Int) {k : Nat} (h : k < 64) : sraI a (modU k) = sraI a k := by
  unfold modU; rw [show ((k : Int)) % 18446744073709551616 = (k : Int) from by omega]
theorem div_bd (s : Int) (k : Nat) (h : -9223372036854775808 ≤ s ∧ s < 9223372036854775808) : -9223372036854775808 ≤ s / 2 ^ k ∧ s / 2 ^ k < 9223372036854775808 := by
  have hp : (0 : Int) < 2 ^ k := Int.pow_pos (by decide)
  refine ⟨?_, ?_⟩
  · refine Int.le_ediv_of_mul_le hp ?_
    have : 9223372036854775808 * 1 ≤ 9223372036854775808 * (2 : Int) ^ k := Int.mul_le_mul_of_nonneg_left (by omega) (by decide)
    rw [Int.neg_mul]; omega
  · by_cases h3 : s < 0
    · have := Int.ediv_neg_of_neg_of_pos h3 hp; omega
    · exact Int.lt_of_le_of_lt (Int.ediv_le_self _ (by omega)) h.2
theorem sar_floor (a : Int) {k : Nat} (h : k < 64) : wrap64 (sraI a k) = wrap64 a / 2 ^ k := by
  have hb := div_bd (wrap64 a) k (w64_bd a)
  unfold sraI
  rw [mod_k h]
  generalize wrap64 a / 2 ^ k = q at *
  unfold modU wrap64; omega
theorem floor_le (a : Int) {k : Nat} (h : k ≤ 62) : wrap64 (wrap64 a / 2 ^ k * wrap64 (2 ^ k)) ≤ wrap64 a := by
  obtain ⟨p0, p1⟩ := pow_i64 h
  have e : wrap64 (2 ^ k) = 2 ^ k := by unfold wrap64; omega
  have hb := w64_bd a
  have h1 := Int.ediv_mul_le (wrap64 a) (b := 2 ^ k) (by omega)
  have h2 := Int.lt_ediv_add_one_mul_self (wrap64 a) p0
  rw [Int.add_mul, Int.one_mul] at h2
  rw [e]
  have h0 : -9223372036854775808 ≤ wrap64 a / 2 ^ k * 2 ^ k := by
    have e3 : (9223372036854775808 : Int) = 2 ^ (63 - k) * 2 ^ k := by rw [← Int.pow_add, show 63 - k + k = 63 from by omega]; rfl
    have h4 : -(2 ^ (63 - k)) ≤ wrap64 a / 2 ^ k := Int.le_ediv_of_mul_le p0 (by rw [Int.neg_mul, ← e3]; exact hb.1)
    have h5 := Int.mul_le_mul_of_nonneg_right h4 (Int.le_of_lt p0)
    rw [Int.neg_mul, ← e3] at h5
    exact h5
  generalize wrap64 a / 2 ^ k * 2 ^ k = q at *
  have h3 : -9223372036854775808 ≤ q := h0
  have e2 : wrap64 q = q := by unfold wrap64; omega
  rw [e2]; exact h1
set_option maxHeartbeats 1000000 in
theorem walk_mid (a n : Int) (k : Nat) (w : World) (HA : Hid (IsU a)) (n0 : 0 ≤ n) (n1 : n ≤ 255) (hk : n % 64 = k) (hz : 0 < k) (k1 : k ≤ 62) (HT : Hid (TabA w)) :
    Calls Tryd.prog 7 #[.int .u64 a, .int .u8 n] w fun e w' => e = .returned (.bool true) ∧ Below w.heap.size w w' := by
  obtain ⟨a0, a1⟩ := HA.out
  have US := Lib.hid (show IsU (sllI a k) from isU_modU _)
  have R1 := Lib.hid (sar_more a k)
  have R2 := Lib.hid (sar_one a (k := k) (by omega))
  have F2 := Lib.hid (beq_iff_eq.2 (sar_floor a (k := k) (by omega)))
  have k2 : k < 64 := by omega
  have F1 := Lib.hid (beq_iff_eq.2 (up_down (a := a) k (by omega) (by omega)))
  have F0 := Lib.hid (show ¬ IntKind.u64.wrap (2 ^ (64 - k)) = 0 by rw [wrap_pow (by omega)]; have := (pow_u64 (k := 64 - k) (by omega)).1; omega)
  have F3 := Lib.hid (decide_eq_true (floor_le a k1))
  have z1 : 0 < k := hz
  have z2 : decide ((62 : Int) < (k : Int)) = false := by simp; omega
  go_enter Tryd.func7, Tryd.ntmps7
  go_wp2_with fail
  refine (awakeA_any _ HT.out).mono ?_
  rintro e w1 ⟨rfl, hb⟩
  have H1 := Lib.hid hb
  clear hb HT
  go_wp2_with fail
  refine (sll_call _ _ HA.out ⟨by omega, by omega⟩ _).mono ?_
  rintro e w2 ⟨rfl, hb⟩
  have H2 := Lib.hid (stepA H1.out hb)
  clear hb H1
  go_wp2_with fail
  refine (srl_call _ _ US.out ⟨by omega, by omega⟩ _).mono ?_
  rintro e w3 ⟨rfl, hb⟩
  have H3 := Lib.hid (stepA H2.out hb)
  clear hb H2
  go_wp2_with fail
  refine (sra_call _ _ HA.out ⟨by omega, by omega⟩ _).mono ?_
  rintro e w4 ⟨rfl, hb⟩
  have H4 := Lib.hid (stepA H3.out hb)
  clear hb H3
  go_wp2_with fail
  refine (two_as (sra_call _ _ HA.out ⟨by omega, by omega⟩ _) R1.out).mono ?_
  rintro e w5 ⟨rfl, hb⟩
  have H5 := Lib.hid (stepA H4.out hb)
  clear hb H4
  go_wp2_with fail
  refine (one_as (srai_call _ _ HA.out _ H5.out.1) R2.out).mono ?_
  rintro e w6 ⟨rfl, hb⟩
  have H6 := Lib.hid (stepA H5.out hb)
  clear hb H5
  have f1 := F1.out
  have f0 := F0.out
  have f2 := F2.out
  have f3 := F3.out
  go_wp2
  go_ret
  exact ⟨rfl, H6.out.2⟩
set_option maxHeartbeats 1000000 in
theorem walk_top (a n : Int) (k : Nat) (w : World) (HA : Hid (IsU a)) (n0 : 0 ≤ n) (n1 : n ≤ 255) (hk : n % 64 = k) (hz : 62 < k) (k1 : k < 64) (HT : Hid (TabA w)) :
    Calls Tryd.prog 7 #[.int .u64 a, .int .u8 n] w fun e w' => e = .returned (.bool true) ∧ Below w.heap.size w w' := by
  obtain ⟨a0, a1⟩ := HA.out
  have US := Lib.hid (show IsU (sllI a k) from isU_modU _)
  have R1 := Lib.hid (sar_more a k)
  have R2 := Lib.hid (sar_one a (k := k) (by omega))
  have F2 := Lib.hid (beq_iff_eq.2 (sar_floor a (k := k) (by omega)))
  have k2 : k < 64 := by omega
  have F1 := Lib.hid (beq_iff_eq.2 (up_down (a := a) k (by omega) (by omega)))
  have F0 := Lib.hid (show ¬ IntKind.u64.wrap (2 ^ (64 - k)) = 0 by rw [wrap_pow (by omega)]; have := (pow_u64 (k := 64 - k) (by omega)).1; omega)
  have z1 : 0 < k := by omega
  have z2 : decide ((62 : Int) < (k : Int)) = true := by simp; omega
  go_enter Tryd.func7, Tryd.ntmps7
  go_wp2_with fail
  refine (awakeA_any _ HT.out).mono ?_
  rintro e w1 ⟨rfl, hb⟩
  have H1 := Lib.hid hb
  clear hb HT
  go_wp2_with fail
  refine (sll_call _ _ HA.out ⟨by omega, by omega⟩ _).mono ?_
  rintro e w2 ⟨rfl, hb⟩
  have H2 := Lib.hid (stepA H1.out hb)
  clear hb H1
  go_wp2_with fail
  refine (srl_call _ _ US.out ⟨by omega, by omega⟩ _).mono ?_
  rintro e w3 ⟨rfl, hb⟩
  have H3 := Lib.hid (stepA H2.out hb)
  clear hb H2
  go_wp2_with fail
  refine (sra_call _ _ HA.out ⟨by omega, by omega⟩ _).mono ?_
  rintro e w4 ⟨rfl, hb⟩
  have H4 := Lib.hid (stepA H3.out hb)
  clear hb H3
  go_wp2_with fail
  refine (two_as (sra_call _ _ HA.out ⟨by omega, by omega⟩ _) R1.out).mono ?_
  rintro e w5 ⟨rfl, hb⟩
  have H5 := Lib.hid (stepA H4.out hb)
  clear hb H4
  go_wp2_with fail
  refine (one_as (srai_call _ _ HA.out _ H5.out.1) R2.out).mono ?_
  rintro e w6 ⟨rfl, hb⟩
  have H6 := Lib.hid (stepA H5.out hb)
  clear hb H5
  have f1 := F1.out
  have f0 := F0.out
  have f2 := F2.out
  go_wp2
  go_ret
  exact ⟨rfl, H6.out.2⟩
set_option maxHeartbeats 1000000 in
theorem walk_zero (a n : Int) (w : World) (HA : Hid (IsU a)) (n0 : 0 ≤ n) (n1 : n ≤ 255) (hk : n % 64 = 0) (HT : Hid (TabA w)) :
    Calls Tryd.prog 7 #[.int .u64 a, .int .u8 n] w fun e w' => e = .returned (.bool true) ∧ Below w.heap.size w w' := by
  obtain ⟨a0, a1⟩ := HA.out
  have US := Lib.hid (show IsU (sllI a 0) from isU_modU _)
  have R1 := Lib.hid (show sraI a 64 = sraI a 0 from sar_more a 0)
  have R2 := Lib.hid (show sraI a (modU 0) = sraI a 0 from sar_one a (k := 0) (by omega))
  have F2 := Lib.hid (show (wrap64 (sraI a 0) == wrap64 a) = true from beq_iff_eq.2 ((sar_floor a (k := 0) (by omega)).trans (by rw [Int.pow_zero, Int.ediv_one])))
  have F1 := Lib.hid (beq_iff_eq.2 (up_down0 HA.out))
  go_enter Tryd.func7, Tryd.ntmps7
  go_wp2_with fail
  refine (awakeA_any _ HT.out).mono ?_
  rintro e w1 ⟨rfl, hb⟩
  have H1 := Lib.hid hb
  clear hb HT
  go_wp2_with fail
  refine (sll_call _ _ HA.out ⟨by omega, by omega⟩ _).mono ?_
  rintro e w2 ⟨rfl, hb⟩
  have H2 := Lib.hid (stepA H1.out hb)
  clear hb H1
  go_wp2_with fail
  refine (srl_call _ _ US.out ⟨by omega, by omega⟩ _).mono ?_
  rintro e w3 ⟨rfl, hb⟩
  have H3 := Lib.hid (stepA H2.out hb)
  clear hb H2
  go_wp2_with fail
  refine (sra_call _ _ HA.out ⟨by omega, by omega⟩ _).mono ?_
  rintro e w4 ⟨rfl, hb⟩
  have H4 := Lib.hid (stepA H3.out hb)
  clear hb H3
  go_wp2_with fail
  refine (two_as (sra_call _ _ HA.out ⟨by omega, by omega⟩ _) R1.out).mono ?_
  rintro e w5 ⟨rfl, hb⟩
  have H5 := Lib.hid (stepA H4.out hb)
  clear hb H4
  go_wp2_with fail
  refine (one_as (srai_call _ _ HA.out _ H5.out.1) R2.out).mono ?_
  rintro e w6 ⟨rfl, hb⟩
  have H6 := Lib.hid (stepA H5.out hb)
  clear hb H5
  have f1 := F1.out
  have f2 := F2.out
  have f3 : decide (wrap64 (wrap64 a) ≤ wrap64 a) = true := by rw [decide_eq_true_iff]; unfold wrap64; omega
  go_wp2
  go_ret
  exact ⟨rfl, H6.out.2⟩
theorem walk (a0 a1 : Int) (w : World) (w0 : (Lit.int .u64 a0).wf = true) (w1 : (Lit.int .u8 a1).wf = true) (hT : TabA w) :
    Calls Tryd.prog 7 #[.int .u64 a0, .int .u8 a1] w fun e w' => e = .returned (.bool true) ∧ Below w.heap.size w w' := by
  have bn := bounds_u8 w1
  obtain ⟨k, hk⟩ := Int.eq_ofNat_of_zero_le (show 0 ≤ a1 % 64 by omega)
  by_cases h0 : k = 0
  · subst h0; exact walk_zero a0 a1 w (Lib.hid (isU_of_wf w0)) (by omega) (by omega) hk (Lib.hid hT)
  · by_cases h1 : k ≤ 62
    · exact walk_mid a0 a1 k w (Lib.hid (isU_of_wf w0)) (by omega) (by omega) hk (by omega) h1 (Lib.hid hT)
    · exact walk_top a0 a1 k w (Lib.hid (isU_of_wf w0)) (by omega) (by omega) hk (by omega) (by omega) (Lib.hid hT)
end Go.Proofs.YtndaphdfhlefoaaDoor.AluShiftsWalk
