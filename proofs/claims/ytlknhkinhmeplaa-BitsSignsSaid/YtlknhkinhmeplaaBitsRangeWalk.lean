/- The walk of the statement BitsRange: it returns true, and writes nothing that was there. -/
import Derived.Test.YtlknhkinhmeplaaAwake
import Derived.Test.YtlknhkinhmeplaaArgs
namespace Go.Proofs.Ytlknhkinhmeplaa.BitsRangeWalk
open Go.RowKit
set_option linter.unusedVariables false
/-- h is the half of 2^k -/
def Half (k h : Int) : Prop := 1 ≤ k ∧ k ≤ 63 ∧ ((2 ^ k.toNat : Nat) : Int) = 2 * h
theorem half_of {k : Int} (h0 : 1 ≤ k) (h1 : k ≤ 63) : Half k (wrap64 (2 ^ (k.toNat - 1))) ∧ 1 ≤ wrap64 (2 ^ (k.toNat - 1)) ∧ wrap64 (2 ^ (k.toNat - 1)) ≤ 4611686018427387904 := by
  have hp := Nat.pow_le_pow_right (n := 2) (by decide) (show k.toNat - 1 ≤ 62 by omega)
  have hq := Nat.two_pow_pos (k.toNat - 1)
  have e : (2 : Int) ^ (k.toNat - 1) = ((2 ^ (k.toNat - 1) : Nat) : Int) := by simp
  have e2 : 2 ^ k.toNat = 2 * 2 ^ (k.toNat - 1) := by
    obtain ⟨j, hj⟩ : ∃ j, k.toNat = j + 1 := ⟨k.toNat - 1, by omega⟩
    rw [hj, Nat.add_sub_cancel, Nat.pow_succ, Nat.mul_comm]
  rw [e]
  unfold Half wrap64
  rw [e2]
  generalize 2 ^ (k.toNat - 1) = p at *
  omega
theorem sgn_form {v k h : Int} (hv : 0 ≤ v) (hh : Half k h) : sgn v k = if 2 * (v % (2 * h)) < 2 * h then v % (2 * h) else v % (2 * h) - 2 * h := by
  obtain ⟨_, _, hS⟩ := hh
  unfold sgn
  have e : ((v.toNat % 2 ^ k.toNat : Nat) : Int) = v % (2 * h) := by
    rw [Int.natCast_emod, hS, Int.toNat_of_nonneg hv]
  generalize v.toNat % 2 ^ k.toNat = m at *
  generalize 2 ^ k.toNat = S at *
  rw [← e]
  by_cases hc : 2 * m < S
  · rw [if_pos hc, if_pos (by omega)]
  · rw [if_neg hc, if_neg (by omega), hS]
theorem sgn_range {v k h : Int} (hv : 0 ≤ v) (hh : Half k h) (h0 : 1 ≤ h) : -h ≤ sgn v k ∧ sgn v k < h := by
  rw [sgn_form hv hh]
  have h1 := Int.emod_nonneg v (show 2 * h ≠ 0 by omega)
  have h2 := Int.emod_lt_of_pos v (show 0 < 2 * h by omega)
  split <;> omega
theorem dvd_of {k h : Int} (hh : Half k h) : 2 * h ∣ 18446744073709551616 := by
  obtain ⟨h0, h1, hS⟩ := hh
  rw [← hS]
  refine ⟨((2 ^ (64 - k.toNat) : Nat) : Int), ?_⟩
  rw [← Int.natCast_mul, ← Nat.pow_add, show k.toNat + (64 - k.toNat) = 64 from by omega]
  rfl
theorem fits_in {x k h : Int} (hh : Half k h) (h0 : 1 ≤ h) (h1 : -h ≤ x) (h2 : x < h) : (sgn (x % 18446744073709551616) k == x) = true := by
  rw [beq_iff_eq, sgn_form (Int.emod_nonneg _ (by decide)) hh, Int.emod_emod_of_dvd _ (dvd_of hh)]
  by_cases hx : 0 ≤ x
  · rw [Int.emod_eq_of_lt hx (by omega), if_pos (by omega)]
  · have e : x % (2 * h) = x + 2 * h := by
      have h3 : (x + 2 * h) % (2 * h) = x % (2 * h) := Int.add_emod_right x (2 * h)
      rw [← h3, Int.emod_eq_of_lt (by omega) (by omega)]
    rw [e, if_neg (by omega)]
    omega
theorem fits_out {x k h : Int} (hh : Half k h) (h0 : 1 ≤ h) (hc : x < -h ∨ h ≤ x) : (sgn (x % 18446744073709551616) k == x) = false := by
  rw [beq_eq_false_iff_ne]
  intro e
  have := sgn_range (v := x % 18446744073709551616) (Int.emod_nonneg _ (by decide)) hh h0
  omega
theorem fits_64 {x : Int} (h1 : -9223372036854775808 ≤ x) (h2 : x ≤ 9223372036854775807) : (sgn (x % 18446744073709551616) 64 == x) = true := by
  rw [beq_iff_eq]
  unfold sgn
  rw [show (64 : Int).toNat = 64 from rfl, show (2 : Nat) ^ 64 = 18446744073709551616 from rfl]
  split <;> omega
theorem fitsU_form {v k h : Int} (hv : IsU v) (hh : Half k h) : fld v 0 k = v % (2 * h) := by
  obtain ⟨_, _, hS⟩ := hh
  obtain ⟨v0, _⟩ := hv
  unfold fld fldN
  rw [Int.natCast_emod, hS]
  simp
  rw [Int.max_eq_left v0]
theorem fitsU_in {v k h : Int} (hv : IsU v) (hh : Half k h) (h1 : v < 2 * h) : (fld v 0 k == v) = true := by
  rw [beq_iff_eq, fitsU_form hv hh]
  exact Int.emod_eq_of_lt hv.1 h1
theorem fitsU_out {v k h : Int} (hv : IsU v) (hh : Half k h) (h0 : 1 ≤ h) (h1 : 2 * h ≤ v) : (fld v 0 k == v) = false := by
  rw [beq_eq_false_iff_ne, fitsU_form hv hh]
  have := Int.emod_lt_of_pos v (show 0 < 2 * h by omega)
  omega
theorem fitsU_64 {v : Int} (hv : IsU v) : (fld v 0 64 == v) = true := by
  obtain ⟨v0, v1⟩ := hv
  rw [beq_iff_eq]
  unfold fld fldN
  rw [show (64 : Int).toNat = 64 from rfl, show (2 : Nat) ^ 64 = 18446744073709551616 from rfl]
  simp
  omega
theorem dbl {h : Int} (h0 : 1 ≤ h) (h1 : h ≤ 4611686018427387904) : IntKind.u64.wrap (h * 2) = 2 * h := by
  rw [IntKind.wrap_u64]; omega
theorem fits_val (x n : Int) (b : Bool) (hb : (sgn (x % 18446744073709551616) n == x) = b) (h0 : 1 ≤ n) (h1 : n ≤ 64) (w : World) :
    Calls Try.prog 18 #[.int .i64 x, .int .i64 n] w fun e w' => e = .returned (.bool b) ∧ w = w' := by
  have h := fits_yes x n h0 h1 w
  rwa [hb] at h
theorem fitsU_val (x n : Int) (b : Bool) (hb : (fld x 0 n == x) = b) (hx : IsU x) (h0 : 1 ≤ n) (h1 : n ≤ 64) (w : World) :
    Calls Try.prog 20 #[.int .u64 x, .int .i64 n] w fun e w' => e = .returned (.bool b) ∧ w = w' := by
  have h := fitsU_yes x n hx h0 h1 w
  rwa [hb] at h
theorem walk (a0 a1 : Int) (w : World) (w0 : (Lit.int .u64 a0).wf = true) (w1 : (Lit.int .u8 a1).wf = true) :
    Calls Try.prog 7 #[.int .u64 a0, .int .u8 a1] w fun e w' => e = .returned (.bool true) ∧ Below w.heap.size w w' := by
  have u0 := isU_of_wf w0
  obtain ⟨m0, m1⟩ := bounds_u8 w1
  clear w0 w1
  go_enter Try.func7, Try.ntmps7
  go_wp2_with fail
  refine (awake_any _).mono ?_
  rintro e w1 ⟨rfl, hb⟩
  have Hb := Lib.hid hb
  clear hb
  go_wp2_with fail
  refine (sign_yes _ _ (by assumption) (by omega) (by omega) _).mono ?_
  rintro e w' ⟨rfl, rfl⟩
  have hK0 : 1 ≤ 1 + a1 % 63 := by omega
  have hK1 : 1 + a1 % 63 ≤ 63 := by omega
  generalize 1 + a1 % 63 = K at *
  obtain ⟨hh, g0, g1⟩ := half_of hK0 hK1
  generalize wrap64 (2 ^ (K.toNat - 1)) = h at *
  obtain ⟨s0, s1⟩ := sgn_range u0.1 hh g0
  generalize sgn a0 K = s at *
  have HH := Lib.hid hh
  clear hh
  have x0 : -9223372036854775808 ≤ wrap64 a0 := by unfold wrap64; omega
  have x1 : wrap64 a0 ≤ 9223372036854775807 := by unfold wrap64; omega
  go_wp2_with fail
  generalize wrap64 a0 = X at *
  have k64 : K ≤ 64 := by omega
  have F3 := Lib.hid (fits_64 x0 x1)
  have F4 := Lib.hid (fitsU_64 u0)
  have hX : (-h ≤ X ∧ X < h) ∨ X < -h ∨ (-h ≤ X ∧ h ≤ X) := by omega
  have hV : (decide (a0 < h * 2) = true ∧ (fld a0 0 K == a0) = true) ∨ (decide (a0 < h * 2) = false ∧ (fld a0 0 K == a0) = false) := by
    by_cases t : a0 < h * 2
    · exact .inl ⟨by simpa using t, fitsU_in u0 HH.out (by omega)⟩
    · exact .inr ⟨by simpa using t, fitsU_out u0 HH.out g0 (by omega)⟩
  rcases hX with ⟨t1, t2⟩ | t1 | ⟨t1, t2⟩
  · refine (fits_val X K true (fits_in HH.out g0 t1 t2) hK0 k64 _).mono ?_
    rintro e w' ⟨rfl, rfl⟩
    go_wp2_with fail
    rcases hV with ⟨t3, t4⟩ | ⟨t3, t4⟩
    all_goals
      refine (fitsU_val a0 K _ t4 u0 hK0 k64 _).mono ?_
      rintro e w' ⟨rfl, rfl⟩
      clear t4
      go_wp2_with fail
      refine (fits_val X 64 true F3.out (by omega) (by omega) _).mono ?_
      rintro e w' ⟨rfl, rfl⟩
      go_wp2_with fail
      refine (fitsU_val a0 64 true F4.out u0 (by omega) (by omega) _).mono ?_
      rintro e w' ⟨rfl, rfl⟩
      go_wp2_with fail
      go_ret
      exact ⟨rfl, Hb.out⟩
  · refine (fits_val X K false (fits_out HH.out g0 (.inl t1)) hK0 k64 _).mono ?_
    rintro e w' ⟨rfl, rfl⟩
    go_wp2_with fail
    rcases hV with ⟨t3, t4⟩ | ⟨t3, t4⟩
    all_goals
      refine (fitsU_val a0 K _ t4 u0 hK0 k64 _).mono ?_
      rintro e w' ⟨rfl, rfl⟩
      clear t4
      go_wp2_with fail
      refine (fits_val X 64 true F3.out (by omega) (by omega) _).mono ?_
      rintro e w' ⟨rfl, rfl⟩
      go_wp2_with fail
      refine (fitsU_val a0 64 true F4.out u0 (by omega) (by omega) _).mono ?_
      rintro e w' ⟨rfl, rfl⟩
      go_wp2_with fail
      go_ret
      exact ⟨rfl, Hb.out⟩
  · have t5 : decide (X < h) = false := by simpa using t2
    refine (fits_val X K false (fits_out HH.out g0 (.inr t2)) hK0 k64 _).mono ?_
    rintro e w' ⟨rfl, rfl⟩
    go_wp2_with fail
    rcases hV with ⟨t3, t4⟩ | ⟨t3, t4⟩
    all_goals
      refine (fitsU_val a0 K _ t4 u0 hK0 k64 _).mono ?_
      rintro e w' ⟨rfl, rfl⟩
      clear t4
      go_wp2_with fail
      refine (fits_val X 64 true F3.out (by omega) (by omega) _).mono ?_
      rintro e w' ⟨rfl, rfl⟩
      go_wp2_with fail
      refine (fitsU_val a0 64 true F4.out u0 (by omega) (by omega) _).mono ?_
      rintro e w' ⟨rfl, rfl⟩
      go_wp2_with fail
      go_ret
      exact ⟨rfl, Hb.out⟩
end Go.Proofs.Ytlknhkinhmeplaa.BitsRangeWalk
