/- The walk of the statement BitsSigns: it returns true, and writes nothing that was there. -/
import Derived.Test.YtlknhkinhmeplaaBitsRangeWalk
namespace Go.Proofs.Ytlknhkinhmeplaa.BitsSignsWalk
open Go.RowKit
set_option linter.unusedVariables false
theorem sgn_bd (v n : Int) (h0 : 1 ≤ n) (h1 : n ≤ 64) : -9223372036854775808 ≤ sgn v n ∧ sgn v n ≤ 9223372036854775807 := by
  have hp := pow_le64 (k := n.toNat) (by omega)
  have hm := Nat.mod_lt v.toNat (Nat.two_pow_pos n.toNat)
  unfold sgn
  generalize 2 ^ n.toNat = S at *
  generalize v.toNat % S = m at *
  split <;> omega
/-- what is signed is itself, signed -/
theorem sgn_self (v n : Int) (h0 : 1 ≤ n) (h1 : n ≤ 64) : sgn (sgn v n % 18446744073709551616) n = sgn v n := by
  by_cases h : n = 64
  · subst h
    obtain ⟨b0, b1⟩ := sgn_bd v 64 (by omega) (by omega)
    have := BitsRangeWalk.fits_64 b0 b1
    simpa using this
  · obtain ⟨hh, g0, g1⟩ := BitsRangeWalk.half_of (k := n) h0 (by omega)
    generalize wrap64 (2 ^ (n.toNat - 1)) = hf at *
    have hv : 0 ≤ (v.toNat : Int) := by omega
    have e : sgn v n = sgn (v.toNat : Int) n := by unfold sgn; rw [Int.toNat_natCast]
    obtain ⟨s0, s1⟩ := BitsRangeWalk.sgn_range hv hh g0
    rw [e]
    have := BitsRangeWalk.fits_in hh g0 s0 s1
    simpa using this
theorem rfits_val (x n : Int) (b : Bool) (hb : (sgn (x % 18446744073709551616) n == x) = b) (h0 : 1 ≤ n) (h1 : n ≤ 64) (w : World) :
    Calls Try.prog 19 #[.int .i64 x, .int .i64 n] w fun e w' => e = .returned (.bool b) ∧ w = w' := by
  have h := rfits_yes x n h0 h1 w
  rwa [hb] at h
theorem rfitsU_val (x n : Int) (b : Bool) (hb : (fld x 0 n == x) = b) (hx : IsU x) (h0 : 1 ≤ n) (h1 : n ≤ 64) (w : World) :
    Calls Try.prog 21 #[.int .u64 x, .int .i64 n] w fun e w' => e = .returned (.bool b) ∧ w = w' := by
  have h := rfitsU_yes x n hx h0 h1 w
  rwa [hb] at h
theorem walk (a0 a1 : Int) (w : World) (w0 : (Lit.int .u64 a0).wf = true) (w1 : (Lit.int .i64 a1).wf = true) :
    Calls Try.prog 4 #[.int .u64 a0, .int .i64 a1] w fun e w' => e = .returned (.bool true) ∧ Below w.heap.size w w' := by
  have u0 := isU_of_wf w0
  clear w0 w1
  by_cases hn : 1 ≤ a1 ∧ a1 ≤ 64
  · obtain ⟨h0, h1⟩ := hn
    go_enter Try.func4, Try.ntmps4
    go_wp2_with fail
    refine (awake_any _).mono ?_
    rintro e w1 ⟨rfl, hb⟩
    have Hb := Lib.hid hb
    clear hb
    go_wp2_with fail
    refine (sign_yes _ _ (by assumption) (by omega) (by omega) _).mono ?_
    rintro e w' ⟨rfl, rfl⟩
    go_wp2_with fail
    refine (rsign_yes _ _ (by assumption) (by omega) (by omega) _).mono ?_
    rintro e w' ⟨rfl, rfl⟩
    have hS := sgn_self a0 a1 h0 h1
    have hX : wrap64 a0 % 18446744073709551616 = a0 := by unfold wrap64; have := u0.1; have := u0.2; omega
    have hb : ∀ b, (sgn (wrap64 a0 % 18446744073709551616) a1 == wrap64 a0) = b → (sgn a0 a1 == wrap64 a0) = b := by
      rw [hX]; exact fun _ h => h
    have hU := isU_mod (sgn a0 a1)
    rw [← IntKind.wrap_u64] at hS hU
    generalize sgn a0 a1 = S at *
    generalize wrap64 a0 = X at *
    have F1 : (sgn (S % 18446744073709551616) a1 == S) = true := by rw [← IntKind.wrap_u64, hS]; simp
    have F2 : (sgn (IntKind.u64.wrap S) a1 == S) = true := by rw [hS]; simp
    have HF1 := Lib.hid F1
    clear hS hX F1
    cases hB : (sgn (X % 18446744073709551616) a1 == X)
    all_goals
      have F3 := hb _ hB
      have HB := Lib.hid hB
      clear hB hb
      cases hC : (fld a0 0 a1 == a0)
      all_goals
        have HC := Lib.hid hC
        clear hC
        go_wp2_with fail
        refine (BitsRangeWalk.fits_val X a1 _ HB.out h0 h1 _).mono ?_
        rintro e w' ⟨rfl, rfl⟩
        go_wp2_with fail
        refine (rfits_val X a1 _ HB.out h0 h1 _).mono ?_
        rintro e w' ⟨rfl, rfl⟩
        go_wp2_with fail
        refine (BitsRangeWalk.fitsU_val a0 a1 _ HC.out u0 h0 h1 _).mono ?_
        rintro e w' ⟨rfl, rfl⟩
        go_wp2_with fail
        refine (rfitsU_val a0 a1 _ HC.out u0 h0 h1 _).mono ?_
        rintro e w' ⟨rfl, rfl⟩
        go_wp2_with fail
        refine (BitsRangeWalk.fits_val S a1 true HF1.out h0 h1 _).mono ?_
        rintro e w' ⟨rfl, rfl⟩
        go_wp2_with fail
        refine (sign_yes _ _ hU h0 h1 _).mono ?_
        rintro e w' ⟨rfl, rfl⟩
        go_wp2_with fail
        refine (BitsRangeWalk.fits_val X a1 _ HB.out h0 h1 _).mono ?_
        rintro e w' ⟨rfl, rfl⟩
        go_wp2_with fail
        go_ret
        exact ⟨rfl, Hb.out⟩
  · have hn' : a1 < 1 ∨ 64 < a1 := by omega
    clear hn
    go_enter Try.func4, Try.ntmps4
    go_wp2_with fail
    refine (awake_any _).mono ?_
    rintro e w1 ⟨rfl, hb⟩
    have Hb := Lib.hid hb
    clear hb
    have HN := Lib.hid hn'
    have hd : (decide (a1 < 1) || decide (64 < a1)) = true := by simpa using hn'
    clear hn'
    go_wp2_with fail
    refine (sign_no _ _ HN.out _).mono ?_
    rintro e w' ⟨rfl, rfl⟩
    go_wp2_with fail
    refine (rsign_no _ _ HN.out _).mono ?_
    rintro e w' ⟨rfl, rfl⟩
    go_wp2_with fail
    refine (fits_no _ _ HN.out _).mono ?_
    rintro e w' ⟨rfl, rfl⟩
    go_wp2_with fail
    refine (rfits_no _ _ HN.out _).mono ?_
    rintro e w' ⟨rfl, rfl⟩
    go_wp2_with fail
    refine (fitsU_no _ _ HN.out _).mono ?_
    rintro e w' ⟨rfl, rfl⟩
    go_wp2_with fail
    refine (rfitsU_no _ _ HN.out _).mono ?_
    rintro e w' ⟨rfl, rfl⟩
    clear hd
    rcases HN.out with hn' | hn'
    · go_wp2_with fail
      go_ret
      exact ⟨rfl, Hb.out⟩
    · have h1 : 1 ≤ a1 := by omega
      go_wp2_with fail
      go_ret
      exact ⟨rfl, Hb.out⟩
end Go.Proofs.Ytlknhkinhmeplaa.BitsSignsWalk
