/- The walk of the statement BitsOnes: it returns true, and writes nothing that was there. -/
import Derived.Test.YtlknhkinhmeplaaAwake
import Derived.Test.YtlknhkinhmeplaaArgs
namespace Go.Proofs.Ytlknhkinhmeplaa.BitsOnesWalk
open Go.RowKit
set_option linter.unusedVariables false
theorem pow_int (k : Int) : (2 : Int) ^ k.toNat = ((2 ^ k.toNat : Nat) : Int) := by simp
theorem pow_lt {k : Int} (h : k ≤ 63) : 2 ^ k.toNat ≤ 9223372036854775808 := by
  have := Nat.pow_le_pow_right (n := 2) (by decide) (show k.toNat ≤ 63 by omega)
  simpa using this
theorem wrap_pow {k : Int} (h : k ≤ 63) : IntKind.u64.wrap (2 ^ k.toNat) = ((2 ^ k.toNat : Nat) : Int) := by
  have := pow_lt h
  rw [pow_int, IntKind.wrap_u64]
  generalize 2 ^ k.toNat = p at *
  omega
theorem d0 {k : Int} (h : k ≤ 63) : ¬ IntKind.u64.wrap (2 ^ k.toNat) = 0 := by
  rw [wrap_pow h]
  have := Nat.two_pow_pos k.toNat
  omega
theorem e1 {v k : Int} (hv : IsU v) (h : k ≤ 63) : (fld v 0 k == v.tmod (IntKind.u64.wrap (2 ^ k.toNat))) = true := by
  obtain ⟨v0, v1⟩ := hv
  rw [wrap_pow h, Int.tmod_eq_emod_of_nonneg v0, beq_iff_eq]
  obtain ⟨v, rfl⟩ := Int.eq_ofNat_of_zero_le v0
  simp [fld, fldN]
theorem putN_low (w k v : Nat) : putN w 0 k v % 2 ^ k = v % 2 ^ k ∧ putN w 0 k v / 2 ^ k = w / 2 ^ k := by
  constructor
  · refine Nat.eq_of_testBit_eq fun i => ?_
    rw [Nat.testBit_mod_two_pow, Nat.testBit_mod_two_pow, testBit_putN]
    by_cases h : i < k
    · rw [if_pos (by omega)]; rfl
    · simp [h]
  · refine Nat.eq_of_testBit_eq fun i => ?_
    rw [Nat.testBit_div_two_pow, Nat.testBit_div_two_pow, testBit_putN, if_neg (by omega)]
theorem e2 (v w k : Int) : (sgn (put w 0 k v) k == sgn v k) = true := by
  rw [beq_iff_eq]
  have := (putN_low w.toNat k.toNat v.toNat).1
  simp only [sgn, put, Int.toNat_natCast, Int.toNat_zero, this]
theorem e3 {v w k : Int} (hw : IsU w) : (put w 0 k v / 2 ^ k.toNat == w / 2 ^ k.toNat) = true := by
  obtain ⟨v0, v1⟩ := hw
  rw [beq_iff_eq]
  have := (putN_low w.toNat k.toNat v.toNat).2
  obtain ⟨w, rfl⟩ := Int.eq_ofNat_of_zero_le v0
  rw [Int.toNat_natCast] at this
  rw [pow_int, put, ← Int.natCast_ediv, ← Int.natCast_ediv, Int.toNat_zero, Int.toNat_natCast, this]
theorem walk (a0 a1 a2 : Int) (w : World) (w0 : (Lit.int .u64 a0).wf = true) (w1 : (Lit.int .u64 a1).wf = true) (w2 : (Lit.int .u8 a2).wf = true) :
    Calls Try.prog 10 #[.int .u64 a0, .int .u64 a1, .int .u8 a2] w fun e w' => e = .returned (.bool true) ∧ Below w.heap.size w w' := by
  have u0 := isU_of_wf w0
  have u1 := isU_of_wf w1
  obtain ⟨n0, n1⟩ := bounds_u8 w2
  clear w0 w1 w2
  have p1 := isU_put (f := 0) (n := 1 + a2 % 63) (x := a0) u1 (by omega) (by omega) (by omega)
  have D0 := d0 (k := 1 + a2 % 63) (by omega)
  have E1 := e1 (k := 1 + a2 % 63) u0 (by omega)
  have E2 := e2 a0 a1 (1 + a2 % 63)
  have E3 := Lib.hid (e3 (v := a0) (k := 1 + a2 % 63) u1)
  go_enter Try.func10, Try.ntmps10
  go_wp2_with fail
  refine (awake_any _).mono ?_
  rintro e w1 ⟨rfl, hb⟩
  have Hb := Lib.hid hb
  clear hb
  go_wp2_with (first | (go_at_call 14; refine (put_yes _ _ _ _ (by assumption) (by omega) (by omega) (by omega) (by assumption) _).mono ?_; rintro e w' ⟨rfl, _, rfl⟩) | (go_at_call 12; refine (field_yes _ _ _ (by assumption) (by omega) (by omega) (by omega) _).mono ?_; rintro e w' ⟨rfl, _, rfl⟩) | (go_at_call 16; refine (sign_yes _ _ (by assumption) (by omega) (by omega) _).mono ?_; rintro e w' ⟨rfl, rfl⟩))
  go_ret
  exact ⟨ret_bool E3.out, below_drewN Hb.out _⟩
end Go.Proofs.Ytlknhkinhmeplaa.BitsOnesWalk
