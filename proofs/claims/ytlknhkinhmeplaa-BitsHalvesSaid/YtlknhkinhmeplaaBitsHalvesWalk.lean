/- The walk of the statement BitsHalves: it returns true, and writes nothing that was there. -/
import Derived.Test.YtlknhkinhmeplaaAwake
import Derived.Test.YtlknhkinhmeplaaArgs
namespace Go.Proofs.Ytlknhkinhmeplaa.BitsHalvesWalk
open Go.RowKit
set_option linter.unusedVariables false
theorem halves {v k : Int} (hv : IsU v) (h0 : 0 ≤ k) (h1 : k ≤ 64) : (put (fld v 0 k) k (64 - k) (fld v k (64 - k)) == v) = true := by
  obtain ⟨v0, v1⟩ := hv
  rw [beq_iff_eq]
  have : putN (fldN v.toNat 0 k.toNat) k.toNat (64 - k).toNat (fldN v.toNat k.toNat (64 - k).toNat) = v.toNat := by
    refine Nat.eq_of_testBit_eq fun i => ?_
    rw [testBit_putN, testBit_fldN, testBit_fldN]
    by_cases h64 : i < 64
    · by_cases h : k.toNat ≤ i
      · rw [if_pos (by omega)]
        have e1 : i - k.toNat < (64 - k).toNat := by omega
        have e2 : k.toNat + (i - k.toNat) = i := by omega
        simp [e1, e2]
      · rw [if_neg (by omega)]
        have e1 : i < k.toNat := by omega
        simp [e1]
    · have := testBit_of_lt64 (x := v.toNat) (by omega) (i := i) (by omega)
      rw [if_neg (by omega)]
      simp [this]
  simp only [put, fld, Int.toNat_natCast, Int.toNat_zero]
  rw [this]
  omega
theorem within_ {v k m : Int} (h1 : k ≤ 64) (h2 : m ≤ 64 - k) : (fld (fld v k (64 - k)) 0 m == fld v k m) = true := by
  rw [beq_iff_eq]
  simp only [fld, Int.toNat_natCast, Int.toNat_zero]
  congr 1
  refine Nat.eq_of_testBit_eq fun i => ?_
  rw [testBit_fldN, testBit_fldN, testBit_fldN]
  by_cases h : i < m.toNat
  · have e : i < (64 - k).toNat := by omega
    simp [h, e]
  · simp [h]
theorem walk (a0 a1 a2 : Int) (w : World) (w0 : (Lit.int .u64 a0).wf = true) (w1 : (Lit.int .u8 a1).wf = true) (w2 : (Lit.int .u8 a2).wf = true) :
    Calls Try.prog 6 #[.int .u64 a0, .int .u8 a1, .int .u8 a2] w fun e w' => e = .returned (.bool true) ∧ Below w.heap.size w w' := by
  have u0 := isU_of_wf w0
  obtain ⟨m0, m1⟩ := bounds_u8 w1
  obtain ⟨n0, n1⟩ := bounds_u8 w2
  clear w0 w1 w2
  have p1 := isU_fld a0 0 (a1 % 65) (by omega)
  have p2 := isU_fld a0 (a1 % 65) (64 - a1 % 65) (by omega)
  have E1 := halves (k := a1 % 65) u0 (by omega) (by omega)
  have q0 : 0 ≤ a2 % (64 - a1 % 65 + 1) := Int.emod_nonneg _ (by omega)
  have q1 : a2 % (64 - a1 % 65 + 1) < 64 - a1 % 65 + 1 := Int.emod_lt_of_pos _ (by omega)
  have E2 := within_ (v := a0) (k := a1 % 65) (m := a2 % (64 - a1 % 65 + 1)) (by omega) (by omega)
  go_enter Try.func6, Try.ntmps6
  go_wp2_with fail
  refine (awake_any _).mono ?_
  rintro e w1 ⟨rfl, hb⟩
  have Hb := Lib.hid hb
  clear hb
  go_wp2_with (first | (go_at_call 14; refine (put_yes _ _ _ _ (by assumption) (by omega) (by omega) (by omega) (by assumption) _).mono ?_; rintro e w' ⟨rfl, _, rfl⟩) | (go_at_call 12; refine (field_yes _ _ _ (by assumption) (by omega) (by omega) (by omega) _).mono ?_; rintro e w' ⟨rfl, _, rfl⟩))
  go_ret
  exact ⟨rfl, below_drewN Hb.out _⟩
end Go.Proofs.Ytlknhkinhmeplaa.BitsHalvesWalk
