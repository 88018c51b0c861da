/- The walk of the statement AluMul: it returns true, and writes nothing that was there. Condition: the table of package alu reads as it should. -/
import Derived.Test.YtndaphdfhlefoaaDoorAluLit
namespace Go.Proofs.YtndaphdfhlefoaaDoor.AluMulWalk
open Go.RowKit
set_option linter.unusedVariables false
theorem mul_comm' (a b : Int) : mulI b a = mulI a b := by unfold mulI; rw [Int.mul_comm]
theorem mulhu_comm (a b : Int) : mulhuI b a = mulhuI a b := by unfold mulhuI; rw [Int.mul_comm]
theorem mul_sum (a b c : Int) : mulI a (modU (b + c)) = modU (mulI a b + mulI a c) := by
  unfold mulI modU
  rw [Int.mul_emod a (_ % _), Int.emod_emod_of_dvd _ (Int.dvd_refl _), ← Int.mul_emod, Int.mul_add]
  omega
theorem high_shift {a : Int} (ha : IsU a) (n : Nat) (h1 : 1 ≤ n) (h2 : n ≤ 63) : mulhuI a (2 ^ n) = srlI a (64 - n) := by
  unfold mulhuI srlI
  have e : ((64 - (n : Int)) % 64).toNat = 64 - n := by omega
  have e2 : (18446744073709551616 : Int) = 2 ^ n * 2 ^ (64 - n) := by rw [← Int.pow_add, show n + (64 - n) = 64 from by omega]; rfl
  rw [e, e2, ← Int.ediv_ediv_of_nonneg (Int.le_of_lt (Int.pow_pos (by decide))), Int.mul_ediv_cancel _ (by have : (0 : Int) < 2 ^ n := Int.pow_pos (by decide); omega)]
set_option maxHeartbeats 1000000 in
theorem walk_at (a b c : Int) (w : World) (HA : Hid (IsU a)) (HB : Hid (IsU b)) (HC : Hid (IsU c)) (HT : Hid (TabA w)) :
    Calls Tryd.prog 10 #[.int .u64 a, .int .u64 b, .int .u64 c] w fun e w' => e = .returned (.bool true) ∧ Below w.heap.size w w' := by
  obtain ⟨c0, c1⟩ := HC.out
  have m0 : 0 ≤ c % 63 := by omega
  have m1 : c % 63 ≤ 62 := by omega
  have Q0 := Lib.hid (mul_comm' a b)
  have Q1 := Lib.hid (mulhu_comm a b)
  have US := Lib.hid (show IsU (IntKind.u64.wrap (b + c)) by rw [wrapU]; exact isU_modU _)
  have Q2 := Lib.hid (show mulI a (IntKind.u64.wrap (b + c)) = IntKind.u64.wrap (mulI a b + mulI a c) by rw [wrapU, wrapU]; exact mul_sum a b c)
  obtain ⟨N, hN⟩ : ∃ N : Nat, 1 + c % 63 = N := Int.eq_ofNat_of_zero_le (by omega)
  have UP := Lib.hid (show IsU (IntKind.u64.wrap (2 ^ (1 + c % 63).toNat)) by rw [wrapU]; exact isU_modU _)
  have Q3 := Lib.hid (show mulhuI a (IntKind.u64.wrap (2 ^ (1 + c % 63).toNat)) = srlI a (64 - (1 + c % 63)) by
    have e : modU (2 ^ N) = 2 ^ N := by
      have h1 := Nat.pow_le_pow_right (n := 2) (by decide) (show N ≤ 63 by omega)
      have h2 : (0 : Int) < 2 ^ N := Int.pow_pos (by decide)
      have e : (2 : Int) ^ N = ((2 ^ N : Nat) : Int) := by simp
      unfold modU; exact Int.emod_eq_of_lt (by omega) (by rw [e]; omega)
    rw [hN, wrapU, Int.toNat_natCast, e]
    exact high_shift HA.out N (by omega) (by omega))
  clear hN
  go_enter Tryd.func10, Tryd.ntmps10
  go_wp2_with fail
  refine (awakeA_any _ HT.out).mono ?_
  rintro e w1 ⟨rfl, hb⟩
  have H1 := Lib.hid hb
  clear hb HT
  go_wp2_with fail
  refine (mul_call _ _ HA.out HB.out _).mono ?_
  rintro e w2 ⟨rfl, hb⟩
  have H2 := Lib.hid (stepA H1.out hb)
  clear hb H1
  go_wp2_with fail
  refine (two_as (mul_call _ _ HB.out HA.out _) Q0.out).mono ?_
  rintro e w3 ⟨rfl, hb⟩
  have H3 := Lib.hid (stepA H2.out hb)
  clear hb H2
  go_wp2_with fail
  refine (mul_call _ _ HA.out HC.out _).mono ?_
  rintro e w4 ⟨rfl, hb⟩
  have H4 := Lib.hid (stepA H3.out hb)
  clear hb H3
  go_wp2_with fail
  refine (two_as (mul_call _ _ HA.out US.out _) Q2.out).mono ?_
  rintro e w5 ⟨rfl, hb⟩
  have H5 := Lib.hid (stepA H4.out hb)
  clear hb H4
  go_wp2_with fail
  refine (mulhu_call _ _ HA.out HB.out _).mono ?_
  rintro e w6 ⟨rfl, hb⟩
  have H6 := Lib.hid (stepA H5.out hb)
  clear hb H5
  go_wp2_with fail
  refine (two_as (mulhu_call _ _ HB.out HA.out _) Q1.out).mono ?_
  rintro e w7 ⟨rfl, hb⟩
  have H7 := Lib.hid (stepA H6.out hb)
  clear hb H6
  go_wp2_with fail
  refine (two_as (mulhu_call _ _ HA.out UP.out _) Q3.out).mono ?_
  rintro e w8 ⟨rfl, hb⟩
  have H8 := Lib.hid (stepA H7.out hb)
  clear hb H7
  go_wp2_with fail
  refine (srl_call _ _ HA.out ⟨by omega, by omega⟩ _).mono ?_
  rintro e w9 ⟨rfl, hb⟩
  have H9 := Lib.hid (stepA H8.out hb)
  clear hb H8
  go_wp2
  go_ret
  exact ⟨rfl, H9.out.2⟩
theorem walk (a0 a1 a2 : Int) (w : World) (w0 : (Lit.int .u64 a0).wf = true) (w1 : (Lit.int .u64 a1).wf = true) (w2 : (Lit.int .u64 a2).wf = true) (hT : TabA w) :
    Calls Tryd.prog 10 #[.int .u64 a0, .int .u64 a1, .int .u64 a2] w fun e w' => e = .returned (.bool true) ∧ Below w.heap.size w w' :=
  walk_at a0 a1 a2 w (Lib.hid (isU_of_wf w0)) (Lib.hid (isU_of_wf w1)) (Lib.hid (isU_of_wf w2)) (Lib.hid hT)
end Go.Proofs.YtndaphdfhlefoaaDoor.AluMulWalk
