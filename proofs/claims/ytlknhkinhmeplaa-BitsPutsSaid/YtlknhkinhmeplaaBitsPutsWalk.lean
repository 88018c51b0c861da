/- The walk of the statement BitsPuts: it returns true, and writes nothing that was there. -/
import Derived.Test.YtlknhkinhmeplaaAwake
import Derived.Test.YtlknhkinhmeplaaArgs
namespace Go.Proofs.Ytlknhkinhmeplaa.BitsPutsWalk
open Go.RowKit
set_option linter.unusedVariables false
theorem putN_comm (v x y : Nat) : putN (putN v 8 16 x) 30 20 y = putN (putN v 30 20 y) 8 16 x := by
  refine Nat.eq_of_testBit_eq fun i => ?_
  rw [testBit_putN, testBit_putN, testBit_putN, testBit_putN]
  by_cases h : 30 ≤ i ∧ i < 30 + 20
  · rw [if_pos h, if_neg (by omega), if_pos h]
  · rw [if_neg h]
    by_cases h2 : 8 ≤ i ∧ i < 8 + 16
    · rw [if_pos h2, if_pos h2]
    · rw [if_neg h2, if_neg h2, if_neg h]
theorem putN_twice (v f n x y : Nat) : putN (putN v f n x) f n y = putN v f n y := by
  refine Nat.eq_of_testBit_eq fun i => ?_
  rw [testBit_putN, testBit_putN, testBit_putN]
  by_cases h : f ≤ i ∧ i < f + n
  · rw [if_pos h, if_pos h]
  · rw [if_neg h, if_neg h, if_neg h]
theorem putN_all (v x : Nat) (hv : v < 18446744073709551616) (hx : x < 18446744073709551616) : putN v 0 64 x = x := by
  refine Nat.eq_of_testBit_eq fun i => ?_
  rw [testBit_putN]
  by_cases h : 0 ≤ i ∧ i < 0 + 64
  · rw [if_pos h]; rfl
  · rw [if_neg h, testBit_of_lt64 hv (by omega), testBit_of_lt64 hx (by omega)]
theorem e1 (v x y : Int) : (put (put v 8 16 x) 30 20 y == put (put v 30 20 y) 8 16 x) = true := by
  rw [beq_iff_eq]
  have := putN_comm v.toNat x.toNat y.toNat
  simp only [put, Int.toNat_natCast]
  congr 1
theorem e2 (v x y : Int) : (put (put v 8 16 x) 8 16 y == put v 8 16 y) = true := by
  rw [beq_iff_eq]
  simp only [put, Int.toNat_natCast]
  rw [putN_twice]
theorem e3 (v x : Int) (hv : IsU v) (hx : IsU x) : (put v 0 64 x == x) = true := by
  rw [beq_iff_eq]
  obtain ⟨v0, v1⟩ := hv
  obtain ⟨x0, x1⟩ := hx
  simp only [put]
  rw [show (0 : Int).toNat = 0 from rfl, show (64 : Int).toNat = 64 from rfl, putN_all _ _ (by omega) (by omega)]
  omega
theorem walk (a0 a1 a2 : Int) (w : World) (w0 : (Lit.int .u64 a0).wf = true) (w1 : (Lit.int .u64 a1).wf = true) (w2 : (Lit.int .u64 a2).wf = true) :
    Calls Try.prog 9 #[.int .u64 a0, .int .u64 a1, .int .u64 a2] w fun e w' => e = .returned (.bool true) ∧ Below w.heap.size w w' := by
  have u0 := isU_of_wf w0
  have u1 := isU_of_wf w1
  have u2 := isU_of_wf w2
  clear w0 w1 w2
  have p1 := isU_put (f := 8) (n := 16) (x := a1) u0 (by omega) (by omega) (by omega)
  have p3 := isU_put (f := 30) (n := 20) (x := a2) u0 (by omega) (by omega) (by omega)
  have E1 := e1 a0 a1 a2
  have E2 := e2 a0 a1 a2
  have E3 := e3 a0 a1 u0 u1
  go_enter Try.func9, Try.ntmps9
  go_wp2_with fail
  refine (awake_any _).mono ?_
  rintro e w1 ⟨rfl, hb⟩
  have Hb := Lib.hid hb
  clear hb
  go_wp2_with (go_at_call 14; refine (put_yes _ _ _ _ (by assumption) (by omega) (by omega) (by omega) (by assumption) _).mono ?_; rintro e w' ⟨rfl, _, rfl⟩)
  go_ret
  exact ⟨rfl, below_drewN Hb.out _⟩
end Go.Proofs.Ytlknhkinhmeplaa.BitsPutsWalk
