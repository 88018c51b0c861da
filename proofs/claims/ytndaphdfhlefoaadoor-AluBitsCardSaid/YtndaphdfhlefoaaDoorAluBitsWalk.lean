/- The walk of the statement AluBits: it returns true, and writes nothing that was there. Condition: the table of package alu reads as it should. -/
import Derived.Test.YtndaphdfhlefoaaDoorAluLit
namespace Go.Proofs.YtndaphdfhlefoaaDoor.AluBitsWalk
open Go.RowKit
set_option linter.unusedVariables false
theorem add_eq_or {m n : Nat} (h : m &&& n = 0) : m + n = m ||| n := by
  induction m using Nat.strongRecOn generalizing n with
  | ind m ih =>
    by_cases hm : m = 0
    · subst hm; simp
    · have e := congrArg (fun t => t / 2) h
      have e2 := congrArg (fun t => t % 2) h
      simp only [Nat.and_div_two, Nat.zero_div] at e
      have hi := ih (m / 2) (by omega) e
      have e3 : (m ||| n) / 2 = m / 2 ||| n / 2 := Nat.or_div_two
      have b1 : (m &&& n).testBit 0 = false := by rw [h]; rfl
      have b2 : (m ||| n).testBit 0 = (m.testBit 0 || n.testBit 0) := Nat.testBit_or ..
      rw [Nat.testBit_and] at b1
      simp only [Nat.testBit_zero] at b1 b2
      have c1 := Nat.mod_two_eq_zero_or_one m
      have c2 := Nat.mod_two_eq_zero_or_one n
      have c3 := Nat.mod_two_eq_zero_or_one (m ||| n)
      rcases c1 with c1 | c1 <;> rcases c2 with c2 | c2 <;> rcases c3 with c3 | c3 <;> simp [c1, c2, c3] at b1 b2 <;> omega
theorem xor_or_and (x y : Nat) : (x ^^^ y) + (x &&& y) = x ||| y := by
  have h1 : ∀ i, ((x ^^^ y) &&& (x &&& y)).testBit i = false := fun i => by
    simp only [Nat.testBit_and, Nat.testBit_xor]; cases x.testBit i <;> cases y.testBit i <;> rfl
  have h2 : (x ^^^ y) ||| (x &&& y) = x ||| y := by
    refine Nat.eq_of_testBit_eq fun i => ?_
    simp only [Nat.testBit_and, Nat.testBit_xor, Nat.testBit_or]; cases x.testBit i <;> cases y.testBit i <;> rfl
  rw [← h2]
  exact (add_eq_or (Nat.eq_of_testBit_eq fun i => by rw [h1]; simp))
theorem bits_sub {a b : Int} (ha : IsU a) (hb : IsU b) : (xorI a b == IntKind.u64.wrap (orI a b - andI a b)) = true := by
  obtain ⟨a0, a1⟩ := ha
  obtain ⟨b0, b1⟩ := hb
  obtain ⟨x, rfl⟩ := Int.eq_ofNat_of_zero_le a0
  obtain ⟨y, rfl⟩ := Int.eq_ofNat_of_zero_le b0
  have h := xor_or_and x y
  have hx : x ^^^ y < 18446744073709551616 := Nat.xor_lt_two_pow (n := 64) (by omega) (by omega)
  rw [wrapU]
  unfold xorI orI andI modU
  rw [bits_xor_u64_nat _ _ (by omega) (by omega), bits_or_u64_nat _ _ (by omega) (by omega), bits_and_u64_nat _ _ (by omega) (by omega), beq_iff_eq, ← h]
  omega
theorem xor_self {a : Int} (ha : IsU a) : xorI a a = 0 := by
  obtain ⟨a0, a1⟩ := ha
  obtain ⟨x, rfl⟩ := Int.eq_ofNat_of_zero_le a0
  unfold xorI
  rw [bits_xor_u64_nat _ _ (by omega) (by omega), Nat.xor_self]; rfl
set_option maxHeartbeats 1000000 in
theorem walk (a b n : Int) (w : World) (w0 : (Lit.int .u64 a).wf = true) (w1 : (Lit.int .u64 b).wf = true) (w2 : (Lit.int .i16 n).wf = true) (hT : TabA w) :
    Calls Tryd.prog 8 #[.int .u64 a, .int .u64 b, .int .i16 n] w fun e w' => e = .returned (.bool true) ∧ Below w.heap.size w w' := by
  have HA := Lib.hid (isU_of_wf w0)
  have HB := Lib.hid (isU_of_wf w1)
  have HT := Lib.hid hT
  have Q0 := Lib.hid (bits_sub HA.out HB.out)
  have Q1 := Lib.hid (xor_self HA.out)
  have bn := bounds_i16 w2
  obtain ⟨n0, n1⟩ := bn
  have R1 := Lib.hid (show xorI a (modU n) = bits .xor .u64 a (IntKind.u64.wrap n) by rw [wrapU]; rfl)
  have R2 := Lib.hid (show orI a (modU n) = bits .or .u64 a (IntKind.u64.wrap n) by rw [wrapU]; rfl)
  have R3 := Lib.hid (show andI a (modU n) = bits .and .u64 a (IntKind.u64.wrap n) by rw [wrapU]; rfl)
  clear hT w0 w1 w2
  go_enter Tryd.func8, Tryd.ntmps8
  go_wp2_with fail
  refine (awakeA_any _ HT.out).mono ?_
  rintro e w1 ⟨rfl, hb⟩
  have H1 := Lib.hid hb
  clear hb HT
  go_wp2_with fail
  refine (xor_call _ _ HA.out HB.out _).mono ?_
  rintro e w2 ⟨rfl, hb⟩
  have H2 := Lib.hid (stepA H1.out hb)
  clear hb H1
  go_wp2_with fail
  refine (or_call _ _ HA.out HB.out _).mono ?_
  rintro e w3 ⟨rfl, hb⟩
  have H3 := Lib.hid (stepA H2.out hb)
  clear hb H2
  go_wp2_with fail
  refine (and_call _ _ HA.out HB.out _).mono ?_
  rintro e w4 ⟨rfl, hb⟩
  have H4 := Lib.hid (stepA H3.out hb)
  clear hb H3
  go_wp2_with fail
  refine (two_as (xor_call _ _ HA.out HA.out _) Q1.out).mono ?_
  rintro e w5 ⟨rfl, hb⟩
  have H5 := Lib.hid (stepA H4.out hb)
  clear hb H4
  go_wp2_with fail
  refine (one_as (xori_call _ _ HA.out _ H5.out.1) R1.out).mono ?_
  rintro e w6 ⟨rfl, hb⟩
  have H6 := Lib.hid (stepA H5.out hb)
  clear hb H5
  go_wp2_with fail
  refine (one_as (ori_call _ _ HA.out _ H6.out.1) R2.out).mono ?_
  rintro e w7 ⟨rfl, hb⟩
  have H7 := Lib.hid (stepA H6.out hb)
  clear hb H6
  go_wp2_with fail
  refine (one_as (andi_call _ _ HA.out _ H7.out.1) R3.out).mono ?_
  rintro e w8 ⟨rfl, hb⟩
  have H8 := Lib.hid (stepA H7.out hb)
  clear hb H7
  have hq := Q0.out
  go_wp2
  go_ret
  exact ⟨rfl, H8.out.2⟩
end Go.Proofs.YtndaphdfhlefoaaDoor.AluBitsWalk
