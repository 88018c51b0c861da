/- The walk of the statement AluSums: it returns true, and writes nothing that was there. Condition: the table of package alu reads as it should. -/
import Derived.Test.YtndaphdfhlefoaaDoorAluLit
namespace Go.Proofs.YtndaphdfhlefoaaDoor.AluSumsWalk
open Go.RowKit
set_option linter.unusedVariables false
theorem sub_add {a b : Int} (ha : IsU a) : subI (addI a b) b = a := by
  obtain ⟨_, _⟩ := ha
  unfold subI addI modU; omega
theorem add_comm' (a b : Int) : addI b a = addI a b := by unfold addI; rw [Int.add_comm]
theorem isU_half (a : Int) (ha : IsU a) : IsU (a % 4294967296) := by obtain ⟨_, _⟩ := ha; exact ⟨by omega, by omega⟩
theorem half_bd (a b : Int) : 0 ≤ a % 4294967296 * (b % 4294967296) ∧ a % 4294967296 * (b % 4294967296) < 18446744073709551616 := by
  obtain ⟨x, hx⟩ := Int.eq_ofNat_of_zero_le (show 0 ≤ a % 4294967296 by omega)
  obtain ⟨y, hy⟩ := Int.eq_ofNat_of_zero_le (show 0 ≤ b % 4294967296 by omega)
  rw [hx, hy]
  have := Lib.half_mul_le (a := x) (b := y) (by omega) (by omega)
  rw [← Int.natCast_mul]
  omega
theorem high_zero (a b : Int) : mulhuI (a % 4294967296) (b % 4294967296) = 0 := by
  have := half_bd a b
  unfold mulhuI
  exact Int.ediv_eq_zero_of_lt this.1 this.2
theorem low_same (a b : Int) : mulI (a % 4294967296) (b % 4294967296) = IntKind.u64.wrap (a % 4294967296 * (b % 4294967296)) := (wrapU _).symm
set_option maxHeartbeats 1000000 in
theorem walk_lt (a b : Int) (w : World) (HA : Hid (IsU a)) (HB : Hid (IsU b)) (HT : Hid (TabA w)) (hs : addI a b < a) :
    Calls Tryd.prog 6 #[.int .u64 a, .int .u64 b] w fun e w' => e = .returned (.bool true) ∧ Below w.heap.size w w' := by
  have H := HA.out
  obtain ⟨b0, b1⟩ := HB.out
  obtain ⟨a0', a1'⟩ := H
  have Q0 := Lib.hid (sub_add (b := b) HA.out)
  have Q1 := Lib.hid (add_comm' a b)
  have Q2 := Lib.hid (high_zero a b)
  have Q3 := Lib.hid (low_same a b)
  have UA := Lib.hid (isU_half a HA.out)
  have UB := Lib.hid (isU_half b HB.out)
  have US := Lib.hid (show IsU (addI a b) from isU_modU _)
  have QS := Lib.hid hs
  have QL := Lib.hid (show oneI (sltuB (addI a b) a) = 1 by unfold sltuB; rw [decide_eq_true hs]; rfl)
  clear hs
  go_enter Tryd.func6, Tryd.ntmps6
  go_wp2_with fail
  refine (awakeA_any _ HT.out).mono ?_
  rintro e w1 ⟨rfl, hb⟩
  have H1 := Lib.hid hb
  clear hb HT
  go_wp2_with fail
  refine (add_call _ _ HA.out HB.out _).mono ?_
  rintro e w2 ⟨rfl, hb⟩
  have H2 := Lib.hid (stepA H1.out hb)
  clear hb H1
  go_wp2_with fail
  refine (two_as (sub_call _ _ US.out HB.out _) Q0.out).mono ?_
  rintro e w3 ⟨rfl, hb⟩
  have H3 := Lib.hid (stepA H2.out hb)
  clear hb H2
  go_wp2_with fail
  refine (two_as (add_call _ _ HB.out HA.out _) Q1.out).mono ?_
  rintro e w4 ⟨rfl, hb⟩
  have H4 := Lib.hid (stepA H3.out hb)
  clear hb H3
  go_wp2_with fail
  refine (two_as (sltu_call _ _ US.out HA.out _) QL.out).mono ?_
  rintro e w5 ⟨rfl, hb⟩
  have H5 := Lib.hid (stepA H4.out hb)
  clear hb H4
  go_wp2_with fail
  refine (two_as (mulhu_call _ _ UA.out UB.out _) Q2.out).mono ?_
  rintro e w6 ⟨rfl, hb⟩
  have H6 := Lib.hid (stepA H5.out hb)
  clear hb H5
  go_wp2_with fail
  refine (two_as (mul_call _ _ UA.out UB.out _) Q3.out).mono ?_
  rintro e w7 ⟨rfl, hb⟩
  have H7 := Lib.hid (stepA H6.out hb)
  clear hb H6
  have hs := QS.out
  go_wp2
  go_ret
  exact ⟨rfl, H7.out.2⟩
set_option maxHeartbeats 1000000 in
theorem walk_ge (a b : Int) (w : World) (HA : Hid (IsU a)) (HB : Hid (IsU b)) (HT : Hid (TabA w)) (hs : ¬ addI a b < a) :
    Calls Tryd.prog 6 #[.int .u64 a, .int .u64 b] w fun e w' => e = .returned (.bool true) ∧ Below w.heap.size w w' := by
  have H := HA.out
  obtain ⟨b0, b1⟩ := HB.out
  obtain ⟨a0', a1'⟩ := H
  have Q0 := Lib.hid (sub_add (b := b) HA.out)
  have Q1 := Lib.hid (add_comm' a b)
  have Q2 := Lib.hid (high_zero a b)
  have Q3 := Lib.hid (low_same a b)
  have UA := Lib.hid (isU_half a HA.out)
  have UB := Lib.hid (isU_half b HB.out)
  have US := Lib.hid (show IsU (addI a b) from isU_modU _)
  have QS := Lib.hid hs
  have QL := Lib.hid (show oneI (sltuB (addI a b) a) = 0 by unfold sltuB; rw [decide_eq_false hs]; rfl)
  clear hs
  go_enter Tryd.func6, Tryd.ntmps6
  go_wp2_with fail
  refine (awakeA_any _ HT.out).mono ?_
  rintro e w1 ⟨rfl, hb⟩
  have H1 := Lib.hid hb
  clear hb HT
  go_wp2_with fail
  refine (add_call _ _ HA.out HB.out _).mono ?_
  rintro e w2 ⟨rfl, hb⟩
  have H2 := Lib.hid (stepA H1.out hb)
  clear hb H1
  go_wp2_with fail
  refine (two_as (sub_call _ _ US.out HB.out _) Q0.out).mono ?_
  rintro e w3 ⟨rfl, hb⟩
  have H3 := Lib.hid (stepA H2.out hb)
  clear hb H2
  go_wp2_with fail
  refine (two_as (add_call _ _ HB.out HA.out _) Q1.out).mono ?_
  rintro e w4 ⟨rfl, hb⟩
  have H4 := Lib.hid (stepA H3.out hb)
  clear hb H3
  go_wp2_with fail
  refine (two_as (sltu_call _ _ US.out HA.out _) QL.out).mono ?_
  rintro e w5 ⟨rfl, hb⟩
  have H5 := Lib.hid (stepA H4.out hb)
  clear hb H4
  go_wp2_with fail
  refine (two_as (mulhu_call _ _ UA.out UB.out _) Q2.out).mono ?_
  rintro e w6 ⟨rfl, hb⟩
  have H6 := Lib.hid (stepA H5.out hb)
  clear hb H5
  go_wp2_with fail
  refine (two_as (mul_call _ _ UA.out UB.out _) Q3.out).mono ?_
  rintro e w7 ⟨rfl, hb⟩
  have H7 := Lib.hid (stepA H6.out hb)
  clear hb H6
  have hs := QS.out
  go_wp2
  go_ret
  exact ⟨rfl, H7.out.2⟩
theorem walk (a0 a1 : Int) (w : World) (w0 : (Lit.int .u64 a0).wf = true) (w1 : (Lit.int .u64 a1).wf = true) (hT : TabA w) :
    Calls Tryd.prog 6 #[.int .u64 a0, .int .u64 a1] w fun e w' => e = .returned (.bool true) ∧ Below w.heap.size w w' := by
  by_cases h : addI a0 a1 < a0
  · exact walk_lt a0 a1 w (Lib.hid (isU_of_wf w0)) (Lib.hid (isU_of_wf w1)) (Lib.hid hT) h
  · exact walk_ge a0 a1 w (Lib.hid (isU_of_wf w0)) (Lib.hid (isU_of_wf w1)) (Lib.hid hT) h
end Go.Proofs.YtndaphdfhlefoaaDoor.AluSumsWalk
