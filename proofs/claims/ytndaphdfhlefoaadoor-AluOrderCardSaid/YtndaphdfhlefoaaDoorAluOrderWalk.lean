/- The walk of the statement AluOrder: it returns true, and writes nothing that was there. Condition: the table of package alu reads as it should. -/
import Derived.Test.YtndaphdfhlefoaaDoorAluLit
namespace Go.Proofs.YtndaphdfhlefoaaDoor.AluOrderWalk
open Go.RowKit
set_option linter.unusedVariables false
theorem one_eq (c : Bool) : (oneI c == 1) = c := by cases c <;> rfl
theorem one_le (c : Bool) : oneI c ≤ 1 ∧ 0 ≤ oneI c := by cases c <;> decide
set_option maxHeartbeats 1000000 in
theorem walk_at (a b n : Int) (w : World) (HA : Hid (IsU a)) (HB : Hid (IsU b)) (HT : Hid (TabA w)) (n0 : -32768 ≤ n) (n1 : n ≤ 32767) (c1 c2 c3 c4 : Bool) (h1 : Hid (sltB a b = c1)) (h2 : Hid (sltuB a b = c2)) (h3 : Hid (sltB a (modU n) = c3)) (h4 : Hid (sltuB a (modU n) = c4)) :
    Calls Tryd.prog 9 #[.int .u64 a, .int .u64 b, .int .i16 n] w fun e w' => e = .returned (.bool true) ∧ Below w.heap.size w w' := by
  have E1 := Lib.hid (congrArg oneI h1.out)
  have E2 := Lib.hid (congrArg oneI h2.out)
  have E3 := Lib.hid (congrArg oneI h3.out)
  have E4 := Lib.hid (congrArg oneI h4.out)
  have E5 := Lib.hid (show sltB a (IntKind.u64.wrap n) = c3 by rw [wrapU]; exact h3.out)
  have E6 := Lib.hid (show sltuB a (IntKind.u64.wrap n) = c4 by rw [wrapU]; exact h4.out)
  obtain ⟨o1, p1⟩ := one_le c1
  obtain ⟨o2, p2⟩ := one_le c2
  obtain ⟨o3, p3⟩ := one_le c3
  obtain ⟨o4, p4⟩ := one_le c4
  have x1 := one_eq c1
  have x2 := one_eq c2
  have x3 := one_eq c3
  have x4 := one_eq c4
  go_enter Tryd.func9, Tryd.ntmps9
  go_wp2_with fail
  refine (awakeA_any _ HT.out).mono ?_
  rintro e w1 ⟨rfl, hb⟩
  have H1 := Lib.hid hb
  clear hb HT
  go_wp2_with fail
  refine (two_as (slt_call _ _ HA.out HB.out _) E1.out).mono ?_
  rintro e w2 ⟨rfl, hb⟩
  have H2 := Lib.hid (stepA H1.out hb)
  clear hb H1
  go_wp2_with fail
  refine (two_as (sltu_call _ _ HA.out HB.out _) E2.out).mono ?_
  rintro e w3 ⟨rfl, hb⟩
  have H3 := Lib.hid (stepA H2.out hb)
  clear hb H2
  go_wp2_with fail
  refine (tak_as (blt_call _ _ _) h1.out).mono ?_
  rintro e w4 ⟨rfl, hb⟩
  have H4 := Lib.hid (stepA H3.out hb)
  clear hb H3
  go_wp2_with fail
  refine (tak_as (bltu_call _ _ _) h2.out).mono ?_
  rintro e w5 ⟨rfl, hb⟩
  have H5 := Lib.hid (stepA H4.out hb)
  clear hb H4
  go_wp2_with fail
  refine (one_as (slti_call _ _ HA.out _ H5.out.1) E3.out).mono ?_
  rintro e w6 ⟨rfl, hb⟩
  have H6 := Lib.hid (stepA H5.out hb)
  clear hb H5
  go_wp2_with fail
  refine (one_as (sltiu_call _ _ HA.out _ H6.out.1) E4.out).mono ?_
  rintro e w7 ⟨rfl, hb⟩
  have H7 := Lib.hid (stepA H6.out hb)
  clear hb H6
  go_wp2_with fail
  refine (tak_as (blt_call _ _ _) E5.out).mono ?_
  rintro e w8 ⟨rfl, hb⟩
  have H8 := Lib.hid (stepA H7.out hb)
  clear hb H7
  go_wp2_with fail
  refine (tak_as (bltu_call _ _ _) E6.out).mono ?_
  rintro e w9 ⟨rfl, hb⟩
  have H9 := Lib.hid (stepA H8.out hb)
  clear hb H8
  go_wp2
  go_ret
  exact ⟨rfl, H9.out.2⟩
theorem walk (a b n : Int) (w : World) (w0 : (Lit.int .u64 a).wf = true) (w1 : (Lit.int .u64 b).wf = true) (w2 : (Lit.int .i16 n).wf = true) (hT : TabA w) :
    Calls Tryd.prog 9 #[.int .u64 a, .int .u64 b, .int .i16 n] w fun e w' => e = .returned (.bool true) ∧ Below w.heap.size w w' := by
  have bn := bounds_i16 w2
  exact walk_at a b n w (Lib.hid (isU_of_wf w0)) (Lib.hid (isU_of_wf w1)) (Lib.hid hT) (by omega) (by omega) _ _ _ _ (Lib.hid rfl) (Lib.hid rfl) (Lib.hid rfl) (Lib.hid rfl)
end Go.Proofs.YtndaphdfhlefoaaDoor.AluOrderWalk
