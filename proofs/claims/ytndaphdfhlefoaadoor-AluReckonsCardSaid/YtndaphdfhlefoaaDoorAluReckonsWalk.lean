/- The walk of the statement AluReckons: it returns true, and writes nothing that was there. Condition: the table of package alu reads as it should. -/
import Derived.Test.YtndaphdfhlefoaaDoorAluAwake
import Derived.Test.YtndaphdfhlefoaaDoorAluLaid
import Derived.Test.YtndaphdfhlefoaaDoorAluRTwo
import Derived.Test.YtndaphdfhlefoaaDoorArgs
namespace Go.Proofs.YtndaphdfhlefoaaDoor.AluReckonsWalk
open Go.RowKit
set_option linter.unusedVariables false
theorem var_as (op : Int) (c : Bool) (h : varB op = c) (w : World) : Calls Tryd.prog 18 #[.int .i64 op] w fun e w' => e = .returned (.bool c) ∧ w = w' := by
  subst h; exact var_any op w
set_option maxHeartbeats 1000000 in
theorem walk_low (a0 a1 a2 : Int) (w : World) (w1 : (Lit.int .u64 a1).wf = true) (w2 : (Lit.int .u64 a2).wf = true) (hT : TabA w) (h : a0 < 12) :
    Calls Tryd.prog 3 #[.int .i64 a0, .int .u64 a1, .int .u64 a2] w fun e w' => e = .returned (.bool true) ∧ Below w.heap.size w w' := by
  have hv : varB a0 = false := by unfold varB; simp; omega
  have g1 : ¬ a0 ≥ 12 := by omega
  have ha := Lib.hid (isU_of_wf w1)
  have hb := Lib.hid (isU_of_wf w2)
  have H0 := Lib.hid hT
  have HV := Lib.hid (var_as a0 _ hv)
  clear hT w1 w2 hv
  go_enter Tryd.func3, Tryd.ntmps3
  go_wp2_with fail
  refine (awakeA_any _ H0.out).mono ?_
  rintro e w1 ⟨rfl, hb1⟩
  have H1 := Lib.hid hb1
  clear hb1 H0
  go_wp2_with fail
  refine (two_any _ _ _ ha.out hb.out _).mono ?_
  rintro e w2 ⟨rfl, hb2⟩
  have H2 := Lib.hid (stepA H1.out hb2)
  clear hb2 H1
  go_wp2_with fail
  refine (rtwo_any _ _ _ ha.out hb.out _).mono ?_
  rintro e w3 ⟨rfl, rfl⟩
  go_wp2_with fail
  refine (one_any _ _ _ ha.out _ H2.out.1).mono ?_
  rintro e w4 ⟨rfl, hb4⟩
  have H4 := Lib.hid (stepA H2.out hb4)
  clear hb4 H2
  go_wp2_with fail
  refine (rone_any _ _ _ ha.out _).mono ?_
  rintro e w5 ⟨rfl, hb5⟩
  have H5 := Lib.hid (stepA H4.out hb5)
  clear hb5 H4
  go_wp2_with fail
  refine (tak_any _ _ _ _).mono ?_
  rintro e w6 ⟨rfl, hb6⟩
  have H6 := Lib.hid (stepA H5.out hb6)
  clear hb6 H5
  go_wp2_with fail
  refine (rtak_any _ _ _ ha.out hb.out _).mono ?_
  rintro e w7 ⟨rfl, rfl⟩
  go_wp2_with fail
  refine (HV.out _).mono ?_
  rintro e w8 ⟨rfl, rfl⟩
  go_wp2
  go_ret
  exact ⟨rfl, H6.out.2⟩
set_option maxHeartbeats 1000000 in
theorem walk_mid (a0 a1 a2 : Int) (w : World) (w1 : (Lit.int .u64 a1).wf = true) (w2 : (Lit.int .u64 a2).wf = true) (hT : TabA w) (h : 12 ≤ a0 ∧ a0 < 16) :
    Calls Tryd.prog 3 #[.int .i64 a0, .int .u64 a1, .int .u64 a2] w fun e w' => e = .returned (.bool true) ∧ Below w.heap.size w w' := by
  have hv : varB a0 = true := by unfold varB; simp; omega
  obtain ⟨g1, g2⟩ := h
  have g3 : a0 ≤ 15 := by omega
  have ha := Lib.hid (isU_of_wf w1)
  have hb := Lib.hid (isU_of_wf w2)
  have H0 := Lib.hid hT
  have HV := Lib.hid (var_as a0 _ hv)
  clear hT w1 w2 hv
  go_enter Tryd.func3, Tryd.ntmps3
  go_wp2_with fail
  refine (awakeA_any _ H0.out).mono ?_
  rintro e w1 ⟨rfl, hb1⟩
  have H1 := Lib.hid hb1
  clear hb1 H0
  go_wp2_with fail
  refine (two_any _ _ _ ha.out hb.out _).mono ?_
  rintro e w2 ⟨rfl, hb2⟩
  have H2 := Lib.hid (stepA H1.out hb2)
  clear hb2 H1
  go_wp2_with fail
  refine (rtwo_any _ _ _ ha.out hb.out _).mono ?_
  rintro e w3 ⟨rfl, rfl⟩
  go_wp2_with fail
  refine (one_any _ _ _ ha.out _ H2.out.1).mono ?_
  rintro e w4 ⟨rfl, hb4⟩
  have H4 := Lib.hid (stepA H2.out hb4)
  clear hb4 H2
  go_wp2_with fail
  refine (rone_any _ _ _ ha.out _).mono ?_
  rintro e w5 ⟨rfl, hb5⟩
  have H5 := Lib.hid (stepA H4.out hb5)
  clear hb5 H4
  go_wp2_with fail
  refine (tak_any _ _ _ _).mono ?_
  rintro e w6 ⟨rfl, hb6⟩
  have H6 := Lib.hid (stepA H5.out hb6)
  clear hb6 H5
  go_wp2_with fail
  refine (rtak_any _ _ _ ha.out hb.out _).mono ?_
  rintro e w7 ⟨rfl, rfl⟩
  go_wp2_with fail
  refine (HV.out _).mono ?_
  rintro e w8 ⟨rfl, rfl⟩
  go_wp2
  go_ret
  exact ⟨rfl, H6.out.2⟩
set_option maxHeartbeats 1000000 in
theorem walk_top (a0 a1 a2 : Int) (w : World) (w1 : (Lit.int .u64 a1).wf = true) (w2 : (Lit.int .u64 a2).wf = true) (hT : TabA w) (h : 16 ≤ a0) :
    Calls Tryd.prog 3 #[.int .i64 a0, .int .u64 a1, .int .u64 a2] w fun e w' => e = .returned (.bool true) ∧ Below w.heap.size w w' := by
  have hv : varB a0 = false := by unfold varB; simp; omega
  have g1 : a0 ≥ 12 := by omega
  have g3 : decide (a0 ≤ 15) = false := by simp; omega
  have ha := Lib.hid (isU_of_wf w1)
  have hb := Lib.hid (isU_of_wf w2)
  have H0 := Lib.hid hT
  have HV := Lib.hid (var_as a0 _ hv)
  clear hT w1 w2 hv
  go_enter Tryd.func3, Tryd.ntmps3
  go_wp2_with fail
  refine (awakeA_any _ H0.out).mono ?_
  rintro e w1 ⟨rfl, hb1⟩
  have H1 := Lib.hid hb1
  clear hb1 H0
  go_wp2_with fail
  refine (two_any _ _ _ ha.out hb.out _).mono ?_
  rintro e w2 ⟨rfl, hb2⟩
  have H2 := Lib.hid (stepA H1.out hb2)
  clear hb2 H1
  go_wp2_with fail
  refine (rtwo_any _ _ _ ha.out hb.out _).mono ?_
  rintro e w3 ⟨rfl, rfl⟩
  go_wp2_with fail
  refine (one_any _ _ _ ha.out _ H2.out.1).mono ?_
  rintro e w4 ⟨rfl, hb4⟩
  have H4 := Lib.hid (stepA H2.out hb4)
  clear hb4 H2
  go_wp2_with fail
  refine (rone_any _ _ _ ha.out _).mono ?_
  rintro e w5 ⟨rfl, hb5⟩
  have H5 := Lib.hid (stepA H4.out hb5)
  clear hb5 H4
  go_wp2_with fail
  refine (tak_any _ _ _ _).mono ?_
  rintro e w6 ⟨rfl, hb6⟩
  have H6 := Lib.hid (stepA H5.out hb6)
  clear hb6 H5
  go_wp2_with fail
  refine (rtak_any _ _ _ ha.out hb.out _).mono ?_
  rintro e w7 ⟨rfl, rfl⟩
  go_wp2_with fail
  refine (HV.out _).mono ?_
  rintro e w8 ⟨rfl, rfl⟩
  go_wp2
  go_ret
  exact ⟨rfl, H6.out.2⟩
theorem walk (a0 a1 a2 : Int) (w : World) (w0 : (Lit.int .i64 a0).wf = true) (w1 : (Lit.int .u64 a1).wf = true) (w2 : (Lit.int .u64 a2).wf = true) (hT : TabA w) :
    Calls Tryd.prog 3 #[.int .i64 a0, .int .u64 a1, .int .u64 a2] w fun e w' => e = .returned (.bool true) ∧ Below w.heap.size w w' := by
  by_cases h : a0 < 12
  · exact walk_low a0 a1 a2 w w1 w2 hT h
  · by_cases h' : a0 < 16
    · exact walk_mid a0 a1 a2 w w1 w2 hT ⟨by omega, h'⟩
    · exact walk_top a0 a1 a2 w w1 w2 hT (by omega)
end Go.Proofs.YtndaphdfhlefoaaDoor.AluReckonsWalk
