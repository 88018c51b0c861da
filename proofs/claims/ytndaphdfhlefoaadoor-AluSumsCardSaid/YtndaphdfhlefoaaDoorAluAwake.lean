/- Layer 3: what the guard of the statements asks first is true: a few fixed answers of package alu. Condition: the table ofTwo reads as it should. -/
import Derived.Test.YtndaphdfhlefoaaDoorAlu
namespace Go.Proofs.YtndaphdfhlefoaaDoor
open Go.RowKit
set_option linter.unusedVariables false
theorem awA1 (w : World) : Calls Tryd.prog 12 #[.int .i64 12, .int .u64 18446744073709551609, .int .u64 2] w fun e w' => e = .returned (.tuple #[.int .u64 18446744073709551613, .bool true]) ∧ Below w.heap.size w w' := by
  have h := two_any 12 18446744073709551609 2 ⟨by decide, by decide⟩ ⟨by decide, by decide⟩ w
  rwa [show twoV 12 18446744073709551609 2 = 18446744073709551613 from by decide +kernel, show twoB 12 = true from by decide] at h
theorem awA2 (w : World) : Calls Tryd.prog 12 #[.int .i64 14, .int .u64 18446744073709551609, .int .u64 2] w fun e w' => e = .returned (.tuple #[.int .u64 18446744073709551615, .bool true]) ∧ Below w.heap.size w w' := by
  have h := two_any 14 18446744073709551609 2 ⟨by decide, by decide⟩ ⟨by decide, by decide⟩ w
  rwa [show twoV 14 18446744073709551609 2 = 18446744073709551615 from by decide +kernel, show twoB 14 = true from by decide] at h
theorem awA3 (w : World) : Calls Tryd.prog 12 #[.int .i64 13, .int .u64 7, .int .u64 0] w fun e w' => e = .returned (.tuple #[.int .u64 18446744073709551615, .bool true]) ∧ Below w.heap.size w w' := by
  have h := two_any 13 7 0 ⟨by decide, by decide⟩ ⟨by decide, by decide⟩ w
  rwa [show twoV 13 7 0 = 18446744073709551615 from by decide +kernel, show twoB 13 = true from by decide] at h
theorem awA4 (w : World) (hT : TabA w) : Calls Tryd.prog 14 #[.int .i64 24, .int .u64 9223372036854775808, .int .i64 63] w fun e w' => e = .returned (.tuple #[.int .u64 18446744073709551615, .bool true]) ∧ Below w.heap.size w w' := by
  have h := one_any 24 9223372036854775808 63 ⟨by decide, by decide⟩ w hT
  rwa [show oneV 24 9223372036854775808 63 = 18446744073709551615 from by decide +kernel, show oneB 24 = true from by decide] at h
theorem awA5 (w : World) : Calls Tryd.prog 16 #[.int .i64 34, .int .u64 9223372036854775808, .int .u64 0] w fun e w' => e = .returned (.tuple #[.bool true, .bool true]) ∧ Below w.heap.size w w' := by
  have h := tak_any 34 9223372036854775808 0 w
  rwa [show takV 34 9223372036854775808 0 = true from by decide +kernel, show takB 34 = true from by decide] at h
theorem awA6 (w : World) : Calls Tryd.prog 12 #[.int .i64 16, .int .u64 1, .int .u64 1] w fun e w' => e = .returned (.tuple #[.int .u64 0, .bool false]) ∧ w = w' :=
  two_out 16 1 1 (by omega) w
theorem awA7 (w : World) : Calls Tryd.prog 18 #[.int .i64 14] w fun e w' => e = .returned (.bool true) ∧ w = w' := var_any 14 w
theorem awA8 (w : World) : Calls Tryd.prog 18 #[.int .i64 10] w fun e w' => e = .returned (.bool false) ∧ w = w' := var_any 10 w
/-- a call that leaves all that was there, told in the world in which the caller began -/
theorem stepA {w0 w w' : World} (h : TabA w ∧ Below w0.heap.size w0 w) (hb : Below w.heap.size w w') : TabA w' ∧ Below w0.heap.size w0 w' := ⟨h.1.below hb, h.2.trans (hb.mono h.2.size)⟩
set_option maxHeartbeats 1000000 in
theorem awakeA_any (w : World) (hT : TabA w) :
    Calls Tryd.prog 11 #[] w fun e w' => e = .returned (.bool true) ∧ TabA w' ∧ Below w.heap.size w w' := by
  have H0 := Lib.hid (And.intro hT (Below.refl w.heap.size w))
  clear hT
  go_enter Tryd.func11, Tryd.ntmps11
  go_wp2_with fail
  refine (awA1 _).mono ?_
  rintro e w1 ⟨rfl, hb⟩
  have H1 := Lib.hid (stepA H0.out hb)
  clear hb H0
  go_wp2_with fail
  refine (awA2 _).mono ?_
  rintro e w2 ⟨rfl, hb⟩
  have H2 := Lib.hid (stepA H1.out hb)
  clear hb H1
  go_wp2_with fail
  refine (awA3 _).mono ?_
  rintro e w3 ⟨rfl, hb⟩
  have H3 := Lib.hid (stepA H2.out hb)
  clear hb H2
  go_wp2_with fail
  refine (awA4 _ H3.out.1).mono ?_
  rintro e w4 ⟨rfl, hb⟩
  have H4 := Lib.hid (stepA H3.out hb)
  clear hb H3
  go_wp2_with fail
  refine (awA5 _).mono ?_
  rintro e w5 ⟨rfl, hb⟩
  have H5 := Lib.hid (stepA H4.out hb)
  clear hb H4
  go_wp2_with fail
  refine (awA6 _).mono ?_
  rintro e w6 ⟨rfl, rfl⟩
  go_wp2_with (first | ((with_reducible refine (awA7 _).mono ?_); rintro e w7 ⟨rfl, rfl⟩) | ((with_reducible refine (awA8 _).mono ?_); rintro e w7 ⟨rfl, rfl⟩))
  go_ret
  exact ⟨rfl, H5.out⟩
end Go.Proofs.YtndaphdfhlefoaaDoor
