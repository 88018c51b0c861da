/- Layer 7: cmp.Compare of ints. No condition. -/
import Derived.Test.YthoehbmbmjmpbaaDoorSymO
namespace Go.Proofs.YthoehbmbmjmpbaaDoor
set_option maxRecDepth 100000
open Go.RowKit Go.Maps
set_option linter.unusedVariables false
/-- cmp.Compare -/
def cmpI (x y : Int) : Int := if x < y then -1 else if y < x then 1 else 0
theorem isnan_any (x : Int) (w : World) : Calls Tryd.prog 103 #[.int .i64 x] w fun e w' => e = .returned (.bool false) ∧ w' = w := by
  go_enter Tryd.func103, Tryd.ntmps103
  go_wp2
  go_ret
  exact ⟨by simp, rfl⟩
set_option maxHeartbeats 4000000 in
theorem compare_any (x y : Int) (w : World) : Calls Tryd.prog 70 #[.int .i64 x, .int .i64 y] w fun e w' => e = .returned (.int .i64 (cmpI x y)) ∧ w' = w := by
  have HC := fun (z : Int) (W : World) => isnan_any z W
  unfold cmpI
  by_cases h1 : x < y
  · have HR := Lib.hid (show (if x < y then (-1 : Int) else if y < x then 1 else 0) = -1 from if_pos h1)
    rw [HR.out]
    go_enter Tryd.func70, Tryd.ntmps70
    go_wp2_with (go_at_call 103; refine (HC _ _).mono ?_; rintro e w' ⟨rfl, rfl⟩)
    go_ret
    exact ⟨rfl, rfl⟩
  · by_cases h2 : y < x
    · rw [if_neg h1, if_pos h2]
      have h2' : x > y := h2
      go_enter Tryd.func70, Tryd.ntmps70
      go_wp2_with (go_at_call 103; refine (HC _ _).mono ?_; rintro e w' ⟨rfl, rfl⟩)
      go_ret
      exact ⟨rfl, rfl⟩
    · rw [if_neg h1, if_neg h2]
      have h2' : ¬ x > y := h2
      go_enter Tryd.func70, Tryd.ntmps70
      go_wp2_with (go_at_call 103; refine (HC _ _).mono ?_; rintro e w' ⟨rfl, rfl⟩)
      go_ret
      exact ⟨rfl, rfl⟩
end Go.Proofs.YthoehbmbmjmpbaaDoor
