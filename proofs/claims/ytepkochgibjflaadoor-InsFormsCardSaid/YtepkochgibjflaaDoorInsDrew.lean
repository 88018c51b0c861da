/- Fields of words, with the count of draws told: one each. -/
import Derived.Test.YtepkochgibjflaaDoorInsEnc
import Derived.Deep.RegionWith
namespace Go.Proofs.YtepkochgibjflaaDoor
open Go.RowKit
set_option linter.unusedVariables false
theorem field_drew (v f n : Int) (hv : IsU v) (hf : 0 ≤ f) (hn : 0 ≤ n) (h : f + n ≤ 64) (w : World) :
    Calls Tryd.prog 19 #[.int .u64 v, .int .i64 f, .int .i64 n] w fun e w' => e = .returned (.tuple #[.int .u64 (fld v f n), .bool true]) ∧ w' = w.drew := by
  have hn64 : n ≤ 64 := by omega
  go_enter Tryd.func19, Tryd.ntmps19
  go_wp2_with (go_at_call 24; refine (within_yes _ _ _ hf hn h).mono ?_; rintro e w' ⟨rfl, rfl⟩)
  go_region_with ((go_at_call 23; refine (low_any _ hn hn64 _).mono ?_; rintro e w' ⟨rfl, rfl⟩))
  all_goals
    go_wp2
    go_ret2
    exact ⟨ret_u64_tup (field_eq hv hn (by omega)), rfl⟩
theorem wfield_drew (v f n : Int) (hv : IsW v) (hf : 0 ≤ f) (hn : 0 ≤ n) (h : f + n ≤ 64) (w : World) :
    Calls Tryd.prog 17 #[.int .u32 v, .int .i64 f, .int .i64 n] w fun e w' => e = .returned (.int .u32 (fld v f n)) ∧ w' = w.drew := by
  have hu := hv.u
  have hw := Lib.hid (wrap_u32 (isW_fld f n hv))
  have h0 := hv.1
  have h1 := hv.2
  go_enter Tryd.func17, Tryd.ntmps17
  go_wp2_with (go_at_call 19; refine (field_drew _ _ _ hu hf hn h _).mono ?_; rintro e w' ⟨rfl, rfl⟩)
  go_ret
  exact ⟨ret_u32 hw.out, rfl⟩
end Go.Proofs.YtepkochgibjflaaDoor
