/- Layer 2: what the reference's call field answers. Condition: the word is one, the field lies in it. -/
import Derived.Test.YtjngkifoaljmaaaGreatDoorInsREncA
namespace Go.Proofs.YtjngkifoaljmaaaGreatDoor
set_option maxRecDepth 100000
open Go.RowKit
set_option linter.unusedVariables false
theorem rword_field (v f n : Int) (hv : IsW v) (hf : 0 ≤ f) (hn : 0 ≤ n) (h : f + n ≤ 64) (w : World) :
    Calls Tryz.prog 83 #[.int .u32 v, .int .i64 f, .int .i64 n] w fun e w' => e = .returned (.int .u64 (fld v f n)) ∧ w = w' := by
  obtain ⟨v0, v1⟩ := hv
  have HF := Lib.hid (fun w => rfield_yes v f n ⟨v0, by omega⟩ hf hn h w)
  go_enter Tryz.func83, Tryz.ntmps83
  go_wp2_with (go_at_call 55; refine (HF.out _).mono ?_; rintro e w' ⟨rfl, rfl⟩)
  go_ret
  exact ⟨rfl, rfl⟩
end Go.Proofs.YtjngkifoaljmaaaGreatDoor
