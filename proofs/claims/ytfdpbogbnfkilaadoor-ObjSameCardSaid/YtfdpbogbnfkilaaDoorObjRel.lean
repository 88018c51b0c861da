/- Layer 6: the looker's rel. Condition: the tables of package ins read as they should. -/
import Derived.Test.YtfdpbogbnfkilaaDoorObjSym
namespace Go.Proofs.YtfdpbogbnfkilaaDoor
set_option maxRecDepth 100000
open Go.RowKit Go.Maps
set_option linter.unusedVariables false
set_option maxHeartbeats 2000000 in
theorem rel_far (v1 v2 v3 v4 v5 : Value) (A6 : Option Addr) (n6 c6 : Nat) (b : Nat) (i : Int) (h6 : n6 ≤ 4096) (a k : Int) (s : ByteArray) (d : Int) (hi : IsI a) (hbad : a.tmod 4 ≠ 0 ∨ a < 0 ∨ 4 * (n6 : Int) - 1 < a) (w : World) :
    Calls Tryd.prog 85 #[.agg #[v1, v2, v3, v4, v5, .slice A6 n6 c6, .map (some b)], .int .i64 i, .agg #[.int .i64 a, .int .i64 k, .string s, .int .i64 d]] w fun e w' =>
      e = .returned (.bool false) ∧ Below w.heap.size w w' := by
  have HB := Lib.hid (fun q => belq (((Below.refl w.heap.size w).alloc (Nat.le_refl _) (.cells #[v1, v2, v3, v4, v5, .slice A6 n6 c6, .map (some b)] 92)).alloc (by simp) (.cells #[.int .i64 a, .int .i64 k, .string s, .int .i64 d] 49)) q)
  have HB0 := Lib.hid (((Below.refl w.heap.size w).alloc (Nat.le_refl _) (.cells #[v1, v2, v3, v4, v5, .slice A6 n6 c6, .map (some b)] 92)).alloc (by simp) (.cells #[.int .i64 a, .int .i64 k, .string s, .int .i64 d] 49))
  obtain ⟨o0, o1⟩ := hi
  by_cases m : a.tmod 4 = 0
  · have hbad2 : a < 0 ∨ 4 * (n6 : Int) - 1 < a := by rcases hbad with h | h; exact absurd m h; exact h
    clear hbad
    rcases hbad2 with h | h
    · have g : ¬ 0 ≤ a := by omega
      go_enter Tryd.func85, Tryd.ntmps85
      go_wp2
      all_goals
        go_ret
        first | exact ⟨rfl, HB0.out⟩ | exact ⟨rfl, HB.out _⟩
    · have g : ¬ a ≤ 4 * (n6 : Int) - 1 := by omega
      have g0 : 0 ≤ a := by omega
      go_enter Tryd.func85, Tryd.ntmps85
      go_wp2
      all_goals
        go_ret
        first | exact ⟨rfl, HB0.out⟩ | exact ⟨rfl, HB.out _⟩
  · clear hbad
    go_enter Tryd.func85, Tryd.ntmps85
    go_wp2
    all_goals
      go_ret
      first | exact ⟨rfl, HB0.out⟩ | exact ⟨rfl, HB.out _⟩
end Go.Proofs.YtfdpbogbnfkilaaDoor
