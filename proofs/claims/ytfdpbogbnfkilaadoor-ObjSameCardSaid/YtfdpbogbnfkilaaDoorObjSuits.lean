/- Layer 6: which relocation suits which operation. Condition: the tables of package ins read as they should. -/
import Derived.Test.YtfdpbogbnfkilaaDoorObjMay
import Derived.Test.YtfdpbogbnfkilaaDoorInsA
namespace Go.Proofs.YtfdpbogbnfkilaaDoor
set_option maxRecDepth 100000
open Go.RowKit
set_option linter.unusedVariables false
def suitB (k : Int) (n : Nat) : Bool :=
  if k = 0 then n == 38 else if k = 1 then n == 16 || n == 26 || n == 28 || n == 29 || n == 31 else if k = 2 then n == 40 else if k = 3 then opS n == 4 else false
theorem suit_tell : ∀ n, n < 43 → (opS n == 4) = (decide (32 ≤ n) && decide (n ≤ 37)) := fun n hn => all43 (p := fun n => (opS n == 4) = (decide (32 ≤ n) && decide (n ≤ 37))) (by decide +kernel) hn
set_option maxHeartbeats 2000000 in
theorem suits_any (k : Int) (n : Nat) (hn : n < 43) (w : World) (hT : Tabs w) :
    Calls Tryd.prog 116 #[.int .i64 k, .int .i64 n] w fun e w' => e = .returned (.bool (suitB k n)) ∧ w = w' := by
  have HT := Lib.hid hT
  clear hT
  by_cases k0 : k = 0
  · subst k0
    by_cases h : n = 38
    · subst h
      go_enter Tryd.func116, Tryd.ntmps116
      go_wp2
      go_ret
      exact ⟨rfl, rfl⟩
    · have HR := Lib.hid (show suitB 0 n = false by unfold suitB; simp [h])
      have g : ¬ (n : Int) = 38 := by omega
      go_enter Tryd.func116, Tryd.ntmps116
      go_wp2
      go_ret
      exact ⟨ret_bool (by rw [HR.out, beq_eq_false_iff_ne]; omega), rfl⟩
  by_cases k2 : k = 2
  · subst k2
    by_cases h : n = 40
    · subst h
      go_enter Tryd.func116, Tryd.ntmps116
      go_wp2
      go_ret
      exact ⟨rfl, rfl⟩
    · have HR := Lib.hid (show suitB 2 n = false by unfold suitB; simp [h])
      have g : ¬ (n : Int) = 40 := by omega
      go_enter Tryd.func116, Tryd.ntmps116
      go_wp2
      go_ret
      exact ⟨ret_bool (by rw [HR.out, beq_eq_false_iff_ne]; omega), rfl⟩
  by_cases k1 : k = 1
  · subst k1
    by_cases h : n = 16 ∨ n = 26 ∨ n = 28 ∨ n = 29 ∨ n = 31
    · rcases h with rfl | rfl | rfl | rfl | rfl
      all_goals
        go_enter Tryd.func116, Tryd.ntmps116
        go_wp2
        go_ret
        exact ⟨rfl, rfl⟩
    · have HR := Lib.hid (show suitB 1 n = false by unfold suitB; simp; omega)
      have g1 : ¬ (n : Int) = 16 := by omega
      have g2 : ¬ (n : Int) = 26 := by omega
      have g3 : ¬ (n : Int) = 28 := by omega
      have g4 : ¬ (n : Int) = 29 := by omega
      have g5 : ¬ (n : Int) = 31 := by omega
      clear h
      go_enter Tryd.func116, Tryd.ntmps116
      go_wp2
      go_ret
      exact ⟨ret_bool (by rw [HR.out]; simp only [Bool.or_eq_false_iff, beq_eq_false_iff_ne, ne_eq]; omega), rfl⟩
  by_cases k3 : k = 3
  · subst k3
    have HF := Lib.hid (form_yes n w hn HT.out)
    have hs := opS_lt hn
    have hR : suitB 3 n = (opS n == 4) := rfl
    obtain ⟨s, e⟩ : ∃ s, opS n = s := ⟨_, rfl⟩
    rw [e] at HF hs hR
    clear e
    rcases (by omega : s = 0 ∨ s = 1 ∨ s = 2 ∨ s = 3 ∨ s = 4 ∨ s = 5 ∨ s = 6 ∨ s = 7) with rfl | rfl | rfl | rfl | rfl | rfl | rfl | rfl
    all_goals
      have HR := Lib.hid hR
      clear hR k0 k1 k2
      go_enter Tryd.func116, Tryd.ntmps116
      go_wp2_with fail
      refine HF.out.mono ?_
      rintro e w' ⟨rfl, rfl⟩
      go_wp2
      go_ret
      exact ⟨ret_bool (by rw [HR.out]; decide +kernel), rfl⟩
  · have HR := Lib.hid (show suitB k n = false by unfold suitB; simp [k0, k1, k2, k3])
    go_enter Tryd.func116, Tryd.ntmps116
    go_wp2
    go_ret
    exact ⟨ret_bool HR.out.symm, rfl⟩
end Go.Proofs.YtfdpbogbnfkilaaDoor
