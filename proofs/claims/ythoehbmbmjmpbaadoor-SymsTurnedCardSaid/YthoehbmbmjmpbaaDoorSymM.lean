/- Layer 7: right. Condition: the tables of package ins read as they should. -/
import Derived.Test.YthoehbmbmjmpbaaDoorSymK
namespace Go.Proofs.YthoehbmbmjmpbaaDoor
set_option maxRecDepth 100000
open Go.RowKit
set_option linter.unusedVariables false
theorem chk_zero {l : List ObjD} {s : ByteArray} {c : Int} (h : ChkP l s c) : c = 0 ↔ (mayLs l = true ∧ (∀ x, ¬ clashP (bookM l) x) ∧ ∀ x, ¬ voidsP (bookM l) l.length (usL l l.length) x) := by
  rcases h with ⟨a, b, rfl⟩ | ⟨a, ⟨nm, h1, h2⟩, rfl⟩ | ⟨a, a2, ⟨nm, h1, h2⟩, rfl⟩ | ⟨a, a2, a3, b, rfl⟩
  · constructor
    · intro h; cases h
    · rintro ⟨h, _⟩; rw [a] at h; cases h
  · constructor
    · intro h; cases h
    · rintro ⟨_, h, _⟩
      exact absurd ((h1 s).1 h2.1) (h s)
  · constructor
    · intro h; cases h
    · rintro ⟨_, _, h⟩
      exact absurd ((h1 s).1 h2.1) (h s)
  · exact ⟨fun _ => ⟨a, a2, a3⟩, fun _ => rfl⟩
/-- Check finds a list OK -/
def okL (l : List ObjD) : Prop := mayLs l = true ∧ (∀ x, ¬ clashP (bookM l) x) ∧ ∀ x, ¬ voidsP (bookM l) l.length (usL l l.length) x
set_option maxHeartbeats 4000000 in
theorem syms_right_any (l : List ObjD) (hW : ∀ d ∈ l, ObjW d) (A : Option Addr) (n c lo hi : Nat) (hn : l.length = n) (hmx : n ≤ maxLen) (w : World) (hT : Tabs w) (hA : ObjsAt w lo hi l A) (hh : hi ≤ w.heap.size) :
    Calls Tryd.prog 40 #[.slice A n c] w fun e w' => ∃ b : Bool, e = .returned (.bool b) ∧ (b = true ↔ okL l) ∧ Below w.heap.size w w' := by
  have HC := Lib.hid (check_any l hW A n c lo hi hn hmx w hT hA hh)
  clear hW hn hA hh hT
  go_enter Tryd.func40, Tryd.ntmps40
  go_wp2_with fail
  refine HC.out.mono ?_
  rintro e w1 ⟨s, k, rfl, hc, hb⟩
  have HB := Lib.hid hb
  have HZ := Lib.hid (chk_zero hc)
  clear hb HC hc
  have HV := Lib.hid (show (decide (k = 0) = true ↔ okL l) from by rw [decide_eq_true_eq]; exact HZ.out)
  go_wp2
  go_ret
  exact ⟨decide (k = 0), rfl, HV.out, HB.out⟩
end Go.Proofs.YthoehbmbmjmpbaaDoor
