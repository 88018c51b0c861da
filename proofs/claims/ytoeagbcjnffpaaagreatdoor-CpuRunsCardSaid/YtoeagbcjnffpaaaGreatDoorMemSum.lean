/- Layer 4: small of layer 4's statements: whether a table is gone through. -/
import Derived.Test.YtoeagbcjnffpaaaGreatDoorMemSmall
import Derived.Test.YtoeagbcjnffpaaaGreatDoorMemOpen
namespace Go.Proofs.YtoeagbcjnffpaaaGreatDoor
set_option maxRecDepth 100000
open Go.RowKit
set_option linter.unusedVariables false

theorem rmay_none (A : Option Addr) (c : Nat) (w : World) : Calls Tryz.prog 32 #[.slice A 0 c] w fun e w' => e = .returned (.bool false) ∧ w = w' := by
  go_enter Tryz.func32, Tryz.ntmps32
  go_wp2
  go_loop [3] (fun i => i = .int .i64 0) (fun _ => 0)
  case atStart => rfl
  case round =>
    subst hrel
    go_wp2
    go_ret
    exact ⟨rfl, rfl⟩
/-- the reference's May of any table that isn't too long -/
theorem rmay_any (A : Option Addr) (c : Nat) (T : List Rg) (n : Nat) (h1 : n ≤ 9223372036854775807) (w : World) (hT : IsTab w A n T) :
    Calls Tryz.prog 32 #[.slice A n c] w fun e w' => e = .returned (.bool (mayTB T)) ∧ Below w.heap.size w w' := by
  obtain ⟨hl, hw, _, hc⟩ := hT
  by_cases h0 : n = 0
  · subst h0
    rw [mayB_out (.inl (by omega))]
    exact (rmay_none A c w).mono fun e w' ⟨h1, h2⟩ => ⟨h1, by rw [h2]; exact Below.refl _ _⟩
  · obtain ⟨b, off, rfl, ht⟩ := hc (by omega)
    exact rmay_some b off c T n hl h1 hw w ht
def SmP (len : Nat) (w : World) (e : Ending) (w' : World) : Prop := ∃ bb : Bool, e = .returned (.bool bb) ∧ (bb = true → len ≤ 100) ∧ Below w.heap.size w w'
theorem IsTab.below {w w' : World} {A : Option Addr} {n : Nat} {T : List Rg} (h : IsTab w A n T) (hb : Below w.heap.size w w') : IsTab w' A n T := by
  obtain ⟨h0, h1, h2, h3⟩ := h
  refine ⟨h0, h1, h2, fun hn => ?_⟩
  obtain ⟨b, off, e, ht⟩ := h3 hn
  exact ⟨b, off, e, ht.below hb⟩
end Go.Proofs.YtoeagbcjnffpaaaGreatDoor
