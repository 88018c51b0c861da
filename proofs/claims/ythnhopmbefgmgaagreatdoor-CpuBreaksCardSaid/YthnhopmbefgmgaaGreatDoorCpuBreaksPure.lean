/- Layer 5's statements: what CpuBreaks' run comes to: plain mathematics. -/
import Derived.Test.YthnhopmbefgmgaaGreatDoorCpuH
namespace Go.Proofs.YthnhopmbefgmgaaGreatDoor
set_option maxRecDepth 100000
open Go.RowKit Go.Maps
def kT : List Rg := T2R 0 64 7 7 64 128 0 0
theorem kt_w : TabW kT := tabW_of (by decide +kernel)
theorem kt_may : mayTB kT = true := by decide +kernel
def kA : X := ⟨16, 5, 0, 0, 9⟩
def kX1 : List X := [kA, ⟨28, 6, 0, 0, 64⟩]
def kX2 : List X := [kA, ⟨31, 0, 0, 5, 64⟩]
def kX3 : List X := [kA, ⟨40, 0, 0, 0, 60⟩]
def kX4 : List X := [kA, ⟨28, 6, 0, 0, 12⟩]
def kX5 : List X := [kA]
def kL (k : Nat) : List Int := [wordsL kX1, wordsL kX2, wordsL kX3, wordsL kX4, wordsL kX5 ++ [0, 0, 0, 0]].getD k []
theorem kL_len : ∀ k, k < 5 → (kL k).length = 8 := by decide +kernel
theorem kL_all : ∀ k, k < 5 → AllB (kL k) := by
  intro k hk x hx
  have h : ∀ k, k < 5 → (kL k).all (fun x => decide (0 ≤ x ∧ x < 256)) = true := by decide +kernel
  have := List.all_eq_true.1 (h k hk) x hx
  simpa using this
theorem kx_may : kX1.all mayXB = true ∧ kX2.all mayXB = true ∧ kX3.all mayXB = true ∧ kX4.all mayXB = true ∧ kX5.all mayXB = true := by decide +kernel
def kSt (k : Nat) (own : Bool) : St := { s := newS (s0 0 own), ev := [], lk := [], B := bB kT [kL k] 1 }
def kFin (k : Nat) (own : Bool) : St := ranS kT [] 50 (kSt k own)
theorem k_n : ∀ k, k < 5 → ∀ own, ranN kT [] 50 (kSt k own) = if k = 2 then 3 else 2 := by decide +kernel
theorem k_fin : ∀ k, k < 5 → ∀ own, (kFin k own).s.dn = 2 ∧ nth (kFin k own).s.R 5 = 9 ∧ nth (kFin k own).s.R 6 = 0 ∧ (kFin k own).ev.length = 0 ∧ (kFin k own).s.R.length = 32 ∧ (kFin k own).lk.length ≤ 10 := by decide +kernel
theorem k_step {k : Nat} (hk : k < 5) (own : Bool) : stepC kT [] (kFin k own) = kFin k own := by
  unfold stepC; rw [if_pos (by rw [(k_fin k hk own).1]; decide)]
theorem k_ran {k : Nat} (hk : k < 5) (own : Bool) (n : Nat) : ranN kT [] n (kFin k own) = 0 ∧ ranS kT [] n (kFin k own) = kFin k own := by
  have := runC_stop kT [] n (kFin k own) (by rw [(k_fin k hk own).1]; decide)
  unfold ranN ranS; rw [this]; exact ⟨rfl, rfl⟩
end Go.Proofs.YthnhopmbefgmgaaGreatDoor
