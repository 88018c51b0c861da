/- Layer 8: two rows of words compared by the reference. No condition. -/
import Derived.Test.YtjngkifoaljmaaaGreatDoorPlaP
import Derived.Test.YtjngkifoaljmaaaGreatDoorSynA
import Derived.Deep.QuietTactic
import Derived.BigQuiet
namespace Go.Proofs.YtjngkifoaljmaaaGreatDoor
set_option maxRecDepth 100000
open Go.RowKit
set_option linter.unusedVariables false
set_option maxHeartbeats 2000000 in
theorem longs_same (xs : List Int) (n : Nat) (hn : xs.length = n) (hmx : n ≤ 1000000) (A B : Option Addr) (c d b1 b2 : Nat) (w : World) (h1 : LgAt w b1 xs (.slice A n c)) (h2 : LgAt w b2 xs (.slice B n d)) :
    Calls Tryz.prog 15 #[.slice A n c, .slice B n d] w fun e w' => e = .returned (.bool true) ∧ Below w.heap.size w w' := by
  have HN := Lib.hid hn
  have H1 := Lib.hid h1
  have H2 := Lib.hid h2
  clear hn h1 h2
  go_enter Tryz.func15, Tryz.ntmps15
  go_wp2
  go_loopw [5] (fun i wr => ∃ (k q : Nat), k ≤ n ∧ i = .int .i64 k ∧ Hid (wr = w.drewN q)) (fun i _ => n - (intOf i).toNat)
  case atStart => exact ⟨0, 0, by omega, rfl, Lib.hid (by simp [World.drewN_zero])⟩
  case round =>
    obtain ⟨k, q, hk, rfl, HW⟩ := hrel
    have hw := HW.out
    clear HW
    subst hw
    by_cases hlt : k < n
    · have k0 : (0 : Int) ≤ k := by omega
      have k1 : (k : Int) < n := by omega
      have hkl : k < xs.length := by rw [HN.out]; exact hlt
      obtain ⟨g1, rfl, z1⟩ := H1.out.at_ hkl
      obtain ⟨g2, rfl, z2⟩ := H2.out.at_ hkl
      generalize xs[k] = X at *
      have t1 : ((X : Int) != X) = false := by simp
      clear hkl
      go_wp2
      go_quiet (fail)
      go_wp2
      go_roundw
      case rel => exact ⟨k + 1, _, by omega, by go_num, Lib.hid rfl⟩
      case measure => simp [intOf]; omega
    · have k1 : ¬ (k : Int) < n := by omega
      go_wp2
      go_ret
      exact ⟨rfl, below_drewN (Below.refl _ _) _⟩
set_option maxHeartbeats 2000000 in
theorem words_same (xs : List Int) (n : Nat) (hn : xs.length = n) (hmx : n ≤ 1000000) (A B : Option Addr) (c d b1 b2 : Nat) (w : World) (h1 : TxAt w b1 xs (.slice A n c)) (h2 : TxAt w b2 xs (.slice B n d)) :
    Calls Tryz.prog 14 #[.slice A n c, .slice B n d] w fun e w' => e = .returned (.bool true) ∧ Below w.heap.size w w' := by
  have HN := Lib.hid hn
  have H1 := Lib.hid h1
  have H2 := Lib.hid h2
  clear hn h1 h2
  go_enter Tryz.func14, Tryz.ntmps14
  go_wp2
  go_loopw [5] (fun i wr => ∃ (k q : Nat), k ≤ n ∧ i = .int .i64 k ∧ Hid (wr = w.drewN q)) (fun i _ => n - (intOf i).toNat)
  case atStart => exact ⟨0, 0, by omega, rfl, Lib.hid (by simp [World.drewN_zero])⟩
  case round =>
    obtain ⟨k, q, hk, rfl, HW⟩ := hrel
    have hw := HW.out
    clear HW
    subst hw
    by_cases hlt : k < n
    · have k0 : (0 : Int) ≤ k := by omega
      have k1 : (k : Int) < n := by omega
      have hkl : k < xs.length := by rw [HN.out]; exact hlt
      obtain ⟨g1, rfl, -, z1, -⟩ := H1.out.at_ hkl
      obtain ⟨g2, rfl, -, z2, -⟩ := H2.out.at_ hkl
      generalize xs[k] = X at *
      have t1 : ((X : Int) != X) = false := by simp
      clear hkl
      go_wp2
      go_quiet (fail)
      go_wp2
      go_roundw
      case rel => exact ⟨k + 1, _, by omega, by go_num, Lib.hid rfl⟩
      case measure => simp [intOf]; omega
    · have k1 : ¬ (k : Int) < n := by omega
      go_wp2
      go_ret
      exact ⟨rfl, below_drewN (Below.refl _ _) _⟩
section
open Go.ChangeShapes Go.WideShapes Go.Deep
variable {H : Type} {enc : TypeId × Value → H} {W : World} {base : Nat} {sp : Nat → Bool} {held : Bool} {d : DataW H} {p : List MemPlace}
theorem objs_cap {A : Option Addr} {n c : Nat} (h : DataW.Trod enc Tryz.prog W base sp held 22 (.slice A n c) d p) : n ≤ c := by
  obtain ⟨fuel, hf⟩ := h
  rcases open_slice Tryz.underlying22 hf with ⟨e, _⟩ | ⟨a, len, cap, m, n', D, Pl, e, _, hl, _⟩
  · simp [Value.cells] at e
    obtain ⟨rfl, rfl, rfl⟩ := e
    exact Nat.le_refl _
  · simp [Value.cells] at e
    obtain ⟨rfl, rfl, rfl⟩ := e
    exact hl
end
end Go.Proofs.YtjngkifoaljmaaaGreatDoor
