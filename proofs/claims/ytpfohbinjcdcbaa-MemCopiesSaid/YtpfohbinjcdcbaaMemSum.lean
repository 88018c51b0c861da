/- Layer 4: small of layer 4's statements: whether a table is gone through. -/
import Derived.Test.YtpfohbinjcdcbaaMemSmall
import Derived.Test.YtpfohbinjcdcbaaMemOpen
namespace Go.Proofs.Ytpfohbinjcdcbaa
open Go.RowKit
set_option linter.unusedVariables false

theorem rmay_none (A : Option Addr) (c : Nat) (w : World) : Calls Try.prog 10 #[.slice A 0 c] w fun e w' => e = .returned (.bool false) ∧ w = w' := by
  go_enter Try.func10, Try.ntmps10
  go_wp2
  go_loop [3] (fun i => i = .int .i64 0) (fun _ => 0)
  case atStart => rfl
  case round =>
    subst hrel
    go_wp2
    go_ret
    exact ⟨rfl, rfl⟩
/-- the reference's May of any table that isn't too long -/
theorem rmay_any (A : Option Addr) (c : Nat) (T : List Rg) (n : Nat) (h1 : n ≤ 100) (w : World) (hT : IsTab w A n T) :
    Calls Try.prog 10 #[.slice A n c] w fun e w' => e = .returned (.bool (mayB T)) ∧ Below w.heap.size w w' := by
  obtain ⟨hl, hw, _, hc⟩ := hT
  by_cases h0 : n = 0
  · subst h0
    rw [mayB_out (.inl (by omega))]
    exact (rmay_none A c w).mono fun e w' ⟨h1, h2⟩ => ⟨h1, by rw [h2]; exact Below.refl _ _⟩
  · obtain ⟨b, off, rfl, ht⟩ := hc (by omega)
    exact rmay_some b off c T n hl h1 hw w ht
def SmP (len : Nat) (w : World) (e : Ending) (w' : World) : Prop := ∃ bb : Bool, e = .returned (.bool bb) ∧ (bb = true → len ≤ 100) ∧ Below w.heap.size w w'
theorem IsTab.below {w w' : World} {A : Option Addr} {n : Nat} {T : List Rg} (h : IsTab w A n T) (hb : Below w.heap.size w w') : IsTab w' A n T := by
  obtain ⟨h0, h1, h2, h3⟩ := h
  refine ⟨h0, h1, h2, fun hn => ?_⟩
  obtain ⟨b, off, e, ht⟩ := h3 hn
  exact ⟨b, off, e, ht.below hb⟩
set_option maxHeartbeats 2000000 in
theorem small_any (A : Option Addr) (c : Nat) (T : List Rg) (n : Nat) (w : World) (hT : IsTab w A n T) : Calls Try.prog 9 #[.slice A n c] w (SmP n w) := by
  have HT := Lib.hid hT
  have hmax := hT.2.2.1
  clear hT
  by_cases h1 : 100 < n
  · have h2 : (100 : Int) < n := by omega
    go_enter Try.func9, Try.ntmps9
    go_wp2
    go_ret
    exact ⟨false, rfl, fun h => (by cases h), Below.refl _ _⟩
  have h2 : (n : Int) ≤ 100 := by omega
  have H1 := Lib.hid (show n ≤ 100 by omega)
  clear h1
  go_enter Try.func9, Try.ntmps9
  go_wp2_with fail
  refine (rmay_any A c T n H1.out _ HT.out).mono ?_
  rintro e w1 ⟨rfl, hb1⟩
  have HB := Lib.hid hb1
  clear hb1
  cases hm : mayB T with
  | false =>
    go_wp2
    go_ret
    exact ⟨true, rfl, fun _ => H1.out, HB.out⟩
  | true =>
    have HM := Lib.hid hm
    have h0 : 0 < n := by have := (mayB_to hm).1; rw [HT.out.1] at this; omega
    obtain ⟨b, off, rfl, ht⟩ := HT.out.2.2.2 h0
    have HA := Lib.hid (ht.below HB.out)
    clear hm ht
    go_wp2_with fail
    go_loopw [3, 4] (fun x i wr => ∃ (k : Nat) (y : Int), k ≤ n ∧ i = .int .i64 k ∧ x = .int .u64 y ∧ ∃ q, wr = w1.drewN q) (fun _ i _ => n - (intOf i).toNat)
    case atStart => exact ⟨0, 0, by omega, rfl, rfl, 0, rfl⟩
    case round =>
      obtain ⟨k, y, hk, rfl, rfl, q, rfl⟩ := hrel
      by_cases hlt : k < n
      · have k0 : (0 : Int) ≤ k := by omega
        have k1 : (k : Int) < n := by omega
        obtain ⟨c0, c1, c2, c3⟩ := HA.out k (by rw [HT.out.1]; exact hlt)
        clear c2 c3
        go_wp2_with fail
        go_quiet (fail)
        go_wp2
        go_roundw
        case rel => exact ⟨k + 1, _, by omega, by go_num, rfl, _, rfl⟩
        case measure => simp [intOf]; omega
      · obtain rfl : k = n := by omega
        go_wp2
        go_ret
        exact ⟨_, rfl, fun _ => H1.out, bel_drewN HB.out _⟩
end Go.Proofs.Ytpfohbinjcdcbaa
