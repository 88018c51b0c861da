/- Layer 6: the parts of package obj's looking that ask for nothing: within, fewEnough, paramsMay. -/
import Derived.Test.YtfdpbogbnfkilaaDoorObjWrB
namespace Go.Proofs.YtfdpbogbnfkilaaDoor
set_option maxRecDepth 100000
open Go.RowKit
set_option linter.unusedVariables false
def inB (x m : Int) : Bool := decide (0 ≤ x) && decide (x ≤ m)
theorem inB_neg {x m : Int} (h : x < 0) : inB x m = false := by unfold inB; rw [decide_eq_false (by omega)]; rfl
theorem inB_pos {x m : Int} (h : 0 ≤ x) : inB x m = decide (x ≤ m) := by unfold inB; rw [decide_eq_true h]; rfl
theorem within_any (x m : Int) (w : World) : Calls Tryd.prog 115 #[.int .i64 x, .int .i64 m] w fun e w' => e = .returned (.bool (inB x m)) ∧ w = w' := by
  by_cases h : 0 ≤ x
  · have HR := Lib.hid (inB_pos (m := m) h)
    by_cases h2 : x ≤ m
    · rw [decide_eq_true h2] at HR
      go_enter Tryd.func115, Tryd.ntmps115
      go_wp2
      go_ret
      exact ⟨ret_bool HR.out.symm, rfl⟩
    · rw [decide_eq_false h2] at HR
      go_enter Tryd.func115, Tryd.ntmps115
      go_wp2
      go_ret
      exact ⟨ret_bool HR.out.symm, rfl⟩
  · have HR := Lib.hid (inB_neg (m := m) (by omega : x < 0))
    go_enter Tryd.func115, Tryd.ntmps115
    go_wp2
    go_ret
    exact ⟨ret_bool HR.out.symm, rfl⟩
def parB (zs : List Int) : Bool := decide (zs.length ≤ 6) && zs.all (fun z => inB z 64)
theorem parB_long {zs : List Int} (h : ¬ zs.length ≤ 6) : parB zs = false := by unfold parB; rw [decide_eq_false h]; rfl
theorem parB_bad {zs : List Int} {k : Nat} (hk : k < zs.length) (h : inB (nth zs k) 64 = false) : parB zs = false := by
  have : zs.all (fun z => inB z 64) = false := List.all_eq_false.2 ⟨nth zs k, by rw [nth_get hk]; exact List.getElem_mem hk, by rw [h]; exact Bool.false_ne_true⟩
  unfold parB; rw [this, Bool.and_false]
theorem parB_good {zs : List Int} (hl : zs.length ≤ 6) (h : ∀ k, k < zs.length → inB (nth zs k) 64 = true) : parB zs = true := by
  have : zs.all (fun z => inB z 64) = true := List.all_eq_true.2 fun z hz => by
    obtain ⟨k, hk, e⟩ := List.mem_iff_getElem.1 hz
    have := h k hk
    rw [nth_get hk, e] at this
    exact this
  unfold parB; rw [this, decide_eq_true hl]; rfl
set_option maxHeartbeats 1000000 in
theorem params_may (A : Option Addr) (zs : List Int) (n c : Nat) (hn : zs.length = n) (w : World) (hm : n ≤ maxLen) (hA : ParR w (fun _ => False) A zs) :
    Calls Tryd.prog 117 #[.slice A n c] w fun e w' => e = .returned (.bool (parB zs)) ∧ w = w' := by
  have HN := Lib.hid hn
  have HA := Lib.hid hA
  by_cases h6 : n ≤ 6
  · have i8 : (n : Int) ≤ 6 := by omega
    have i9 : ¬ (n : Int) > 6 := by omega
    have HL := Lib.hid (show zs.length ≤ 6 by omega)
    clear hn hA hm
    go_enter Tryd.func117, Tryd.ntmps117
    go_wp2
    go_loop [10] (fun i => ∃ k : Nat, k ≤ n ∧ i = .int .i64 k ∧ Hid (∀ j, j < k → inB (nth zs j) 64 = true)) (fun i => n - (intOf i).toNat)
    case atStart => exact ⟨0, by omega, rfl, Lib.hid (fun j hj => by omega)⟩
    case round =>
      obtain ⟨k, hk, rfl, HK⟩ := hrel
      by_cases hlt : k < n
      · have k0 : (0 : Int) ≤ k := by omega
        have k1 : (k : Int) < n := by omega
        have hlz : k < zs.length := by rw [HN.out]; exact hlt
        rcases HA.out with e | ⟨b, o, rfl, hb, hnF, hc⟩
        · subst e; simp at hlz
        have hcell := hc k hlz
        have HZ := Lib.hid hlz
        clear hc hb hnF hlz
        cases hi : inB (nth zs k) 64 with
        | true =>
          have HI := Lib.hid hi
          have HK2 := Lib.hid (fun j (hj : j < k + 1) => show inB (nth zs j) 64 = true from by
            by_cases e : j = k
            · subst e; exact HI.out
            · exact HK.out j (by omega))
          clear hi
          go_wp2_with fail
          refine (within_any _ _ _).mono ?_
          rw [HI.out]
          rintro e w' ⟨rfl, rfl⟩
          go_wp2
          go_round
          case rel => exact ⟨k + 1, by omega, by go_num, HK2⟩
          case measure => simp [intOf]; omega
        | false =>
          have HI := Lib.hid hi
          have HR := Lib.hid (parB_bad HZ.out hi)
          clear hi
          go_wp2_with fail
          refine (within_any _ _ _).mono ?_
          rw [HI.out]
          rintro e w' ⟨rfl, rfl⟩
          go_wp2
          go_ret
          exact ⟨ret_bool HR.out.symm, rfl⟩
      · have hkn : k = n := by omega
        have k1 : ¬ (k : Int) < n := by omega
        have HR := Lib.hid (parB_good HL.out (fun j hj => HK.out j (by rw [hkn, ← HN.out]; exact hj)))
        clear hkn hlt
        go_wp2
        go_ret
        exact ⟨ret_bool HR.out.symm, rfl⟩
  · have i8 : ¬ (n : Int) ≤ 6 := by omega
    have i9 : (n : Int) > 6 := by omega
    have HR := Lib.hid (parB_long (zs := zs) (by omega))
    clear hn hA hm
    go_enter Tryd.func117, Tryd.ntmps117
    go_wp2
    go_ret
    exact ⟨ret_bool HR.out.symm, rfl⟩
def fewB (n1 n2 n3 n4 n5 : Nat) : Bool := decide (n1 ≤ 4096) && decide (n2 ≤ 1024) && decide (n3 ≤ 256) && decide (n4 ≤ 1024) && decide (n5 ≤ 64)
set_option maxHeartbeats 1000000 in
theorem few_any (A1 A2 A3 A4 A5 : Option Addr) (n1 n2 n3 n4 n5 c1 c2 c3 c4 c5 : Nat) (w : World) :
    Calls Tryd.prog 46 #[.agg #[.slice A1 n1 c1, .slice A2 n2 c2, .slice A3 n3 c3, .slice A4 n4 c4, .slice A5 n5 c5]] w fun e w' => e = .returned (.bool (fewB n1 n2 n3 n4 n5)) ∧ Below w.heap.size w w' := by
  by_cases h1 : n1 ≤ 4096
  case neg =>
    have g1 : ¬ (n1 : Int) ≤ 4096 := by omega
    have HR := Lib.hid (show fewB n1 n2 n3 n4 n5 = false by unfold fewB; simp [h1])
    go_enter Tryd.func46, Tryd.ntmps46
    go_wp2
    go_ret
    exact ⟨ret_bool HR.out.symm, (Below.refl w.heap.size w).alloc (Nat.le_refl _) _⟩
  have g1 : (n1 : Int) ≤ 4096 := by omega
  by_cases h2 : n2 ≤ 1024
  case neg =>
    have g2 : ¬ (n2 : Int) ≤ 1024 := by omega
    have HR := Lib.hid (show fewB n1 n2 n3 n4 n5 = false by unfold fewB; simp [h2])
    go_enter Tryd.func46, Tryd.ntmps46
    go_wp2
    go_ret
    exact ⟨ret_bool HR.out.symm, (Below.refl w.heap.size w).alloc (Nat.le_refl _) _⟩
  have g2 : (n2 : Int) ≤ 1024 := by omega
  by_cases h3 : n3 ≤ 256
  case neg =>
    have g3 : ¬ (n3 : Int) ≤ 256 := by omega
    have HR := Lib.hid (show fewB n1 n2 n3 n4 n5 = false by unfold fewB; simp [h3])
    go_enter Tryd.func46, Tryd.ntmps46
    go_wp2
    go_ret
    exact ⟨ret_bool HR.out.symm, (Below.refl w.heap.size w).alloc (Nat.le_refl _) _⟩
  have g3 : (n3 : Int) ≤ 256 := by omega
  by_cases h4 : n4 ≤ 1024
  case neg =>
    have g4 : ¬ (n4 : Int) ≤ 1024 := by omega
    have HR := Lib.hid (show fewB n1 n2 n3 n4 n5 = false by unfold fewB; simp [h4])
    go_enter Tryd.func46, Tryd.ntmps46
    go_wp2
    go_ret
    exact ⟨ret_bool HR.out.symm, (Below.refl w.heap.size w).alloc (Nat.le_refl _) _⟩
  have g4 : (n4 : Int) ≤ 1024 := by omega
  by_cases h5 : n5 ≤ 64
  case neg =>
    have g5 : ¬ (n5 : Int) ≤ 64 := by omega
    have HR := Lib.hid (show fewB n1 n2 n3 n4 n5 = false by unfold fewB; simp [h5])
    go_enter Tryd.func46, Tryd.ntmps46
    go_wp2
    go_ret
    exact ⟨ret_bool HR.out.symm, (Below.refl w.heap.size w).alloc (Nat.le_refl _) _⟩
  have g5 : (n5 : Int) ≤ 64 := by omega
  have HR := Lib.hid (show fewB n1 n2 n3 n4 n5 = true by unfold fewB; simp [h1, h2, h3, h4, h5])
  go_enter Tryd.func46, Tryd.ntmps46
  go_wp2
  go_ret
  exact ⟨ret_bool HR.out.symm, (Below.refl w.heap.size w).alloc (Nat.le_refl _) _⟩
end Go.Proofs.YtfdpbogbnfkilaaDoor
