/- Layer 5's statements: small of package caponierlaw05: which worlds are gone through. -/
import Derived.Test.YtoeagbcjnffpaaaGreatDoorMemSum
import Derived.Test.YtoeagbcjnffpaaaGreatDoorCpuOpen
namespace Go.Proofs.YtoeagbcjnffpaaaGreatDoor
set_option maxRecDepth 100000
open Go.RowKit Go.Maps
set_option linter.unusedVariables false
def SmP5 (T : List Rg) (rows : List (List Int)) (n1 n2 : Nat) (w : World) (e : Ending) (w' : World) : Prop :=
  ∃ bb : Bool, e = .returned (.bool bb) ∧ (bb = true → mayTB T = true ∧ n1 ≤ 20 ∧ n2 ≤ 20 ∧ ∀ i, i < n1 → (rowK rows i).length ≤ 20000) ∧ Below w.heap.size w w'
theorem IsRows.below {w w' : World} {A : Option Addr} {n : Nat} {rows : List (List Int)} (h : IsRows w A n rows) (hb : Below w.heap.size w w') : IsRows w' A n rows := by
  refine ⟨h.1, h.2.1, fun h0 => ?_⟩
  obtain ⟨b, off, e, hr⟩ := h.2.2 h0
  refine ⟨b, off, e, fun i hi => ?_⟩
  obtain ⟨A', c', q0, q1, q2, q3⟩ := hr i hi
  exact ⟨A', c', by rw [hb.cell (p := ⟨b, off + i, none⟩) (block_lt q0)]; exact q0, q1.below hb, q2, q3⟩
set_option maxHeartbeats 2000000 in
theorem small_any5 (A0 : Option Addr) (n0 c0 : Nat) (T : List Rg) (A1 : Option Addr) (n1 c1 : Nat) (rows : List (List Int)) (A2 : Option Addr) (n2 c2 : Nat) (s : CS) (w : World) (hT : IsTab w A0 n0 T) (hn0 : n0 ≤ maxLen) (hR : IsRows w A1 n1 rows) (hn2 : n2 ≤ maxLen) (hs : s.R.length = 32) :
    Calls Tryz.prog 7 #[.agg (worldL (.slice A0 n0 c0) (.slice A1 n1 c1) (.slice A2 n2 c2) s).toArray] w (SmP5 T rows n1 n2 w) := by
  have k0 : (w.alloc (.cells (worldL (.slice A0 n0 c0) (.slice A1 n1 c1) (.slice A2 n2 c2) s).toArray 30)).cell? ⟨w.heap.size, 0, none⟩ = some (.slice A0 n0 c0) := by
    rw [cell_of_row _ _ 0 _ _ _ (heap_alloc_last w _)]; rfl
  have k1 : (w.alloc (.cells (worldL (.slice A0 n0 c0) (.slice A1 n1 c1) (.slice A2 n2 c2) s).toArray 30)).cell? ⟨w.heap.size, 1, none⟩ = some (.slice A1 n1 c1) := by
    rw [cell_of_row _ _ 1 _ _ _ (heap_alloc_last w _)]; rfl
  have k2 : (w.alloc (.cells (worldL (.slice A0 n0 c0) (.slice A1 n1 c1) (.slice A2 n2 c2) s).toArray 30)).cell? ⟨w.heap.size, 2, none⟩ = some (.slice A2 n2 c2) := by
    rw [cell_of_row _ _ 2 _ _ _ (heap_alloc_last w _)]; rfl
  have hb0 : Below w.heap.size w (w.alloc (.cells (worldL (.slice A0 n0 c0) (.slice A1 n1 c1) (.slice A2 n2 c2) s).toArray 30)) := (Below.refl _ _).alloc (Nat.le_refl _) _
  have hz0 : (w.alloc (.cells (worldL (.slice A0 n0 c0) (.slice A1 n1 c1) (.slice A2 n2 c2) s).toArray 30)).heap.size = w.heap.size + 1 := by simp
  have HB0 := Lib.hid hb0
  have HZ0 := Lib.hid hz0
  have HT := Lib.hid (hT.below hb0)
  have HR := Lib.hid (hR.below hb0)
  have HN0 := Lib.hid hn0
  unfold maxLen at hn2 hn0
  have hn1 := hR.2.1
  unfold maxLen at hn1
  clear hT hR hb0 hz0
  go_enter Tryz.func7, Tryz.ntmps7
  go_wp2_with fail
  generalize (w.alloc (.cells (worldL (.slice A0 n0 c0) (.slice A1 n1 c1) (.slice A2 n2 c2) s).toArray 30)) = w1 at *
  refine (rmay_any A0 c0 T n0 (by have := HN0.out; unfold maxLen at this; omega) w1 HT.out).mono ?_
  rintro e w2 ⟨rfl, hb2⟩
  have HB2 := Lib.hid (HB0.out.trans (hb2.mono HB0.out.size))
  have m0 := (hb2.cell (p := ⟨w.heap.size, 0, none⟩) (by rw [HZ0.out]; simp)).trans k0
  have m1 := (hb2.cell (p := ⟨w.heap.size, 1, none⟩) (by rw [HZ0.out]; simp)).trans k1
  have m2 := (hb2.cell (p := ⟨w.heap.size, 2, none⟩) (by rw [HZ0.out]; simp)).trans k2
  have HT2 := Lib.hid (HT.out.below hb2)
  have HR2 := Lib.hid (HR.out.below hb2)
  clear k0 k1 k2 hb2 HT HR HB0
  cases hm : mayTB T with
  | false =>
    clear hm
    go_wp2
    all_goals
      go_ret
      exact ⟨false, rfl, fun h => (by cases h), HB2.out⟩
  | true =>
    have HM := Lib.hid hm
    have h0 : 0 < n0 := by have := (mayB_to hm).1; rw [HT2.out.1] at this; omega
    have h16 : n0 ≤ 16 := by have := (mayB_to hm).2.1; rw [HT2.out.1] at this; omega
    obtain ⟨b, off, rfl, ht⟩ := HT2.out.2.2.2 h0
    have HA := Lib.hid ht
    clear hm ht
    by_cases h1 : 20 < n1
    · have h1' : (20 : Int) < n1 := by omega
      go_wp2
      all_goals
        go_ret
        exact ⟨false, rfl, fun h => (by cases h), HB2.out⟩
    by_cases h2 : 20 < n2
    · have h2' : (20 : Int) < n2 := by omega
      have h1' : ¬ (20 : Int) < n1 := by omega
      go_wp2
      all_goals
        go_ret
        exact ⟨false, rfl, fun h => (by cases h), HB2.out⟩
    have h1' : ¬ (20 : Int) < n1 := by omega
    have h2' : ¬ (20 : Int) < n2 := by omega
    have H12 := Lib.hid (And.intro h1 h2)
    clear h1 h2
    go_wp2
    go_loopw [3, 4] (fun x i wr => ∃ (k : Nat) (y : Int), k ≤ n0 ∧ i = .int .i64 k ∧ x = .int .u64 y ∧ ∃ q, wr = w2.drewN q) (fun _ i _ => n0 - (intOf i).toNat)
    case atStart => exact ⟨0, 0, by omega, rfl, rfl, 0, rfl⟩
    case round =>
      obtain ⟨k, y, hk, rfl, rfl, q, rfl⟩ := hrel
      by_cases hlt : k < n0
      · have k0 : (0 : Int) ≤ k := by omega
        have k1 : (k : Int) < n0 := by omega
        obtain ⟨c0, c1, c2, c3⟩ := HA.out k (by rw [HT2.out.1]; exact hlt)
        clear c2 c3
        go_wp2_with fail
        go_quiet (fail)
        go_wp2
        go_roundw
        case rel => exact ⟨k + 1, _, by omega, by go_num, rfl, _, rfl⟩
        case measure => simp [intOf]; omega
      · obtain rfl : k = n0 := by omega
        have hn1' : n1 ≤ 20 := by have := H12.out.1; omega
        clear hk hlt
        go_wp2
        go_loop [5] (fun i => ∃ k : Nat, k ≤ n1 ∧ i = .int .i64 k ∧ ∀ j, j < k → (rowK rows j).length ≤ 20000) (fun i => n1 - (intOf i).toNat)
        case atStart => exact ⟨0, by omega, rfl, fun j hj => by omega⟩
        case round =>
          obtain ⟨j, hj, rfl, hall⟩ := hrel
          have HAll := Lib.hid hall
          clear hall
          by_cases hlt : j < n1
          · have j0 : (0 : Int) ≤ j := by omega
            have j1 : (j : Int) < n1 := by omega
            obtain ⟨b1, off1, rfl, hr⟩ := HR2.out.2.2 (by omega)
            obtain ⟨A', c', q0, q1, q2, q3⟩ := hr j hlt
            unfold maxLen at q3
            by_cases hbig : 20000 < (rowK rows j).length
            · have hbig' : (20000 : Int) < (rowK rows j).length := by omega
              clear hr q1 q2 hbig
              go_wp2
              go_ret
              exact ⟨false, rfl, fun h => (by cases h), bel_drewN HB2.out _⟩
            · have hbig' : ¬ (20000 : Int) < (rowK rows j).length := by omega
              have HAll2 := Lib.hid (show ∀ i, i < j + 1 → (rowK rows i).length ≤ 20000 from fun i hi => by
                by_cases e : i = j
                · subst e; omega
                · exact HAll.out i (by omega))
              clear hr q1 q2 hbig
              go_wp2
              go_round
              case rel => exact ⟨j + 1, by omega, by go_num, HAll2.out⟩
              case measure => simp [intOf]; omega
          · obtain rfl : j = n1 := by omega
            have HZ := Lib.hid (show mayTB T = true ∧ j ≤ 20 ∧ n2 ≤ 20 ∧ ∀ i, i < j → (rowK rows i).length ≤ 20000 from ⟨HM.out, by have := H12.out.1; omega, by have := H12.out.2; omega, HAll.out⟩)
            clear hlt hj
            go_wp2
            go_ret
            exact ⟨_, rfl, fun _ => HZ.out, bel_drewN HB2.out _⟩
end Go.Proofs.YtoeagbcjnffpaaaGreatDoor
