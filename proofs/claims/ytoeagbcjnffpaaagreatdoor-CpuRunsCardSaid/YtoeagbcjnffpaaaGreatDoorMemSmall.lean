/- Layer 4: the reference's May, and which tables are gone through. -/
import Derived.Test.YtoeagbcjnffpaaaGreatDoorMemA
namespace Go.Proofs.YtoeagbcjnffpaaaGreatDoor
set_option maxRecDepth 100000
open Go.RowKit
set_option linter.unusedVariables false

/-- may region k stand behind the one ahead? -/
def stepB (T : List Rg) (k : Nat) : Bool := okB (nthR T k) && (decide (k = 0) || decide (rhi (nthR T (k - 1)) ≤ rlo (nthR T k)))
def allB (T : List Rg) (k : Nat) : Bool := (List.range k).all (stepB T)
theorem allB_succ (T : List Rg) (k : Nat) : allB T (k + 1) = (allB T k && stepB T k) := by simp [allB, List.range_succ]
theorem chk_of {T : List Rg} : ∀ (k : Nat) {e : Int}, (∀ i, k ≤ i → i < T.length → stepB T i = true) → (k < T.length → e ≤ rlo (nthR T k)) → chk e (T.drop k) = true := by
  intro k
  induction hn : T.length - k generalizing k with
  | zero => intro e _ _; rw [List.drop_of_length_le (by omega)]; rfl
  | succ n ih =>
    intro e h he
    have hk : k < T.length := by omega
    rw [chk_at hk]
    have h1 := h k (Nat.le_refl _) hk
    simp only [stepB, Bool.and_eq_true] at h1
    rw [h1.1, show decide (e ≤ rlo (nthR T k)) = true from decide_eq_true (he hk), Bool.true_and, Bool.true_and]
    refine ih (k + 1) (by omega) (fun i hi hi2 => h i (by omega) hi2) (fun hk2 => ?_)
    have h2 := h (k + 1) (by omega) hk2
    simp only [stepB, Bool.and_eq_true, Bool.or_eq_true, decide_eq_true_eq] at h2
    rcases h2.2 with h3 | h3
    · omega
    · exact h3
theorem chk_to {T : List Rg} (h : chk 0 T = true) : allB T T.length = true := by
  rw [allB, List.all_eq_true]
  intro k hk
  have hk' : k < T.length := by simpa using hk
  have h1 := chk_all h k hk'
  simp only [stepB, Bool.and_eq_true, Bool.or_eq_true, decide_eq_true_eq]
  refine ⟨h1.1, ?_⟩
  by_cases e : k = 0
  · exact .inl e
  · exact .inr (chk_rise h (k - 1) k (by omega) hk')
theorem mayB_all {T : List Rg} (hW : TabW T) : mayTB T = (decide (1 ≤ T.length) && decide (T.length ≤ 16) && allB T T.length) := by
  unfold mayTB
  congr 1
  rw [Bool.eq_iff_iff]
  constructor
  · exact chk_to
  · intro h
    rw [allB, List.all_eq_true] at h
    have := chk_of (T := T) (e := 0) 0 (fun i _ hi => h i (by simpa using hi)) (fun h0 => (hW 0 h0).1.1)
    simpa using this
theorem allB_no {T : List Rg} {k n : Nat} (hk : k < n) (h : stepB T k = false) : allB T n = false := by
  rw [allB, List.all_eq_false]
  exact ⟨k, by simpa using hk, by rw [h]; simp⟩
/-- what the reference says of a region -/
def RefK (T : List Rg) (n : Nat) (w w' : World) (k : Nat) : Prop := k ≤ n ∧ allB T k = true ∧ Below w.heap.size w w'

theorem stepB_iff {T : List Rg} {k : Nat} : stepB T k = true ↔ (rlo (nthR T k) < rhi (nthR T k) ∧ rhi (nthR T k) - rlo (nthR T k) ≤ 65536 ∧ rlo (nthR T k) % 8 = 0 ∧ rhi (nthR T k) % 8 = 0 ∧ 0 ≤ rown (nthR T k) ∧ rown (nthR T k) ≤ 7 ∧ 0 ≤ rout (nthR T k) ∧ rout (nthR T k) ≤ 7) ∧ (k = 0 ∨ rhi (nthR T (k - 1)) ≤ rlo (nthR T k)) := by
  rw [← okB_iff]; simp [stepB]
theorem stepB_no {T : List Rg} {k : Nat} (h : ¬ ((rlo (nthR T k) < rhi (nthR T k) ∧ rhi (nthR T k) - rlo (nthR T k) ≤ 65536 ∧ rlo (nthR T k) % 8 = 0 ∧ rhi (nthR T k) % 8 = 0 ∧ 0 ≤ rown (nthR T k) ∧ rown (nthR T k) ≤ 7 ∧ 0 ≤ rout (nthR T k) ∧ rout (nthR T k) ≤ 7) ∧ (k = 0 ∨ rhi (nthR T (k - 1)) ≤ rlo (nthR T k)))) : stepB T k = false := by
  cases e : stepB T k with
  | false => rfl
  | true => exact absurd (stepB_iff.1 e) h
set_option maxRecDepth 100000 in
set_option maxHeartbeats 8000000 in
theorem rmay_some (b off c : Nat) (T : List Rg) (n : Nat) (hn : T.length = n) (h1 : n ≤ 9223372036854775807) (hW : TabW T) (w : World) (hT : TabAt w b off T) :
    Calls Tryz.prog 32 #[.slice (some ⟨b, off, none⟩) n c] w fun e w' => e = .returned (.bool (mayTB T)) ∧ Below w.heap.size w w' := by
  rw [mayB_all hW, hn]
  have Hn := Lib.hid hn
  have HT := Lib.hid hT
  have HW := Lib.hid hW
  clear hn hT hW
  go_enter Tryz.func32, Tryz.ntmps32
  go_wp2
  go_loopw [3] (fun i wr => ∃ (k : Nat), i = .int .i64 k ∧ RefK T n w wr k) (fun i _ => n - (intOf i).toNat)
  case atStart => exact ⟨0, rfl, by omega, rfl, Below.refl _ _⟩
  case round =>
    obtain ⟨k, rfl, hk, ha, hb⟩ := hrel
    have HB := Lib.hid hb
    have HA := Lib.hid ha
    by_cases hlt : k < n
    · have hkT : k < T.length := by have := Hn.out; omega
      obtain ⟨c0, c1, c2, c3⟩ := (HT.out.below hb) k hkT
      have hr := HW.out k hkT
      obtain ⟨⟨l0, l1⟩, ⟨u0, u1⟩, _⟩ := hr
      have k0 : (0 : Int) ≤ k := by omega
      have k1 : (k : Int) < n := by omega
      clear hb ha
      generalize hR : nthR T k = R at *
      have HR := Lib.hid hR
      clear hR
      go_wp2_with fail
      have HN1 := Lib.hid k1
      have hwr : rlo R < rhi R → IntKind.u64.wrap (rhi R - rlo R) = rhi R - rlo R := fun h => by rw [IntKind.wrap_u64]; omega
      have HWR := Lib.hid hwr
      clear hwr
      by_cases z1 : rhi R ≤ rlo R
      · have HE := Lib.hid (allB_no hlt (stepB_no (T := T) (k := k) (by rw [HR.out]; omega)))
        clear HW HN1
        go_quiet (fail)
        go_wp2
        go_ret
        exact ⟨ret_bool (by rw [HE.out]; simp), bel_drewN (HB.out.alloc HB.out.size _) _⟩
      · have yz1 : rlo R < rhi R := by omega
        have dz1 : decide (rhi R ≤ rlo R) = false := by rw [decide_eq_false_iff_not]; exact z1
        have Hz1 := Lib.hid z1
        clear z1
        have wr1 := HWR.out yz1
        by_cases z2 : ¬ rlo R % 8 = 0
        · have ez2 : (rlo R % 8 != 0) = true := by rw [bne_iff_ne]; exact z2
          have gz2 : (rlo R % 8 == 0) = false := by rw [beq_eq_false_iff_ne]; exact z2
          have HE := Lib.hid (allB_no hlt (stepB_no (T := T) (k := k) (by rw [HR.out]; omega)))
          clear HW HN1
          go_quiet (fail)
          go_wp2
          go_ret
          exact ⟨ret_bool (by rw [HE.out]; simp), bel_drewN (HB.out.alloc HB.out.size _) _⟩
        · have yz2 : rlo R % 8 = 0 := by omega
          clear z2
          by_cases z3 : ¬ rhi R % 8 = 0
          · have ez3 : (rhi R % 8 != 0) = true := by rw [bne_iff_ne]; exact z3
            have gz3 : (rhi R % 8 == 0) = false := by rw [beq_eq_false_iff_ne]; exact z3
            have HE := Lib.hid (allB_no hlt (stepB_no (T := T) (k := k) (by rw [HR.out]; omega)))
            clear HW HN1
            go_quiet (fail)
            go_wp2
            go_ret
            exact ⟨ret_bool (by rw [HE.out]; simp), bel_drewN (HB.out.alloc HB.out.size _) _⟩
          · have yz3 : rhi R % 8 = 0 := by omega
            clear z3
            by_cases z4 : 65536 < rhi R - rlo R
            · have HE := Lib.hid (allB_no hlt (stepB_no (T := T) (k := k) (by rw [HR.out]; omega)))
              clear HW HN1
              go_quiet (fail)
              go_wp2
              go_ret
              exact ⟨ret_bool (by rw [HE.out]; simp), bel_drewN (HB.out.alloc HB.out.size _) _⟩
            · have yz4 : rhi R - rlo R ≤ 65536 := by omega
              have dz4 : decide (65536 < rhi R - rlo R) = false := by rw [decide_eq_false_iff_not]; exact z4
              have Hz4 := Lib.hid z4
              clear z4
              by_cases z5 : rown R < 0
              · have HE := Lib.hid (allB_no hlt (stepB_no (T := T) (k := k) (by rw [HR.out]; omega)))
                clear HW HN1
                go_quiet (fail)
                go_wp2
                go_ret
                exact ⟨ret_bool (by rw [HE.out]; simp), bel_drewN (HB.out.alloc HB.out.size _) _⟩
              · have yz5 : 0 ≤ rown R := by omega
                have dz5 : decide (rown R < 0) = false := by rw [decide_eq_false_iff_not]; exact z5
                have Hz5 := Lib.hid z5
                clear z5
                by_cases z6 : 7 < rown R
                · have HE := Lib.hid (allB_no hlt (stepB_no (T := T) (k := k) (by rw [HR.out]; omega)))
                  clear HW HN1
                  go_quiet (fail)
                  go_wp2
                  go_ret
                  exact ⟨ret_bool (by rw [HE.out]; simp), bel_drewN (HB.out.alloc HB.out.size _) _⟩
                · have yz6 : rown R ≤ 7 := by omega
                  have dz6 : decide (7 < rown R) = false := by rw [decide_eq_false_iff_not]; exact z6
                  have Hz6 := Lib.hid z6
                  clear z6
                  by_cases z7 : rout R < 0
                  · have HE := Lib.hid (allB_no hlt (stepB_no (T := T) (k := k) (by rw [HR.out]; omega)))
                    clear HW HN1
                    go_quiet (fail)
                    go_wp2
                    go_ret
                    exact ⟨ret_bool (by rw [HE.out]; simp), bel_drewN (HB.out.alloc HB.out.size _) _⟩
                  · have yz7 : 0 ≤ rout R := by omega
                    have dz7 : decide (rout R < 0) = false := by rw [decide_eq_false_iff_not]; exact z7
                    have Hz7 := Lib.hid z7
                    clear z7
                    by_cases z8 : 7 < rout R
                    · have HE := Lib.hid (allB_no hlt (stepB_no (T := T) (k := k) (by rw [HR.out]; omega)))
                      clear HW HN1
                      go_quiet (fail)
                      go_wp2
                      go_ret
                      exact ⟨ret_bool (by rw [HE.out]; simp), bel_drewN (HB.out.alloc HB.out.size _) _⟩
                    · have yz8 : rout R ≤ 7 := by omega
                      have dz8 : decide (7 < rout R) = false := by rw [decide_eq_false_iff_not]; exact z8
                      have Hz8 := Lib.hid z8
                      clear z8
                      by_cases hk0 : k = 0
                      · have dk0 : decide (0 < k) = false := by rw [decide_eq_false_iff_not]; omega
                        have dk1 : decide ((0 : Int) < (k : Int)) = false := by rw [decide_eq_false_iff_not]; omega
                        have HK0 := Lib.hid hk0
                        clear hk0
                        have HE := Lib.hid (show allB T (k + 1) = true from by rw [allB_succ, HA.out, stepB_iff.2 (by rw [HR.out]; exact ⟨⟨yz1, yz4, yz2, yz3, yz5, yz6, yz7, yz8⟩, .inl HK0.out⟩)]; rfl)
                        clear HW HN1
                        go_quiet (fail)
                        go_wp2
                        go_roundw
                        case rel => exact ⟨k + 1, by go_num, by omega, HE.out, bel_drewN (HB.out.alloc HB.out.size _) _⟩
                        case measure => simp [intOf]; omega
                      · have k2 : (1 : Int) ≤ k := by omega
                        have k3 : 0 < k := by omega
                        have k4 : (0 : Int) < k := by omega
                        have t2 : (rlo R).tmod 8 = 0 := by rw [Int.tmod_eq_emod_of_nonneg l0]; exact yz2
                        have t3 : (rhi R).tmod 8 = 0 := by rw [Int.tmod_eq_emod_of_nonneg u0]; exact yz3
                        have k7 : (0 : Int) ≤ (k : Int) - 1 := by omega
                        have k8 : (k : Int) - 1 < n := by omega
                        have p1 := ((HT.out.below HB.out) (k - 1) (by omega)).2.1
                        have hbl : b < wr.heap.size := block_lt p1
                        have hbn : ¬ b = wr.heap.size := by omega
                        have p2 : (wr.alloc (.cells #[.int .u64 (rlo R), .int .u64 (rhi R), .int .i64 (rown R), .int .i64 (rout R)] 57)).cell? ⟨b, off + (k - 1) * 4 + 1, none⟩ = some (.int .u64 (rhi (nthR T (k - 1)))) := (((Below.refl _ _).alloc (Nat.le_refl _) _).cell (p := ⟨b, _, none⟩) hbl).trans p1
                        have K5 := Lib.hid (show ((k : Int) - 1).toNat = k - 1 by omega)
                        have K6 := Lib.hid (show IntKind.i64.wrap ((k : Int) - 1) = (k : Int) - 1 by rw [IntKind.wrap_i64]; omega)
                        by_cases z9 : rlo R < rhi (nthR T (k - 1))
                        · have HE := Lib.hid (allB_no hlt (stepB_no (T := T) (k := k) (by rw [HR.out]; omega)))
                          clear HW HN1
                          have k5 := K5.out
                          have k6 := K6.out
                          go_quiet (fail)
                          clear k5 k6
                          go_wp2
                          go_ret
                          exact ⟨ret_bool (by rw [HE.out]; simp), bel_drewN (HB.out.alloc HB.out.size _) _⟩
                        · have yz9 : rhi (nthR T (k - 1)) ≤ rlo R := by omega
                          have dz9 : decide (rlo R < rhi (nthR T (k - 1))) = false := by rw [decide_eq_false_iff_not]; exact z9
                          clear z9 hk0
                          have HE := Lib.hid (show allB T (k + 1) = true from by rw [allB_succ, HA.out, stepB_iff.2 (by rw [HR.out]; exact ⟨⟨yz1, yz4, yz2, yz3, yz5, yz6, yz7, yz8⟩, .inr yz9⟩)]; rfl)
                          clear HW HN1
                          have k5 := K5.out
                          have k6 := K6.out
                          go_quiet (fail)
                          clear k5 k6
                          go_wp2
                          go_roundw
                          case rel => exact ⟨k + 1, by go_num, by omega, HE.out, bel_drewN (HB.out.alloc HB.out.size _) _⟩
                          case measure => simp [intOf]; omega
    · obtain rfl : k = n := by omega
      clear hb ha
      go_wp2
      all_goals
        go_ret
        refine ⟨ret_bool ?_, HB.out⟩
        rw [HA.out, Bool.eq_iff_iff]
        simp
        try omega
end Go.Proofs.YtoeagbcjnffpaaaGreatDoor
