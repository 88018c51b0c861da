/- Layer 6: the looker's rel, of a place within reach. Condition: the tables of package ins read as they should. -/
import Derived.Test.YtfdpbogbnfkilaaDoorObjRel
import Derived.Test.YtfdpbogbnfkilaaDoorObjSeen
import Derived.StillTailTactics
namespace Go.Proofs.YtfdpbogbnfkilaaDoor
set_option maxRecDepth 100000
open Go.RowKit Go.Maps
set_option linter.unusedVariables false
theorem tmod4 (j : Nat) : (4 * (j : Int)).tmod 4 = 0 := by rw [Int.mul_tmod_right]
theorem tdiv4 (j : Nat) : (4 * (j : Int)).tdiv 4 = j := by rw [Int.mul_tdiv_cancel_left _ (by decide)]
/-- the two boxes of a call of rel -/
abbrev RelBx (v1 v2 v3 v4 v5 v6 v7 : Value) (a k : Int) (s : ByteArray) (d : Int) (w : World) : World :=
  (w.alloc (.cells #[v1, v2, v3, v4, v5, v6, v7] 92)).alloc (.cells #[.int .i64 a, .int .i64 k, .string s, .int .i64 d] 49)
set_option maxHeartbeats 4000000 in
theorem rel_unsuit (v1 v2 v3 v4 v5 : Value) (bo oo n6 c6 b : Nat) (i : Int) (h6 : n6 ≤ 4096) (j : Nat) (hj : j < n6) (o : Nat) (ho : o < 43) (k : Int) (s : ByteArray) (d : Int) (w : World) (hT : Tabs w) (hbo : bo < w.heap.size)
    (hc : w.cell? ⟨bo, oo + j, none⟩ = some (.int .i64 o)) (hs : suitB k o = false) :
    Calls Tryd.prog 85 #[.agg #[v1, v2, v3, v4, v5, .slice (some ⟨bo, oo, none⟩) n6 c6, .map (some b)], .int .i64 i, .agg #[.int .i64 (4 * (j : Int)), .int .i64 k, .string s, .int .i64 d]] w fun e w' =>
      e = .returned (.bool false) ∧ Below w.heap.size w w' := by
  have HB := Lib.hid (((Below.refl w.heap.size w).alloc (Nat.le_refl _) (.cells #[v1, v2, v3, v4, v5, .slice (some ⟨bo, oo, none⟩) n6 c6, .map (some b)] 92)).alloc (by simp) (.cells #[.int .i64 (4 * (j : Int)), .int .i64 k, .string s, .int .i64 d] 49))
  have HS := Lib.hid (fun w' (h : Tabs w') => suits_any k o ho w' h)
  rw [hs] at HS
  have HTab := Lib.hid (hT.below HB.out)
  have e1 := tmod4 j
  have e2 := tdiv4 j
  have e3 : 0 ≤ 4 * (j : Int) := by omega
  have e4 : 4 * (j : Int) ≤ 4 * (n6 : Int) - 1 := by omega
  have e5 : (j : Int) < n6 := by omega
  have e6 : 0 ≤ (j : Int) := by omega
  have hcell : (RelBx v1 v2 v3 v4 v5 (.slice (some ⟨bo, oo, none⟩) n6 c6) (.map (some b)) (4 * (j : Int)) k s d w).cell? ⟨bo, oo + j, none⟩ = some (.int .i64 o) := (HB.out.cell (p := ⟨bo, oo + j, none⟩) hbo).trans hc
  have HI := Lib.hid (show inB (4 * (j : Int)) (4 * (n6 : Int) - 1) = true by unfold inB; rw [decide_eq_true e3, decide_eq_true e4]; rfl)
  have e7 : IntKind.i64.wrap (j : Int) = j := IntWalk.i64_in _ (by omega)
  clear hc hT ho hs hj
  go_enter Tryd.func85, Tryd.ntmps85
  go_wp2_with fail
  refine (within_any _ _ _).mono ?_
  rw [HI.out]
  rintro e w' ⟨rfl, rfl⟩
  have HC := Lib.hid (HS.out _ HTab.out)
  go_wp2_with fail
  go_quiet ((go_at_call 116; exact quiet_same ((HS.out _ (HTab.out.drewN _)).mono (fun _ _ h => ⟨h.1, h.2.symm⟩))))
  go_wp2
  go_ret
  exact ⟨rfl, belq HB.out _⟩
set_option maxHeartbeats 4000000 in
theorem rel_seen (v1 v2 v3 v4 v5 : Value) (bo oo n6 c6 b n : Nat) (M : Th → Option Int) (i : Int) (hi0 : 0 ≤ i) (hi1 : i ≤ 1000000) (hn : n < 1000000) (h6 : n6 ≤ 4096) (j : Nat) (hj : j < n6) (o : Nat) (ho : o < 43) (k : Int) (s : ByteArray) (d : Int) (hd : IsI d) (w : World) (hT : Tabs w) (hbo : bo < w.heap.size) (hK : SeenK w b n M)
    (hc : w.cell? ⟨bo, oo + j, none⟩ = some (.int .i64 o)) (hs : suitB k o = true) (q : Int) (hM : M (1, ⟨#[]⟩, 4 * (j : Int)) = some q) :
    Calls Tryd.prog 85 #[.agg #[v1, v2, v3, v4, v5, .slice (some ⟨bo, oo, none⟩) n6 c6, .map (some b)], .int .i64 i, .agg #[.int .i64 (4 * (j : Int)), .int .i64 k, .string s, .int .i64 d]] w fun e w' =>
      e = .returned (.bool false) ∧ Below w.heap.size w w' := by
  have HBx := Lib.hid (((Below.refl w.heap.size w).alloc (Nat.le_refl _) (.cells #[v1, v2, v3, v4, v5, .slice (some ⟨bo, oo, none⟩) n6 c6, .map (some b)] 92)).alloc (by simp) (.cells #[.int .i64 (4 * (j : Int)), .int .i64 k, .string s, .int .i64 d] 49))
  have HS := Lib.hid (fun w' (h : Tabs w') => suits_any k o ho w' h)
  rw [hs] at HS
  have HTab := Lib.hid (hT.below HBx.out)
  have e1 := tmod4 j
  have e2 := tdiv4 j
  have e3 : 0 ≤ 4 * (j : Int) := by omega
  have e4 : 4 * (j : Int) ≤ 4 * (n6 : Int) - 1 := by omega
  have e5 : (j : Int) < n6 := by omega
  have e6 : 0 ≤ (j : Int) := by omega
  have hcell : (RelBx v1 v2 v3 v4 v5 (.slice (some ⟨bo, oo, none⟩) n6 c6) (.map (some b)) (4 * (j : Int)) k s d w).cell? ⟨bo, oo + j, none⟩ = some (.int .i64 o) := (HBx.out.cell (p := ⟨bo, oo + j, none⟩) hbo).trans hc
  have HI := Lib.hid (show inB (4 * (j : Int)) (4 * (n6 : Int) - 1) = true by unfold inB; rw [decide_eq_true e3, decide_eq_true e4]; rfl)
  have e7 : IntKind.i64.wrap (j : Int) = j := IntWalk.i64_in _ (by omega)
  have HK := Lib.hid (fun q => (hK.below HBx.out).below (belq (Below.refl _ _) q))
  have HT := Lib.hid (show ThW (1, ⟨#[]⟩, 4 * (j : Int)) from ⟨⟨show (-9223372036854775808 : Int) ≤ 1 by decide, show (1 : Int) ≤ 9223372036854775807 by decide⟩, Nat.zero_le _, ⟨by show (-9223372036854775808 : Int) ≤ 4 * (j : Int); omega, by show 4 * (j : Int) ≤ 9223372036854775807; omega⟩⟩)
  have HM := Lib.hid hM
  clear hc hT ho hs hj hK hM
  go_enter Tryd.func85, Tryd.ntmps85
  go_wp2_with fail
  refine (within_any _ _ _).mono ?_
  rw [HI.out]
  rintro e w' ⟨rfl, rfl⟩
  go_wp2_with fail
  refine wp_region_still_tail 16 (by kernel_rfl) (by kernel_rfl) ?_
  simp only [List.take_succ_cons, List.take_zero, List.drop_succ_cons, List.drop_zero]
  change wpStill _ _ (World.drew _) (fun a' => wpList _ _ _ _ a' (World.drew _)) _ _
  repeat still_step
  still_call ((HS.out _ (HTab.out.drewN 1)).mono (fun _ _ h => ⟨h.1, h.2.symm⟩))
  repeat still_step
  refine wpStill_nil ?_
  go_wp2_with fail
  refine (first_no _ _ _ _ _ _ b n M (1, ⟨#[]⟩, 4 * (j : Int)) HT.out i q HM.out _ (HK.out 1)).mono ?_
  rintro e w3 ⟨rfl, hb⟩
  have HB := Lib.hid ((belq HBx.out 1).trans (hb.mono (Nat.le_trans HBx.out.size (Nat.le_refl _))))
  clear hb hcell
  go_wp2
  go_ret
  exact ⟨rfl, HB.out⟩
set_option maxHeartbeats 4000000 in
theorem rel_new (v1 v2 v3 v4 v5 : Value) (bo oo n6 c6 b n : Nat) (M : Th → Option Int) (i : Int) (hi0 : 0 ≤ i) (hi1 : i ≤ 1000000) (hn : n < 1000000) (h6 : n6 ≤ 4096) (j : Nat) (hj : j < n6) (o : Nat) (ho : o < 43) (k : Int) (s : ByteArray) (d : Int) (hd : IsI d) (w : World) (hT : Tabs w) (hbo : bo < w.heap.size) (hK : SeenK w b n M)
    (hc : w.cell? ⟨bo, oo + j, none⟩ = some (.int .i64 o)) (hs : suitB k o = true) (hM : M (1, ⟨#[]⟩, 4 * (j : Int)) = none) :
    Calls Tryd.prog 85 #[.agg #[v1, v2, v3, v4, v5, .slice (some ⟨bo, oo, none⟩) n6 c6, .map (some b)], .int .i64 i, .agg #[.int .i64 (4 * (j : Int)), .int .i64 k, .string s, .int .i64 d]] w fun e w' =>
      e = .returned (.bool (nameB (sB s) && decide (-65536 ≤ d) && decide (d ≤ 65536))) ∧ MapOut b w w' ∧ SeenK w' b (n + 1) (putM M (1, ⟨#[]⟩, 4 * (j : Int)) i) := by
  have HBx := Lib.hid (((Below.refl w.heap.size w).alloc (Nat.le_refl _) (.cells #[v1, v2, v3, v4, v5, .slice (some ⟨bo, oo, none⟩) n6 c6, .map (some b)] 92)).alloc (by simp) (.cells #[.int .i64 (4 * (j : Int)), .int .i64 k, .string s, .int .i64 d] 49))
  have HS := Lib.hid (fun w' (h : Tabs w') => suits_any k o ho w' h)
  rw [hs] at HS
  have HTab := Lib.hid (hT.below HBx.out)
  have e1 := tmod4 j
  have e2 := tdiv4 j
  have e3 : 0 ≤ 4 * (j : Int) := by omega
  have e4 : 4 * (j : Int) ≤ 4 * (n6 : Int) - 1 := by omega
  have e5 : (j : Int) < n6 := by omega
  have e6 : 0 ≤ (j : Int) := by omega
  have hcell : (RelBx v1 v2 v3 v4 v5 (.slice (some ⟨bo, oo, none⟩) n6 c6) (.map (some b)) (4 * (j : Int)) k s d w).cell? ⟨bo, oo + j, none⟩ = some (.int .i64 o) := (HBx.out.cell (p := ⟨bo, oo + j, none⟩) hbo).trans hc
  have HI := Lib.hid (show inB (4 * (j : Int)) (4 * (n6 : Int) - 1) = true by unfold inB; rw [decide_eq_true e3, decide_eq_true e4]; rfl)
  have e7 : IntKind.i64.wrap (j : Int) = j := IntWalk.i64_in _ (by omega)
  have HK := Lib.hid (fun q => (hK.below HBx.out).below (belq (Below.refl _ _) q))
  have HT := Lib.hid (show ThW (1, ⟨#[]⟩, 4 * (j : Int)) from ⟨⟨show (-9223372036854775808 : Int) ≤ 1 by decide, show (1 : Int) ≤ 9223372036854775807 by decide⟩, Nat.zero_le _, ⟨by show (-9223372036854775808 : Int) ≤ 4 * (j : Int); omega, by show 4 * (j : Int) ≤ 9223372036854775807; omega⟩⟩)
  have HM := Lib.hid hM
  have HLb := Lib.hid hK.lt
  obtain ⟨dd0, dd1⟩ := hd
  clear hc hT ho hs hj hK hM
  go_enter Tryd.func85, Tryd.ntmps85
  go_wp2_with fail
  refine (within_any _ _ _).mono ?_
  rw [HI.out]
  rintro e w' ⟨rfl, rfl⟩
  go_wp2_with fail
  refine wp_region_still_tail 16 (by kernel_rfl) (by kernel_rfl) ?_
  simp only [List.take_succ_cons, List.take_zero, List.drop_succ_cons, List.drop_zero]
  change wpStill _ _ (World.drew _) (fun a' => wpList _ _ _ _ a' (World.drew _)) _ _
  repeat still_step
  still_call ((HS.out _ (HTab.out.drewN 1)).mono (fun _ _ h => ⟨h.1, h.2.symm⟩))
  repeat still_step
  refine wpStill_nil ?_
  go_wp2_with fail
  refine (first_yes _ _ _ _ _ _ b n M (1, ⟨#[]⟩, 4 * (j : Int)) HT.out i hi0 hi1 hn HM.out _ (HK.out 1)).mono ?_
  rintro e w3 ⟨rfl, hs3, hb⟩
  have HS3 := Lib.hid (show SeenK w3 b (n + 1) (putM M (1, ⟨#[]⟩, 4 * (j : Int)) i) from hs3)
  have HO := Lib.hid (show MapOut b w w3 from (OutO.of_below (belq HBx.out 1)).trans hb)
  have co : ∀ o, w3.cell? ⟨w.heap.size + 1, o, none⟩ = (RelBx v1 v2 v3 v4 v5 (.slice (some ⟨bo, oo, none⟩) n6 c6) (.map (some b)) (4 * (j : Int)) k s d w).cell? ⟨w.heap.size + 1, o, none⟩ := fun o => World.cell?_of_block (hb.block (w.heap.size + 1) (by simp [World.drewN]) (by have := HLb.out; omega))
  clear hb hs3 hcell
  go_wp2_with fail
  refine (name_any s _).mono ?_
  cases hnm : nameB (sB s) with
  | false =>
    rintro e w' ⟨rfl, rfl⟩
    have HR := Lib.hid (show (nameB (sB s) && decide (-65536 ≤ d) && decide (d ≤ 65536)) = false by rw [hnm]; rfl)
    clear hnm
    go_wp2
    go_ret
    exact ⟨ret_bool HR.out.symm, HO.out, HS3.out⟩
  | true =>
    rintro e w' ⟨rfl, rfl⟩
    have HNm := Lib.hid hnm
    clear hnm
    by_cases d1 : d ≥ -65536
    · by_cases d2 : d ≤ 65536
      · have HR := Lib.hid (show (nameB (sB s) && decide (-65536 ≤ d) && decide (d ≤ 65536)) = true by rw [HNm.out, decide_eq_true d2, decide_eq_true (show -65536 ≤ d from d1)]; rfl)
        go_wp2
        go_ret
        exact ⟨ret_bool HR.out.symm, HO.out, HS3.out⟩
      · have d3 : decide (d ≤ 65536) = false := decide_eq_false d2
        have HR := Lib.hid (show (nameB (sB s) && decide (-65536 ≤ d) && decide (d ≤ 65536)) = false by rw [HNm.out, decide_eq_false d2]; simp)
        go_wp2
        go_ret
        exact ⟨ret_bool HR.out.symm, HO.out, HS3.out⟩
    · have d3 : decide (d ≥ -65536) = false := decide_eq_false d1
      have HR := Lib.hid (show (nameB (sB s) && decide (-65536 ≤ d) && decide (d ≤ 65536)) = false by rw [HNm.out, decide_eq_false (show ¬ -65536 ≤ d from d1)]; simp)
      go_wp2
      go_ret
      exact ⟨ret_bool HR.out.symm, HO.out, HS3.out⟩
end Go.Proofs.YtfdpbogbnfkilaaDoor
