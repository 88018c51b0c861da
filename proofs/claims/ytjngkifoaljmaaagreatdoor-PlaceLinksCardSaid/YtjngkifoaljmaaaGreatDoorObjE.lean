/- Layer 6: the looker's rel, of a place within reach. Condition: the tables of package ins read as they should.
   Layer 6: the looker's rel, of any place. Condition: the tables of package ins read as they should.
   Layer 6: the looker's entry.
   Layer 6: the looker's right: all Syms, relocations and entries, one behind the other. Condition: the tables of package ins read as they should.
   Layer 6: operations, and May of package obj. Condition: the tables of package ins read as they should.
   Layer 6: May of package obj. Condition: the tables of package ins read as they should. -/
import Derived.Test.YtjngkifoaljmaaaGreatDoorObjA
import Derived.Test.YtjngkifoaljmaaaGreatDoorObjB
import Derived.StillTailTactics
import Derived.Test.YtjngkifoaljmaaaGreatDoorObjC
import Derived.Test.YtjngkifoaljmaaaGreatDoorObjD
import Derived.Test.YtjngkifoaljmaaaGreatDoorInsDec
namespace Go.Proofs.YtjngkifoaljmaaaGreatDoor
set_option maxRecDepth 100000
open Go.RowKit Go.Maps
set_option linter.unusedVariables false
theorem tmod4 (j : Nat) : (4 * (j : Int)).tmod 4 = 0 := by rw [Int.mul_tmod_right]
theorem tdiv4 (j : Nat) : (4 * (j : Int)).tdiv 4 = j := by rw [Int.mul_tdiv_cancel_left _ (by decide)]
/-- the two boxes of a call of rel -/
abbrev RelBx (v1 v2 v3 v4 v5 v6 v7 : Value) (a k : Int) (s : ByteArray) (d : Int) (w : World) : World :=
  (w.alloc (.cells #[v1, v2, v3, v4, v5, v6, v7] 119)).alloc (.cells #[.int .i64 a, .int .i64 k, .string s, .int .i64 d] 55)
set_option maxHeartbeats 4000000 in
theorem rel_unsuit (v1 v2 v3 v4 v5 : Value) (bo oo n6 c6 b : Nat) (i : Int) (h6 : n6 ≤ 4096) (j : Nat) (hj : j < n6) (o : Nat) (ho : o < 43) (k : Int) (s : ByteArray) (d : Int) (w : World) (hT : Tabs w) (hbo : bo < w.heap.size)
    (hc : w.cell? ⟨bo, oo + j, none⟩ = some (.int .i64 o)) (hs : suitB k o = false) :
    Calls Tryz.prog 85 #[.agg #[v1, v2, v3, v4, v5, .slice (some ⟨bo, oo, none⟩) n6 c6, .map (some b)], .int .i64 i, .agg #[.int .i64 (4 * (j : Int)), .int .i64 k, .string s, .int .i64 d]] w fun e w' =>
      e = .returned (.bool false) ∧ Below w.heap.size w w' := by
  have HB := Lib.hid (((Below.refl w.heap.size w).alloc (Nat.le_refl _) (.cells #[v1, v2, v3, v4, v5, .slice (some ⟨bo, oo, none⟩) n6 c6, .map (some b)] 119)).alloc (by simp) (.cells #[.int .i64 (4 * (j : Int)), .int .i64 k, .string s, .int .i64 d] 55))
  have HS := Lib.hid (fun w' (h : Tabs w') => suits_any k o ho w' h)
  rw [hs] at HS
  have HTab := Lib.hid (hT.below HB.out)
  have e1 := tmod4 j
  have e2 := tdiv4 j
  have e3 : 0 ≤ 4 * (j : Int) := by omega
  have e4 : 4 * (j : Int) ≤ 4 * (n6 : Int) - 1 := by omega
  have e5 : (j : Int) < n6 := by omega
  have e6 : 0 ≤ (j : Int) := by omega
  have hcell : (RelBx v1 v2 v3 v4 v5 (.slice (some ⟨bo, oo, none⟩) n6 c6) (.map (some b)) (4 * (j : Int)) k s d w).cell? ⟨bo, oo + j, none⟩ = some (.int .i64 o) := (HB.out.cell (p := ⟨bo, oo + j, none⟩) hbo).trans hc
  have HI := Lib.hid (show inB (4 * (j : Int)) (4 * (n6 : Int) - 1) = true by unfold inB; rw [decide_eq_true e3, decide_eq_true e4]; rfl)
  have e7 : IntKind.i64.wrap (j : Int) = j := IntWalk.i64_in _ (by omega)
  clear hc hT ho hs hj
  go_enter Tryz.func85, Tryz.ntmps85
  go_wp2_with fail
  refine (within_any _ _ _).mono ?_
  rw [HI.out]
  rintro e w' ⟨rfl, rfl⟩
  have HC := Lib.hid (HS.out _ HTab.out)
  go_wp2_with fail
  go_quiet ((go_at_call 101; exact quiet_same ((HS.out _ (HTab.out.drewN _)).mono (fun _ _ h => ⟨h.1, h.2.symm⟩))))
  go_wp2
  go_ret
  exact ⟨rfl, belq HB.out _⟩
set_option maxHeartbeats 4000000 in
theorem rel_seen (v1 v2 v3 v4 v5 : Value) (bo oo n6 c6 b n : Nat) (M : Th → Option Int) (i : Int) (hi0 : 0 ≤ i) (hi1 : i ≤ 1000000) (hn : n < 1000000) (h6 : n6 ≤ 4096) (j : Nat) (hj : j < n6) (o : Nat) (ho : o < 43) (k : Int) (s : ByteArray) (d : Int) (hd : IsI d) (w : World) (hT : Tabs w) (hbo : bo < w.heap.size) (hK : SeenK w b n M)
    (hc : w.cell? ⟨bo, oo + j, none⟩ = some (.int .i64 o)) (hs : suitB k o = true) (q : Int) (hM : M (1, ⟨#[]⟩, 4 * (j : Int)) = some q) :
    Calls Tryz.prog 85 #[.agg #[v1, v2, v3, v4, v5, .slice (some ⟨bo, oo, none⟩) n6 c6, .map (some b)], .int .i64 i, .agg #[.int .i64 (4 * (j : Int)), .int .i64 k, .string s, .int .i64 d]] w fun e w' =>
      e = .returned (.bool false) ∧ Below w.heap.size w w' := by
  have HBx := Lib.hid (((Below.refl w.heap.size w).alloc (Nat.le_refl _) (.cells #[v1, v2, v3, v4, v5, .slice (some ⟨bo, oo, none⟩) n6 c6, .map (some b)] 119)).alloc (by simp) (.cells #[.int .i64 (4 * (j : Int)), .int .i64 k, .string s, .int .i64 d] 55))
  have HS := Lib.hid (fun w' (h : Tabs w') => suits_any k o ho w' h)
  rw [hs] at HS
  have HTab := Lib.hid (hT.below HBx.out)
  have e1 := tmod4 j
  have e2 := tdiv4 j
  have e3 : 0 ≤ 4 * (j : Int) := by omega
  have e4 : 4 * (j : Int) ≤ 4 * (n6 : Int) - 1 := by omega
  have e5 : (j : Int) < n6 := by omega
  have e6 : 0 ≤ (j : Int) := by omega
  have hcell : (RelBx v1 v2 v3 v4 v5 (.slice (some ⟨bo, oo, none⟩) n6 c6) (.map (some b)) (4 * (j : Int)) k s d w).cell? ⟨bo, oo + j, none⟩ = some (.int .i64 o) := (HBx.out.cell (p := ⟨bo, oo + j, none⟩) hbo).trans hc
  have HI := Lib.hid (show inB (4 * (j : Int)) (4 * (n6 : Int) - 1) = true by unfold inB; rw [decide_eq_true e3, decide_eq_true e4]; rfl)
  have e7 : IntKind.i64.wrap (j : Int) = j := IntWalk.i64_in _ (by omega)
  have HK := Lib.hid (fun q => (hK.below HBx.out).below (belq (Below.refl _ _) q))
  have HT := Lib.hid (show ThW (1, ⟨#[]⟩, 4 * (j : Int)) from ⟨⟨show (-9223372036854775808 : Int) ≤ 1 by decide, show (1 : Int) ≤ 9223372036854775807 by decide⟩, Nat.zero_le _, ⟨by show (-9223372036854775808 : Int) ≤ 4 * (j : Int); omega, by show 4 * (j : Int) ≤ 9223372036854775807; omega⟩⟩)
  have HM := Lib.hid hM
  clear hc hT ho hs hj hK hM
  go_enter Tryz.func85, Tryz.ntmps85
  go_wp2_with fail
  refine (within_any _ _ _).mono ?_
  rw [HI.out]
  rintro e w' ⟨rfl, rfl⟩
  go_wp2_with fail
  refine wp_region_still_tail 16 (by kernel_rfl) (by kernel_rfl) ?_
  simp only [List.take_succ_cons, List.take_zero, List.drop_succ_cons, List.drop_zero]
  change wpStill _ _ (World.drew _) (fun a' => wpList _ _ _ _ a' (World.drew _)) _ _
  repeat still_step
  still_call ((HS.out _ (HTab.out.drewN 1)).mono (fun _ _ h => ⟨h.1, h.2.symm⟩))
  repeat still_step
  refine wpStill_nil ?_
  go_wp2_with fail
  refine (first_no _ _ _ _ _ _ b n M (1, ⟨#[]⟩, 4 * (j : Int)) HT.out i q HM.out _ (HK.out 1)).mono ?_
  rintro e w3 ⟨rfl, hb⟩
  have HB := Lib.hid ((belq HBx.out 1).trans (hb.mono (Nat.le_trans HBx.out.size (Nat.le_refl _))))
  clear hb hcell
  go_wp2
  go_ret
  exact ⟨rfl, HB.out⟩
set_option maxHeartbeats 4000000 in
theorem rel_new (v1 v2 v3 v4 v5 : Value) (bo oo n6 c6 b n : Nat) (M : Th → Option Int) (i : Int) (hi0 : 0 ≤ i) (hi1 : i ≤ 1000000) (hn : n < 1000000) (h6 : n6 ≤ 4096) (j : Nat) (hj : j < n6) (o : Nat) (ho : o < 43) (k : Int) (s : ByteArray) (d : Int) (hd : IsI d) (w : World) (hT : Tabs w) (hbo : bo < w.heap.size) (hK : SeenK w b n M)
    (hc : w.cell? ⟨bo, oo + j, none⟩ = some (.int .i64 o)) (hs : suitB k o = true) (hM : M (1, ⟨#[]⟩, 4 * (j : Int)) = none) :
    Calls Tryz.prog 85 #[.agg #[v1, v2, v3, v4, v5, .slice (some ⟨bo, oo, none⟩) n6 c6, .map (some b)], .int .i64 i, .agg #[.int .i64 (4 * (j : Int)), .int .i64 k, .string s, .int .i64 d]] w fun e w' =>
      e = .returned (.bool (nameB (sB s) && decide (-65536 ≤ d) && decide (d ≤ 65536))) ∧ MapOut b w w' ∧ SeenK w' b (n + 1) (putM M (1, ⟨#[]⟩, 4 * (j : Int)) i) := by
  have HBx := Lib.hid (((Below.refl w.heap.size w).alloc (Nat.le_refl _) (.cells #[v1, v2, v3, v4, v5, .slice (some ⟨bo, oo, none⟩) n6 c6, .map (some b)] 119)).alloc (by simp) (.cells #[.int .i64 (4 * (j : Int)), .int .i64 k, .string s, .int .i64 d] 55))
  have HS := Lib.hid (fun w' (h : Tabs w') => suits_any k o ho w' h)
  rw [hs] at HS
  have HTab := Lib.hid (hT.below HBx.out)
  have e1 := tmod4 j
  have e2 := tdiv4 j
  have e3 : 0 ≤ 4 * (j : Int) := by omega
  have e4 : 4 * (j : Int) ≤ 4 * (n6 : Int) - 1 := by omega
  have e5 : (j : Int) < n6 := by omega
  have e6 : 0 ≤ (j : Int) := by omega
  have hcell : (RelBx v1 v2 v3 v4 v5 (.slice (some ⟨bo, oo, none⟩) n6 c6) (.map (some b)) (4 * (j : Int)) k s d w).cell? ⟨bo, oo + j, none⟩ = some (.int .i64 o) := (HBx.out.cell (p := ⟨bo, oo + j, none⟩) hbo).trans hc
  have HI := Lib.hid (show inB (4 * (j : Int)) (4 * (n6 : Int) - 1) = true by unfold inB; rw [decide_eq_true e3, decide_eq_true e4]; rfl)
  have e7 : IntKind.i64.wrap (j : Int) = j := IntWalk.i64_in _ (by omega)
  have HK := Lib.hid (fun q => (hK.below HBx.out).below (belq (Below.refl _ _) q))
  have HT := Lib.hid (show ThW (1, ⟨#[]⟩, 4 * (j : Int)) from ⟨⟨show (-9223372036854775808 : Int) ≤ 1 by decide, show (1 : Int) ≤ 9223372036854775807 by decide⟩, Nat.zero_le _, ⟨by show (-9223372036854775808 : Int) ≤ 4 * (j : Int); omega, by show 4 * (j : Int) ≤ 9223372036854775807; omega⟩⟩)
  have HM := Lib.hid hM
  have HLb := Lib.hid hK.lt
  obtain ⟨dd0, dd1⟩ := hd
  clear hc hT ho hs hj hK hM
  go_enter Tryz.func85, Tryz.ntmps85
  go_wp2_with fail
  refine (within_any _ _ _).mono ?_
  rw [HI.out]
  rintro e w' ⟨rfl, rfl⟩
  go_wp2_with fail
  refine wp_region_still_tail 16 (by kernel_rfl) (by kernel_rfl) ?_
  simp only [List.take_succ_cons, List.take_zero, List.drop_succ_cons, List.drop_zero]
  change wpStill _ _ (World.drew _) (fun a' => wpList _ _ _ _ a' (World.drew _)) _ _
  repeat still_step
  still_call ((HS.out _ (HTab.out.drewN 1)).mono (fun _ _ h => ⟨h.1, h.2.symm⟩))
  repeat still_step
  refine wpStill_nil ?_
  go_wp2_with fail
  refine (first_yes _ _ _ _ _ _ b n M (1, ⟨#[]⟩, 4 * (j : Int)) HT.out i hi0 hi1 hn HM.out _ (HK.out 1)).mono ?_
  rintro e w3 ⟨rfl, hs3, hb⟩
  have HS3 := Lib.hid (show SeenK w3 b (n + 1) (putM M (1, ⟨#[]⟩, 4 * (j : Int)) i) from hs3)
  have HO := Lib.hid (show MapOut b w w3 from (OutO.of_below (belq HBx.out 1)).trans hb)
  have co : ∀ o, w3.cell? ⟨w.heap.size + 1, o, none⟩ = (RelBx v1 v2 v3 v4 v5 (.slice (some ⟨bo, oo, none⟩) n6 c6) (.map (some b)) (4 * (j : Int)) k s d w).cell? ⟨w.heap.size + 1, o, none⟩ := fun o => World.cell?_of_block (hb.block (w.heap.size + 1) (by simp [World.drewN]) (by have := HLb.out; omega))
  clear hb hs3 hcell
  go_wp2_with fail
  refine (name_any s _).mono ?_
  cases hnm : nameB (sB s) with
  | false =>
    rintro e w' ⟨rfl, rfl⟩
    have HR := Lib.hid (show (nameB (sB s) && decide (-65536 ≤ d) && decide (d ≤ 65536)) = false by rw [hnm]; rfl)
    clear hnm
    go_wp2
    go_ret
    exact ⟨ret_bool HR.out.symm, HO.out, HS3.out⟩
  | true =>
    rintro e w' ⟨rfl, rfl⟩
    have HNm := Lib.hid hnm
    clear hnm
    by_cases d1 : d ≥ -65536
    · by_cases d2 : d ≤ 65536
      · have HR := Lib.hid (show (nameB (sB s) && decide (-65536 ≤ d) && decide (d ≤ 65536)) = true by rw [HNm.out, decide_eq_true d2, decide_eq_true (show -65536 ≤ d from d1)]; rfl)
        go_wp2
        go_ret
        exact ⟨ret_bool HR.out.symm, HO.out, HS3.out⟩
      · have d3 : decide (d ≤ 65536) = false := decide_eq_false d2
        have HR := Lib.hid (show (nameB (sB s) && decide (-65536 ≤ d) && decide (d ≤ 65536)) = false by rw [HNm.out, decide_eq_false d2]; simp)
        go_wp2
        go_ret
        exact ⟨ret_bool HR.out.symm, HO.out, HS3.out⟩
    · have d3 : decide (d ≥ -65536) = false := decide_eq_false d1
      have HR := Lib.hid (show (nameB (sB s) && decide (-65536 ≤ d) && decide (d ≤ 65536)) = false by rw [HNm.out, decide_eq_false (show ¬ -65536 ≤ d from d1)]; simp)
      go_wp2
      go_ret
      exact ⟨ret_bool HR.out.symm, HO.out, HS3.out⟩
end Go.Proofs.YtjngkifoaljmaaaGreatDoor
namespace Go.Proofs.YtjngkifoaljmaaaGreatDoor
set_option maxRecDepth 100000
open Go.RowKit Go.Maps
set_option linter.unusedVariables false
theorem flat_get {α : Type} {enc : α → List Value} {sz : Nat} (hs : ∀ x, (enc x).length = sz) : ∀ {xs : List α} {j i : Nat} (hj : j < xs.length), i < sz → (xs.flatMap enc)[j * sz + i]? = (enc xs[j])[i]?
  | x :: xs, 0, i, hj, hi => by
    rw [List.flatMap_cons, Nat.zero_mul, Nat.zero_add, List.getElem?_append_left (by rw [hs]; exact hi)]; rfl
  | x :: xs, j + 1, i, hj, hi => by
    have hj' : j < xs.length := by simpa using hj
    rw [List.flatMap_cons, List.getElem?_append_right (by rw [hs, Nat.succ_mul]; omega), hs, show (j + 1) * sz + i - sz = j * sz + i by rw [Nat.succ_mul]; omega, flat_get hs hj' hi]; rfl
theorem flat_len {α : Type} {enc : α → List Value} {sz : Nat} (hs : ∀ x, (enc x).length = sz) (xs : List α) : (xs.flatMap enc).length = xs.length * sz := by
  induction xs with
  | nil => simp
  | cons x xs ih => rw [List.flatMap_cons, List.length_append, hs, ih, List.length_cons, Nat.succ_mul]; omega
theorem RowC.at_ {α : Type} {w : World} {lo hi : Nat} {A : Option Addr} {enc : α → List Value} {sz : Nat} {xs : List α} (h : RowC w lo hi A (xs.flatMap enc)) (hs : ∀ x, (enc x).length = sz) (h0 : 0 < sz) (hx : 0 < xs.length) :
    ∃ b o, A = some ⟨b, o, none⟩ ∧ lo ≤ b ∧ b < hi ∧ ∀ j (hj : j < xs.length) i v, (enc xs[j])[i]? = some v → w.cell? ⟨b, o + (j * sz + i), none⟩ = some v := by
  rcases h with h | ⟨b, o, e, h1, h2, h3⟩
  · have := flat_len hs xs
    rw [h] at this
    have : xs.length * sz ≠ 0 := by intro e; rcases Nat.mul_eq_zero.1 e with e | e <;> omega
    simp at *; omega
  · refine ⟨b, o, e, h1, h2, fun j hj i v hv => h3 _ _ ?_⟩
    have hi : i < sz := by have := (List.getElem?_eq_some_iff.1 hv).1; rw [hs] at this; exact this
    rw [flat_get hs hj hi, hv]
theorem far_false {M : Th → Option Int} {ops : List Int} {r : RelD} (h : r.1.tmod 4 ≠ 0 ∨ r.1 < 0 ∨ 4 * (ops.length : Int) - 1 < r.1) : relB M ops r = false := by
  unfold relB
  rcases h with h | h | h
  · have : (r.1.tmod 4 == 0) = false := by rw [beq_eq_false_iff_ne]; exact h
    rw [this]; simp
  · rw [inB_neg h]; simp
  · have : inB r.1 (4 * (ops.length : Int) - 1) = false := by unfold inB; rw [decide_eq_false (by omega : ¬ r.1 ≤ _)]; simp
    rw [this]; simp
set_option maxHeartbeats 1000000 in
theorem rel_any (v1 v2 v3 v4 v5 : Value) (A6 : Option Addr) (ops : List Int) (c6 lo hi : Nat) (b n : Nat) (M : Th → Option Int) (i : Int) (hi0 : 0 ≤ i) (hi1 : i ≤ 1000000) (hn : n < 1000000) (h6 : ops.length ≤ 4096) (hops : ∀ x ∈ ops, ∃ o : Nat, x = o ∧ o < 43)
    (r : RelD) (hr : IsI r.1 ∧ IsI r.2.2.2) (w : World) (hT : Tabs w) (hrow : RowC w lo hi A6 (ops.flatMap encI64)) (hhi : hi ≤ w.heap.size) (hK : SeenK w b n M) :
    Calls Tryz.prog 85 #[.agg #[v1, v2, v3, v4, v5, .slice A6 ops.length c6, .map (some b)], .int .i64 i, .agg #[.int .i64 r.1, .int .i64 r.2.1, .string r.2.2.1, .int .i64 r.2.2.2]] w fun e w' =>
      e = .returned (.bool (relB M ops r)) ∧ MapOut b w w' ∧ (relB M ops r = true → SeenK w' b (n + 1) (putM M (1, ⟨#[]⟩, r.1) i)) := by
  obtain ⟨a, k, s, d⟩ := r
  simp only at hr ⊢
  by_cases hfar : a.tmod 4 ≠ 0 ∨ a < 0 ∨ 4 * (ops.length : Int) - 1 < a
  · have hf := far_false (M := M) (ops := ops) (r := (a, k, s, d)) hfar
    rw [hf]
    refine (rel_far v1 v2 v3 v4 v5 A6 ops.length c6 b i h6 a k s d hr.1 hfar w).mono ?_
    rintro e w' ⟨rfl, hb⟩
    exact ⟨rfl, OutO.of_below hb, fun h => by cases h⟩
  · have h1 : a.tmod 4 = 0 := by
      by_cases e : a.tmod 4 = 0
      · exact e
      · exact absurd (.inl e) hfar
    have h2 : 0 ≤ a := by
      by_cases e : 0 ≤ a
      · exact e
      · exact absurd (.inr (.inl (by omega))) hfar
    have h3 : a ≤ 4 * (ops.length : Int) - 1 := by
      by_cases e : a ≤ 4 * (ops.length : Int) - 1
      · exact e
      · exact absurd (.inr (.inr (by omega))) hfar
    rw [Int.tmod_eq_emod_of_nonneg h2] at h1
    obtain ⟨j, rfl⟩ : ∃ j : Nat, a = 4 * (j : Int) := ⟨(a / 4).toNat, by omega⟩
    have hj : j < ops.length := by omega
    obtain ⟨o, ho, ho2⟩ := hops _ (List.getElem_mem hj)
    obtain ⟨bo, oo, rfl, _, hb2, hcell⟩ := hrow.at_ (sz := 1) (fun x => rfl) (by omega) (by omega)
    have hc := hcell j hj 0 (.int .i64 o) (by rw [ho]; rfl)
    rw [show oo + (j * 1 + 0) = oo + j by omega] at hc
    have hbo : bo < w.heap.size := by omega
    have hop : (nth ops (4 * (j : Int) / 4).toNat).toNat = o := by
      rw [show (4 * (j : Int) / 4).toNat = j by omega, nth_get hj, ho]; rfl
    have hrel : relB M ops (4 * (j : Int), k, s, d) = (suitB k o && (M (1, ⟨#[]⟩, 4 * (j : Int))).isNone && nameB (sB s) && decide (-65536 ≤ d) && decide (d ≤ 65536)) := by
      unfold relB
      simp only [hop]
      rw [tmod4, inB_pos h2, decide_eq_true h3]
      simp
    rw [hrel]
    cases hs : suitB k o with
    | false =>
      refine (rel_unsuit v1 v2 v3 v4 v5 bo oo ops.length c6 b i h6 j hj o ho2 k s d w hT hbo hc hs).mono ?_
      rintro e w' ⟨rfl, hb⟩
      exact ⟨by simp, OutO.of_below hb, fun h => by simp at h⟩
    | true =>
      cases hM : M (1, ⟨#[]⟩, 4 * (j : Int)) with
      | some q =>
        refine (rel_seen v1 v2 v3 v4 v5 bo oo ops.length c6 b n M i hi0 hi1 hn h6 j hj o ho2 k s d hr.2 w hT hbo hK hc hs q hM).mono ?_
        rintro e w' ⟨rfl, hb⟩
        exact ⟨by simp, OutO.of_below hb, fun h => by simp at h⟩
      | none =>
        refine (rel_new v1 v2 v3 v4 v5 bo oo ops.length c6 b n M i hi0 hi1 hn h6 j hj o ho2 k s d hr.2 w hT hbo hK hc hs hM).mono ?_
        rintro e w' ⟨rfl, hb, hs'⟩
        exact ⟨by simp, hb, fun _ => hs'⟩
end Go.Proofs.YtjngkifoaljmaaaGreatDoor
namespace Go.Proofs.YtjngkifoaljmaaaGreatDoor
set_option maxRecDepth 100000
open Go.RowKit Go.Maps
set_option linter.unusedVariables false
theorem thW0 {k : Int} (h0 : 0 ≤ k) (h1 : k ≤ 2) {s : ByteArray} (hs : s.size ≤ maxLen) : ThW (k, s, 0) := ⟨⟨by show (-9223372036854775808 : Int) ≤ k; omega, by show k ≤ 9223372036854775807; omega⟩, hs, ⟨show (-9223372036854775808 : Int) ≤ 0 by decide, show (0 : Int) ≤ 9223372036854775807 by decide⟩⟩
abbrev EntBx (v1 v2 v3 v4 v5 v6 v7 : Value) (s : ByteArray) (p : Value) (w : World) : World :=
  (w.alloc (.cells #[v1, v2, v3, v4, v5, v6, v7] 119)).alloc (.cells #[.string s, p] 84)
set_option maxHeartbeats 2000000 in
theorem ent_none (v1 v2 v3 v4 v5 v6 : Value) (b n : Nat) (M : Th → Option Int) (i : Int) (s : ByteArray) (hs : s.size ≤ maxLen) (p : Value) (w : World) (hK : SeenK w b n M) (hM : M (0, s, 0) = none) :
    Calls Tryz.prog 86 #[.agg #[v1, v2, v3, v4, v5, v6, .map (some b)], .int .i64 i, .agg #[.string s, p]] w fun e w' => e = .returned (.bool false) ∧ Below w.heap.size w w' := by
  have hB := ((Below.refl w.heap.size w).alloc (Nat.le_refl _) (.cells #[v1, v2, v3, v4, v5, v6, .map (some b)] 119)).alloc (by simp) (.cells #[.string s, p] 84)
  have hlk := (hK.below hB).look (t := (0, s, 0)) (thW0 (by omega) (by omega) hs)
  unfold seenV thV at hlk
  rw [hM] at hlk
  simp only [Option.getD_none, Option.isSome_none] at hlk
  have HB := Lib.hid hB
  clear hB hK hM hs
  go_enter Tryz.func86, Tryz.ntmps86
  go_wp2
  go_ret
  exact ⟨rfl, HB.out⟩
theorem parR_of {w : World} {lo hi : Nat} {A : Option Addr} {zs : List Int} (h : RowC w lo hi A (zs.flatMap encI64)) (hh : hi ≤ w.heap.size) : ParR w (fun _ => False) A zs := by
  by_cases h0 : zs = []
  · exact .inl h0
  obtain ⟨b, o, e, h1, h2, h3⟩ := h.at_ (sz := 1) (fun x => rfl) (by omega) (List.length_pos_iff.2 h0)
  refine .inr ⟨b, o, e, by omega, (fun x => x), fun j hj => ?_⟩
  have := h3 j hj 0 (.int .i64 zs[j]) rfl
  rw [show o + (j * 1 + 0) = o + j by omega] at this
  rw [this, nth_get hj]
theorem OutO.parR {w w' : World} {F : Nat → Prop} {A : Option Addr} {zs : List Int} (h : ParR w (fun _ => False) A zs) (ho : OutO F w w') (hn : zs = [] ∨ ∀ b o, A = some ⟨b, o, none⟩ → ¬ F b) : ParR w' (fun _ => False) A zs := by
  rcases hn with hn | hn
  · exact .inl hn
  rcases h with h | ⟨b, o, e, h1, h2, h3⟩
  · exact .inl h
  · exact .inr ⟨b, o, e, Nat.lt_of_lt_of_le h1 ho.size, h2, fun j hj => by rw [World.cell?_of_block (ho.block b h1 (hn b o e))]; exact h3 j hj⟩
set_option maxHeartbeats 2000000 in
theorem ent_some (v1 v2 v4 v5 v6 : Value) (bo oo n3 c3 b n : Nat) (M : Th → Option Int) (i : Int) (hi0 : 0 ≤ i) (hi1 : i ≤ 1000000) (hn : n < 1000000) (s : ByteArray) (hs : s.size ≤ maxLen) (A : Option Addr) (zs : List Int) (m c : Nat) (hz : zs.length = m) (hm : m ≤ maxLen) (w : World) (hK : SeenK w b n M) (q : Nat) (hM : M (0, s, 0) = some (q : Int)) (hq : q < n3) (h3 : n3 ≤ 256)
    (x y : Bool) (hbo : bo < w.heap.size) (hx : w.cell? ⟨bo, oo + q * 4 + 1, none⟩ = some (.bool x)) (hy : w.cell? ⟨bo, oo + q * 4 + 3, none⟩ = some (.bool y)) (hA : ParR w (fun _ => False) A zs) (hnb : zs = [] ∨ ∀ bb oo, A = some ⟨bb, oo, none⟩ → bb ≠ b) :
    Calls Tryz.prog 86 #[.agg #[v1, v2, .slice (some ⟨bo, oo, none⟩) n3 c3, v4, v5, v6, .map (some b)], .int .i64 i, .agg #[.string s, .slice A m c]] w fun e w' =>
      e = .returned (.bool (!x && y && (M (2, s, 0)).isNone && parB zs)) ∧ MapOut b w w' ∧ ((!x && y && (M (2, s, 0)).isNone && parB zs) = true → SeenK w' b (n + 1) (putM M (2, s, 0) i)) := by
  have hB := ((Below.refl w.heap.size w).alloc (Nat.le_refl _) (.cells #[v1, v2, .slice (some ⟨bo, oo, none⟩) n3 c3, v4, v5, v6, .map (some b)] 119)).alloc (by simp) (.cells #[.string s, .slice A m c] 84)
  have hKb := hK.below hB
  have hlk := hKb.look (t := (0, s, 0)) (thW0 (by omega) (by omega) hs)
  unfold seenV thV at hlk
  rw [hM] at hlk
  simp only [Option.getD_some, Option.isSome_some] at hlk
  have HK := Lib.hid hKb
  have HLb := Lib.hid hK.lt
  have HT := Lib.hid (thW0 (k := 2) (by omega) (by omega) hs)
  have hx' := (hB.cell (p := ⟨bo, oo + q * 4 + 1, none⟩) hbo).trans hx
  have hy' := (hB.cell (p := ⟨bo, oo + q * 4 + 3, none⟩) hbo).trans hy
  have q0 : (0 : Int) ≤ q := by omega
  have q1 : (q : Int) < n3 := by omega
  have HB := Lib.hid hB
  have HN := Lib.hid hnb
  have HP := Lib.hid hA
  clear hB hK hM hs hx hy hKb hnb hA
  cases x with
  | true =>
    go_enter Tryz.func86, Tryz.ntmps86
    go_wp2
    go_ret
    exact ⟨rfl, OutO.of_below HB.out, fun h => by simp at h⟩
  | false =>
  cases y with
  | false =>
    go_enter Tryz.func86, Tryz.ntmps86
    go_wp2
    go_ret
    exact ⟨rfl, OutO.of_below HB.out, fun h => by simp at h⟩
  | true =>
  cases hM2 : M (2, s, 0) with
  | some d =>
    have HM := Lib.hid hM2
    clear hM2
    go_enter Tryz.func86, Tryz.ntmps86
    go_wp2_with fail
    refine (first_no _ _ _ _ _ _ b n M (2, s, 0) HT.out i d HM.out _ HK.out).mono ?_
    rintro e w3 ⟨rfl, hb⟩
    have HB3 := Lib.hid (show MapOut b w w3 from (OutO.of_below HB.out).trans (OutO.of_below hb))
    clear hb hx' hy'
    go_wp2
    go_ret
    exact ⟨rfl, HB3.out, fun h => by simp at h⟩
  | none =>
    have HM := Lib.hid hM2
    clear hM2
    go_enter Tryz.func86, Tryz.ntmps86
    go_wp2_with fail
    refine (first_yes _ _ _ _ _ _ b n M (2, s, 0) HT.out i hi0 hi1 hn HM.out _ HK.out).mono ?_
    rintro e w3 ⟨rfl, hs3, hb⟩
    have HS3 := Lib.hid (show SeenK w3 b (n + 1) (putM M (2, s, 0) i) from hs3)
    have HO := Lib.hid (show MapOut b w w3 from (OutO.of_below HB.out).trans hb)
    have co : w3.cell? ⟨w.heap.size + 1, 1, none⟩ = some (.slice A m c) := by
      rw [World.cell?_of_block (hb.block (w.heap.size + 1) (by simp) (by have := HLb.out; omega))]; simp [go_sem]
    have HPR := Lib.hid (OutO.parR HP.out HO.out HN.out)
    clear hb hs3 hx' hy'
    go_wp2_with fail
    refine (params_may A zs m c hz w3 hm HPR.out).mono ?_
    rintro e w' ⟨rfl, rfl⟩
    cases hp : parB zs with
    | false =>
      have HQ := Lib.hid hp
      clear hp
      go_wp2
      go_ret
      exact ⟨ret_bool (by rw [HQ.out]; rfl), HO.out, fun h => by rw [HQ.out] at h; simp at h⟩
    | true =>
      have HQ := Lib.hid hp
      clear hp
      go_wp2
      go_ret
      exact ⟨ret_bool (by rw [HQ.out]; rfl), HO.out, fun _ => HS3.out⟩
end Go.Proofs.YtjngkifoaljmaaaGreatDoor
namespace Go.Proofs.YtjngkifoaljmaaaGreatDoor
set_option maxRecDepth 100000
open Go.RowKit Go.Maps
set_option linter.unusedVariables false
theorem lsym_any (A1 A2 : Option Addr) (n1 c1 n2 c2 : Nat) (v3 v4 v5 v6 : Value) (b n : Nat) (M : Th → Option Int) (i : Int) (hi0 : 0 ≤ i) (hi1 : i ≤ 1000000) (hn : n < 1000000) (h1 : n1 ≤ 4096) (h2 : n2 ≤ 1024)
    (s : SymD) (hs : s.1.size ≤ maxLen) (ho : IsI s.2.2.1) (w : World) (hK : SeenK w b n M) :
    Calls Tryz.prog 84 #[.agg #[.slice A1 n1 c1, .slice A2 n2 c2, v3, v4, v5, v6, .map (some b)], .int .i64 i, .agg #[.string s.1, .bool s.2.1, .int .i64 s.2.2.1, .bool s.2.2.2]] w fun e w' =>
      e = .returned (.bool (symB M n1 n2 s.1 s.2.1 s.2.2.1)) ∧ MapOut b w w' ∧ (symB M n1 n2 s.1 s.2.1 s.2.2.1 = true → SeenK w' b (n + 1) (putM M (0, s.1, 0) i)) := by
  obtain ⟨s, x, o, y⟩ := s
  cases x with
  | false => exact sym_false A1 A2 n1 c1 n2 c2 v3 v4 v5 v6 b n M i hi0 hi1 hn h1 h2 s o y hs ho w hK
  | true => exact sym_true A1 A2 n1 c1 n2 c2 v3 v4 v5 v6 b n M i hi0 hi1 hn h1 h2 s o y hs ho w hK
theorem EntC.get {w : World} {lo hi : Nat} {ob : Option Nat} : ∀ {es : List EntD} {cs : List Value}, EntC w lo hi ob es cs → ∀ {j : Nat} (hj : j < es.length), ∃ A c, cs[j * 2]? = some (.string es[j].1) ∧ cs[j * 2 + 1]? = some (.slice A es[j].2.length c) ∧ RowO w lo hi ob A (es[j].2.flatMap encI64)
  | e :: es, cs, ⟨A, c, rest, h1, h2, h3⟩, 0, hj => by subst h1; exact ⟨A, c, rfl, rfl, h2⟩
  | e :: es, cs, ⟨A, c, rest, h1, h2, h3⟩, j + 1, hj => by
    subst h1
    obtain ⟨A', c', g1, g2, g3⟩ := EntC.get h3 (j := j) (by simpa using hj)
    refine ⟨A', c', ?_, ?_, g3⟩
    · rw [show (j + 1) * 2 = j * 2 + 2 by omega]; exact g1
    · rw [show (j + 1) * 2 + 1 = j * 2 + 1 + 2 by omega]; exact g2
theorem RowO.rowC {w : World} {lo hi : Nat} {ob : Option Nat} {A : Option Addr} {cs : List Value} (h : RowO w lo hi ob A cs) : RowC w lo hi A cs := by
  rcases h with h | ⟨b, o, e, h1, h2, h3, h4⟩
  · exact .inl h
  · exact .inr ⟨b, o, e, h1, h2, h4⟩
def rightB (d : ObjD) : Bool := symsB d && relsB d && entsB d
/-- where the looker stands -/
def RgS (w : World) (b : Nat) (d : ObjD) (ks kr ke : Nat) (wr : World) : Prop := MapOut b w wr ∧ ∃ M, SeenK wr b (ks + kr + ke) M ∧ SeenS d M ks kr ke
theorem MapOut.below {w0 w w' : World} {b : Nat} (h0 : Below w0.heap.size w0 w) (h : MapOut b w w') (hb : w0.heap.size ≤ b) : Below w0.heap.size w0 w' :=
  ⟨h.os.trans h0.os, h.tape.trans h0.tape, h.output.trans h0.output, Nat.le_trans h0.size h.size, fun k hk => (h.block k (Nat.lt_of_lt_of_le hk h0.size) (by show ¬ k = b; omega)).trans (h0.block k hk)⟩
theorem all_lt_succ {k : Nat} {p : Nat → Bool} (h : ∀ j, j < k → p j = true) (hk : p k = true) : ∀ j, j < k + 1 → p j = true := fun j hj => by
  by_cases e : j = k
  · subst e; exact hk
  · exact h j (by omega)
set_option maxHeartbeats 2000000 in
theorem lent_any (v1 v2 v4 v5 v6 : Value) (A3 : Option Addr) (n3 c3 lo hi b n : Nat) (M : Th → Option Int) (i : Int) (hi0 : 0 ≤ i) (hi1 : i ≤ 1000000) (hn : n < 1000000) (d : ObjD) (hd : d.syms.length = n3) (h3 : n3 ≤ 256) (s : EntD) (hs : s.1.size ≤ maxLen) (A : Option Addr) (c : Nat) (hm : s.2.length ≤ maxLen) (w : World) (hK : SeenK w b n M)
    (hI : ∀ nm q, M (0, nm, 0) = some q → ∃ j : Nat, j < n3 ∧ q = j ∧ (symAt d j).1 = nm) (hrow : RowC w lo hi A3 (d.syms.flatMap encSym)) (hhi : hi ≤ w.heap.size) (hA : ParR w (fun _ => False) A s.2) (hnb : s.2 = [] ∨ ∀ bb oo, A = some ⟨bb, oo, none⟩ → bb ≠ b) :
    Calls Tryz.prog 86 #[.agg #[v1, v2, .slice A3 n3 c3, v4, v5, v6, .map (some b)], .int .i64 i, .agg #[.string s.1, .slice A s.2.length c]] w fun e w' =>
      e = .returned (.bool (entB M d.syms s)) ∧ MapOut b w w' ∧ (entB M d.syms s = true → SeenK w' b (n + 1) (putM M (2, s.1, 0) i)) := by
  cases hM : M (0, s.1, 0) with
  | none =>
    have he : entB M d.syms s = false := by unfold entB; rw [hM]
    rw [he]
    refine (ent_none v1 v2 (.slice A3 n3 c3) v4 v5 v6 b n M i s.1 hs (.slice A s.2.length c) w hK hM).mono ?_
    rintro e w' ⟨rfl, hb⟩
    exact ⟨rfl, OutO.of_below hb, fun h => by cases h⟩
  | some q =>
    obtain ⟨j, hj, rfl, hn⟩ := hI _ _ hM
    have hlz : j < d.syms.length := by omega
    obtain ⟨b3, o3, rfl, _, hb2, hcell⟩ := hrow.at_ (sz := 4) (fun x => rfl) (by omega) (by omega)
    have hat : symAt d j = d.syms[j] := by unfold symAt; rw [List.getD_eq_getElem?_getD, List.getElem?_eq_getElem hlz]; rfl
    have hx := hcell j hlz 1 (.bool (symAt d j).2.1) (by rw [hat]; rfl)
    have hy := hcell j hlz 3 (.bool (symAt d j).2.2.2) (by rw [hat]; rfl)
    rw [← Nat.add_assoc] at hx hy
    have he : entB M d.syms s = (!(symAt d j).2.1 && (symAt d j).2.2.2 && (M (2, s.1, 0)).isNone && parB s.2) := by unfold entB; rw [hM]; rfl
    rw [he]
    by_cases hz : s.2 = []
    · have hA0 : ∀ A', ParR w (fun _ => False) A' s.2 := fun A' => .inl hz
      have hc0 : Calls Tryz.prog 86 #[.agg #[v1, v2, .slice (some ⟨b3, o3, none⟩) n3 c3, v4, v5, v6, .map (some b)], .int .i64 i, .agg #[.string s.1, .slice A s.2.length c]] w _ := ent_some v1 v2 v4 v5 v6 b3 o3 n3 c3 b n M i hi0 hi1 (by omega) s.1 hs A s.2 s.2.length c rfl hm w hK j hM hj h3 _ _ (by omega) hx hy hA (.inl hz)
      exact hc0
    · exact ent_some v1 v2 v4 v5 v6 b3 o3 n3 c3 b n M i hi0 hi1 (by omega) s.1 hs A s.2 s.2.length c rfl hm w hK j hM hj h3 _ _ (by omega) hx hy hA hnb
set_option maxHeartbeats 4000000 in
theorem right_any (d : ObjD) (hW : ObjW d) (hf : d.text.length ≤ 4096 ∧ d.data.length ≤ 1024 ∧ d.syms.length ≤ 256 ∧ d.rels.length ≤ 1024 ∧ d.ents.length ≤ 64) (hops : ∀ x ∈ opsL d.text, ∃ o : Nat, x = o ∧ o < 43)
    (w0 w : World) (hT : Tabs w0) (hB0 : Below w0.heap.size w0 w) (lo hi : Nat) (hhi : hi ≤ w0.heap.size) (b : Nat) (hb : w0.heap.size ≤ b) (A1 A2 A3 A4 A5 A6 : Option Addr) (c1 c2 c3 c4 c5 c6 : Nat) (es : List Value)
    (h3 : RowC w0 lo hi A3 (d.syms.flatMap encSym)) (h4 : RowC w0 lo hi A4 (d.rels.flatMap encRel)) (h5 : RowC w0 lo hi A5 es) (h5e : EntC w0 lo hi none d.ents es)
    (lo6 hi6 : Nat) (h6 : RowC w lo6 hi6 A6 ((opsL d.text).flatMap encI64)) (hh6 : hi6 ≤ w.heap.size) (hb6 : hi6 ≤ b) (hK : SeenK w b 0 (fun _ => none)) :
    Calls Tryz.prog 71 #[.agg #[.slice A1 d.text.length c1, .slice A2 d.data.length c2, .slice A3 d.syms.length c3, .slice A4 d.rels.length c4, .slice A5 d.ents.length c5, .slice A6 (opsL d.text).length c6, .map (some b)]] w fun e w' =>
      e = .returned (.bool (rightB d)) ∧ MapOut b w w' := by
  obtain ⟨n3, e3⟩ : ∃ n, d.syms.length = n := ⟨_, rfl⟩
  obtain ⟨n4, e4⟩ : ∃ n, d.rels.length = n := ⟨_, rfl⟩
  obtain ⟨n5, e5⟩ : ∃ n, d.ents.length = n := ⟨_, rfl⟩
  have HF := Lib.hid hf
  have hn3 : (n3 : Int) ≤ 256 := by omega
  have hn4 : (n4 : Int) ≤ 1024 := by omega
  have hn5 : (n5 : Int) ≤ 64 := by omega
  rw [e3, e4, e5]
  have hlb := hK.lt
  have HLb := Lib.hid hlb
  have hW1 := (OutO.of_below ((Below.refl w.heap.size w).alloc (Nat.le_refl _) (.cells #[.slice A1 d.text.length c1, .slice A2 d.data.length c2, .slice A3 n3 c3, .slice A4 n4 c4, .slice A5 n5 c5, .slice A6 (opsL d.text).length c6, .map (some b)] 119)) : MapOut b w _)
  have HW1 := Lib.hid hW1
  have HK0 := Lib.hid (hK.below ((Below.refl w.heap.size w).alloc (Nat.le_refl _) (.cells #[.slice A1 d.text.length c1, .slice A2 d.data.length c2, .slice A3 n3 c3, .slice A4 n4 c4, .slice A5 n5 c5, .slice A6 (opsL d.text).length c6, .map (some b)] 119)))
  have HT := Lib.hid hT
  have HB0 := Lib.hid hB0
  have H3 := Lib.hid h3
  have H4 := Lib.hid h4
  have H5 := Lib.hid h5
  have H5e := Lib.hid h5e
  have H6 := Lib.hid h6
  have HHi := Lib.hid hhi
  have HHb := Lib.hid hb
  have HOps := Lib.hid hops
  have HWd := Lib.hid hW
  have HH6 := Lib.hid (And.intro hh6 hb6)
  have E3 := Lib.hid e3
  have E4 := Lib.hid e4
  have E5 := Lib.hid e5
  clear e3 e4 e5 hW hf hops hT hB0 hhi hb h3 h4 h5 h5e h6 hh6 hb6 hK hlb hW1
  go_enter Tryz.func71, Tryz.ntmps71
  go_wp2
  have hst : RgS (w.alloc (.cells #[.slice A1 d.text.length c1, .slice A2 d.data.length c2, .slice A3 n3 c3, .slice A4 n4 c4, .slice A5 n5 c5, .slice A6 (opsL d.text).length c6, .map (some b)] 119)) b d 0 0 0 (w.alloc (.cells #[.slice A1 d.text.length c1, .slice A2 d.data.length c2, .slice A3 n3 c3, .slice A4 n4 c4, .slice A5 n5 c5, .slice A6 (opsL d.text).length c6, .map (some b)] 119)) := ⟨OutO.refl _ _, fun _ => none, HK0.out, SeenS.start d⟩
  go_loopw [3, 4, 13] (fun _ _ i wr => ∃ k : Nat, k ≤ n3 ∧ i = .int .i64 k ∧ RgS (w.alloc (.cells #[.slice A1 d.text.length c1, .slice A2 d.data.length c2, .slice A3 n3 c3, .slice A4 n4 c4, .slice A5 n5 c5, .slice A6 (opsL d.text).length c6, .map (some b)] 119)) b d k 0 0 wr ∧ Hid (∀ j, j < k → symOkB d j = true)) (fun _ _ i _ => n3 - (intOf i).toNat)
  case atStart => exact ⟨0, by omega, rfl, hst, Lib.hid (fun j hj => by omega)⟩
  case round =>
    obtain ⟨k, hk, rfl, ⟨hm, M, hsk, hss⟩, HAll⟩ := hrel
    clear hst
    have HM := Lib.hid hm
    have HSk := Lib.hid hsk
    have HSs := Lib.hid hss
    have hlw : w.heap.size < wr.heap.size := by have := hm.size; simp at this; omega
    have hbx : ∀ o, wr.cell? ⟨w.heap.size, o, none⟩ = (w.alloc (.cells #[.slice A1 d.text.length c1, .slice A2 d.data.length c2, .slice A3 n3 c3, .slice A4 n4 c4, .slice A5 n5 c5, .slice A6 (opsL d.text).length c6, .map (some b)] 119)).cell? ⟨w.heap.size, o, none⟩ := fun o => World.cell?_of_block (hm.block w.heap.size (by simp) (by have := HLb.out; show ¬ w.heap.size = b; omega))
    have HBw := Lib.hid (MapOut.below HB0.out (HW1.out.trans hm) HHb.out)
    clear hm hsk hss
    by_cases hlt : k < n3
    · have k0 : (0 : Int) ≤ k := by omega
      have k1 : (k : Int) < n3 := by omega
      have hlz : k < d.syms.length := by rw [E3.out]; exact hlt
      obtain ⟨b3, o3, rfl, _, hb2, hcell⟩ := H3.out.at_ (sz := 4) (fun x => rfl) (by omega) (by omega)
      have hat : symAt d k = d.syms[k] := by unfold symAt; rw [List.getD_eq_getElem?_getD, List.getElem?_eq_getElem hlz]; rfl
      have hx : ∀ i v, (encSym (symAt d k))[i]? = some v → wr.cell? ⟨b3, o3 + (k * 4 + i), none⟩ = some v := fun i v hv => (HBw.out.cell (p := ⟨b3, o3 + (k * 4 + i), none⟩) (by have := HHi.out; show b3 < _; omega)).trans (hcell k hlz i v (by rw [← hat]; exact hv))
      have hx0 := hx 0 _ rfl
      have hx1 := hx 1 _ rfl
      have hx2 := hx 2 _ rfl
      have hx3 := hx 3 _ rfl
      rw [← Nat.add_assoc] at hx0 hx1 hx2 hx3
      rw [Nat.add_zero] at hx0
      have hwf := HWd.out.syms (symAt d k) (by rw [hat]; exact List.getElem_mem hlz)
      have HWf := Lib.hid hwf
      have HC := Lib.hid (fun w' (h : SeenK w' b k M) => lsym_any A1 A2 d.text.length c1 d.data.length c2 (.slice (some ⟨b3, o3, none⟩) n3 c3) (.slice A4 n4 c4) (.slice A5 n5 c5) (.slice A6 (opsL d.text).length c6) b k M k (by omega) (by omega) (by omega) HF.out.1 HF.out.2.1 (symAt d k) HWf.out.1 HWf.out.2 w' h)
      rw [HSs.out.symB] at HC
      have HSk' := Lib.hid (HSk.out.below ((Below.refl wr.heap.size wr).alloc (Nat.le_refl _) (.cells #[.string (symAt d k).1, .bool (symAt d k).2.1, .int .i64 (symAt d k).2.2.1, .bool (symAt d k).2.2.2] 52)))
      have HMo := Lib.hid (HM.out.trans (OutO.of_below ((Below.refl wr.heap.size wr).alloc (Nat.le_refl _) (.cells #[.string (symAt d k).1, .bool (symAt d k).2.1, .int .i64 (symAt d k).2.2.1, .bool (symAt d k).2.2.2] 52))))
      clear hcell hx hat hwf hb2
      cases hsy : symOkB d k with
      | false =>
        have HR := Lib.hid (show rightB d = false by unfold rightB symsB; rw [range_all_no hlz hsy]; rfl)
        rw [hsy] at HC
        clear hsy hlz
        go_wp2_with fail
        refine (HC.out _ HSk'.out).mono ?_
        rintro e w2 ⟨rfl, hout, _⟩
        have HO := Lib.hid (HW1.out.trans (HMo.out.trans hout))
        clear hout hbx hx0 hx1 hx2 hx3
        go_wp2
        go_ret
        exact ⟨ret_bool HR.out.symm, HO.out⟩
      | true =>
        have HAll2 := Lib.hid (all_lt_succ HAll.out hsy)
        rw [hsy] at HC
        clear hsy hlz
        go_wp2_with fail
        refine (HC.out _ HSk'.out).mono ?_
        rintro e w2 ⟨rfl, hout, hs⟩
        have HG := Lib.hid (show RgS _ b d (k + 1) 0 0 w2 from ⟨HMo.out.trans hout, _, hs (by simp), HSs.out.sym⟩)
        clear hout hs hbx hx0 hx1 hx2 hx3
        go_wp2
        go_roundw
        case rel => exact ⟨k + 1, by omega, by go_num, HG.out, HAll2⟩
        case measure => simp [intOf]; omega
    · obtain rfl : k = n3 := by omega
      have HAllS := Lib.hid (range_all_yes (n := k) HAll.out)
      have HG0 := Lib.hid (show RgS (w.alloc (.cells #[.slice A1 d.text.length c1, .slice A2 d.data.length c2, .slice A3 k c3, .slice A4 n4 c4, .slice A5 n5 c5, .slice A6 (opsL d.text).length c6, .map (some b)] 119)) b d k 0 0 wr from ⟨HM.out, M, HSk.out, HSs.out⟩)
      clear hlt HAll HSk HSs HM HBw
      go_wp2
      clear hbx
      go_loopw [5, 6, 28] (fun _ _ i wq => ∃ m : Nat, m ≤ n4 ∧ i = .int .i64 m ∧ RgS (w.alloc (.cells #[.slice A1 d.text.length c1, .slice A2 d.data.length c2, .slice A3 k c3, .slice A4 n4 c4, .slice A5 n5 c5, .slice A6 (opsL d.text).length c6, .map (some b)] 119)) b d k m 0 wq ∧ Hid (∀ j, j < m → relOkB d j = true)) (fun _ _ i _ => n4 - (intOf i).toNat)
      case atStart => exact ⟨0, by omega, rfl, HG0.out, Lib.hid (fun j hj => by omega)⟩
      case round =>
        obtain ⟨m, hm4, rfl, ⟨hm, M2, hsk, hss⟩, HAll⟩ := hrel
        clear HG0
        have HM := Lib.hid hm
        have HSk := Lib.hid hsk
        have HSs := Lib.hid hss
        have hlq : w.heap.size < wr.heap.size := by have := hm.size; simp at this; omega
        have hbx : ∀ o, wr.cell? ⟨w.heap.size, o, none⟩ = (w.alloc (.cells #[.slice A1 d.text.length c1, .slice A2 d.data.length c2, .slice A3 k c3, .slice A4 n4 c4, .slice A5 n5 c5, .slice A6 (opsL d.text).length c6, .map (some b)] 119)).cell? ⟨w.heap.size, o, none⟩ := fun o => World.cell?_of_block (hm.block w.heap.size (by simp) (by have := HLb.out; show ¬ w.heap.size = b; omega))
        have HBw := Lib.hid (MapOut.below HB0.out (HW1.out.trans hm) HHb.out)
        have HR6 := Lib.hid (H6.out.move (Nat.le_refl _) (Nat.le_refl _) (fun bb h1 h2 => (HW1.out.trans hm).block bb (by have := HH6.out; omega) (by show ¬ bb = b; have := HH6.out; omega)))
        clear hm hsk hss
        by_cases hlt : m < n4
        · have k0 : (0 : Int) ≤ m := by omega
          have k1 : (m : Int) < n4 := by omega
          have hlz : m < d.rels.length := by rw [E4.out]; exact hlt
          obtain ⟨b4, o4, eA4, _, hb2, hcell⟩ := H4.out.at_ (sz := 4) (fun x => rfl) (by omega) (by omega)
          have hat : relAt d m = d.rels[m] := by unfold relAt; rw [List.getD_eq_getElem?_getD, List.getElem?_eq_getElem hlz]; rfl
          have hx : ∀ i v, (encRel (relAt d m))[i]? = some v → wr.cell? ⟨b4, o4 + (m * 4 + i), none⟩ = some v := fun i v hv => (HBw.out.cell (p := ⟨b4, o4 + (m * 4 + i), none⟩) (by have := HHi.out; show b4 < _; omega)).trans (hcell m hlz i v (by rw [← hat]; exact hv))
          have hx0 := hx 0 _ rfl
          have hx1 := hx 1 _ rfl
          have hx2 := hx 2 _ rfl
          have hx3 := hx 3 _ rfl
          rw [← Nat.add_assoc] at hx0 hx1 hx2 hx3
          rw [Nat.add_zero] at hx0
          have HWf := Lib.hid (HWd.out.rels (relAt d m) (by rw [hat]; exact List.getElem_mem hlz))
          have HTq := Lib.hid (HT.out.below HBw.out)
          have HC := Lib.hid (fun (w' : World) (hb : Below wr.heap.size wr w') (h : SeenK w' b (k + m + 0) M2) => rel_any (.slice A1 d.text.length c1) (.slice A2 d.data.length c2) (.slice A3 k c3) (.slice A4 n4 c4) (.slice A5 n5 c5) A6 (opsL d.text) c6 lo6 hi6 b (k + m + 0) M2 m (by omega) (by omega) (by omega) (by rw [opsL_len]; exact HF.out.1) HOps.out (relAt d m) ⟨HWf.out.1, HWf.out.2.2.2⟩ w' (HTq.out.below hb) (HR6.out.move (Nat.le_refl _) (Nat.le_refl _) (fun bb h1 h2 => hb.block bb (by have := HH6.out; have := hlq; omega))) (by have := HH6.out; have := hb.size; omega) h)
          rw [HSs.out.relB] at HC
          have HBa := Lib.hid ((Below.refl wr.heap.size wr).alloc (Nat.le_refl _) (.cells #[.int .i64 (relAt d m).1, .int .i64 (relAt d m).2.1, .string (relAt d m).2.2.1, .int .i64 (relAt d m).2.2.2] 55))
          have HSk' := Lib.hid (HSk.out.below HBa.out)
          have HMo := Lib.hid (HM.out.trans (OutO.of_below HBa.out))
          clear hcell hx hat hb2
          cases hsy : relOkB d m with
          | false =>
            have HR := Lib.hid (show rightB d = false by unfold rightB relsB; rw [range_all_no hlz hsy]; simp)
            rw [hsy] at HC
            clear hsy hlz
            subst eA4
            go_wp2_with fail
            refine (HC.out _ HBa.out HSk'.out).mono ?_
            rintro e w2 ⟨rfl, hout, _⟩
            have HO := Lib.hid (HW1.out.trans (HMo.out.trans hout))
            clear hout hbx hx0 hx1 hx2 hx3
            go_wp2
            go_ret
            exact ⟨ret_bool HR.out.symm, HO.out⟩
          | true =>
            have HAll2 := Lib.hid (all_lt_succ HAll.out hsy)
            rw [hsy] at HC
            clear hsy hlz
            subst eA4
            go_wp2_with fail
            refine (HC.out _ HBa.out HSk'.out).mono ?_
            rintro e w2 ⟨rfl, hout, hs⟩
            have HG := Lib.hid (show RgS _ b d k (m + 1) 0 w2 from ⟨HMo.out.trans hout, _, hs (by simp), HSs.out.rel _⟩)
            clear hout hs hbx hx0 hx1 hx2 hx3
            go_wp2
            go_roundw
            case rel => exact ⟨m + 1, by omega, by go_num, HG.out, HAll2⟩
            case measure => simp [intOf]; omega
        · obtain rfl : m = n4 := by omega
          have HAllR := Lib.hid (range_all_yes (n := m) HAll.out)
          have HG1 := Lib.hid (show RgS (w.alloc (.cells #[.slice A1 d.text.length c1, .slice A2 d.data.length c2, .slice A3 k c3, .slice A4 m c4, .slice A5 n5 c5, .slice A6 (opsL d.text).length c6, .map (some b)] 119)) b d k m 0 wr from ⟨HM.out, M2, HSk.out, HSs.out⟩)
          clear hlt HAll HSk HSs HM HBw HR6
          go_wp2
          clear hbx
          go_loopw [7, 8, 43] (fun _ _ i wp => ∃ q : Nat, q ≤ n5 ∧ i = .int .i64 q ∧ RgS (w.alloc (.cells #[.slice A1 d.text.length c1, .slice A2 d.data.length c2, .slice A3 k c3, .slice A4 m c4, .slice A5 n5 c5, .slice A6 (opsL d.text).length c6, .map (some b)] 119)) b d k m q wp ∧ Hid (∀ j, j < q → entOkB d j = true)) (fun _ _ i _ => n5 - (intOf i).toNat)
          case atStart => exact ⟨0, by omega, rfl, HG1.out, Lib.hid (fun j hj => by omega)⟩
          case round =>
            obtain ⟨q, hq5, rfl, ⟨hm, M3, hsk, hss⟩, HAll⟩ := hrel
            clear HG1
            have HM := Lib.hid hm
            have HSk := Lib.hid hsk
            have HSs := Lib.hid hss
            have hlp : w.heap.size < wr.heap.size := by have := hm.size; simp at this; omega
            have hbx : ∀ o, wr.cell? ⟨w.heap.size, o, none⟩ = (w.alloc (.cells #[.slice A1 d.text.length c1, .slice A2 d.data.length c2, .slice A3 k c3, .slice A4 m c4, .slice A5 n5 c5, .slice A6 (opsL d.text).length c6, .map (some b)] 119)).cell? ⟨w.heap.size, o, none⟩ := fun o => World.cell?_of_block (hm.block w.heap.size (by simp) (by have := HLb.out; show ¬ w.heap.size = b; omega))
            have HBw := Lib.hid (MapOut.below HB0.out (HW1.out.trans hm) HHb.out)
            clear hm hsk hss
            by_cases hlt : q < n5
            · have k0 : (0 : Int) ≤ q := by omega
              have k1 : (q : Int) < n5 := by omega
              have hlz : q < d.ents.length := by rw [E5.out]; exact hlt
              have hat : entAt d q = d.ents[q] := by unfold entAt; rw [List.getD_eq_getElem?_getD, List.getElem?_eq_getElem hlz]; rfl
              obtain ⟨Ap, cp, g0, g1, gr⟩ := H5e.out.get hlz
              rw [← hat] at g0 g1 gr
              have hne : es ≠ [] := fun e => by rw [e] at g0; cases g0
              rcases H5.out with e | ⟨b5, o5, eA5, _, hb2, hcell⟩
              · exact absurd e hne
              have hx0 := (HBw.out.cell (p := ⟨b5, o5 + (q * 2), none⟩) (by have := HHi.out; show b5 < _; omega)).trans (hcell (q * 2) _ g0)
              have hx1 := (HBw.out.cell (p := ⟨b5, o5 + (q * 2 + 1), none⟩) (by have := HHi.out; show b5 < _; omega)).trans (hcell (q * 2 + 1) _ g1)
              rw [← Nat.add_assoc] at hx1
              have HWf := Lib.hid (HWd.out.ents (entAt d q) (by rw [hat]; exact List.getElem_mem hlz))
              have HPar := Lib.hid (show ∀ w' : World, Below wr.heap.size wr w' → ParR w' (fun _ => False) Ap (entAt d q).2 from fun w' hb => parR_of (lo := lo) (hi := hi) (gr.rowC.move (Nat.le_refl _) (Nat.le_refl _) (fun bb h1 h2 => (hb.block bb (by have := HBw.out.size; have := HHi.out; omega)).trans (HBw.out.block bb (by have := HHi.out; omega)))) (by have := HBw.out.size; have := hb.size; have := HHi.out; omega))
              have HNp := Lib.hid (show (entAt d q).2 = [] ∨ ∀ bb oo, Ap = some ⟨bb, oo, none⟩ → bb ≠ b by
                rcases gr with e | ⟨b', o', e, h1, h2, _⟩
                · left
                  have := flat_len (enc := encI64) (sz := 1) (fun x => rfl) (entAt d q).2
                  rw [e] at this
                  exact List.eq_nil_of_length_eq_zero (by simpa using this.symm)
                · right; intro bb oo e2; rw [e] at e2; cases e2; have := HHi.out; have := HHb.out; omega)
              have HBa := Lib.hid ((Below.refl wr.heap.size wr).alloc (Nat.le_refl _) (.cells #[.string (entAt d q).1, .slice Ap (entAt d q).2.length cp] 84))
              have HSk' := Lib.hid (HSk.out.below HBa.out)
              have HMo := Lib.hid (HM.out.trans (OutO.of_below HBa.out))
              have HC := Lib.hid (lent_any (.slice A1 d.text.length c1) (.slice A2 d.data.length c2) (.slice A4 m c4) (.slice A5 n5 c5) (.slice A6 (opsL d.text).length c6) A3 k c3 lo hi b (k + m + q) M3 q (by omega) (by omega) (by omega) d E3.out (by omega) (entAt d q) HWf.out.1 Ap cp HWf.out.2.2 (wr.alloc (.cells #[.string (entAt d q).1, .slice Ap (entAt d q).2.length cp] 84)) HSk'.out (fun i c h => HSs.out.syI i c h) (H3.out.move (Nat.le_refl _) (Nat.le_refl _) (fun bb h1 h2 => (HBa.out.block bb (by have := HBw.out.size; have := HHi.out; omega)).trans (HBw.out.block bb (by have := HHi.out; omega)))) (by have := HBw.out.size; have := HBa.out.size; have := HHi.out; omega) (HPar.out _ HBa.out) HNp.out)
              have HEq := Lib.hid (SeenS.entB (d := d) (M := M3) (kr := m) (ke := q) (by rw [← E3.out] at HAllS; exact HAllS.out) (by rw [E3.out]; exact HSs.out))
              rw [HEq.out] at HC
              clear hcell hat hb2 g0 g1 gr hne
              cases hsy : entOkB d q with
              | false =>
                have HR := Lib.hid (show rightB d = false by unfold rightB entsB; rw [range_all_no hlz hsy]; simp)
                rw [hsy] at HC
                clear hsy hlz
                subst eA5
                go_wp2_with fail
                refine HC.out.mono ?_
                rintro e w2 ⟨rfl, hout, _⟩
                have HO := Lib.hid (HW1.out.trans (HMo.out.trans hout))
                clear hout hbx hx0 hx1
                go_wp2
                go_ret
                exact ⟨ret_bool HR.out.symm, HO.out⟩
              | true =>
                have HAll2 := Lib.hid (all_lt_succ HAll.out hsy)
                rw [hsy] at HC
                clear hsy hlz
                subst eA5
                go_wp2_with fail
                refine HC.out.mono ?_
                rintro e w2 ⟨rfl, hout, hs⟩
                have HG := Lib.hid (show RgS _ b d k m (q + 1) w2 from ⟨HMo.out.trans hout, _, hs (by simp), HSs.out.ent _⟩)
                clear hout hs hbx hx0 hx1
                go_wp2
                go_roundw
                case rel => exact ⟨q + 1, by omega, by go_num, HG.out, HAll2⟩
                case measure => simp [intOf]; omega
            · obtain rfl : q = n5 := by omega
              have HAllE := Lib.hid (range_all_yes (n := q) HAll.out)
              have HR := Lib.hid (show rightB d = true by unfold rightB symsB relsB entsB; rw [E3.out, E4.out, E5.out, HAllS.out, HAllR.out, HAllE.out]; rfl)
              have HO := Lib.hid (HW1.out.trans HM.out)
              clear hlt HAll HSk HSs HM HBw hbx
              go_wp2
              go_ret
              exact ⟨ret_bool HR.out.symm, HO.out⟩
end Go.Proofs.YtjngkifoaljmaaaGreatDoor
namespace Go.Proofs.YtjngkifoaljmaaaGreatDoor
set_option maxRecDepth 100000
open Go.RowKit Go.Maps
set_option linter.unusedVariables false
theorem opsL_take {l : List Int} {k n : Nat} (hk : k < l.length) (h : opOf l[k] = some n) : opsL (l.take (k + 1)) = opsL (l.take k) ++ [(n : Int)] := by
  unfold opsL
  rw [List.take_succ_eq_append_getElem hk, List.map_append]
  simp [h]
theorem textB_bad {l : List Int} {k : Nat} (hk : k < l.length) (h : opOf l[k] = none) : textB l = false := by
  unfold textB
  rw [List.all_eq_false]
  exact ⟨l[k], List.getElem_mem hk, by rw [h]; exact Bool.false_ne_true⟩
theorem textB_all {l : List Int} (h : ∀ k (hk : k < l.length), (opOf l[k]).isSome = true) : textB l = true := by
  unfold textB
  rw [List.all_eq_true]
  intro x hx
  obtain ⟨k, hk, rfl⟩ := List.mem_iff_getElem.1 hx
  exact h k hk
theorem opsL_mem {l : List Int} (h : textB l = true) : ∀ x ∈ opsL l, ∃ o : Nat, x = o ∧ o < 43 := by
  intro x hx
  unfold opsL at hx
  obtain ⟨v, hv, rfl⟩ := List.mem_map.1 hx
  unfold textB at h
  have := List.all_eq_true.1 h v hv
  obtain ⟨n, hn⟩ := Option.isSome_iff_exists.1 this
  exact ⟨n, by rw [hn]; rfl, (opOf_some hn).1⟩
def OpsR (w : World) (l : List Int) (k : Nat) (v : Value) (wr : World) : Prop := Below w.heap.size w wr ∧ wr.ownsRow w.heap.size 3 1 v k ((opsL (l.take k)).flatMap encI64) ∧ ∀ j (hj : j < l.length), j < k → (opOf l[j]).isSome = true
theorem OpsR.next {w wr w2 w3 : World} {l : List Int} {k n : Nat} {v v' : Value} (h : OpsR w l k v wr) (hk : k < l.length) (hn : opOf l[k] = some n) (hb : Below wr.heap.size wr w2)
    (hr : w3.ownsRow w.heap.size 3 1 v' (k + 1) ((opsL (l.take k)).flatMap encI64 ++ encI64 n)) (hg : w2.grownBy w3 v.ownBlock) : OpsR w l (k + 1) v' w3 := by
  obtain ⟨h1, h2, h3⟩ := h
  have hge := own_ge h2
  have hb2 := h1.trans (hb.mono h1.size)
  refine ⟨⟨hg.os.trans hb2.os, hg.tape.trans hb2.tape, hg.output.trans hb2.output, Nat.le_trans hb2.size hg.size, fun j hj => (hg.block j (Nat.lt_of_lt_of_le hj hb2.size) (fun e => by have := hge j e.symm; omega)).trans (hb2.block j hj)⟩, ?_, fun j hj hjk => ?_⟩
  · rw [opsL_take hk hn, List.flatMap_append]; simpa using hr
  · by_cases e : j = k
    · subst e; rw [hn]; rfl
    · exact h3 j hj (by omega)
def OpsP (l : List Int) (n : Nat) (w : World) (e : Ending) (w' : World) : Prop := Below w.heap.size w w' ∧ (textB l = false → e = .returned (.tuple #[.slice none 0 0, .bool false])) ∧ (textB l = true → ∃ A6 c6, e = .returned (.tuple #[.slice A6 n c6, .bool true]) ∧ RowC w' w.heap.size w'.heap.size A6 ((opsL l).flatMap encI64))
set_option maxHeartbeats 2000000 in
theorem operations_any (A : Option Addr) (l : List Int) (n c lo hi : Nat) (hn : l.length = n) (hmax : n ≤ 4096) (hl : ∀ x ∈ l, IsW x) (w : World) (hT : Tabs w) (hrow : RowC w lo hi A (l.flatMap encU32)) (hhi : hi ≤ w.heap.size) :
    Calls Tryz.prog 69 #[.slice A n c] w (OpsP l n w) := by
  obtain ⟨i0, hi', hz0, hz1, hz2⟩ := info_parts info_small
  have HT := Lib.hid hT
  have HRow := Lib.hid hrow
  have HHi := Lib.hid hhi
  have HLn := Lib.hid hn
  have HW := Lib.hid hl
  clear hT hrow hhi hn hl
  go_enter Tryz.func69, Tryz.ntmps69
  go_wp2
  have hat : OpsR w l 0 (.slice none 0 0) w := ⟨Below.refl _ _, World.ownsRow_nil w _ _ _, fun j _ h => by omega⟩
  go_loopw [4, 6, 11] (fun v _ i wr => ∃ k : Nat, k ≤ n ∧ i = .int .i64 k ∧ OpsR w l k v wr) (fun _ _ i _ => n - (intOf i).toNat)
  case atStart => exact ⟨0, by omega, rfl, hat⟩
  case round =>
    obtain ⟨k, hk, rfl, he⟩ := hrel
    clear hat
    have HE := Lib.hid he
    have HB := Lib.hid he.1
    have HTr := Lib.hid (HT.out.below he.1)
    clear he
    by_cases hlt : k < n
    · have k0 : (0 : Int) ≤ k := by omega
      have k1 : (k : Int) < n := by omega
      have hlz : k < l.length := by rw [HLn.out]; exact hlt
      obtain ⟨b, o, rfl, _, hb2, hcell⟩ := HRow.out.at_ (sz := 1) (fun x => rfl) (by omega) (by omega)
      have hx := (HB.out.cell (p := ⟨b, o + (k * 1 + 0), none⟩) (by have := HHi.out; show b < _; omega)).trans (hcell k hlz 0 (.int .u32 l[k]) rfl)
      rw [show o + (k * 1 + 0) = o + k by omega] at hx
      have hw := HW.out l[k] (List.getElem_mem hlz)
      obtain ⟨v, hv⟩ : ∃ v, l[k] = v := ⟨_, rfl⟩
      have HV := Lib.hid hv
      rw [hv] at hx hw
      have HWv := Lib.hid hw
      clear hb2 hcell hv hw
      cases hop : opOf v with
      | none =>
        have HN := Lib.hid (opOf_none hop)
        have HTx := Lib.hid (show textB l = false from textB_bad hlz (by rw [HV.out]; exact hop))
        clear hop
        go_wp2_with fail
        refine (decode_no v wr HWv.out HTr.out HN.out).mono ?_
        rintro e w1 ⟨rfl, hb⟩
        have HB1 := Lib.hid (HB.out.trans (hb.mono HB.out.size))
        clear hb
        go_wp2
        go_ret2
        exact ⟨HB1.out.trans (((Below.refl _ _).alloc (Nat.le_refl _) _).mono HB1.out.size), fun _ => rfl, (fun h => by rw [HTx.out] at h; cases h)⟩
      | some q =>
        have HQ := Lib.hid (show opOf l[k] = some q by rw [HV.out]; exact hop)
        have HQ2 := Lib.hid (opOf_some hop)
        have HLz := Lib.hid hlz
        clear hop
        go_wp2_with fail
        refine (decode_yes v q wr HWv.out HTr.out HQ2.out.1 HQ2.out.2).mono ?_
        rintro e w1 ⟨rfl, hb⟩
        have HBd := Lib.hid hb
        have HBx := Lib.hid (hb.trans (((Below.refl w1.heap.size w1).alloc (Nat.le_refl _) (.cells #[.int .i64 q, .int .i64 (regI v 7 (lRd (opS q))), .int .i64 (regI v 15 (lR1 (opS q))), .int .i64 (regI v 20 (lR2 (opS q))), .int .i64 (numberI v (opS q))] 49)).mono hb.size))
        have HOw := Lib.hid (rowO_below HE.out.2.1 HBx.out)
        have HBy := Lib.hid (HBx.out.trans (((Below.refl _ _).alloc (Nat.le_refl _) (.cells #[.int .i64 q] 3)).mono HBx.out.size))
        have HOy := Lib.hid (rowO_below HE.out.2.1 HBy.out)
        have HM := Lib.hid (show k + 1 ≤ maxLen by unfold maxLen; omega)
        have HB8 := Lib.hid (show (k + 1) * 8 ≤ 140737488355328 by omega)
        have HL1 := Lib.hid (show (encI64 q).length = 1 * 1 from rfl)
        have H1c := Lib.hid (show ∀ u ∈ encI64 q, u.oneCell' = true from fun u hu => by unfold encI64 at hu; simp only [List.mem_singleton] at hu; subst hu; rfl)
        have HZ := Lib.hid (show w.heap.size ≤ ((w1.alloc (.cells #[.int .i64 q, .int .i64 (regI v 7 (lRd (opS q))), .int .i64 (regI v 15 (lR1 (opS q))), .int .i64 (regI v 20 (lR2 (opS q))), .int .i64 (numberI v (opS q))] 49)).alloc (.cells #[.int .i64 q] 3)).heap.size by (have := HB.out.size; have := HBy.out.size; omega))
        have HN := Lib.hid (news_at (w := w1.alloc (.cells #[.int .i64 q, .int .i64 (regI v 7 (lRd (opS q))), .int .i64 (regI v 15 (lR1 (opS q))), .int .i64 (regI v 20 (lR2 (opS q))), .int .i64 (numberI v (opS q))] 49)) (w2 := (w1.alloc (.cells #[.int .i64 q, .int .i64 (regI v 7 (lRd (opS q))), .int .i64 (regI v 15 (lR1 (opS q))), .int .i64 (regI v 20 (lR2 (opS q))), .int .i64 (numberI v (opS q))] 49)).alloc (.cells #[.int .i64 q] 3)) (cs := encI64 q) (ty := 3) rfl)
        have hsz : (w1.alloc (.cells #[.int .i64 q, .int .i64 (regI v 7 (lRd (opS q))), .int .i64 (regI v 15 (lR1 (opS q))), .int .i64 (regI v 20 (lR2 (opS q))), .int .i64 (numberI v (opS q))] 49)).heap.size = w1.heap.size + 1 := by simp
        rw [hsz] at HN
        clear hb hsz hx
        go_wp2_with (at_builtin; (refine wpList_append_at6 rfl _ _ 82 rfl w.heap.size 3 i0 (.int .i64 0) 1 8 Tryz.underlying82 hi' hz0 hz1 hz2 rfl (by decide) u4 k ((opsL (l.take k)).flatMap encI64) ?hs HOy.out ⟨w1.heap.size + 1, 0, none⟩ 1 1 (encI64 q) ?hx HL1.out HN.out H1c.out HM.out HB8.out HZ.out ?_; (case hs => rfl); (case hx => rfl); intro v' w3 hr hg hv'; have HK := Lib.hid (OpsR.next HE.out HLz.out HQ.out HBy.out hr hg); clear hr hg hv'))
        go_roundw
        case rel => exact ⟨k + 1, by omega, by go_num, HK.out⟩
        case measure => simp [intOf]; omega
    · obtain rfl : k = n := by omega
      have HTx := Lib.hid (show textB l = true from textB_all (fun j hj => HE.out.2.2 j hj (by rw [HLn.out] at hj; exact hj)))
      have HOw := Lib.hid (show wr.ownsRow w.heap.size 3 1 u4 k ((opsL l).flatMap encI64) by (have h := HE.out.2.1; rw [← HLn.out, List.take_length, HLn.out] at h; exact h))
      obtain ⟨A6, c6, rfl⟩ := ownO_slice HOw.out
      clear hlt
      go_wp2
      go_ret2
      exact ⟨HB.out, (fun h => by rw [HTx.out] at h; cases h), fun _ => ⟨A6, c6, rfl, RowC.of_own HOw.out⟩⟩
end Go.Proofs.YtjngkifoaljmaaaGreatDoor
namespace Go.Proofs.YtjngkifoaljmaaaGreatDoor
set_option maxRecDepth 100000
open Go.RowKit Go.Maps
set_option linter.unusedVariables false
theorem mayO_eq (d : ObjD) : mayO d = (fewB d.text.length d.data.length d.syms.length d.rels.length d.ents.length && textB d.text && rightB d) := by
  unfold mayO rightB
  simp only [Bool.and_assoc]
set_option maxHeartbeats 2000000 in
theorem may_obj (d : ObjD) (hW : ObjW d) (v : Value) (lo hi : Nat) (w : World) (hT : Tabs w) (hO : ObjAt w lo hi d v) (hhi : hi ≤ w.heap.size) :
    Calls Tryz.prog 56 #[v] w fun e w' => e = .returned (.bool (mayO d)) ∧ Below w.heap.size w w' := by
  obtain ⟨A1, c1, A2, c2, A3, c3, A4, c4, A5, c5, es, rfl, h1, h2, h3, h4, h5, h6⟩ := hO
  have HB0 := Lib.hid ((Below.refl w.heap.size w).alloc (Nat.le_refl _) (.cells #[.slice A1 d.text.length c1, .slice A2 d.data.length c2, .slice A3 d.syms.length c3, .slice A4 d.rels.length c4, .slice A5 d.ents.length c5] 59))
  have HX0 := Lib.hid (heap_alloc_new w (.cells #[.slice A1 d.text.length c1, .slice A2 d.data.length c2, .slice A3 d.syms.length c3, .slice A4 d.rels.length c4, .slice A5 d.ents.length c5] 59))
  have HE := Lib.hid (mayO_eq d)
  have HWd := Lib.hid hW
  have HT := Lib.hid hT
  have HHi := Lib.hid hhi
  have H1 := Lib.hid h1
  have H3 := Lib.hid h3
  have H4 := Lib.hid h4
  have H5 := Lib.hid h5
  have H6 := Lib.hid h6
  clear hW hT hhi h1 h2 h3 h4 h5 h6
  go_enter Tryz.func56, Tryz.ntmps56
  go_wp2_with fail
  refine (few_any A1 A2 A3 A4 A5 _ _ _ _ _ c1 c2 c3 c4 c5 _).mono ?_
  rintro e w1 ⟨rfl, hb⟩
  have HB1 := Lib.hid (HB0.out.trans (hb.mono HB0.out.size))
  have HX1 := Lib.hid ((hb.block w.heap.size (by simp)).trans HX0.out)
  clear hb
  cases hf : fewB d.text.length d.data.length d.syms.length d.rels.length d.ents.length with
  | false =>
    have HR := Lib.hid (show mayO d = false by rw [HE.out, hf]; rfl)
    clear hf
    go_wp2
    go_ret
    exact ⟨ret_bool HR.out.symm, HB1.out⟩
  | true =>
  have HF := Lib.hid (few_of hf)
  have HFe := Lib.hid hf
  obtain ⟨⟨z0, z1, z2, z3, z4⟩, gr⟩ := row_cells5 HX1.out
  clear hf
  go_wp2_with fail
  refine (operations_any A1 d.text _ c1 lo hi rfl HF.out.1 HWd.out.text w1 (HT.out.below HB1.out) (H1.out.move (Nat.le_refl _) (Nat.le_refl _) (fun b g1 g2 => HB1.out.block b (by have := HHi.out; omega))) (by have := HHi.out; have := HB1.out.size; omega)).mono ?_
  rintro e w2 ⟨hb, hno, hyes⟩
  have HB2 := Lib.hid (HB1.out.trans (hb.mono HB1.out.size))
  have HX2 := Lib.hid ((hb.block w.heap.size ((Array.getElem?_eq_some_iff.1 HX1.out).1)).trans HX1.out)
  have HS12 := Lib.hid hb.size
  clear hb z0 z1 z2 z3 z4 gr
  cases ht : textB d.text with
  | false =>
    obtain rfl := hno ht
    have HR := Lib.hid (show mayO d = false by rw [HE.out, ht]; simp)
    clear ht hno hyes
    go_wp2
    go_ret
    exact ⟨ret_bool HR.out.symm, HB2.out⟩
  | true =>
  obtain ⟨A6, c6, rfl, hrow⟩ := hyes ht
  have HRow := Lib.hid hrow
  have HTx := Lib.hid ht
  obtain ⟨⟨z0, z1, z2, z3, z4⟩, gr⟩ := row_cells5 HX2.out
  clear ht hno hyes hrow
  go_wp2_with fail
  refine (look_any A1 A2 A3 A4 A5 A6 _ _ _ _ _ _ c1 c2 c3 c4 c5 c6 w2).mono ?_
  rintro e w3 ⟨b, hb2, rfl, hK, hb⟩
  have HB3 := Lib.hid (HB2.out.trans (hb.mono HB2.out.size))
  have HS23 := Lib.hid hb.size
  have hR := right_any d HWd.out ⟨HF.out.1, HF.out.2.1, HF.out.2.2.1, HF.out.2.2.2.1, HF.out.2.2.2.2⟩ (opsL_mem HTx.out) w w3 HT.out HB3.out lo hi HHi.out b (by have := HB2.out.size; omega) A1 A2 A3 A4 A5 A6 c1 c2 c3 c4 c5 c6 es H3.out H4.out H5.out H6.out w1.heap.size w2.heap.size (HRow.out.move (Nat.le_refl _) (Nat.le_refl _) (fun bb g1 g2 => hb.block bb g2)) hb.size hb2 hK
  rw [opsL_len] at hR
  have HRt := Lib.hid hR
  have HBb := Lib.hid (show w.heap.size ≤ b by have := HB2.out.size; omega)
  clear hb hK hR hb2 z0 z1 z2 z3 z4 gr
  go_wp2_with fail
  refine HRt.out.mono ?_
  rintro e w4 ⟨rfl, hm⟩
  have HB4 := Lib.hid (MapOut.below HB3.out hm HBb.out)
  have HR := Lib.hid (show mayO d = rightB d by rw [HE.out, HFe.out, HTx.out]; rfl)
  clear hm
  go_wp2
  go_ret
  exact ⟨ret_bool HR.out.symm, HB4.out⟩
end Go.Proofs.YtjngkifoaljmaaaGreatDoor
