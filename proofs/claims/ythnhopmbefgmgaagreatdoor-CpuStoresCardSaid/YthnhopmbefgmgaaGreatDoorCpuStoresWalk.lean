/- Layer 5's statements: CpuStores. -/
import Derived.Test.YthnhopmbefgmgaaGreatDoorCpuStoresPure
import Derived.Test.YthnhopmbefgmgaaGreatDoorCpuH
namespace Go.Proofs.YthnhopmbefgmgaaGreatDoor
set_option maxRecDepth 100000
open Go.RowKit Go.Maps
set_option linter.unusedVariables false
namespace CpuStoresWalk
attribute [local go_sem ↓] loadAt_st loadAt_wd build_st build_wd
set_option maxHeartbeats 4000000 in
theorem walk (a0 : Int) (o : Bool) (w : World) (w0 : (Lit.int .u64 a0).wf = true) (hT : Tabs w) (hA : TabA w) :
    Calls Tryz.prog 7 #[.int .u64 a0, .bool o] w fun e w' => e = .returned (.bool true) ∧ Below w.heap.size w w' := by
  have HT := Lib.hid (And.intro hT hA)
  have HU := Lib.hid (show IsU a0 from ⟨(bounds_u64 w0).1, by have := (bounds_u64 w0).2; omega⟩)
  have hso := stBuild_own o
  clear hT hA w0
  go_enter Tryz.func7, Tryz.ntmps7
  go_wp2_with fail
  refine (awake5 _ HT.out.1 HT.out.2).mono ?_
  rintro e u1 ⟨rfl, hb1⟩
  have HB1 := Lib.hid hb1
  clear hb1
  go_wp2_with fail
  refine (words_any _ 0 _ 8 sX rfl (by omega) (mayL (by decide +kernel)) _ ?hx).mono ?_
  case hx => exact xs_to _ _ _ _ (by simp) rfl
  rintro e u2 ⟨v, rfl, ho, hb⟩
  obtain ⟨g, c, rfl⟩ := row_some (n := 32 - 1) ho
  have hb2 : Below u1.heap.size u1 u2 := Below.trans below_alloc2 (hb.mono (by simp; omega))
  have HB2 := Lib.hid (HB1.out.trans (hb2.mono HB1.out.size))
  have HTab := Lib.hid (show TabAt u2 u1.heap.size 0 sT from ((t1_tab u1).below ((Below.refl _ _).alloc (Nat.le_refl _) _)).below hb)
  have ho' : u2.ownsRow _ 5 1 (.slice (some ⟨g, 0, none⟩) 32 c) 32 _ := ho
  have hw1 := (one_world (k := 1) (s0 0 o) rfl (by rw [wordsL_len]; rfl) (by omega) ho' (wordsL_all _) HTab.out).wd
  have hok := one_reg (k := 1) (s0 0 o) (r := 5) a0 (by omega) rfl (by rw [wordsL_len]; rfl) (by omega) ho' (wordsL_all _) HTab.out
  have c8 := hw1.cell 8
  have f8 := hw1.free 8
  rw [show ∀ (tS bS eS : Value), (worldL tS bS eS (s0 0 o))[8]? = some (.int .u64 0) from fun _ _ _ => rfl] at c8
  have hwd := wdBuild_is (h := (rfl : ((s0 0 o)).R.length = 32))
  have hld := hok.wd.load
  have HOk := Lib.hid hok
  have HSz := Lib.hid (show u1.heap.size < u2.heap.size from Nat.lt_of_lt_of_le (by simp; omega) hb.size)
  clear ho ho' hb hb2 HB1 hw1 hok
  generalize u1.heap.size = q at *
  simp only [oneW, Nat.reduceAdd] at HOk hld c8 f8
  go_wp2_with (first | (refine wpList_store_new rfl 30 _ _ rfl _ _ _ _ rfl rfl ?hi ?hs ?h1 rfl ?hg ?_; (case hi => exact wdInfo); (case hs => rfl); (case h1 => exact worldL_one); (case hg => simp); (generalize ((u2.alloc (.cells #[.slice (some ⟨g, 0, none⟩) 32 c] 52)).alloc (.cells (worldL (.slice (some ⟨q, 0, none⟩) 1 1) (.slice (some ⟨u2.heap.size, 0, none⟩) 1 1) (.slice none 0 0) (s0 0 o)).toArray 30)) = W at *)))
  refine (build_yes q 0 1 1 u2.heap.size 0 1 1 sT [wordsL sX] _ _ _ ?l1 rfl st_w st_may rfl (by omega) _ HOk.out.tab (.inr ⟨rfl, HOk.out.rows⟩)).mono ?_
  case l1 => exact HOk.out.wd.2
  clear hld hwd hso HTab c8 f8
  generalize (W.setCell ⟨u2.heap.size + 1, 8, none⟩ (.int .u64 a0)) = X at *
  have HBX := Lib.hid (HB2.out.trans (HOk.out.bel.mono HB2.out.size))
  rintro e w2 ⟨m, tb, tc, hb, G, r, bb, bc, rfl, hM, hR, _, _, _, hb2⟩
  have HM := Lib.hid hM
  have HB3 := Lib.hid (And.intro hb2 (HBX.out.trans (hb2.mono HBX.out.size)))
  have HTX := Lib.hid (And.intro (HT.out.1.below HBX.out) (HT.out.2.below HBX.out))
  have HS0 := Lib.hid HBX.out.size
  have hS := (HOk.out.wd.below hb2).loadS
  have HLs := Lib.hid HOk.out.wd.2
  clear hM hR hb2 HBX
  go_wp2_with fail
  refine (new_cpu m tb tc hb 1 sT G _ none 0 [] (fun b => X.heap.size ≤ b) _ w2 ⟨HM.out.rebase (Nat.zero_le _), .inl rfl, (fun _ => rfl), (by simp), (by simp), HLs.out, ?sr, ?sp, (by omega)⟩ (fun i hi => HM.out.from_ i hi) (fun b hb => Nat.le_trans HB3.out.1.size hb)).mono ?_
  case sr => 
    intro x hx
    rcases List.mem_or_eq_of_mem_set hx with hx | rfl
    · exact zeroR_u 0 o x hx
    · exact HU.out
  case sp => show IsU 0; exact ⟨by decide, by decide⟩
  rintro e w3 ⟨K, rfl, k1, k2, k3, k4, k5, k6, k7, k8, k9, hA3, hb3⟩
  have HA3 := Lib.hid (show CpuAt w3 K (fun b => X.heap.size ≤ b) (sSt a0 o) from hA3)
  have HB4 := Lib.hid (And.intro (HB3.out.1.trans (hb3.mono HB3.out.1.size)) (HB3.out.2.trans (hb3.mono HB3.out.2.size)))
  have HK := Lib.hid (And.intro k5 (And.intro k7 k1))
  clear hA3 hb3 k1 k2 k3 k4 k5 k6 k7 k8 k9 hS HM HB3 HLs
  go_wp2_with fail
  refine (run_any K _ (sSt a0 o) w3 20 HA3.out (env_of HTX.out.1 HTX.out.2 HB4.out.1) (by show 0 + 20 < _; omega) (by show 0 + 2 * 20 < _; omega)).mono ?_
  rw [HK.out.1, HK.out.2.1]
  obtain ⟨B, hr⟩ := s_run a0 o
  unfold ranN ranS
  rw [hr]
  clear hr
  rintro e w4 ⟨rfl, hA4, hO4⟩
  have HA5 := Lib.hid hA4
  have HB5 := Lib.hid (HB4.out.2.trans ((hO4.to_below HB4.out.1.size).mono HS0.out))
  clear hA4 hO4 HA3
  have HLen := Lib.hid (show (sSts a0 (v6 a0) (v7 a0) (v8 a0) (v9 a0) 28 o 1 (sLk o sL) B).s.R.length = 32 from rfl)
  obtain ⟨fin, hfin⟩ : ∃ fin, sSts a0 (v6 a0) (v7 a0) (v8 a0) (v9 a0) 28 o 1 (sLk o sL) B = fin := ⟨_, rfl⟩
  rw [hfin] at HA5 HLen
  go_wp2_with fail
  refine (state_any K _ fin w4 HA5.out).mono ?_
  rintro e w5 ⟨rfl, hb5⟩
  have hs6 := StB.new (w := w5) fin.s HLen.out
  have q6 : (w5.alloc (.cells (stateL fin.s).toArray 28)).cell? ⟨w5.heap.size, 6, none⟩ = some (.int .u64 a0) := by rw [hs6.cell 6, stateL_reg HLen.out (by omega), ← hfin]; show some (Value.int .u64 (v6 a0)) = _; rw [v6_is HU.out]
  have q7 : (w5.alloc (.cells (stateL fin.s).toArray 28)).cell? ⟨w5.heap.size, 7, none⟩ = some (.int .u64 (IntKind.u64.wrap (wrap64 (wrap32 a0)))) := by rw [hs6.cell 7, stateL_reg HLen.out (by omega), ← hfin]; show some (Value.int .u64 (v7 a0)) = _; rw [v7_is HU.out, IntKind.wrap_u64]; unfold wrap64 wrap32; congr 2; omega
  have q8 : (w5.alloc (.cells (stateL fin.s).toArray 28)).cell? ⟨w5.heap.size, 8, none⟩ = some (.int .u64 (IntKind.u64.wrap (wrap64 (IntKind.i8.wrap a0)))) := by rw [hs6.cell 8, stateL_reg HLen.out (by omega), ← hfin]; show some (Value.int .u64 (v8 a0)) = _; rw [v8_is HU.out, IntKind.wrap_u64, show IntKind.i8.wrap a0 = (a0 + 128) % 256 - 128 by simp [IntKind.wrap, IntKind.bits, IntKind.signed]; split <;> omega]; unfold wrap64; congr 2; omega
  have q9 : (w5.alloc (.cells (stateL fin.s).toArray 28)).cell? ⟨w5.heap.size, 9, none⟩ = some (.int .u64 (a0.tmod 256)) := by rw [hs6.cell 9, stateL_reg HLen.out (by omega), ← hfin]; show some (Value.int .u64 (v9 a0)) = _; rw [v9_is HU.out, Int.tmod_eq_emod_of_nonneg HU.out.1]
  have q34 : (w5.alloc (.cells (stateL fin.s).toArray 28)).cell? ⟨w5.heap.size, 34, none⟩ = some (.int .i64 1) := by rw [hs6.dn, ← hfin]; rfl
  have hb6 : Below w5.heap.size w5 (w5.alloc (.cells (stateL fin.s).toArray 28)) := (Below.refl _ _).alloc (Nat.le_refl _) _
  have HA6 := Lib.hid ((HA5.out.below hb5).below hb6)
  have HB6 := Lib.hid ((HB5.out.trans (hb5.mono HB5.out.size)).trans (hb6.mono (Nat.le_trans HB5.out.size hb5.size)))
  have HFin := Lib.hid hfin
  clear hs6 hb6 hb5 HA5 HB5 hfin
  go_wp2_with (first | (refine wpList_store_new rfl 28 _ _ rfl _ _ _ _ rfl rfl ?hi ?hs ?h1 rfl ?hg ?_; (case hi => (rw [stateInfo]; simp [stateL_len HLen.out])); (case hs => simp [stateL_len HLen.out]); (case h1 => exact stateL_one _); (case hg => rfl)))
  have hlk : fin.lk = sLk o sL := by rw [← HFin.out]; rfl
  cases o
  · refine (leaks_any K _ fin _ HA6.out).mono ?_
    rw [hlk, show (sLk false sL).length = 0 from rfl]
    rintro e w7 ⟨v7', rfl, ho7, hb7⟩
    obtain ⟨A7, c7, rfl⟩ := row_len ho7
    have HB7 := Lib.hid (HB6.out.trans (hb7.mono HB6.out.size))
    have r6 := (hb7.cell (p := ⟨w5.heap.size, 6, none⟩) (block_lt q6)).trans q6
    have r7 := (hb7.cell (p := ⟨w5.heap.size, 7, none⟩) (block_lt q7)).trans q7
    have r8 := (hb7.cell (p := ⟨w5.heap.size, 8, none⟩) (block_lt q8)).trans q8
    have r9 := (hb7.cell (p := ⟨w5.heap.size, 9, none⟩) (block_lt q9)).trans q9
    have r34 := (hb7.cell (p := ⟨w5.heap.size, 34, none⟩) (block_lt q34)).trans q34
    have HO7 := Lib.hid ho7
    clear ho7 hb7 HA6 HB6 q6 q7 q8 q9 q34 hlk
    go_wp2
    go_loop [10, 12] (fun n i => i = .int .i64 0 ∧ n = .int .i64 0) (fun _ _ => 0)
    case atStart => exact ⟨rfl, rfl⟩
    case round =>
      obtain ⟨rfl, rfl⟩ := hrel
      go_wp2
      go_ret
      exact ⟨rfl, HB7.out⟩
  · refine (leaks_any K _ fin _ HA6.out).mono ?_
    rw [hlk, show (sLk true sL).length = 15 from rfl]
    rintro e w7 ⟨v7', rfl, ho7, hb7⟩
    obtain ⟨g7, c7, rfl⟩ := row_some (n := 14) ho7
    have HB7 := Lib.hid (HB6.out.trans (hb7.mono HB6.out.size))
    have r6 := (hb7.cell (p := ⟨w5.heap.size, 6, none⟩) (block_lt q6)).trans q6
    have r7 := (hb7.cell (p := ⟨w5.heap.size, 7, none⟩) (block_lt q7)).trans q7
    have r8 := (hb7.cell (p := ⟨w5.heap.size, 8, none⟩) (block_lt q8)).trans q8
    have r9 := (hb7.cell (p := ⟨w5.heap.size, 9, none⟩) (block_lt q9)).trans q9
    have r34 := (hb7.cell (p := ⟨w5.heap.size, 34, none⟩) (block_lt q34)).trans q34
    have HO7 := Lib.hid ho7
    clear ho7 hb7 HA6 HB6 q6 q7 q8 q9 q34 hlk
    go_wp2
    go_loop [10, 12] (fun n i => ∃ k : Nat, k ≤ 15 ∧ i = .int .i64 k ∧ n = .int .i64 (cntS true k)) (fun _ i => 15 - (intOf i).toNat)
    case atStart => exact ⟨0, by omega, rfl, rfl⟩
    case round =>
      obtain ⟨k, hk, rfl, rfl⟩ := hrel
      by_cases hlt : k < 15
      · have hc := HO7.out.cellAt (k * 3) (by omega)
        have hcl := cntS_le true k hk
        have k0 : (0 : Int) ≤ k := by omega
        have k1 : (k : Int) < 15 := by omega
        have c0 : (0 : Int) ≤ cntS true k := by omega
        have c1 : (cntS true k : Int) ≤ 15 := by omega
        rw [lks_at (sLk true sL) k hlt] at hc
        rcases kind_or true k hlt hlt with ⟨h1, h2⟩ | ⟨h1, h2⟩
        · rw [show ((sLk true sL).getD k (0, 0, 0)).1 = 1 from h1] at hc
          have H2 := Lib.hid h2
          clear h1 h2 hcl hlt
          go_wp2
          go_round
          case rel => exact ⟨k + 1, by omega, by go_num, by rw [H2.out]; go_num⟩
          case measure => simp [intOf]; omega
        · rw [show ((sLk true sL).getD k (0, 0, 0)).1 = 0 from h1] at hc
          have H2 := Lib.hid h2
          clear h1 h2 hcl hlt
          go_wp2
          go_round
          case rel => exact ⟨k + 1, by omega, by go_num, by rw [H2.out]⟩
          case measure => simp [intOf]; omega
      · obtain rfl : k = 15 := by omega
        clear hlt hk
        rw [show cntS true 15 = 7 from cnt_all.1]
        go_wp2
        go_ret
        exact ⟨rfl, HB7.out⟩
end CpuStoresWalk
end Go.Proofs.YthnhopmbefgmgaaGreatDoor
