/- Layer 5's statements: CpuFar. -/
import Derived.Test.YthnhopmbefgmgaaGreatDoorCpuFarPure
import Derived.Test.YthnhopmbefgmgaaGreatDoorCpuH
namespace Go.Proofs.YthnhopmbefgmgaaGreatDoor
set_option maxRecDepth 100000
open Go.RowKit Go.Maps
set_option linter.unusedVariables false
namespace CpuFarWalk
attribute [local go_sem ↓] loadAt_st loadAt_wd build_st build_wd
/-- what the numbers come to -/
theorem nums {a0 a1 : Int} (w0 : (Lit.int .i32 a0).wf = true) (w1 : (Lit.int .i16 a1).wf = true) : ∃ h l : Int, a0.tdiv 4096 * 4096 = h ∧ a1.tmod 2048 = l ∧ (-2147483648 ≤ h ∧ h ≤ 2147483647 ∧ h % 4096 = 0) ∧ (-2048 < l ∧ l < 2048) := by
  have h0 := bounds_i32 w0
  have h1 := bounds_i16 w1
  refine ⟨_, _, rfl, rfl, ?_, ?_⟩
  · rcases Int.le_total 0 a0 with h | h
    · rw [Int.tdiv_eq_ediv_of_nonneg h]; omega
    · have e : a0.tdiv 4096 = -((-a0).tdiv 4096) := by rw [Int.neg_tdiv]; omega
      rw [e, Int.tdiv_eq_ediv_of_nonneg (by omega)]; omega
  · rcases Int.le_total 0 a1 with h | h
    · rw [Int.tmod_eq_emod_of_nonneg h]; omega
    · have e : a1.tmod 2048 = -((-a1).tmod 2048) := by rw [Int.neg_tmod]; omega
      rw [e, Int.tmod_eq_emod_of_nonneg (by omega)]; omega
set_option maxHeartbeats 4000000 in
theorem walk (a0 a1 : Int) (o : Bool) (w : World) (w0 : (Lit.int .i32 a0).wf = true) (w1 : (Lit.int .i16 a1).wf = true) (hT : Tabs w) (hA : TabA w) :
    Calls Tryz.prog 9 #[.int .i32 a0, .int .i16 a1, .bool o] w fun e w' => e = .returned (.bool true) ∧ Below w.heap.size w w' := by
  have HT := Lib.hid (And.intro hT hA)
  obtain ⟨h, l, e0, e1, h0, h1⟩ := nums w0 w1
  have HN := Lib.hid (And.intro e0 (And.intro e1 (And.intro (And.intro h0.1 h0.2.1) (And.intro h1 (show wrap64 h = h from by unfold wrap64; omega)))))
  have HM4 := Lib.hid h0
  have b0 := bounds_i32 w0
  have b1 := bounds_i16 w1
  clear hT hA e0 e1 h0 h1 w0 w1
  have hso := stBuild_own true
  obtain ⟨j, hj⟩ : ∃ j : Int, j = if o then 21 else 20 := ⟨_, rfl⟩
  have HJ := Lib.hid (show FOk h l j from ⟨HM4.out, HN.out.2.2.2.1, by rw [hj]; cases o <;> decide⟩)
  cases o
  all_goals
    simp only [if_true, if_false, Bool.false_eq_true] at hj
    subst hj
    go_enter Tryz.func9, Tryz.ntmps9
    go_wp2_with fail
    refine (awake5 _ HT.out.1 HT.out.2).mono ?_
    rintro e u1 ⟨rfl, hb1⟩
    have HB1 := Lib.hid hb1
    clear hb1
    go_wp2_with fail
    rw [show wrap64 (a0.tdiv 4096 * 4096) = h from (by rw [HN.out.1]; exact HN.out.2.2.2.2), HN.out.2.1]
    obtain ⟨h0, h1⟩ := HN.out.2.2.1
    obtain ⟨l0, l1⟩ := HN.out.2.2.2.1
    refine (words_any _ 0 _ 6 (fX h l _) rfl (by omega) (fx_may HJ.out) _ ?hx).mono ?_
    case hx => exact xs_to _ _ _ _ (by simp) rfl
    rintro e u2 ⟨v, rfl, ho, hb⟩
    obtain ⟨g, c, rfl⟩ := row_some (n := 23) ho
    have hb2 : Below u1.heap.size u1 u2 := Below.trans below_alloc2 (hb.mono (by simp; omega))
    have HB2 := Lib.hid (HB1.out.trans (hb2.mono HB1.out.size))
    have HTab := Lib.hid (show TabAt u2 u1.heap.size 0 fT from ((t1_tab u1).below ((Below.refl _ _).alloc (Nat.le_refl _) _)).below hb)
    have HOk := Lib.hid (one_world (k := 1) (s0 0 true) rfl (by rw [wordsL_len]; rfl) (by omega) (show u2.ownsRow _ 5 1 (.slice (some ⟨g, 0, none⟩) 24 c) 24 _ from ho) (wordsL_all _) HTab.out)
    have hwd := wdBuild_is (h := (rfl : (s0 0 true).R.length = 32))
    have hld := HOk.out.wd.load
    clear ho hb hb2 HB1
    generalize u1.heap.size = q at *
    simp only [oneW] at HOk hld
    go_wp2_with (first | (refine wpList_store_new rfl 30 _ _ rfl _ _ _ _ rfl rfl ?hi ?hs ?h1 rfl ?hg ?_; (case hi => exact wdInfo); (case hs => rfl); (case h1 => exact worldL_one); (case hg => simp); (generalize ((u2.alloc (.cells #[.slice (some ⟨g, 0, none⟩) 24 c] 52)).alloc (.cells (worldL (.slice (some ⟨q, 0, none⟩) 1 1) (.slice (some ⟨u2.heap.size, 0, none⟩) 1 1) (.slice none 0 0) (s0 0 true)).toArray 30)) = W at *)))
    refine (build_yes q 0 1 1 u2.heap.size 0 1 1 fT [wordsL (fX h l _)] _ _ _ ?l1 rfl ft_w ft_may rfl (by omega) _ HOk.out.tab (.inr ⟨rfl, HOk.out.rows⟩)).mono ?_
    case l1 => exact HOk.out.wd.2
    clear hld hwd hso HTab 
    generalize W = X at *
    have HBX := Lib.hid (HB2.out.trans (HOk.out.bel.mono HB2.out.size))
    rintro e w2 ⟨m, tb, tc, hb, G, r, bb, bc, rfl, hM, hR, _, _, _, hb2⟩
    have HM := Lib.hid hM
    have HB3 := Lib.hid (And.intro hb2 (HBX.out.trans (hb2.mono HBX.out.size)))
    have HTX := Lib.hid (And.intro (HT.out.1.below HBX.out) (HT.out.2.below HBX.out))
    have HS0 := Lib.hid HBX.out.size
    have hS := (HOk.out.wd.below hb2).loadS
    have HLs := Lib.hid HOk.out.wd.2
    clear hM hR hb2 HBX
    go_wp2_with fail
    refine (new_cpu m tb tc hb 1 fT G _ none 0 [] (fun b => X.heap.size ≤ b) _ w2 ⟨HM.out.rebase (Nat.zero_le _), .inl rfl, (fun _ => rfl), (by simp), (by simp), HLs.out, ?sr, ?sp, (by omega)⟩ (fun i hi => HM.out.from_ i hi) (fun b hb => Nat.le_trans HB3.out.1.size hb)).mono ?_
    case sr => exact zeroR_u 0 true
    case sp => show IsU 0; exact ⟨by decide, by decide⟩
    rintro e w3 ⟨K, rfl, k1, k2, k3, k4, k5, k6, k7, k8, k9, hA3, hb3⟩
    have HA3 := Lib.hid (show CpuAt w3 K (fun b => X.heap.size ≤ b) (fSt h l _) from hA3)
    have HB4 := Lib.hid (And.intro (HB3.out.1.trans (hb3.mono HB3.out.1.size)) (HB3.out.2.trans (hb3.mono HB3.out.2.size)))
    have HK := Lib.hid (And.intro k5 (And.intro k7 k1))
    clear hA3 hb3 k1 k2 k3 k4 k5 k6 k7 k8 k9 hS HM HB3 HLs
    go_wp2_with fail
    refine (run_any K _ (fSt h l _) w3 20 HA3.out (env_of HTX.out.1 HTX.out.2 HB4.out.1) (by show 0 + 20 < _; omega) (by show 0 + 2 * 20 < _; omega)).mono ?_
    rw [HK.out.1, HK.out.2.1]
    obtain ⟨lk, hlk, hr⟩ := far_run HJ.out
    unfold ranN ranS
    rw [hr]
    clear hr
    rintro e w4 ⟨rfl, hA4, hO4⟩
    have HA5 := Lib.hid hA4
    have HB5 := Lib.hid (HB4.out.2.trans ((hO4.to_below HB4.out.1.size).mono HS0.out))
    clear hA4 hO4 HA3
    obtain ⟨fin, hfin, hA6⟩ : ∃ fin : St, fin.s = fS (modU (modU h + modU l)) 8200 16 20 1 ∧ CpuAt w4 K (fun b => X.heap.size ≤ b) fin := ⟨_, rfl, HA5.out⟩
    replace HA5 := Lib.hid hA6
    have HLen := Lib.hid (show fin.s.R.length = 32 from by rw [hfin]; rfl)
    clear hA6
    go_wp2_with fail
    refine (state_any K _ fin w4 HA5.out).mono ?_
    rintro e w5 ⟨rfl, hb5⟩
    have hs6 := StB.new (w := w5) fin.s HLen.out
    have q5 : (w5.alloc (.cells (stateL fin.s).toArray 28)).cell? ⟨w5.heap.size, 5, none⟩ = some (.int .u64 (IntKind.u64.wrap (h + l))) := by rw [hs6.cell 5, stateL_reg HLen.out (by omega), hfin]; show some (Value.int .u64 (modU (modU h + modU l))) = _; rw [IntKind.wrap_u64]; unfold modU; congr 2; omega
    have q6 : (w5.alloc (.cells (stateL fin.s).toArray 28)).cell? ⟨w5.heap.size, 6, none⟩ = some (.int .u64 8200) := by rw [hs6.cell 6, stateL_reg HLen.out (by omega), hfin]; rfl
    have q7 : (w5.alloc (.cells (stateL fin.s).toArray 28)).cell? ⟨w5.heap.size, 7, none⟩ = some (.int .u64 16) := by rw [hs6.cell 7, stateL_reg HLen.out (by omega), hfin]; rfl
    have q8 : (w5.alloc (.cells (stateL fin.s).toArray 28)).cell? ⟨w5.heap.size, 8, none⟩ = some (.int .u64 0) := by rw [hs6.cell 8, stateL_reg HLen.out (by omega), hfin]; rfl
    have q32 : (w5.alloc (.cells (stateL fin.s).toArray 28)).cell? ⟨w5.heap.size, 32, none⟩ = some (.int .u64 20) := by rw [hs6.cell 32, show (32 : Nat) = 32 + 0 from rfl, stateL_at HLen.out 0, hfin]; rfl
    have q34 : (w5.alloc (.cells (stateL fin.s).toArray 28)).cell? ⟨w5.heap.size, 34, none⟩ = some (.int .i64 1) := by rw [hs6.dn, hfin]; rfl
    have hb6 : Below w5.heap.size w5 (w5.alloc (.cells (stateL fin.s).toArray 28)) := (Below.refl _ _).alloc (Nat.le_refl _) _
    have HA6 := Lib.hid ((HA5.out.below hb5).below hb6)
    have HB6 := Lib.hid ((HB5.out.trans (hb5.mono HB5.out.size)).trans (hb6.mono (Nat.le_trans HB5.out.size hb5.size)))
    have HFin := Lib.hid hfin
    clear hs6 hb6 hb5 HA5 HB5 hfin
    go_wp2_with (first | (refine wpList_store_new rfl 28 _ _ rfl _ _ _ _ rfl rfl ?hi ?hs ?h1 rfl ?hg ?_; (case hi => (rw [stateInfo]; simp [stateL_len HLen.out])); (case hs => simp [stateL_len HLen.out]); (case h1 => exact stateL_one _); (case hg => rfl)))
    go_ret
    exact ⟨rfl, HB6.out⟩
end CpuFarWalk
end Go.Proofs.YthnhopmbefgmgaaGreatDoor
