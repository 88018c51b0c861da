/- Layer 5's statements: CpuCounts. -/
import Derived.Test.YthnhopmbefgmgaaGreatDoorCpuCountsPure
import Derived.Test.YthnhopmbefgmgaaGreatDoorCpuH
namespace Go.Proofs.YthnhopmbefgmgaaGreatDoor
set_option maxRecDepth 100000
open Go.RowKit Go.Maps
set_option linter.unusedVariables false
namespace CpuCountsWalk
attribute [local go_sem ↓] loadAt_st loadAt_wd build_st build_wd
/-- how a state stands, read off its cells -/
theorem field_dn (s : CS) (h : s.R.length = 32) (w : World) : (Instr.field 28 (.agg (stateL s).toArray) 3).run Tryz.prog w = .ok (.int .i64 s.dn) w := by
  unfold stateL
  have hl : (regsL s).length = 32 := by simp [regsL, h]
  generalize regsL s = L at *
  match L, hl with
  | c0 :: c1 :: c2 :: c3 :: c4 :: c5 :: c6 :: c7 :: c8 :: c9 :: c10 :: c11 :: c12 :: c13 :: c14 :: c15 :: c16 :: c17 :: c18 :: c19 :: c20 :: c21 :: c22 :: c23 :: c24 :: c25 :: c26 :: c27 :: c28 :: c29 :: c30 :: c31 :: [], _ => show _ = _; kernel_rfl
set_option maxHeartbeats 4000000 in
theorem walk (a0 a1 : Int) (w : World) (w0 : (Lit.int .u16 a0).wf = true) (w1 : (Lit.int .u16 a1).wf = true) (hT : Tabs w) (hA : TabA w) :
    Calls Tryz.prog 5 #[.int .u16 a0, .int .u16 a1] w fun e w' => e = .returned (.bool true) ∧ Below w.heap.size w w' := by
  have HT := Lib.hid (And.intro hT hA)
  have b0 := bounds_u16 w0
  have b1 := bounds_u16 w1
  have hso := stBuild_own true
  obtain ⟨k, hk1, hk2, ek⟩ : ∃ k : Nat, 1 ≤ k ∧ k ≤ 300 ∧ 1 + a0 % 300 = (k : Int) := ⟨(1 + a0 % 300).toNat, by omega, by omega, by omega⟩
  have HK := Lib.hid (And.intro hk1 hk2)
  have HEk := Lib.hid ek
  have kk1 : (1 : Int) ≤ k := by omega
  have kk2 : (k : Int) ≤ 300 := by omega
  clear hT hA w0 w1 hk1 hk2 ek
  go_enter Tryz.func5, Tryz.ntmps5
  go_wp2_with fail
  refine (awake5 _ HT.out.1 HT.out.2).mono ?_
  rintro e u1 ⟨rfl, hb1⟩
  have HB1 := Lib.hid hb1
  clear hb1
  go_wp2_with fail
  rw [HEk.out]
  refine (words_any _ 0 _ 4 cX rfl (by omega) (mayL (by decide +kernel)) _ ?hx).mono ?_
  case hx => exact xs_to _ _ _ _ (by simp) rfl
  rintro e u2 ⟨v, rfl, ho, hb⟩
  obtain ⟨g, c, rfl⟩ := row_some (n := 16 - 1) ho
  have hb2 : Below u1.heap.size u1 u2 := Below.trans below_alloc2 (hb.mono (by simp; omega))
  have HB2 := Lib.hid (HB1.out.trans (hb2.mono HB1.out.size))
  have HTab := Lib.hid (show TabAt u2 u1.heap.size 0 cT from ((t1_tab u1).below ((Below.refl _ _).alloc (Nat.le_refl _) _)).below hb)
  have ho' : u2.ownsRow _ 5 1 (.slice (some ⟨g, 0, none⟩) 16 c) 16 _ := ho
  have hw1 := (one_world (k := 1) (s0 0 true) rfl (by rw [wordsL_len]; rfl) (by omega) ho' (wordsL_all _) HTab.out).wd
  have hok := one_reg (k := 1) (s0 0 true) (r := 1) (k : Int) (by omega) rfl (by rw [wordsL_len]; rfl) (by omega) ho' (wordsL_all _) HTab.out
  have c8 := hw1.cell 4
  have f8 := hw1.free 4
  rw [show ∀ (tS bS eS : Value), (worldL tS bS eS (s0 0 true))[4]? = some (.int .u64 0) from fun _ _ _ => rfl] at c8
  have hwd := wdBuild_is (h := (rfl : ((s0 0 true)).R.length = 32))
  have hld := hok.wd.load
  have HOk := Lib.hid hok
  have HSz := Lib.hid (show u1.heap.size < u2.heap.size from Nat.lt_of_lt_of_le (by simp; omega) hb.size)
  clear ho ho' hb hb2 HB1 hw1 hok
  generalize u1.heap.size = q at *
  simp only [oneW, Nat.reduceAdd] at HOk hld c8 f8
  go_wp2_with (first | (refine wpList_store_new rfl 30 _ _ rfl _ _ _ _ rfl rfl ?hi ?hs ?h1 rfl ?hg ?_; (case hi => exact wdInfo); (case hs => rfl); (case h1 => exact worldL_one); (case hg => simp); (generalize ((u2.alloc (.cells #[.slice (some ⟨g, 0, none⟩) 16 c] 52)).alloc (.cells (worldL (.slice (some ⟨q, 0, none⟩) 1 1) (.slice (some ⟨u2.heap.size, 0, none⟩) 1 1) (.slice none 0 0) (s0 0 true)).toArray 30)) = W at *)))
  have hld2 := HOk.out.wd
  refine (build_yes q 0 1 1 u2.heap.size 0 1 1 cT [wordsL cX] _ _ _ ?l1 rfl ct_w ct_may rfl (by omega) _ HOk.out.tab (.inr ⟨rfl, HOk.out.rows⟩)).mono ?_
  case l1 => exact HOk.out.wd.2
  clear hld hwd hso HTab c8 f8 hld2
  generalize (W.setCell ⟨u2.heap.size + 1, 4, none⟩ (.int .u64 (k : Int))) = X at *
  have HBX := Lib.hid (HB2.out.trans (HOk.out.bel.mono HB2.out.size))
  rintro e w2 ⟨m, tb, tc, hb, G, r, bb, bc, rfl, hM, hR, _, _, _, hb2⟩
  have HM := Lib.hid hM
  have HB3 := Lib.hid (And.intro hb2 (HBX.out.trans (hb2.mono HBX.out.size)))
  have HTX := Lib.hid (And.intro (HT.out.1.below HBX.out) (HT.out.2.below HBX.out))
  have HS0 := Lib.hid HBX.out.size
  have hld := (HOk.out.wd.below hb2).load
  clear hM hR hb2
  go_wp2_with fail
  refine (build_yes q 0 1 1 u2.heap.size 0 1 1 cT [wordsL cX] _ _ _ ?l1 rfl ct_w ct_may rfl (by omega) _ (HOk.out.tab.below HB3.out.1) (.inr ⟨rfl, HOk.out.rows.below HB3.out.1⟩)).mono ?_
  case l1 => exact HOk.out.wd.2
  rintro e w3 ⟨m', tb', tc', hb', G', r', bb', bc', rfl, hM, hR, _, _, _, hb2⟩
  have HM2 := Lib.hid hM
  have HB4 := Lib.hid (And.intro (HB3.out.1.trans (hb2.mono HB3.out.1.size)) (HB3.out.2.trans (hb2.mono HB3.out.2.size)))
  have HM3 := Lib.hid (HM.out.below hb2)
  have HZ2 := Lib.hid hb2.size
  have HGl := Lib.hid (show m < w2.heap.size ∧ tb < w2.heap.size ∧ hb < w2.heap.size ∧ ∀ i, i < 1 → G i < w2.heap.size from by
    have h := HM.out
    exact ⟨block_lt h.toH.c0, block_lt (h.toH.tab 0 (by rw [h.toH.len]; omega)).1, h.toH.held.lt, fun i hi => (h.rows i hi).lt⟩)
  have HGl2 := Lib.hid (show m' < w3.heap.size ∧ tb' < w3.heap.size ∧ hb' < w3.heap.size ∧ ∀ i, i < 1 → G' i < w3.heap.size from by
    have h := hM
    exact ⟨block_lt h.toH.c0, block_lt (h.toH.tab 0 (by rw [h.toH.len]; omega)).1, h.toH.held.lt, fun i hi => (h.rows i hi).lt⟩)
  have hS := (HOk.out.wd.below HB4.out.1).loadS
  have HW3 := Lib.hid (HOk.out.wd.below HB4.out.1)
  have HgX := Lib.hid (show u2.heap.size + 1 < X.heap.size from HOk.out.wd.lt)
  clear hM hR hb2 hld HM
  go_wp2_with fail
  refine (new_cpu m tb tc hb 1 cT G _ none 0 [] (Foot G 1 w3.heap.size) _ w3 ⟨HM3.out.rebase (Nat.zero_le _), .inl rfl, (fun _ => rfl), (by simp), (by simp), HW3.out.2, ?sr, ?sp, (by omega)⟩ (fun i hi => .inl ⟨i, hi, rfl⟩) (fun b hb => .inr hb)).mono ?_
  case sr =>
    intro x hx
    rcases List.mem_or_eq_of_mem_set hx with hx | rfl
    · exact zeroR_u 0 true x hx
    · have := HK.out; exact ⟨by omega, by omega⟩
  case sp => show IsU 0; exact ⟨by decide, by decide⟩
  rintro e w4 ⟨K, rfl, k1, k2, k3, k4, k5, k6, k7, k8, k9, hA3, hb3⟩
  have HA4 := Lib.hid (show CpuAt w4 K (Foot G 1 w3.heap.size) (cSt0 k) from hA3)
  have HB5 := Lib.hid (HB4.out.1.trans (hb3.mono HB4.out.1.size))
  have HKk := Lib.hid (And.intro k5 (And.intro k7 (And.intro k1 (And.intro k2 (And.intro k3 k9)))))
  have HM4 := Lib.hid (HM2.out.below hb3)
  have HZ3 := Lib.hid hb3.size
  have HEnv := Lib.hid (show Env w4 (Foot G 1 w3.heap.size) from (env_of HTX.out.1 HTX.out.2 HB5.out).sub (foot_ge (fun i hi => HM3.out.from_ i hi) HB4.out.1.size))
  obtain ⟨ra, lk, hlk, rb⟩ := c_all HK.out.1 HK.out.2 (n := 1000000) (by have := HK.out.2; omega)
  have HR := Lib.hid (And.intro ra rb)
  clear hA3 hb3 k1 k2 k3 k4 k5 k6 k7 k8 k9 hS HB4 ra rb
  go_wp2_with fail
  refine (run_any K _ (cSt0 k) w4 1000000 HA4.out HEnv.out (by show 0 + 1000000 < _; omega) (by show 0 + 2 * 1000000 < _; omega)).mono ?_
  rw [HKk.out.1, HKk.out.2.1, show cT = cT from rfl, HR.out.1, HR.out.2]
  rintro e w5 ⟨rfl, hA5, hO5⟩
  have HA5 := Lib.hid hA5
  have HO5 := Lib.hid (hO5.sub (foot_ge (q := X.heap.size) (fun i hi => HM3.out.from_ i hi) (Nat.le_trans HB3.out.1.size HZ2.out)))
  have HM5 := Lib.hid (show MemIs w5 w2.heap.size m' tb' tc' hb' 1 cT G' (bB cT [wordsL cX] 1) from by
    have hs : ∀ b, w2.heap.size ≤ b → b < w3.heap.size → SameB w4 w5 b := fun b h1 h2 => hO5.block b (Nat.lt_of_lt_of_le h2 HZ3.out) (by
      rintro (⟨i, hi, h⟩ | h)
      · have := HGl.out.2.2.2 i hi; omega
      · omega)
    have h := HM4.out
    have l := HGl2.out
    exact h.sameB (hs _ h.own.1 l.1) (hs _ h.own.2.1 l.2.1) (hs _ h.own.2.2 l.2.2.1) (fun i hi => hs _ (h.from_ i hi) (l.2.2.2 i hi)))
  have HB6 := Lib.hid (HB5.out.trans ((HO5.out.to_below HB5.out.size).mono (Nat.le_refl _)))
  have HW5 := Lib.hid (show WdB w5 (u2.heap.size + 1) _ _ _ _ from by
    have h4 : WdB w4 (u2.heap.size + 1) _ _ _ _ := HOk.out.wd.below HB5.out
    exact ⟨by rw [HO5.out.block _ h4.lt (by have := HgX.out; omega)]; exact h4.1, h4.2⟩)
  clear hA5 hO5 HA4 HM4 HM3 HM2 HB5
  obtain ⟨fin, hfin, hlf, hA6⟩ : ∃ fin : St, fin.s = cS 0 (3 * k) 12 1 ∧ fin.lk.length = 3 * k + 1 ∧ CpuAt w5 K (Foot G 1 w3.heap.size) fin := ⟨_, rfl, hlk, HA5.out⟩
  replace HA5 := Lib.hid hA6
  have HLen := Lib.hid (show fin.s.R.length = 32 from by rw [hfin]; rfl)
  have HLk := Lib.hid hlf
  clear hA6 hlf hlk HR
  go_wp2_with fail
  refine (state_any K _ fin w5 HA5.out).mono ?_
  rintro e w6 ⟨rfl, hb6⟩
  have hs7 := StB.new (w := w6) fin.s HLen.out
  have q1 : (w6.alloc (.cells (stateL fin.s).toArray 28)).cell? ⟨w6.heap.size, 1, none⟩ = some (.int .u64 0) := by rw [hs7.cell 1, stateL_reg HLen.out (by omega), hfin]; rfl
  have q2 : (w6.alloc (.cells (stateL fin.s).toArray 28)).cell? ⟨w6.heap.size, 2, none⟩ = some (.int .u64 (3 * k)) := by rw [hs7.cell 2, stateL_reg HLen.out (by omega), hfin]; rfl
  have q32 : (w6.alloc (.cells (stateL fin.s).toArray 28)).cell? ⟨w6.heap.size, 32, none⟩ = some (.int .u64 12) := by rw [hs7.cell 32, show (32 : Nat) = 32 + 0 from rfl, stateL_at HLen.out 0, hfin]; rfl
  have q34 : (w6.alloc (.cells (stateL fin.s).toArray 28)).cell? ⟨w6.heap.size, 34, none⟩ = some (.int .i64 1) := by rw [hs7.dn, hfin]; rfl
  have hb7 : Below w6.heap.size w6 (w6.alloc (.cells (stateL fin.s).toArray 28)) := (Below.refl _ _).alloc (Nat.le_refl _) _
  have HBY := Lib.hid (hb6.trans (hb7.mono hb6.size))
  have HZY := Lib.hid (show (w6.alloc (.cells (stateL fin.s).toArray 28)).heap.size = w6.heap.size + 1 by simp)
  have hS := (HW5.out.below HBY.out).loadS
  have HRl := Lib.hid HW5.out.2
  have HFin := Lib.hid hfin
  have HZ6 := Lib.hid hb6.size
  clear hs7 hb6 hb7 HW5 hfin
  go_wp2_with (first | (refine wpList_store_new rfl 28 _ _ rfl _ _ _ _ rfl rfl ?hi ?hs ?h1 rfl ?hg ?_; (case hi => (rw [stateInfo]; simp [stateL_len HLen.out])); (case hs => simp [stateL_len HLen.out]); (case h1 => exact stateL_one _); (case hg => rfl); (generalize (w6.alloc (.cells (stateL fin.s).toArray 28)) = Y at *)))
  obtain ⟨n, hn, en⟩ : ∃ n : Nat, n ≤ 3 * k ∧ wrap64 (3 * (k : Int) - a1 % (3 * k)) = n := ⟨(3 * (k : Int) - a1 % (3 * k)).toNat, by have := Int.emod_nonneg a1 (show (3 * (k : Int)) ≠ 0 by omega); omega, by have := Int.emod_lt_of_pos a1 (show 0 < 3 * (k : Int) by omega); have := Int.emod_nonneg a1 (show (3 * (k : Int)) ≠ 0 by omega); unfold wrap64; omega⟩
  have HE := Lib.hid (And.intro hn en)
  clear hn en
  have HMY := Lib.hid (HM5.out.below HBY.out)
  refine (new_cpu m' tb' tc' hb' 1 cT G' _ none 0 [] (Foot G' 1 Y.heap.size) _ Y ⟨HMY.out.rebase (Nat.zero_le _), .inl rfl, (fun _ => rfl), (by simp), (by simp), HRl.out, ?sr, ?sp, (by omega)⟩ (fun i hi => .inl ⟨i, hi, rfl⟩) (fun b hb => .inr hb)).mono ?_
  case sr =>
    intro x hx
    rcases List.mem_or_eq_of_mem_set hx with hx | rfl
    · exact zeroR_u 0 true x hx
    · have := HK.out; exact ⟨by omega, by omega⟩
  case sp => show IsU 0; exact ⟨by decide, by decide⟩
  rintro e w8 ⟨K2, rfl, k1, k2, k3, k4, k5, k6, k7, k8, k9, hA8, hb8⟩
  have HA8 := Lib.hid (show CpuAt w8 K2 (Foot G' 1 Y.heap.size) (cSt0 k) from hA8)
  have HK2 := Lib.hid (And.intro k5 k7)
  have HB8 := Lib.hid hb8
  have HXY := Lib.hid (HB6.out.trans (HBY.out.mono HB6.out.size))
  have HEn2 := Lib.hid (show Env w8 (Foot G' 1 Y.heap.size) from (env_of HTX.out.1 HTX.out.2 (HXY.out.trans (hb8.mono HXY.out.size))).sub (foot_ge (fun i hi => Nat.le_trans HB3.out.1.size (HMY.out.from_ i hi)) HXY.out.size))
  have HAc := Lib.hid ((HA5.out.below HBY.out).below hb8)
  have r1 := (hb8.cell (p := ⟨w6.heap.size, 1, none⟩) (block_lt q1)).trans q1
  have r2 := (hb8.cell (p := ⟨w6.heap.size, 2, none⟩) (block_lt q2)).trans q2
  have r32 := (hb8.cell (p := ⟨w6.heap.size, 32, none⟩) (block_lt q32)).trans q32
  have r34 := (hb8.cell (p := ⟨w6.heap.size, 34, none⟩) (block_lt q34)).trans q34
  clear hA8 hb8 k1 k2 k3 k4 k5 k6 k7 k8 k9 hS q1 q2 q32 q34
  go_wp2_with fail
  rw [HE.out.2]
  obtain ⟨ra, rb, rc⟩ := c_less HK.out.1 HK.out.2 HE.out.1
  have hn0 : (0 : Int) ≤ n := by omega
  have HR2 := Lib.hid (And.intro ra (And.intro rb rc))
  refine (run_any K2 _ (cSt0 k) w8 n HA8.out HEn2.out (by show 0 + n < _; have := HE.out.1; have := HK.out.2; omega) (by show 0 + 2 * n < _; have := HE.out.1; have := HK.out.2; omega)).mono ?_
  rw [HK2.out.1, HK2.out.2, ra]
  rintro e w9 ⟨rfl, hA9, hO9⟩
  obtain ⟨fin2, hf2, hl2, hA92⟩ : ∃ fin2 : St, fin2.s.dn = 0 ∧ fin2.s.R.length = 32 ∧ CpuAt w9 K2 (Foot G' 1 Y.heap.size) fin2 := ⟨_, rb, rc, hA9⟩
  have HA9 := Lib.hid hA92
  have HF2 := Lib.hid (And.intro hf2 hl2)
  have hnf : ¬ Foot G' 1 Y.heap.size w6.heap.size := by
    rintro (⟨i, hi, h⟩ | h)
    · have := HGl2.out.2.2.2 i hi; have := HZ3.out; have := HO5.out.size; have := HZ6.out; omega
    · have := HZY.out; omega
  have s1 := (World.cell?_of_block (hO9.block _ (block_lt r1) hnf)).trans r1
  have s2 := (World.cell?_of_block (hO9.block _ (block_lt r2) hnf)).trans r2
  have s32 := (World.cell?_of_block (hO9.block _ (block_lt r32) hnf)).trans r32
  have s34 := (World.cell?_of_block (hO9.block _ (block_lt r34) hnf)).trans r34
  have HAc9 := Lib.hid (show CpuAt w9 K (Foot G 1 w3.heap.size) fin from by
    have hAY := HA5.out.below HBY.out
    have hO := (Out.of_below (F := Foot G' 1 Y.heap.size) HB8.out).trans hO9
    have g1 := fun i hi => HMY.out.from_ i hi
    have g2 := HGl2.out.2.2.2
    have g3 := HGl.out
    have z2 := HZ2.out
    have zy : w3.heap.size ≤ Y.heap.size := by have := HZ3.out; have := HO5.out.size; have := HBY.out.size; omega
    have nf : ∀ b, b < w2.heap.size → ¬ Foot G' 1 Y.heap.size b := by
      rintro b hb (⟨i, hi, h⟩ | h)
      · have := g1 i hi; omega
      · omega
    obtain ⟨q1, q2, q3, q4, q5, q6⟩ := HKk.out
    refine hAY.apart hO ?_ (by rw [q3]; exact nf _ g3.1) (by rw [q4]; exact nf _ g3.2.1) (by rw [q5]; exact nf _ g3.2.2.1) ?_ (fun a ha => .inl q2)
    · rintro b hb hF (⟨j, hj, h⟩ | h)
      · rcases hF with ⟨i, hi, h'⟩ | h'
        · have := g3.2.2.2 i hi; have := g1 j hj; omega
        · have := g2 j hj; omega
      · omega
    · obtain ⟨ve, vl, hC, _⟩ := hAY
      have hmd := hC.lts.2.2.2.2.2.1
      rintro (⟨j, hj, h⟩ | h)
      · have := g2 j hj; omega
      · omega)
  have HBf := Lib.hid (show Below w.heap.size w w9 from by
    have h8 := HXY.out.trans (HB8.out.mono HXY.out.size)
    have h9 := h8.trans (((hO9.sub (foot_ge (q := X.heap.size) (fun i hi => Nat.le_trans HB3.out.1.size (HMY.out.from_ i hi)) HXY.out.size)).to_below h8.size).mono (Nat.le_refl _))
    exact HBX.out.trans (h9.mono HBX.out.size))
  clear hA9 ra rb rc hf2 hl2 hA92 hO9 hnf r1 r2 r32 r34 HA8 HAc
  go_wp2_with fail
  refine (state_any K2 _ fin2 w9 HA9.out).mono ?_
  rintro e w10 ⟨rfl, hb10⟩
  have HAc10 := Lib.hid (HAc9.out.below hb10)
  have HB10 := Lib.hid (HBf.out.trans (hb10.mono HBf.out.size))
  have hfd := field_dn fin2.s HF2.out.2
  rw [HF2.out.1] at hfd
  have hcast : ((((3 * k + 1 : Nat) : Nat) : Int) == 3 * (k : Int) + 1) = true := by rw [beq_iff_eq]; omega
  clear hb10
  go_wp2_with fail
  refine (leaks_any K _ fin w10 HAc10.out).mono ?_
  rw [HLk.out]
  rintro e w11 ⟨v11, rfl, ho11, hb11⟩
  obtain ⟨g11, c11, rfl⟩ := row_some (n := 3 * k) ho11
  have HB11 := Lib.hid (HB10.out.trans (hb11.mono HB10.out.size))
  clear ho11 hb11 s1 s2 s32 s34 hfd
  go_wp2
  go_ret
  exact ⟨rfl, HB11.out⟩
end CpuCountsWalk
end Go.Proofs.YthnhopmbefgmgaaGreatDoor
