/- Layer 5's statements: CpuGates. -/
import Derived.Test.YthnhopmbefgmgaaGreatDoorCpuGatesPure
import Derived.Test.YthnhopmbefgmgaaGreatDoorCpuH
namespace Go.Proofs.YthnhopmbefgmgaaGreatDoor
set_option maxRecDepth 100000
open Go.RowKit Go.Maps
set_option linter.unusedVariables false
namespace CpuGatesWalk
attribute [local go_sem ↓] loadAt_st loadAt_wd build_st build_wd
theorem tmod4 {k : Int} (h : (Lit.int .u8 k).wf = true) : ∃ a : Nat, a < 4 ∧ k.tmod 4 = a := by
  have := bounds_u8 h
  rw [Int.tmod_eq_emod_of_nonneg this.1]
  exact ⟨(k % 4).toNat, by omega, by omega⟩
set_option maxHeartbeats 4000000 in
theorem walk (a0 a1 : Int) (w : World) (w0 : (Lit.int .u8 a0).wf = true) (w1 : (Lit.int .u8 a1).wf = true) (hT : Tabs w) (hA : TabA w) :
    Calls Tryz.prog 6 #[.int .u8 a0, .int .u8 a1] w fun e w' => e = .returned (.bool true) ∧ Below w.heap.size w w' := by
  have HT := Lib.hid (And.intro hT hA)
  obtain ⟨a, ha, ea⟩ := tmod4 w0
  obtain ⟨b, hb, eb⟩ := tmod4 w1
  have EA := Lib.hid (And.intro ha ea)
  have EB := Lib.hid (And.intro hb eb)
  clear hT hA ha ea hb eb w0 w1
  go_enter Tryz.func6, Tryz.ntmps6
  go_wp2_with fail
  refine (awake5 _ HT.out.1 HT.out.2).mono ?_
  rintro e u1 ⟨rfl, hb1⟩
  have HB1 := Lib.hid hb1
  clear hb1
  have hso := stBuild_pc 64
  go_wp2_with fail
  refine (words_any _ 0 _ 4 gX1 rfl (by omega) (mayL (by decide +kernel)) _ ?hx).mono ?_
  case hx => exact xs_to _ _ _ _ (by simp) rfl
  rintro e u2 ⟨v, rfl, ho, hb⟩
  obtain ⟨g1, c1, rfl⟩ := row_some (n := 15) ho
  have hb2 : Below u1.heap.size u1 (u1.alloc (.cells #[.int .u64 0, .int .u64 64, .int .i64 4, .int .i64 0, .int .u64 64, .int .u64 128, .int .i64 0, .int .i64 4] 57)) := (Below.refl _ _).alloc (Nat.le_refl _) _
  have hb3 := hb2.alloc (by simp) (.cells #[.int .i64 41, .int .i64 0, .int .i64 6, .int .i64 0, .int .i64 0, .int .i64 41, .int .i64 0, .int .i64 6, .int .i64 0, .int .i64 0, .int .i64 41, .int .i64 0, .int .i64 6, .int .i64 0, .int .i64 0, .int .i64 41, .int .i64 0, .int .i64 6, .int .i64 0, .int .i64 0] 66)
  have HTab2 := Lib.hid ((((gt_tab u1).below ((Below.refl _ _).alloc (Nat.le_refl _) _)).below hb))
  have HB2 := Lib.hid (HB1.out.trans ((hb3.trans (hb.mono hb3.size)).mono HB1.out.size))
  have HO1 := Lib.hid ho
  have HS2 := Lib.hid (show u1.heap.size < u2.heap.size from Nat.lt_of_lt_of_le (by simp; omega) hb.size)
  clear hb hb2 hb3 ho HB1
  generalize hq : u1.heap.size = q at *
  clear hq
  go_wp2_with fail
  refine (words_any _ 0 _ 2 gX2 rfl (by omega) (mayL (by decide +kernel)) _ ?hx).mono ?_
  case hx => exact xs_to _ _ _ _ rfl rfl
  rintro e u3 ⟨v, rfl, ho, hb⟩
  obtain ⟨g2, c2, rfl⟩ := row_some (n := 7) ho
  have hb2 : Below u2.heap.size u2 (u2.alloc (.cells #[.int .i64 41, .int .i64 0, .int .i64 5, .int .i64 0, .int .i64 0, .int .i64 42, .int .i64 0, .int .i64 0, .int .i64 0, .int .i64 0] 66)) := (Below.refl _ _).alloc (Nat.le_refl _) _
  have hb3 := hb2.trans (hb.mono hb2.size)
  have HTab3 := Lib.hid (HTab2.out.below hb3)
  have HB3 := Lib.hid (HB2.out.trans (hb3.mono HB2.out.size))
  have HO2 := Lib.hid ho
  have HO1' := Lib.hid (row_below HO1.out hb3)
  have HS3 := Lib.hid (Nat.lt_of_lt_of_le HS2.out hb3.size)
  clear hb hb2 hb3 ho HB2 HO1 HTab2 HS2
  have hwd := wdBuild_ent (h := (rfl : (s0 64 false).R.length = 32))
  have hwn := WdB.new (w := (u3.alloc (.cells #[.slice (some ⟨g1, 0, none⟩) 16 c1, .slice (some ⟨g2, 0, none⟩) 8 c2] 52)).alloc (.cells #[.int .u64 (IntKind.u64.wrap (4 * IntKind.u64.wrap (a1.tmod 4)))] 25)) (tS := .slice (some ⟨q, 0, none⟩) 2 2) (bS := .slice (some ⟨u3.heap.size, 0, none⟩) 2 2) (eS := .slice (some ⟨u3.heap.size + 1, 0, none⟩) 1 1) (s0 64 false) rfl
  have hsz : ((u3.alloc (.cells #[.slice (some ⟨g1, 0, none⟩) 16 c1, .slice (some ⟨g2, 0, none⟩) 8 c2] 52)).alloc (.cells #[.int .u64 (IntKind.u64.wrap (4 * IntKind.u64.wrap (a1.tmod 4)))] 25)).heap.size = u3.heap.size + 1 + 1 := by simp
  rw [hsz] at hwn
  have hbW : Below u3.heap.size u3 (((u3.alloc (.cells #[.slice (some ⟨g1, 0, none⟩) 16 c1, .slice (some ⟨g2, 0, none⟩) 8 c2] 52)).alloc (.cells #[.int .u64 (IntKind.u64.wrap (4 * IntKind.u64.wrap (a1.tmod 4)))] 25)).alloc (.cells (worldL (.slice (some ⟨q, 0, none⟩) 2 2) (.slice (some ⟨u3.heap.size, 0, none⟩) 2 2) (.slice (some ⟨u3.heap.size + 1, 0, none⟩) 1 1) (s0 64 false)).toArray 30)) := (((Below.refl _ _).alloc (Nat.le_refl _) _).alloc (by simp) _).alloc (by simp; omega) _
  have hzW : (((u3.alloc (.cells #[.slice (some ⟨g1, 0, none⟩) 16 c1, .slice (some ⟨g2, 0, none⟩) 8 c2] 52)).alloc (.cells #[.int .u64 (IntKind.u64.wrap (4 * IntKind.u64.wrap (a1.tmod 4)))] 25)).alloc (.cells (worldL (.slice (some ⟨q, 0, none⟩) 2 2) (.slice (some ⟨u3.heap.size, 0, none⟩) 2 2) (.slice (some ⟨u3.heap.size + 1, 0, none⟩) 1 1) (s0 64 false)).toArray 30)).heap.size = u3.heap.size + 3 := by simp
  have hbW3 : Below u3.heap.size u3 (((((u3.alloc (.cells #[.slice (some ⟨g1, 0, none⟩) 16 c1, .slice (some ⟨g2, 0, none⟩) 8 c2] 52)).alloc (.cells #[.int .u64 (IntKind.u64.wrap (4 * IntKind.u64.wrap (a1.tmod 4)))] 25)).alloc (.cells (worldL (.slice (some ⟨q, 0, none⟩) 2 2) (.slice (some ⟨u3.heap.size, 0, none⟩) 2 2) (.slice (some ⟨u3.heap.size + 1, 0, none⟩) 1 1) (s0 64 false)).toArray 30)).setCell ⟨u3.heap.size + 1 + 1, 3 + 5, none⟩ (.int .u64 (IntKind.u64.wrap (4 * IntKind.u64.wrap (a0.tmod 4))))).setCell ⟨u3.heap.size + 1 + 1, 3 + 6, none⟩ (.int .u64 68)) := (hbW.setCell (by show u3.heap.size ≤ u3.heap.size + 1 + 1; omega) _).setCell (by show u3.heap.size ≤ u3.heap.size + 1 + 1; omega) _
  have hzW3 : (((((u3.alloc (.cells #[.slice (some ⟨g1, 0, none⟩) 16 c1, .slice (some ⟨g2, 0, none⟩) 8 c2] 52)).alloc (.cells #[.int .u64 (IntKind.u64.wrap (4 * IntKind.u64.wrap (a1.tmod 4)))] 25)).alloc (.cells (worldL (.slice (some ⟨q, 0, none⟩) 2 2) (.slice (some ⟨u3.heap.size, 0, none⟩) 2 2) (.slice (some ⟨u3.heap.size + 1, 0, none⟩) 1 1) (s0 64 false)).toArray 30)).setCell ⟨u3.heap.size + 1 + 1, 3 + 5, none⟩ (.int .u64 (IntKind.u64.wrap (4 * IntKind.u64.wrap (a0.tmod 4))))).setCell ⟨u3.heap.size + 1 + 1, 3 + 6, none⟩ (.int .u64 68)).heap.size = u3.heap.size + 3 := by simp
  have hRows := rows_two (w := (((((u3.alloc (.cells #[.slice (some ⟨g1, 0, none⟩) 16 c1, .slice (some ⟨g2, 0, none⟩) 8 c2] 52)).alloc (.cells #[.int .u64 (IntKind.u64.wrap (4 * IntKind.u64.wrap (a1.tmod 4)))] 25)).alloc (.cells (worldL (.slice (some ⟨q, 0, none⟩) 2 2) (.slice (some ⟨u3.heap.size, 0, none⟩) 2 2) (.slice (some ⟨u3.heap.size + 1, 0, none⟩) 1 1) (s0 64 false)).toArray 30)).setCell ⟨u3.heap.size + 1 + 1, 3 + 5, none⟩ (.int .u64 (IntKind.u64.wrap (4 * IntKind.u64.wrap (a0.tmod 4))))).setCell ⟨u3.heap.size + 1 + 1, 3 + 6, none⟩ (.int .u64 68))) (b := u3.heap.size) (c1 := c1) (c2 := c2) (l1 := wordsL gX1) (l2 := wordsL gX2) (by rw [show (wordsL gX1).length = 16 from rfl]; simp [go_sem]) (by rw [show (wordsL gX2).length = 8 from rfl]; simp [go_sem]) ((sl_of_owned (n := 16) HO1'.out).below hbW3) ((sl_of_owned (n := 8) HO2.out).below hbW3) (wordsL_all _) (wordsL_all _) (by have := (HO1'.out.lt g1 rfl).2; rw [hzW3]; omega) (by have := (HO2.out.lt g2 rfl).2; rw [hzW3]; omega) (by decide) (by decide)
  have hent : (((((u3.alloc (.cells #[.slice (some ⟨g1, 0, none⟩) 16 c1, .slice (some ⟨g2, 0, none⟩) 8 c2] 52)).alloc (.cells #[.int .u64 (IntKind.u64.wrap (4 * IntKind.u64.wrap (a1.tmod 4)))] 25)).alloc (.cells (worldL (.slice (some ⟨q, 0, none⟩) 2 2) (.slice (some ⟨u3.heap.size, 0, none⟩) 2 2) (.slice (some ⟨u3.heap.size + 1, 0, none⟩) 1 1) (s0 64 false)).toArray 30)).setCell ⟨u3.heap.size + 1 + 1, 3 + 5, none⟩ (.int .u64 (IntKind.u64.wrap (4 * IntKind.u64.wrap (a0.tmod 4))))).setCell ⟨u3.heap.size + 1 + 1, 3 + 6, none⟩ (.int .u64 68)).cell? ⟨u3.heap.size + 1, 0, none⟩ = some (.int .u64 (IntKind.u64.wrap (4 * IntKind.u64.wrap (a1.tmod 4)))) := by simp [go_sem]
  have HTabW := Lib.hid (HTab3.out.below hbW3)
  have HWd := Lib.hid hwn
  have HRows := Lib.hid hRows
  have HEnt := Lib.hid hent
  have HBW := Lib.hid hbW3
  have HZW := Lib.hid hzW3
  have c8 : (((u3.alloc (.cells #[.slice (some ⟨g1, 0, none⟩) 16 c1, .slice (some ⟨g2, 0, none⟩) 8 c2] 52)).alloc (.cells #[.int .u64 (IntKind.u64.wrap (4 * IntKind.u64.wrap (a1.tmod 4)))] 25)).alloc (.cells (worldL (.slice (some ⟨q, 0, none⟩) 2 2) (.slice (some ⟨u3.heap.size, 0, none⟩) 2 2) (.slice (some ⟨u3.heap.size + 1, 0, none⟩) 1 1) (s0 64 false)).toArray 30)).cell? ⟨u3.heap.size + 1 + 1, 8, none⟩ = some (.int .u64 0) := hwn.cell 8
  have f8 := hwn.free 8
  have hw2 := hwn.setReg (r := 5) (by omega) (IntKind.u64.wrap (4 * IntKind.u64.wrap (a0.tmod 4)))
  have c9 := hw2.cell 9
  have f9 := hw2.free 9
  rw [show (worldL (.slice (some ⟨q, 0, none⟩) 2 2) (.slice (some ⟨u3.heap.size, 0, none⟩) 2 2) (.slice (some ⟨u3.heap.size + 1, 0, none⟩) 1 1) { s0 64 false with R := (s0 64 false).R.set 5 (IntKind.u64.wrap (4 * IntKind.u64.wrap (a0.tmod 4))) })[9]? = some (.int .u64 0) from rfl] at c9
  have hw3 := hw2.setReg (r := 6) (by omega) 68
  have hld := hw3.load
  have HW3 := Lib.hid hw3
  clear hwn hsz hw2 hw3 hRows hent hbW hzW hbW3 hzW3
  simp only [Nat.reduceAdd] at c9 f9 hld HW3 HRows HEnt HBW HZW HTabW
  go_wp2_with (first | (refine wpList_store_new rfl 30 _ _ rfl _ _ _ _ rfl rfl ?hi ?hs ?h1 rfl ?hg ?_; (case hi => exact wdInfo); (case hs => rfl); (case h1 => exact worldL_one); (case hg => simp); (generalize (((u3.alloc (.cells #[.slice (some ⟨g1, 0, none⟩) 16 c1, .slice (some ⟨g2, 0, none⟩) 8 c2] 52)).alloc (.cells #[.int .u64 (IntKind.u64.wrap (4 * IntKind.u64.wrap (a1.tmod 4)))] 25)).alloc (.cells (worldL (.slice (some ⟨q, 0, none⟩) 2 2) (.slice (some ⟨u3.heap.size, 0, none⟩) 2 2) (.slice (some ⟨u3.heap.size + 1, 0, none⟩) 1 1) (s0 64 false)).toArray 30)) = W at *)))
  have HA4 := Lib.hid (show IntKind.u64.wrap (4 * IntKind.u64.wrap (a0.tmod 4)) = 4 * (a : Int) from by rw [EA.out.2, IntKind.wrap_u64, IntKind.wrap_u64]; have := EA.out.1; omega)
  have HB4 := Lib.hid (show IntKind.u64.wrap (4 * IntKind.u64.wrap (a1.tmod 4)) = 4 * (b : Int) from by rw [EB.out.2, IntKind.wrap_u64, IntKind.wrap_u64]; have := EB.out.1; omega)
  have HBX := Lib.hid (HB3.out.trans (HBW.out.mono HB3.out.size))
  clear c8 f8 c9 f9 hld hso hwd HWd HO1' HO2
  refine (build_yes q 0 2 2 u3.heap.size 0 2 2 gT [wordsL gX1, wordsL gX2] _ _ _ ?l1 rfl gt_w gt_may rfl (by omega) _ HTabW.out (.inr ⟨rfl, HRows.out⟩)).mono ?_
  case l1 => exact HW3.out.2
  generalize ((W.setCell ⟨u3.heap.size + 1 + 1, 8, none⟩ (.int .u64 (IntKind.u64.wrap (4 * IntKind.u64.wrap (a0.tmod 4))))).setCell ⟨u3.heap.size + 1 + 1, 9, none⟩ (.int .u64 68)) = X at *
  rintro e w2 ⟨m, tb, tc, hb, G, r, bb, bc, rfl, hM, hR, _, _, _, hb2⟩
  have HM := Lib.hid hM
  have HB2 := Lib.hid (And.intro hb2 (HBX.out.trans (hb2.mono HBX.out.size)))
  have HS0 := Lib.hid HBX.out.size
  have HTX := Lib.hid (And.intro (HT.out.1.below HBX.out) (HT.out.2.below HBX.out))
  have HW2 := Lib.hid (HW3.out.below hb2)
  have hS := HW2.out.loadS
  have hE := HW2.out.ents
  have hR5 := HW2.out.cell 8
  rw [show ∀ (tS bS eS : Value) (x : Int), (worldL tS bS eS { R := ((s0 64 false).R.set 5 x).set 6 68, pc := (s0 64 false).pc, own := (s0 64 false).own, dn := (s0 64 false).dn })[8]? = some (.int .u64 x) from fun _ _ _ _ => rfl] at hR5
  have HEn := Lib.hid (show SlU w2 (some ⟨u3.heap.size + 1, 0, none⟩) [4 * (b : Int)] from .inr ⟨_, 0, rfl, fun k hk => by
    obtain rfl : k = 0 := by simp at hk; omega
    rw [hb2.cell (p := ⟨u3.heap.size + 1, 0 + 0, none⟩) (block_lt HEnt.out)]
    show _ = some (Value.int .u64 (4 * (b : Int)))
    rw [← HB4.out]; exact HEnt.out⟩)
  clear hM hR hb2 HTabW HRows HEnt HBW HW3 HBX HTab3 HS3
  go_wp2_with fail
  refine (new_cpu m tb tc hb 2 gT G _ (some ⟨u3.heap.size + 1, 0, none⟩) 1 [4 * (b : Int)] (fun b => X.heap.size ≤ b) _ w2 ⟨HM.out.rebase (Nat.zero_le _), HEn.out, (fun h => nomatch h), (by simp), ?eu, ?sl, ?sr, ?sp, (by omega)⟩ (fun i hi => HM.out.from_ i hi) (fun b hb => Nat.le_trans HB2.out.1.size hb)).mono ?_
  case eu => intro x hx; obtain rfl : x = 4 * (b : Int) := (by simpa using hx); have := EB.out.1; exact ⟨by omega, by omega⟩
  case sl => exact HW2.out.2
  case sr =>
    rw [HA4.out]
    intro x hx
    rcases List.mem_or_eq_of_mem_set hx with hx | rfl
    · rcases List.mem_or_eq_of_mem_set hx with hx | rfl
      · exact zeroR_u 64 false x hx
      · have := EA.out.1; exact ⟨by omega, by omega⟩
    · exact ⟨by omega, by omega⟩
  case sp => show IsU 64; exact ⟨by decide, by decide⟩
  rintro e w3 ⟨K, rfl, k1, k2, k3, k4, k5, k6, k7, k8, k9, hA3, hb3⟩
  rw [HA4.out] at hA3
  have HA3 := Lib.hid (show CpuAt w3 K (fun b => X.heap.size ≤ b) (gSt a) from hA3)
  have HB3 := Lib.hid (And.intro (HB2.out.1.trans (hb3.mono HB2.out.1.size)) (HB2.out.2.trans (hb3.mono HB2.out.2.size)))
  have HK := Lib.hid (And.intro k5 k7)
  have HgX := Lib.hid (show u3.heap.size + 1 + 1 < X.heap.size from by have := HZW.out; omega)
  have HR5 := Lib.hid ((hb3.cell (p := ⟨u3.heap.size + 1 + 1, 8, none⟩) (block_lt hR5)).trans hR5)
  clear hA3 hb3 k1 k2 k3 k4 k5 k6 k7 k8 k9 hS hE hR5 HM HB2 HEn HW2
  go_wp2_with fail
  refine (run_any K _ (gSt a) w3 9 HA3.out (env_of HTX.out.1 HTX.out.2 HB3.out.1) (by show 0 + 9 < _; omega) (by show 0 + 2 * 9 < _; omega)).mono ?_
  rw [HK.out.1, HK.out.2]
  rintro e w4 ⟨rfl, hA4, hO4⟩
  have HA5 := Lib.hid (show CpuAt w4 K (fun b => X.heap.size ≤ b) (gFin a b) from hA4)
  have hc5 : w4.cell? ⟨u3.heap.size + 1 + 1, 8, none⟩ = some (.int .u64 (IntKind.u64.wrap (4 * IntKind.u64.wrap (a0.tmod 4)))) := by
    rw [(hO4.to_below HB3.out.1.size).cell (p := ⟨u3.heap.size + 1 + 1, 8, none⟩) HgX.out]; exact HR5.out
  have HB5 := Lib.hid (HB3.out.2.trans ((hO4.to_below HB3.out.1.size).mono HS0.out))
  have HZc := Lib.hid hc5
  have HLen := Lib.hid (g_len a EA.out.1 b EB.out.1)
  have HFew := Lib.hid (g_few a EA.out.1 b EB.out.1)
  clear hA4 hO4 HA3 HB3 HR5 hc5
  by_cases hab : a = b
  · subst hab
    have hne : (a0.tmod 4 == a1.tmod 4) = true := by rw [EA.out.2, EB.out.2]; simp
    have hne2 : (a0.tmod 4 != a1.tmod 4) = false := by rw [EA.out.2, EB.out.2]; simp
    obtain ⟨p1, p2, p3, p4, p5⟩ := g_yes a EA.out.1
    have HP := Lib.hid (And.intro p1 (And.intro p2 (And.intro p3 (And.intro p4 p5))))
    have hc5 := HZc.out
    clear p1 p2 p3 p4 p5
    go_wp2_with fail
    refine (state_any K _ (gFin a a) w4 HA5.out).mono ?_
    rintro e w5 ⟨rfl, hb5⟩
    have hs6 := StB.new (w := w5) (gFin a a).s HLen.out
    have q32 : (w5.alloc (.cells (stateL (gFin a a).s).toArray 28)).cell? ⟨w5.heap.size, 32, none⟩ = some (.int .u64 68) := by rw [hs6.cell 32, show (32 : Nat) = 32 + 0 from rfl, stateL_at HLen.out 0]; simp [HP.out.2.2.1]
    have q33 : (w5.alloc (.cells (stateL (gFin a a).s).toArray 28)).cell? ⟨w5.heap.size, 33, none⟩ = some (.bool false) := by rw [hs6.cell 33, show (33 : Nat) = 32 + 1 from rfl, stateL_at HLen.out 1]; simp [HP.out.2.1]
    have q34 : (w5.alloc (.cells (stateL (gFin a a).s).toArray 28)).cell? ⟨w5.heap.size, 34, none⟩ = some (.int .i64 1) := by rw [hs6.dn, HP.out.1]
    have hb6 : Below w5.heap.size w5 (w5.alloc (.cells (stateL (gFin a a).s).toArray 28)) := (Below.refl _ _).alloc (Nat.le_refl _) _
    have HA6 := Lib.hid ((HA5.out.below hb5).below hb6)
    have HB6 := Lib.hid ((HB5.out.trans (hb5.mono HB5.out.size)).trans (hb6.mono (Nat.le_trans HB5.out.size hb5.size)))
    have q5 := (hb6.cell (p := ⟨u3.heap.size + 1 + 1, 8, none⟩) (Nat.lt_of_lt_of_le (block_lt hc5) hb5.size)).trans ((hb5.cell (p := ⟨u3.heap.size + 1 + 1, 8, none⟩) (block_lt hc5)).trans hc5)
    clear hs6 hb6 hb5 HA5 HB5 hc5
    go_wp2_with (first | (refine wpList_store_new rfl 28 _ _ rfl _ _ _ _ rfl rfl ?hi ?hs ?h1 rfl ?hg ?_; (case hi => (rw [stateInfo]; simp [stateL_len HLen.out])); (case hs => simp [stateL_len HLen.out]); (case h1 => exact stateL_one _); (case hg => rfl)))
    refine (events_any K _ (gFin a a) _ HA6.out).mono ?_
    rw [HP.out.2.2.2.2]
    rintro e w8 ⟨v8, rfl, ho8, hb8⟩
    obtain ⟨g8, c8, rfl⟩ := row_some (n := 1) ho8
    obtain ⟨x0, x1, x2, x3⟩ := evs_two (g_ev a EA.out.1)
    have y0 : w8.cell? ⟨g8, 0, none⟩ = some (.bool true) := by
      rw [ho8.cellAt 0 (by omega)]; exact x0
    have y1 : w8.cell? ⟨g8, 1, none⟩ = some (.int .u64 (IntKind.u64.wrap (4 * IntKind.u64.wrap (a0.tmod 4)))) := by
      rw [ho8.cellAt 1 (by omega), HA4.out]; exact x1
    have y2 : w8.cell? ⟨g8, 10, none⟩ = some (.bool false) := by
      rw [ho8.cellAt 10 (by omega)]; exact x2
    have y3 : w8.cell? ⟨g8, 11, none⟩ = some (.int .u64 68) := by
      rw [ho8.cellAt 11 (by omega)]; exact x3
    have HA8 := Lib.hid (HA6.out.below hb8)
    have HB8 := Lib.hid (HB6.out.trans (hb8.mono HB6.out.size))
    have r32 := (hb8.cell (p := ⟨w5.heap.size, 32, none⟩) (block_lt q32)).trans q32
    have r33 := (hb8.cell (p := ⟨w5.heap.size, 33, none⟩) (block_lt q33)).trans q33
    have r34 := (hb8.cell (p := ⟨w5.heap.size, 34, none⟩) (block_lt q34)).trans q34
    have r5 := (hb8.cell (p := ⟨u3.heap.size + 1 + 1, 8, none⟩) (block_lt q5)).trans q5
    clear ho8 hb8 HA6 HB6 q32 q33 q34 q5 x0 x1 x2 x3
    go_wp2_with fail
    refine wp_region_still_tail 51 (by kernel_rfl) (by kernel_rfl) ?_
    simp only [List.take_succ_cons, List.take_zero, List.drop_succ_cons, List.drop_zero]
    change wpStill _ _ (World.drew _) (fun a' => wpList _ _ _ _ a' (World.drew _)) _ _
    repeat still_step
    refine wpStill_nil ?_
    go_wp2_with fail
    refine (leaks_any K _ (gFin a a) _ (HA8.out.below (bel_drewN (Below.refl _ _) 1))).mono ?_
    rw [HP.out.2.2.2.1]
    rintro e w9 ⟨v9, rfl, ho9, hb9⟩
    obtain ⟨A9, c9, rfl⟩ := row_len ho9
    have HB9 := Lib.hid ((HB8.out.trans ((bel_drewN (Below.refl w8.heap.size w8) 1).mono HB8.out.size)).trans (hb9.mono HB8.out.size))
    clear ho9 hb9 HA8 HB8 r32 r33 r34 r5 y0 y1 y2 y3
    go_wp2
    go_ret
    exact ⟨rfl, HB9.out⟩
  · have hne : (a0.tmod 4 == a1.tmod 4) = false := by rw [EA.out.2, EB.out.2]; simp; omega
    have hne2 : (a0.tmod 4 != a1.tmod 4) = true := by rw [EA.out.2, EB.out.2]; simp; omega
    obtain ⟨p1, p2, p3, p4⟩ := g_no a EA.out.1 b EB.out.1 hab
    have HP := Lib.hid (And.intro p1 (And.intro p2 (And.intro p3 p4)))
    have HAb := Lib.hid hab
    clear p1 p2 p3 p4 hab
    go_wp2_with fail
    refine (state_any K _ (gFin a b) w4 HA5.out).mono ?_
    rintro e w5 ⟨rfl, hb5⟩
    have hs6 := StB.new (w := w5) (gFin a b).s HLen.out
    have q33 : (w5.alloc (.cells (stateL (gFin a b).s).toArray 28)).cell? ⟨w5.heap.size, 33, none⟩ = some (.bool false) := by rw [hs6.cell 33, show (33 : Nat) = 32 + 1 from rfl, stateL_at HLen.out 1]; simp [HP.out.2.1]
    have q34 : (w5.alloc (.cells (stateL (gFin a b).s).toArray 28)).cell? ⟨w5.heap.size, 34, none⟩ = some (.int .i64 2) := by rw [hs6.dn, HP.out.1]
    have hb6 : Below w5.heap.size w5 (w5.alloc (.cells (stateL (gFin a b).s).toArray 28)) := (Below.refl _ _).alloc (Nat.le_refl _) _
    have HA6 := Lib.hid ((HA5.out.below hb5).below hb6)
    have HB6 := Lib.hid ((HB5.out.trans (hb5.mono HB5.out.size)).trans (hb6.mono (Nat.le_trans HB5.out.size hb5.size)))
    clear hs6 hb6 hb5 HA5 HB5
    go_wp2_with (first | (refine wpList_store_new rfl 28 _ _ rfl _ _ _ _ rfl rfl ?hi ?hs ?h1 rfl ?hg ?_; (case hi => (rw [stateInfo]; simp [stateL_len HLen.out])); (case hs => simp [stateL_len HLen.out]); (case h1 => exact stateL_one _); (case hg => rfl)))
    refine (events_any K _ (gFin a b) _ HA6.out).mono ?_
    rw [HP.out.2.2.1]
    rintro e w8 ⟨v8, rfl, ho8, hb8⟩
    obtain ⟨A8, c8, rfl⟩ := row_len ho8
    have HA8 := Lib.hid (HA6.out.below hb8)
    have HB8 := Lib.hid (HB6.out.trans (hb8.mono HB6.out.size))
    have r33 := hb8.cell (p := ⟨w5.heap.size, 33, none⟩) (block_lt q33) |>.trans q33
    have r34 := hb8.cell (p := ⟨w5.heap.size, 34, none⟩) (block_lt q34) |>.trans q34
    clear ho8 hb8 HA6 HB6 q33 q34
    go_wp2_with fail
    refine (leaks_any K _ (gFin a b) _ HA8.out).mono ?_
    rw [HP.out.2.2.2]
    rintro e w9 ⟨v9, rfl, ho9, hb9⟩
    obtain ⟨A9, c9, rfl⟩ := row_len ho9
    have HB9 := Lib.hid (HB8.out.trans (hb9.mono HB8.out.size))
    clear ho9 hb9 HA8 HB8 r33 r34
    go_wp2
    go_ret
    exact ⟨rfl, HB9.out⟩
end CpuGatesWalk
end Go.Proofs.YthnhopmbefgmgaaGreatDoor
