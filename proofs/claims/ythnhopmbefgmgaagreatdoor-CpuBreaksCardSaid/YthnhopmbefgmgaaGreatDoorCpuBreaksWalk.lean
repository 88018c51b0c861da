/- Layer 5's statements: CpuBreaks. -/
import Derived.Test.YthnhopmbefgmgaaGreatDoorCpuBreaksPure
import Derived.Test.YthnhopmbefgmgaaGreatDoorCpuEq
import Derived.Deep.RegionHeld3
namespace Go.Proofs.YthnhopmbefgmgaaGreatDoor
set_option maxRecDepth 100000
open Go.RowKit Go.Maps
set_option linter.unusedVariables false
namespace CpuBreaksWalk
attribute [local go_sem ↓] loadAt_st loadAt_wd build_st build_wd
/-- a world of one row, its blocks' numbers told -/
abbrev oneN (u : World) (n0 g n c q k : Nat) (s : CS) : World := (u.alloc (.cells #[.slice (some ⟨g, 0, none⟩) n c] 52)).alloc (.cells (worldL (.slice (some ⟨q, 0, none⟩) k k) (.slice (some ⟨n0, 0, none⟩) 1 1) (.slice none 0 0) s).toArray 30)
structure OneAt (u W : World) (n0 q k : Nat) (T : List Rg) (l : List Int) (s : CS) : Prop where
  wd : WdB W (n0 + 1) (.slice (some ⟨q, 0, none⟩) k k) (.slice (some ⟨n0, 0, none⟩) 1 1) (.slice none 0 0) s
  rows : RowsAt W n0 0 [l]
  tab : TabAt W q 0 T
  bel : Below u.heap.size u W
theorem one_at {u : World} {B g n c q k n0 : Nat} {l : List Int} {T : List Rg} (h0 : u.heap.size = n0) (s : CS) (hs : s.R.length = 32) (hl : l.length = n) (hl2 : n ≤ 1000000) (ho : u.ownsRow B 5 1 (.slice (some ⟨g, 0, none⟩) n c) n (l.map (Value.int .u8))) (ha : AllB l) (hT : TabAt u q 0 T) :
    OneAt u (oneN u n0 g n c q k s) n0 q k T l s := by
  subst h0
  have h := one_world (k := k) s hs hl hl2 ho ha hT
  exact ⟨h.wd, h.rows, h.tab, h.bel⟩
section
variable (K : CK) (F : Nat → Prop) (st : St) (w : World)
/-- a processor that doesn't run any more: a step, a run -/
theorem step_dead (hA : CpuAt w K F st) (hd : st.s.dn ≠ 0) :
    Calls Tryz.prog 25 #[.pointer (some ⟨K.c, 0, none⟩)] w fun e w' => e = .returned (.bool false) ∧ w' = w := by
  obtain ⟨_, _, hC, _⟩ := hA
  have h36 := hC.blk.dn
  have hd2 : (st.s.dn != 0) = true := by rw [bne_iff_ne]; exact hd
  clear hC
  go_enter Tryz.func25, Tryz.ntmps25
  go_wp2
  go_ret
  exact ⟨rfl, rfl⟩
theorem run_dead (hA : CpuAt w K F st) (hd : st.s.dn ≠ 0) :
    Calls Tryz.prog 15 #[.pointer (some ⟨K.c, 0, none⟩), .int .i64 5] w fun e w' => e = .returned (.int .i64 0) ∧ w' = w := by
  have HS := Lib.hid (step_dead K F st w hA hd)
  clear hA hd
  go_enter Tryz.func15, Tryz.ntmps15
  go_wp2
  go_loop [5] (fun i => i = .int .i64 0) (fun _ => 0)
  case atStart => rfl
  case round =>
    obtain rfl := hrel
    go_wp2_with fail
    refine HS.out.mono ?_
    rintro e w2 ⟨rfl, hw⟩
    subst hw
    go_wp2
    go_ret
    exact ⟨rfl, rfl⟩
end
/-- what a law's last region asks of each world in it: the box's cells, the box as a whole, the processor -/
abbrev SB (w0 : World) (K : CK) (F : Nat → Prop) (fin : St) (g : Nat) (w : World) : Prop :=
  (w.cell? ⟨g, 34, none⟩ = some (.int .i64 2) ∧ w.cell? ⟨g, 5, none⟩ = some (.int .u64 9) ∧ w.cell? ⟨g, 6, none⟩ = some (.int .u64 0) ∧ (stLoad (.pointer (some ⟨g, 0, none⟩))).run Tryz.prog w = .ok (.agg (stateL fin.s).toArray) w) ∧ CpuAt w K F fin ∧ StB w g fin.s ∧ Below w0.heap.size w0 w
section
variable {w0 w w' : World} {K : CK} {F : Nat → Prop} {fin : St} {g : Nat}
theorem sb_of (h2 : CpuAt w K F fin) (h3 : StB w g fin.s) (h4 : Below w0.heap.size w0 w) (hd : fin.s.dn = 2) (h5 : nth fin.s.R 5 = 9) (h6 : nth fin.s.R 6 = 0) : SB w0 K F fin g w :=
  ⟨⟨by rw [h3.dn, hd], by rw [h3.cell 5, stateL_reg h3.2 (by omega), h5], by rw [h3.cell 6, stateL_reg h3.2 (by omega), h6], loadS_is h3⟩, h2, h3, h4⟩
theorem sb_below (h : SB w0 K F fin g w) (hb : Below w.heap.size w w') : SB w0 K F fin g w' := by
  obtain ⟨⟨a, b, c, _⟩, h2, h3, h4⟩ := h
  have k3 := h3.below hb
  exact ⟨⟨by rw [hb.cell (p := ⟨g, 34, none⟩) (block_lt a)]; exact a, by rw [hb.cell (p := ⟨g, 5, none⟩) (block_lt b)]; exact b, by rw [hb.cell (p := ⟨g, 6, none⟩) (block_lt c)]; exact c, loadS_is k3⟩, h2.below hb, k3, h4.trans (hb.mono h4.size)⟩
theorem sb_drewN (h : SB w0 K F fin g w) (n : Nat) : SB w0 K F fin g (w.drewN n) := sb_below h (bel_drewN (Below.refl _ _) n)
theorem sb_drew (h : SB w0 K F fin g w) : SB w0 K F fin g w.drew := sb_drewN h 1
theorem sb_same (h : SB w0 K F fin g w) (e : w' = w) : SB w0 K F fin g w' := e ▸ h
theorem sb_cpu (h : SB w0 K F fin g w) : CpuAt w K F fin := h.2.1
end
set_option maxHeartbeats 4000000 in
theorem walk (a0 : Int) (o : Bool) (w : World) (w0 : (Lit.int .u8 a0).wf = true) (hT : Tabs w) (hA : TabA w) :
    Calls Tryz.prog 8 #[.int .u8 a0, .bool o] w fun e w' => e = .returned (.bool true) ∧ Below w.heap.size w w' := by
  have HT := Lib.hid (And.intro hT hA)
  have b0 := bounds_u8 w0
  have hso := stBuild_own o
  clear hT hA w0
  go_enter Tryz.func8, Tryz.ntmps8
  go_wp2_with fail
  refine (awake5 _ HT.out.1 HT.out.2).mono ?_
  rintro e u1 ⟨rfl, hb1⟩
  have HB1 := Lib.hid hb1
  clear hb1
  go_wp2_with fail
  refine (words_any _ 0 _ 2 kX1 rfl (by omega) (mayL (by decide +kernel)) _ ?hx).mono ?_
  case hx => exact xs_to _ _ _ _ rfl rfl
  rintro e u2 ⟨v, rfl, ho, hb⟩
  obtain ⟨g1, c1, rfl⟩ := row_some (n := 7) ho
  have hb2 : Below u1.heap.size u1 u2 := Below.trans ((Below.refl _ _).alloc (Nat.le_refl _) _) (hb.mono (by simp))
  have HB2 := Lib.hid (HB1.out.trans (hb2.mono HB1.out.size))
  have HOb1 := Lib.hid (show u2.ownsRow _ 5 1 (.slice (some ⟨g1, 0, none⟩) 8 c1) 8 _ from ho)
  have HGt1 := Lib.hid (show g1 < u2.heap.size from (ho.lt g1 rfl).2)
  have HSz1 := Lib.hid hb2.size
  clear ho hb hb2 HB1
  go_wp2_with fail
  refine (words_any _ 0 _ 2 kX2 rfl (by omega) (mayL (by decide +kernel)) _ ?hx).mono ?_
  case hx => exact xs_to _ _ _ _ rfl rfl
  rintro e u3 ⟨v, rfl, ho, hb⟩
  obtain ⟨g2, c2, rfl⟩ := row_some (n := 7) ho
  have hb2 : Below u2.heap.size u2 u3 := Below.trans ((Below.refl _ _).alloc (Nat.le_refl _) _) (hb.mono (by simp))
  have HB3 := Lib.hid (HB2.out.trans (hb2.mono HB2.out.size))
  have HOb2 := Lib.hid (show u3.ownsRow _ 5 1 (.slice (some ⟨g2, 0, none⟩) 8 c2) 8 _ from ho)
  replace HOb1 := Lib.hid (row_below HOb1.out hb2)
  have HGt2 := Lib.hid (show g2 < u3.heap.size from (ho.lt g2 rfl).2)
  have HSz2 := Lib.hid hb2.size
  clear ho hb hb2 HB2
  go_wp2_with fail
  refine (words_any _ 0 _ 2 kX3 rfl (by omega) (mayL (by decide +kernel)) _ ?hx).mono ?_
  case hx => exact xs_to _ _ _ _ rfl rfl
  rintro e u4 ⟨v, rfl, ho, hb⟩
  obtain ⟨g3, c3, rfl⟩ := row_some (n := 7) ho
  have hb2 : Below u3.heap.size u3 u4 := Below.trans ((Below.refl _ _).alloc (Nat.le_refl _) _) (hb.mono (by simp))
  have HB4 := Lib.hid (HB3.out.trans (hb2.mono HB3.out.size))
  have HOb3 := Lib.hid (show u4.ownsRow _ 5 1 (.slice (some ⟨g3, 0, none⟩) 8 c3) 8 _ from ho)
  replace HOb1 := Lib.hid (row_below HOb1.out hb2)
  replace HOb2 := Lib.hid (row_below HOb2.out hb2)
  have HGt3 := Lib.hid (show g3 < u4.heap.size from (ho.lt g3 rfl).2)
  have HSz3 := Lib.hid hb2.size
  clear ho hb hb2 HB3
  go_wp2_with fail
  refine (words_any _ 0 _ 2 kX4 rfl (by omega) (mayL (by decide +kernel)) _ ?hx).mono ?_
  case hx => exact xs_to _ _ _ _ rfl rfl
  rintro e u5 ⟨v, rfl, ho, hb⟩
  obtain ⟨g4, c4, rfl⟩ := row_some (n := 7) ho
  have hb2 : Below u4.heap.size u4 u5 := Below.trans ((Below.refl _ _).alloc (Nat.le_refl _) _) (hb.mono (by simp))
  have HB5 := Lib.hid (HB4.out.trans (hb2.mono HB4.out.size))
  have HOb4 := Lib.hid (show u5.ownsRow _ 5 1 (.slice (some ⟨g4, 0, none⟩) 8 c4) 8 _ from ho)
  replace HOb1 := Lib.hid (row_below HOb1.out hb2)
  replace HOb2 := Lib.hid (row_below HOb2.out hb2)
  replace HOb3 := Lib.hid (row_below HOb3.out hb2)
  have HGt4 := Lib.hid (show g4 < u5.heap.size from (ho.lt g4 rfl).2)
  have HSz4 := Lib.hid hb2.size
  clear ho hb hb2 HB4
  go_wp2_with fail
  refine (words_any _ 0 _ 1 kX5 rfl (by omega) (mayL (by decide +kernel)) _ ?hx).mono ?_
  case hx => exact xs_to _ _ _ _ rfl rfl
  rintro e u6 ⟨v, rfl, ho, hb⟩
  obtain ⟨g5, c5, rfl⟩ := row_some (n := 3) ho
  have hb2 : Below u5.heap.size u5 u6 := Below.trans ((Below.refl _ _).alloc (Nat.le_refl _) _) (hb.mono (by simp))
  have HB6 := Lib.hid (HB5.out.trans (hb2.mono HB5.out.size))
  have HOb5 := Lib.hid (show u6.ownsRow _ 5 1 (.slice (some ⟨g5, 0, none⟩) 4 c5) 4 _ from ho)
  replace HOb1 := Lib.hid (row_below HOb1.out hb2)
  replace HOb2 := Lib.hid (row_below HOb2.out hb2)
  replace HOb3 := Lib.hid (row_below HOb3.out hb2)
  replace HOb4 := Lib.hid (row_below HOb4.out hb2)
  have HSw := Lib.hid HB5.out.size
  have HGt5 := Lib.hid (show u5.heap.size + 1 ≤ g5 from by have := (ho.lt g5 rfl).1; simpa using this)
  have HSz5 := Lib.hid (show u5.heap.size + 1 ≤ u6.heap.size from by have := hb.size; simpa using this)
  clear ho hb hb2 HB5
  obtain ⟨i0, hi, hz0, hz1, hz2⟩ := info_parts info5
  have HZn := Lib.hid (show ∀ j u, ([0, 0, 0, 0].map (Value.int .u8))[j]? = some u → (u6.alloc (.cells #[.int .u8 0, .int .u8 0, .int .u8 0, .int .u8 0] 5)).cell? ((⟨u6.heap.size, 0, none⟩ : Addr).add j) = some u from sl_newsO (sl_new u6 [0, 0, 0, 0]))
  have HOwn := Lib.hid (row_below HOb5.out ((Below.refl u6.heap.size u6).alloc (Nat.le_refl _) (.cells #[.int .u8 0, .int .u8 0, .int .u8 0, .int .u8 0] 5)))
  go_wp2_with (at_builtin; refine wpList_append_own _ rfl _ _ 52 rfl _ 5 i0 (.int .u8 0) 1 1 Tryz.underlying52 hi hz0 hz1 hz2 rfl (by decide) _ 4 _ rfl HOwn.out ⟨u6.heap.size, 0, none⟩ 4 4 ([0, 0, 0, 0].map (Value.int .u8)) rfl rfl HZn.out ?c2 ?c3 ?c4 ?c5 ?_)
  case c2 => intro u hu; obtain ⟨x, _, rfl⟩ := List.mem_map.1 hu; rfl
  case c3 => unfold maxLen; omega
  case c4 => decide
  case c5 => have := HSz5.out; simp; omega
  intro v7 w7 hown hgrow hnil
  obtain ⟨g7, c7, rfl⟩ := row_some (n := 7) hown
  have hne : ∀ j : Nat, j < u5.heap.size → ∀ b : Nat, (Value.slice (some ⟨j, 0, none⟩) 8 0).ownBlock = some b → some b ≠ (Value.slice (some ⟨g5, 0, none⟩) 4 c5).ownBlock := by
    intro j hj b hb e
    cases hb
    have e : j = g5 := Option.some.inj e
    have := HGt5.out
    omega
  have hu6 : Below u6.heap.size u6 (u6.alloc (.cells #[.int .u8 0, .int .u8 0, .int .u8 0, .int .u8 0] 5)) := (Below.refl _ _).alloc (Nat.le_refl _) _
  have hk1 := row_kept (row_below HOb1.out hu6) hgrow (fun b hb => hne g1 (by have := HGt1.out; have := HSz2.out; have := HSz3.out; have := HSz4.out; omega) b hb)
  have hk2 := row_kept (row_below HOb2.out hu6) hgrow (fun b hb => hne g2 (by have := HGt2.out; have := HSz3.out; have := HSz4.out; omega) b hb)
  have hk3 := row_kept (row_below HOb3.out hu6) hgrow (fun b hb => hne g3 (by have := HGt3.out; have := HSz4.out; omega) b hb)
  have hk4 := row_kept (row_below HOb4.out hu6) hgrow (fun b hb => hne g4 (by have := HGt4.out; omega) b hb)
  have HB7 := Lib.hid ((HB6.out.trans (hu6.mono HB6.out.size)).grown hgrow (by have := HB6.out.size; simp; omega) (fun b hb => by
    have e : g5 = b := Option.some.inj hb
    have := HGt5.out
    have := HSw.out
    omega))
  obtain ⟨k, hk, ek⟩ : ∃ k : Nat, k < 5 ∧ a0.tmod 5 = k := ⟨(a0.tmod 5).toNat, by rw [Int.tmod_eq_emod_of_nonneg b0.1]; omega, by rw [Int.tmod_eq_emod_of_nonneg b0.1]; omega⟩
  obtain ⟨Bk, gk, ck, hc, hok⟩ : ∃ Bk gk ck, (w7.alloc (.cells #[.slice (some ⟨g1, 0, none⟩) 8 c1, .slice (some ⟨g2, 0, none⟩) 8 c2, .slice (some ⟨g3, 0, none⟩) 8 c3, .slice (some ⟨g4, 0, none⟩) 8 c4, .slice (some ⟨g7, 0, none⟩) 8 c7] 52)).cell? ⟨w7.heap.size, k, none⟩ = some (.slice (some ⟨gk, 0, none⟩) 8 ck) ∧ w7.ownsRow Bk 5 1 (.slice (some ⟨gk, 0, none⟩) 8 ck) 8 ((kL k).map (Value.int .u8)) := by
    obtain rfl | rfl | rfl | rfl | rfl : k = 0 ∨ k = 1 ∨ k = 2 ∨ k = 3 ∨ k = 4 := by omega
    · exact ⟨_, g1, c1, by simp [go_sem], hk1⟩
    · exact ⟨_, g2, c2, by simp [go_sem], hk2⟩
    · exact ⟨_, g3, c3, by simp [go_sem], hk3⟩
    · exact ⟨_, g4, c4, by simp [go_sem], hk4⟩
    · exact ⟨_, g7, c7, by simp [go_sem], by rw [show kL 4 = wordsL kX5 ++ [0, 0, 0, 0] from rfl, List.map_append]; exact hown⟩
  have hbu : Below w7.heap.size w7 ((w7.alloc (.cells #[.slice (some ⟨g1, 0, none⟩) 8 c1, .slice (some ⟨g2, 0, none⟩) 8 c2, .slice (some ⟨g3, 0, none⟩) 8 c3, .slice (some ⟨g4, 0, none⟩) 8 c4, .slice (some ⟨g7, 0, none⟩) 8 c7] 52)).alloc (.cells #[.int .u64 0, .int .u64 64, .int .i64 7, .int .i64 7, .int .u64 64, .int .u64 128, .int .i64 0, .int .i64 0] 57)) := below_alloc2
  have hTab : TabAt ((w7.alloc (.cells #[.slice (some ⟨g1, 0, none⟩) 8 c1, .slice (some ⟨g2, 0, none⟩) 8 c2, .slice (some ⟨g3, 0, none⟩) 8 c3, .slice (some ⟨g4, 0, none⟩) 8 c4, .slice (some ⟨g7, 0, none⟩) 8 c7] 52)).alloc (.cells #[.int .u64 0, .int .u64 64, .int .i64 7, .int .i64 7, .int .u64 64, .int .u64 128, .int .i64 0, .int .i64 0] 57)) (w7.heap.size + 1) 0 kT := by
    have := t2r_tab (w7.alloc (.cells #[.slice (some ⟨g1, 0, none⟩) 8 c1, .slice (some ⟨g2, 0, none⟩) 8 c2, .slice (some ⟨g3, 0, none⟩) 8 c3, .slice (some ⟨g4, 0, none⟩) 8 c4, .slice (some ⟨g7, 0, none⟩) 8 c7] 52)) 0 64 7 7 64 128 0 0
    rw [show (w7.alloc (.cells #[.slice (some ⟨g1, 0, none⟩) 8 c1, .slice (some ⟨g2, 0, none⟩) 8 c2, .slice (some ⟨g3, 0, none⟩) 8 c3, .slice (some ⟨g4, 0, none⟩) 8 c4, .slice (some ⟨g7, 0, none⟩) 8 c7] 52)).heap.size = w7.heap.size + 1 by simp] at this
    exact this
  have hw1 := one_at (k := 2) (n0 := w7.heap.size + 1 + 1) (by simp) (s0 0 o) rfl (kL_len k hk) (by omega) (row_below hok hbu) (kL_all k hk) hTab
  have hwd := wdBuild_is (h := (rfl : (s0 0 o).R.length = 32))
  have hld := hw1.wd.load
  have HOk := Lib.hid hw1
  have HK := Lib.hid hk
  have kk0 : (0 : Int) ≤ k := by omega
  have kk1 : (k : Int) < 5 := by omega
  have HBU := Lib.hid (HB7.out.trans (hbu.mono HB7.out.size))
  clear hown hgrow hnil hne hu6 hk1 hk2 hk3 hk4 HOb1 HOb2 HOb3 HOb4 HOb5 HOwn HZn HGt1 HGt2 HGt3 HGt4 HGt5 HSz1 HSz2 HSz3 HSz4 HSz5 hok hbu hTab hw1 hk HB6 HB7
  simp only [oneN] at HOk hld
  go_wp2_with (first | (refine wpList_store_new rfl 30 _ _ rfl _ _ _ _ rfl rfl ?hi ?hs ?h1 rfl ?hg ?_; (case hi => exact wdInfo); (case hs => rfl); (case h1 => exact worldL_one); (case hg => simp)))
  refine (build_yes (w7.heap.size + 1) 0 2 2 (w7.heap.size + 1 + 1) 0 1 1 kT [kL k] _ _ _ ?l1 rfl kt_w kt_may rfl (by omega) _ HOk.out.tab (.inr ⟨rfl, HOk.out.rows⟩)).mono ?_
  case l1 => exact HOk.out.wd.2
  clear hld hwd hso hc
  have HBX := Lib.hid (HBU.out.trans (HOk.out.bel.mono HBU.out.size))
  generalize ((((w7.alloc (.cells #[.slice (some ⟨g1, 0, none⟩) 8 c1, .slice (some ⟨g2, 0, none⟩) 8 c2, .slice (some ⟨g3, 0, none⟩) 8 c3, .slice (some ⟨g4, 0, none⟩) 8 c4, .slice (some ⟨g7, 0, none⟩) 8 c7] 52)).alloc (.cells #[.int .u64 0, .int .u64 64, .int .i64 7, .int .i64 7, .int .u64 64, .int .u64 128, .int .i64 0, .int .i64 0] 57)).alloc (.cells #[.slice (some ⟨gk, 0, none⟩) 8 ck] 52)).alloc (.cells (worldL (.slice (some ⟨w7.heap.size + 1, 0, none⟩) 2 2) (.slice (some ⟨w7.heap.size + 1 + 1, 0, none⟩) 1 1) (.slice none 0 0) (s0 0 o)).toArray 30)) = X at *
  rintro e w2 ⟨m, tb, tc, hb, G, r, bb, bc, rfl, hM, hR, _, _, _, hb2⟩
  have HM := Lib.hid hM
  have HB3 := Lib.hid (And.intro hb2 (HBX.out.trans (hb2.mono HBX.out.size)))
  have HTX := Lib.hid (And.intro (HT.out.1.below HBX.out) (HT.out.2.below HBX.out))
  have HS0 := Lib.hid HBX.out.size
  have hS := (HOk.out.wd.below hb2).loadS
  have HLs := Lib.hid HOk.out.wd.2
  clear hM hR hb2 HBX HBU
  go_wp2_with fail
  refine (new_cpu m tb tc hb 2 kT G _ none 0 [] (fun b => X.heap.size ≤ b) _ w2 ⟨HM.out.rebase (Nat.zero_le _), .inl rfl, (fun _ => rfl), (by simp), (by simp), HLs.out, ?sr, ?sp, (by omega)⟩ (fun i hi => HM.out.from_ i hi) (fun b hb => Nat.le_trans HB3.out.1.size hb)).mono ?_
  case sr => exact zeroR_u 0 o
  case sp => show IsU 0; exact ⟨by decide, by decide⟩
  rintro e w3 ⟨K, rfl, k1, k2, k3, k4, k5, k6, k7, k8, k9, hA3, hb3⟩
  have HA3 := Lib.hid (show CpuAt w3 K (fun b => X.heap.size ≤ b) (kSt k o) from hA3)
  have HB4 := Lib.hid (And.intro (HB3.out.1.trans (hb3.mono HB3.out.1.size)) (HB3.out.2.trans (hb3.mono HB3.out.2.size)))
  have HKk := Lib.hid (And.intro k5 k7)
  clear hA3 hb3 k1 k2 k3 k4 k5 k6 k7 k8 k9 hS HM HB3 HLs HOk
  go_wp2_with fail
  refine (run_any K _ (kSt k o) w3 50 HA3.out (env_of HTX.out.1 HTX.out.2 HB4.out.1) (by show 0 + 50 < _; omega) (by show 0 + 2 * 50 < _; omega)).mono ?_
  obtain ⟨N, hN⟩ : ∃ N : Nat, (if k = 2 then 3 else 2) = N := ⟨_, rfl⟩
  rw [HKk.out.1, HKk.out.2, k_n k HK.out o, hN]
  have HNn := Lib.hid hN
  clear hN
  rintro e w4 ⟨rfl, hA4, hO4⟩
  obtain ⟨f1, f2, f3, f4, f5, f6⟩ := k_fin k HK.out o
  obtain ⟨fin, hfd, hf5, hf6, hfe, hfl, hA6⟩ : ∃ fin : St, fin.s.dn = 2 ∧ nth fin.s.R 5 = 9 ∧ nth fin.s.R 6 = 0 ∧ fin.ev.length = 0 ∧ fin.s.R.length = 32 ∧ CpuAt w4 K (fun b => X.heap.size ≤ b) fin := ⟨_, f1, f2, f3, f4, f5, hA4⟩
  have HA5 := Lib.hid hA6
  have HLen := Lib.hid hfl
  have HF := Lib.hid (And.intro hfd (And.intro hf5 (And.intro hf6 hfe)))
  have HB5 := Lib.hid (HB4.out.2.trans ((hO4.to_below HB4.out.1.size).mono HS0.out))
  clear hA4 hO4 HA3 f1 f2 f3 f4 f5 f6 hA6 hfl hfd hf5 hf6 hfe
  go_wp2_with fail
  refine (state_any K _ fin w4 HA5.out).mono ?_
  rintro e w5 ⟨rfl, hb5⟩
  have hb6 : Below w5.heap.size w5 (w5.alloc (.cells (stateL fin.s).toArray 28)) := (Below.refl _ _).alloc (Nat.le_refl _) _
  have HSb := Lib.hid (sb_of ((HA5.out.below hb5).below hb6) (StB.new (w := w5) fin.s HLen.out) ((HB5.out.trans (hb5.mono HB5.out.size)).trans (hb6.mono (Nat.le_trans HB5.out.size hb5.size))) HF.out.1 HF.out.2.1 HF.out.2.2.1)
  clear hb5 hb6 HA5 HB5
  have HStep := Lib.hid (fun w' (h : SB w K (fun b => X.heap.size ≤ b) fin w5.heap.size w') => step_dead K (fun b => X.heap.size ≤ b) fin w' h.2.1 (by rw [HF.out.1]; decide))
  have HRun := Lib.hid (fun w' (h : SB w K (fun b => X.heap.size ≤ b) fin w5.heap.size w') => run_dead K (fun b => X.heap.size ≤ b) fin w' h.2.1 (by rw [HF.out.1]; decide))
  have HSta := Lib.hid (fun w' (h : SB w K (fun b => X.heap.size ≤ b) fin w5.heap.size w') => state_any K (fun b => X.heap.size ≤ b) fin w' h.2.1)
  have HEvs := Lib.hid (fun w' (h : SB w K (fun b => X.heap.size ≤ b) fin w5.heap.size w') => events_any K (fun b => X.heap.size ≤ b) fin w' h.2.1)
  have heq := eqlS fin.s HLen.out
  by_cases h2 : k = 2
  all_goals
    first | (have hN := HNn.out; rw [if_pos h2] at hN; have hk2 : ((k : Int) == 2) = true := by rw [beq_iff_eq]; omega) | (have hN := HNn.out; rw [if_neg h2] at hN; have hk2 : ((k : Int) == 2) = false := by rw [beq_eq_false_iff_ne]; omega)
    subst hN
    clear h2
    go_wp2_with (first | (refine wpList_store_new rfl 28 _ _ rfl _ _ _ _ rfl rfl ?hi ?hs ?h1 rfl ?hg ?_; (case hi => (rw [stateInfo]; simp [stateL_len HLen.out])); (case hs => simp [stateL_len HLen.out]); (case h1 => exact stateL_one _); (case hg => rfl); (generalize (w5.alloc (.cells (stateL fin.s).toArray 28)) = Y at *)))
  all_goals
    have hS : SB w K (fun b => X.heap.size ≤ b) fin w5.heap.size Y := HSb.out
    go_region_held3 (fun w' => SB w K (fun b => X.heap.size ≤ b) fin w5.heap.size w') (first | (with_reducible assumption) | ((with_reducible apply sb_drew); (with_reducible assumption)) | ((with_reducible apply sb_drewN); (with_reducible assumption)) | ((with_reducible apply sb_below); (with_reducible assumption); (with_reducible assumption)) | ((with_reducible apply sb_same); (with_reducible assumption); (with_reducible assumption)))
      (first
      | (go_at_call 25; (with_reducible refine (HStep.out _ ?hm).mono ?_); (case hm => (first | (with_reducible assumption) | ((with_reducible apply sb_drew); (with_reducible assumption)) | ((with_reducible apply sb_drewN); (with_reducible assumption)))); rintro e w' ⟨rfl, hsame⟩)
      | (go_at_call 15; (with_reducible refine (HRun.out _ ?hm).mono ?_); (case hm => (first | (with_reducible assumption) | ((with_reducible apply sb_drew); (with_reducible assumption)) | ((with_reducible apply sb_drewN); (with_reducible assumption)))); rintro e w' ⟨rfl, hsame⟩)
      | (go_at_call 17; (with_reducible refine (HSta.out _ ?hm).mono ?_); (case hm => (first | (with_reducible assumption) | ((with_reducible apply sb_drew); (with_reducible assumption)) | ((with_reducible apply sb_drewN); (with_reducible assumption)))); rintro e w' ⟨rfl, hb⟩)
      | (go_at_call 19; (with_reducible refine (HEvs.out _ ?hm).mono ?_); (case hm => (first | (with_reducible assumption) | ((with_reducible apply sb_drew); (with_reducible assumption)) | ((with_reducible apply sb_drewN); (with_reducible assumption)))); rw [HF.out.2.2.2]; rintro e w' ⟨v', rfl, ho, hb⟩; obtain ⟨A9, c9, rfl⟩ := row_len ho; clear ho))
  all_goals
    rename_i hh
    have z3 := Lib.hid hh.2.2.2
    clear hb hS heq hh
    go_wp2
    go_ret
    exact ⟨rfl, z3.out⟩
end CpuBreaksWalk
end Go.Proofs.YthnhopmbefgmgaaGreatDoor
