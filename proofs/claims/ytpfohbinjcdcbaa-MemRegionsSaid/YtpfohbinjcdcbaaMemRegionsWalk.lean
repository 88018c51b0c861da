/- The walk of the statement MemRegions: it returns true, and writes nothing that was there. -/
import Derived.Test.YtpfohbinjcdcbaaMemAwake
import Derived.Deep.AppendLies
namespace Go.Proofs.Ytpfohbinjcdcbaa.MemRegionsWalk
open Go.RowKit Go.Maps
set_option linter.unusedVariables false

/-- k regions of 16 bytes, each s behind the one ahead -/
def reg (s : Int) (i : Nat) : Rg := (s * (i : Int), s * (i : Int) + 16, 7, 0)
def TR (s : Int) (k : Nat) : List Rg := (List.range k).map (reg s)
/-- .. the second one over the first -/
def TO (s : Int) (k : Nat) : List Rg := (TR s k).set 1 (8, s + 16, 7, 0)
theorem tr_length (s : Int) (k : Nat) : (TR s k).length = k := by simp [TR]
theorem to_length (s : Int) (k : Nat) : (TO s k).length = k := by simp [TO, TR]
theorem tr_at {s : Int} {k i : Nat} (h : i < k) : nthR (TR s k) i = reg s i := by simp [nthR, TR, h]
theorem to_at {s : Int} {k i : Nat} (h : i < k) (h1 : i ≠ 1) : nthR (TO s k) i = reg s i := by
  have h2 : ¬ 1 = i := fun e => h1 e.symm
  simp [nthR, TO, TR, h, h2]
theorem to_at1 {s : Int} {k : Nat} (h : 1 < k) : nthR (TO s k) 1 = (8, s + 16, 7, 0) := by simp [nthR, TO, TR, h]
theorem reg_bd {s : Int} {i : Nat} (h0 : 16 ≤ s) (h1 : s ≤ 32) (hi : i < 20) : 0 ≤ s * (i : Int) ∧ s * (i : Int) ≤ 640 := by
  refine ⟨Int.mul_nonneg (by omega) (by omega), ?_⟩
  have := Int.mul_le_mul h1 (show (i : Int) ≤ 20 by omega) (by omega) (by omega)
  omega
theorem reg_w {s : Int} {i : Nat} (h0 : 16 ≤ s) (h1 : s ≤ 32) (hi : i < 20) : RgW (reg s i) := by
  have := reg_bd h0 h1 hi
  unfold reg RgW IsU IsI rlo rhi rown rout
  dsimp only
  omega
theorem tr_w {s : Int} {k : Nat} (h0 : 16 ≤ s) (h1 : s ≤ 32) (hk : k ≤ 20) : TabW (TR s k) := by
  intro i hi
  rw [tr_length] at hi
  rw [tr_at hi]
  exact reg_w h0 h1 (by omega)
theorem to_w {s : Int} {k : Nat} (h0 : 16 ≤ s) (h1 : s ≤ 32) (hk : k ≤ 20) (hk1 : 1 < k) : TabW (TO s k) := by
  intro i hi
  rw [to_length] at hi
  by_cases e : i = 1
  · subst e
    rw [to_at1 hk1]
    unfold RgW IsU IsI rlo rhi rown rout
    dsimp only
    omega
  · rw [to_at hi e]
    exact reg_w h0 h1 (by omega)
theorem tr_may {s : Int} {k : Nat} (hs : s = 16 ∨ s = 24 ∨ s = 32) (h0 : 1 ≤ k) (h1 : k ≤ 16) : mayB (TR s k) = true := by
  rcases hs with rfl | rfl | rfl
  · exact (show ∀ k, k < 17 → 1 ≤ k → mayB (TR 16 k) = true by decide +kernel) k (by omega) h0
  · exact (show ∀ k, k < 17 → 1 ≤ k → mayB (TR 24 k) = true by decide +kernel) k (by omega) h0
  · exact (show ∀ k, k < 17 → 1 ≤ k → mayB (TR 32 k) = true by decide +kernel) k (by omega) h0
theorem to_may {s : Int} {k : Nat} (hs : s = 16 ∨ s = 24 ∨ s = 32) (h0 : 2 ≤ k) (h1 : k ≤ 16) : mayB (TO s k) = false := by
  rcases hs with rfl | rfl | rfl
  · exact (show ∀ k, k < 17 → 2 ≤ k → mayB (TO 16 k) = false by decide +kernel) k (by omega) h0
  · exact (show ∀ k, k < 17 → 2 ≤ k → mayB (TO 24 k) = false by decide +kernel) k (by omega) h0
  · exact (show ∀ k, k < 17 → 2 ≤ k → mayB (TO 32 k) = false by decide +kernel) k (by omega) h0
theorem cellsT_append (T U : List Rg) : cellsT (T ++ U) = cellsT T ++ cellsT U := by
  induction T with
  | nil => rfl
  | cons r t ih => show cellsR r ++ cellsT (t ++ U) = (cellsR r ++ cellsT t) ++ cellsT U; rw [ih, List.append_assoc]
theorem tr_step (s : Int) (k : Nat) : cellsT (TR s k) ++ [.int .u64 (s * (k : Int)), .int .u64 (s * (k : Int) + 16), .int .i64 7, .int .i64 0] = cellsT (TR s (k + 1)) := by
  have e : TR s (k + 1) = TR s k ++ [reg s k] := by simp [TR, List.range_succ]
  rw [e, cellsT_append]
  rfl
theorem owned_any {w : World} {base n : Nat} {e : TypeId} {v : Value} {xs : List Value} (h : w.ownsRow base e 4 v n xs) : ∃ A c, v = .slice A n c := by
  rcases h.2 with ⟨h, h0⟩ | ⟨g, cap, _, h, _⟩
  · exact ⟨none, 0, by rw [h, h0]⟩
  · exact ⟨_, cap, h⟩
theorem owned_some {w : World} {base n : Nat} {e : TypeId} {v : Value} {xs : List Value} (h : w.ownsRow base e 4 v n xs) (hn : 0 < n) : ∃ g c, v = .slice (some ⟨g, 0, none⟩) n c := by
  rcases h.2 with ⟨h, h0⟩ | ⟨g, cap, _, h, _⟩
  · omega
  · exact ⟨g, cap, h⟩
/-- the second region's Lo is written -/
theorem to_tab {w : World} {g k : Nat} {s : Int} (h : TabAt w g 0 (TR s k)) (hk : 1 < k) : TabAt (w.setCell ⟨g, 4, none⟩ (.int .u64 8)) g 0 (TO s k) := by
  intro i hi
  rw [to_length] at hi
  obtain ⟨c0, c1, c2, c3⟩ := h i (by rw [tr_length]; exact hi)
  rw [tr_at hi] at c0 c1 c2 c3
  have far : ∀ j, j ≠ 4 → (w.setCell ⟨g, 4, none⟩ (.int .u64 8)).cell? ⟨g, j, none⟩ = w.cell? ⟨g, j, none⟩ := fun j hj => World.cell?_setCell_other w _ _ _ (by intro he; cases he; exact hj rfl)
  by_cases e : i = 1
  · subst e
    rw [to_at1 hk]
    have hs : s * ((1 : Nat) : Int) = s := by simp
    refine ⟨World.cell?_setCell_same w _ _ c0, ?_, ?_, ?_⟩
    · rw [far _ (by omega), c1]; unfold reg rhi; dsimp only; rw [hs]
    · rw [far _ (by omega), c2]; rfl
    · rw [far _ (by omega), c3]; rfl
  · rw [to_at hi e]
    exact ⟨by rw [far _ (by omega)]; exact c0, by rw [far _ (by omega)]; exact c1, by rw [far _ (by omega)]; exact c2, by rw [far _ (by omega)]; exact c3⟩
set_option maxHeartbeats 4000000 in
theorem walk (a0 a1 : Int) (a2 : Bool) (w : World) (w0 : (Lit.int .u8 a0).wf = true) (w1 : (Lit.int .u8 a1).wf = true) :
    Calls Try.prog 5 #[.int .u8 a0, .int .u8 a1, .bool a2] w fun e w' => e = .returned (.bool true) ∧ Below w.heap.size w w' := by
  obtain ⟨p0, p1⟩ := bounds_u8 w0
  obtain ⟨r0, r1⟩ := bounds_u8 w1
  obtain ⟨i0, hi, hz0, hz1, hz2⟩ := info_parts infoReg
  have hm0 : 0 ≤ a1 % 3 := by omega
  have hm1 : a1 % 3 ≤ 2 := by omega
  obtain ⟨s, hs⟩ : ∃ s, s = 16 + 8 * (a1 % 3) := ⟨_, rfl⟩
  have HS := Lib.hid hs
  have HS3 := Lib.hid (show s = 16 ∨ s = 24 ∨ s = 32 by omega)
  have HSb := Lib.hid (show 16 ≤ s ∧ s ≤ 32 by omega)
  clear w0 w1 hs
  go_enter Try.func5, Try.ntmps5
  go_wp2_with fail
  refine (awakeM _).mono ?_
  rintro e w1 ⟨rfl, hb1⟩
  have H1 := Lib.hid hb1
  clear hb1
  go_wp2_with fail
  have q0 : 0 ≤ a0 % 20 := by omega
  have q1 : a0 % 20 < 20 := by omega
  generalize a0 % 20 = kk at *
  obtain ⟨K, rfl⟩ := Int.eq_ofNat_of_zero_le q0
  have hK : K < 20 := by omega
  clear p0 p1
  go_loopw [8, 9, 10] (fun v x i wr => ∃ (k : Nat) (y : Int), k ≤ K ∧ i = .int .i64 k ∧ x = .int .u64 y ∧ y = s * (k : Int) ∧ wr.ownsRow w.heap.size 35 4 v k (cellsT (TR s k)) ∧ Below w.heap.size w wr) (fun _ _ i _ => K - (intOf i).toNat)
  case atStart => exact ⟨0, 0, by omega, rfl, rfl, by simp, World.ownsRow_nil _ _ _ _, H1.out⟩
  case round =>
    obtain ⟨k, y, hk, rfl, rfl, hy, hown, hB⟩ := hrel
    clear H1
    have HY := Lib.hid hy
    have HB := Lib.hid hB
    clear hB
    by_cases hlt : k < K
    · have k0 : (0 : Int) ≤ k := by omega
      have k1 : (k : Int) < K := by omega
      obtain ⟨y0, y1⟩ : 0 ≤ y ∧ y ≤ 640 := by rw [hy]; exact reg_bd HSb.out.1 HSb.out.2 (by omega)
      have hlt5 := hown.lt
      have hwb := HB.out.size
      have hstep := tr_step s k
      rw [← hy] at hstep
      have HT := Lib.hid hstep
      clear hy hstep
      go_wp2_with (at_builtin; refine wpList_append_own _ rfl _ _ 22 rfl w.heap.size 35 i0 (.agg #[.int .u64 0, .int .u64 0, .int .i64 0, .int .i64 0]) 4 32 Try.underlying22 hi hz0 hz1 hz2 rfl (by decide) _ k (cellsT (TR s k)) rfl (hown.alloc _) ⟨wr.heap.size, 0, none⟩ 1 1 [.int .u64 y, .int .u64 (y + 16), .int .i64 7, .int .i64 0] rfl rfl ?c1 ?c2 ?c3 ?c4 ?c5 ?_)
      case c1 => exact World.news_of_block (heap_alloc_new wr _)
      case c2 => simp [Value.oneCell']
      case c3 => unfold maxLen; omega
      case c4 => omega
      case c5 => simp; omega
      intro v' w2 hown1 hgrow _
      rw [HT.out] at hown1
      have HB1 := Lib.hid ((HB.out.alloc hwb _).grown hgrow (by simp; omega) (fun g hg => (hlt5 g hg).1))
      have Hown1 := Lib.hid hown1
      clear hown1 hgrow hown hlt5
      go_wp2
      go_roundw
      case rel => exact ⟨k + 1, _, by omega, by go_num, rfl, by rw [HY.out, HS.out]; have e := Int.mul_add (16 + 8 * (a1 % 3)) (k : Int) 1; push_cast; omega, Hown1.out, HB1.out⟩
      case measure => simp [intOf]; omega
    · obtain rfl : k = K := by omega
      clear hy
      have HO := Lib.hid hown
      have hk20 := Lib.hid hK
      by_cases hz : k = 0
      · subst hz
        obtain ⟨A, c, rfl⟩ := owned_any hown
        clear hown
        cases a2
        all_goals
          go_wp2_with fail
          refine (new_none A c _).mono ?_
          rintro e w' ⟨rfl, rfl⟩
          go_wp2_with fail
          refine (may_none A c _).mono ?_
          rintro e w' ⟨rfl, rfl⟩
          go_wp2
          go_ret
          exact ⟨rfl, HB.out⟩
      · obtain ⟨g, c, rfl⟩ := owned_some hown (by omega)
        have HT := Lib.hid (tab_of_owned hown (tr_length s k))
        have hgb := (hown.lt g rfl).1
        have g1 : (1 : Int) ≤ k := by omega
        by_cases h16 : 16 < k
        · have g2 : ¬ ((k : Int) ≤ 16) := by omega
          have g3 : (1 : Int) < k := by omega
          have g4 : 0 < k := by omega
          have g5 : 1 < k := by omega
          cases a2
          · clear hown
            go_wp2_with fail
            refine (new_many _ k c h16 _).mono ?_
            rintro e w' ⟨rfl, rfl⟩
            go_wp2_with fail
            refine (may_many _ k c h16 _).mono ?_
            rintro e w' ⟨rfl, rfl⟩
            go_wp2
            go_ret
            exact ⟨rfl, HB.out⟩
          · have d1 := (HT.out 0 (by rw [tr_length]; omega)).2.1
            have d4 := (HT.out 1 (by rw [tr_length]; omega)).1
            have d5 := hown.frozenAt 4
            rw [tr_at g4, show rhi (reg s 0) = 16 from by simp [reg, rhi]] at d1
            rw [tr_at g5] at d4
            clear hown
            go_wp2_with fail
            refine (new_many _ k c h16 _).mono ?_
            rintro e w' ⟨rfl, rfl⟩
            go_wp2_with fail
            refine (may_many _ k c h16 _).mono ?_
            rintro e w' ⟨rfl, rfl⟩
            go_wp2
            go_ret
            exact ⟨rfl, HB.out.setCell hgb _⟩
        · have g2 : (k : Int) ≤ 16 := by omega
          by_cases hov : a2 = true ∧ 1 < k
          · obtain ⟨rfl, g5⟩ := hov
            have g3 : (1 : Int) < k := by omega
            have g4 : 0 < k := by omega
            have d1 := (HT.out 0 (by rw [tr_length]; omega)).2.1
            have d4 := (HT.out 1 (by rw [tr_length]; omega)).1
            have d5 := hown.frozenAt 4
            rw [tr_at g4, show rhi (reg s 0) = 16 from by simp [reg, rhi]] at d1
            rw [tr_at g5] at d4
            clear hown
            go_wp2_with fail
            refine (new_no g 0 c (TO s k) k (to_length s k) (by omega) (by omega) (to_w HSb.out.1 HSb.out.2 (by have := hk20.out; omega) g5) (to_may HS3.out (by omega) (by omega)) _ (to_tab HT.out g5)).mono ?_
            rintro e w3 ⟨rfl, hb3⟩
            have HB3 := Lib.hid ((HB.out.setCell (p := ⟨g, 4, none⟩) hgb (.int .u64 8)).trans (hb3.mono (by simpa [World.setCell] using HB.out.size)))
            have HT3 := Lib.hid ((to_tab HT.out g5).below hb3)
            clear hb3 d1 d4 d5
            go_wp2_with fail
            refine (may_some g 0 c (TO s k) k (to_length s k) (by omega) (by omega) (to_w HSb.out.1 HSb.out.2 (by have := hk20.out; omega) g5) _ HT3.out).mono ?_
            rw [to_may HS3.out (by omega) (by omega)]
            rintro e w4 ⟨rfl, hb4⟩
            have HB4 := Lib.hid (HB3.out.trans (hb4.mono HB3.out.size))
            clear hb4
            go_wp2
            go_ret
            exact ⟨rfl, HB4.out⟩
          · have hcase : a2 = false ∨ k = 1 := by
              cases a2
              · exact .inl rfl
              · refine .inr ?_
                rcases Nat.lt_or_ge 1 k with h | h
                · exact absurd ⟨rfl, h⟩ hov
                · omega
            clear hov hown
            rcases hcase with rfl | rfl
            · go_wp2_with fail
              refine (new_yes g 0 c (TR s k) k (tr_length s k) (tr_w HSb.out.1 HSb.out.2 (by have := hk20.out; omega)) (tr_may HS3.out (by omega) (by omega)) _ HT.out).mono ?_
              rintro e w3 ⟨m, tb, tc, hb, G, rfl, hI, hb3⟩
              have HB3 := Lib.hid (HB.out.trans (hb3.mono HB.out.size))
              have HT3 := Lib.hid (HT.out.below hb3)
              clear hb3 hI
              go_wp2_with fail
              refine (may_some g 0 c (TR s k) k (tr_length s k) (by omega) (by omega) (tr_w HSb.out.1 HSb.out.2 (by have := hk20.out; omega)) _ HT3.out).mono ?_
              rw [tr_may HS3.out (by omega) (by omega)]
              rintro e w4 ⟨rfl, hb4⟩
              have HB4 := Lib.hid (HB3.out.trans (hb4.mono HB3.out.size))
              clear hb4
              go_wp2
              go_ret
              exact ⟨rfl, HB4.out⟩
            · cases a2
              all_goals
                go_wp2_with fail
                refine (new_yes g 0 c (TR s 1) 1 (tr_length s 1) (tr_w HSb.out.1 HSb.out.2 (by omega)) (tr_may HS3.out (by omega) (by omega)) _ HT.out).mono ?_
                rintro e w3 ⟨m, tb, tc, hb, G, rfl, hI, hb3⟩
                have HB3 := Lib.hid (HB.out.trans (hb3.mono HB.out.size))
                have HT3 := Lib.hid (HT.out.below hb3)
                clear hb3 hI
                go_wp2_with fail
                refine (may_some g 0 c (TR s 1) 1 (tr_length s 1) (by omega) (by omega) (tr_w HSb.out.1 HSb.out.2 (by omega)) _ HT3.out).mono ?_
                rw [tr_may HS3.out (by omega) (by omega)]
                rintro e w4 ⟨rfl, hb4⟩
                have HB4 := Lib.hid (HB3.out.trans (hb4.mono HB3.out.size))
                clear hb4
                go_wp2
                go_ret
                exact ⟨rfl, HB4.out⟩
end Go.Proofs.Ytpfohbinjcdcbaa.MemRegionsWalk
