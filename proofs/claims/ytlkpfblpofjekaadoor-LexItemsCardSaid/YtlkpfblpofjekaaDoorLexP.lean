/- Layer 9: the reference's Items. No condition. -/
import Derived.Test.YtlkpfblpofjekaaDoorLexO
namespace Go.Proofs.YtlkpfblpofjekaaDoor
set_option maxRecDepth 100000
open Go.RowKit Go.Sort
set_option linter.unusedVariables false
/-- all blocks of the rows lie below -/
def RowsB (B1 : Nat) (vs : List Value) : Prop := ∀ v ∈ vs, ∀ g, v.ownBlock = some g → g < B1
theorem RowsV.keep {B B1 : Nat} {w w' : World} {rs : List (List ByteArray)} {u v : Value} {vs : List Value} {cur : List ByteArray} (h : RowsV B w rs u vs) (hb : RowsB B1 vs) (hi : Own B1 w cur v) (hg : w.grownBy w' v.ownBlock) : RowsV B w' rs u vs := by
  refine ⟨⟨h.1.1, ?_⟩, fun j hj => ?_⟩
  · rcases h.1.2 with h1 | ⟨g, cap, c, h0, h1, h2, h3⟩
    · exact .inl h1
    · refine .inr ⟨g, cap, c, h0, h1, (hg.block g (Array.getElem?_eq_some_iff.1 h2).1 (fun e => ?_)).trans h2, h3⟩
      rcases hi.2 with ⟨h4, _⟩ | ⟨g', cap', cur', h4, _, h5, _⟩
      · rw [h4] at e; cases e
      · rw [h4] at e
        have e' : g = g' := by simpa [Value.ownBlock] using e
        subst e'
        rw [h2] at h5
        simp at h5
  · obtain ⟨A, c, h1, h2⟩ := h.2 j hj
    refine ⟨A, c, h1, h2.kept fun g hgb => hg.block g (h2.lt g hgb).2 (fun e => ?_)⟩
    have h3 := hb _ (List.mem_of_getElem? h1) g hgb
    have h4 := (hi.lt g e.symm).1
    omega
theorem RowsB.push {B1 B2 : Nat} {vs : List Value} {v : Value} (h : RowsB B1 vs) (hb : B1 ≤ B2) (hv : ∀ g, v.ownBlock = some g → g < B2) : RowsB B2 (vs ++ [v]) := by
  intro x hx g hg
  rcases List.mem_append.1 hx with hx | hx
  · exact Nat.lt_of_lt_of_le (h x hx g hg) hb
  · rw [List.mem_singleton] at hx; subst hx; exact hv g hg
theorem flat_items (l : List ByteArray) : ∀ (p : Int) (cur : List ByteArray), nstP l p = some 0 → (p = 0 → cur = []) → (itmP l p cur).flatten = cur ++ l := by
  induction l with
  | nil =>
    intro p cur h h0
    simp [nstP] at h
    rw [h0 h]; rfl
  | cons s l ih =>
    intro p cur h h0
    unfold nstP at h
    split at h
    · cases h
    · unfold itmP
      split
      · rename_i hz
        rw [hz] at h
        rw [List.flatten_cons, ih 0 [] h (fun _ => rfl)]
        simp
      · rename_i hz
        rw [ih _ _ h (fun e => absurd e hz)]
        simp
set_option maxHeartbeats 8000000 in
theorem ritems_any (l : List ByteArray) (A : Option Addr) (n c : Nat) (hn : l.length = n) (hmx : n ≤ 1000000) (w : World) (hA : WdAt w A l) :
    Calls Tryd.prog 14 #[.slice A n c] w (ItemsE l w) := by
  have HN := Lib.hid (rnested_any l A n c hn (by omega) w hA)
  cases hb : nstB l
  case false =>
    have HR := Lib.hid (show ItemsE l w (.returned (.tuple #[.slice none 0 0, .int .i64 3])) w from ⟨Below.refl _ _, .inl ⟨hb, rfl⟩⟩)
    rw [hb] at HN
    clear hb hA hn
    go_enter Tryd.func14, Tryd.ntmps14
    go_wp2_with fail
    refine HN.out.mono ?_
    rintro e w2 ⟨rfl, rfl⟩
    go_wp2
    go_ret2
    exact HR.out
  case true =>
    have HT := Lib.hid hb
    have HL := Lib.hid hn
    have HA := Lib.hid hA
    rw [hb] at HN
    obtain ⟨i0, hi0, hz0, hz1, hz2⟩ := info_parts info_rowL
    obtain ⟨i1, hi1, hy0, hy1, hy2⟩ := info_parts info_strL
    clear hb hA hn
    go_enter Tryd.func14, Tryd.ntmps14
    go_wp2_with fail
    refine HN.out.mono ?_
    rintro e w2 ⟨rfl, rfl⟩
    go_wp2
    go_loopw [4, 5, 6, 7] (fun v4 v5 v6 v7 wr => ∃ (k B1 : Nat) (p : Int) (rs : List (List ByteArray)) (cur : List ByteArray) (vs : List Value), k ≤ n ∧ -(k : Int) ≤ p ∧ p ≤ (k : Int) ∧ rs.length ≤ k ∧ cur.length ≤ k ∧ v7 = .int .i64 k ∧ v6 = .int .i64 p ∧ Hid (rs ++ itmP (l.drop k) p cur = itmP l 0 []) ∧ Hid (RowsV w.heap.size wr rs v4 vs) ∧ Hid (RowsB B1 vs) ∧ Hid (Own B1 wr cur v5) ∧ Hid (Below w.heap.size w wr) ∧ Hid (w.heap.size ≤ B1 ∧ B1 ≤ wr.heap.size)) (fun _ _ _ v7 _ => n - (intOf v7).toNat)
    case atStart => exact ⟨0, w.heap.size, 0, [], [], [], by omega, by omega, by omega, by simp, by simp, rfl, rfl, Lib.hid (by simp), Lib.hid ⟨World.ownsRow_nil _ _ _ _, fun j hj => by simp at hj⟩, Lib.hid (fun v hv => by simp at hv), Lib.hid (Own.nil _ _), Lib.hid (Below.refl _ _), Lib.hid ⟨Nat.le_refl _, Nat.le_refl _⟩⟩
    case round =>
      obtain ⟨k, B1, p, rs, cur, vs, hk, hp0, hp1, hrk, hck, rfl, rfl, HI, HV, HRB, HO, HB, HBs⟩ := hrel
      have hk0 : (0 : Int) ≤ (k : Int) := by omega
      by_cases hlt : k < n
      · have hkl : k < l.length := by rw [HL.out]; exact hlt
        rcases HA.out with h0 | ⟨ba, oa, rfl, hca⟩
        · rw [h0] at hkl; simp at hkl
        have hcell := cell_below (hca k hkl) HB.out
        have HSt := Lib.hid (show itmP (l.drop k) p cur = if p + opnW (wdK l k) = 0 then (cur ++ [wdK l k]) :: itmP (l.drop (k + 1)) 0 [] else itmP (l.drop (k + 1)) (p + opnW (wdK l k)) (cur ++ [wdK l k]) from by rw [drop_wd hkl]; rfl)
        have HOc := Lib.hid (fun w9 (hb : Below w.heap.size w w9) => cell_below (hca k hkl) hb)
        clear hca hkl
        generalize wdK l k = s at *
        have HOa := Lib.hid (World.ownsRow.alloc HO.out (.cells #[.string s] 9))
        have HNc := Lib.hid (new_cell wr (.string s) 9)
        have HM := Lib.hid (show cur.length + 1 ≤ maxLen from by unfold maxLen; omega)
        have HY := Lib.hid (show (cur.length + 1) * 16 ≤ 140737488355328 from by omega)
        have HBa := Lib.hid (show B1 ≤ (wr.alloc (.cells #[.string s] 9)).heap.size from by have := HBs.out.2; simp; omega)
        have H1 := Lib.hid (one_s s)
        go_upto_region 10 with (at_builtin; (refine wpList_append_at9 rfl _ _ 28 rfl B1 9 i1 (.string ⟨#[]⟩) 1 16 Tryd.underlying28 hi1 hy0 hy1 hy2 rfl (by decide) u5 cur.length (cur.map Value.string) ?hs HOa.out ⟨wr.heap.size, 0, none⟩ 1 1 [.string s] ?hx rfl HNc.out H1.out HM.out HY.out HBa.out ?_; (case hs => rfl); (case hx => rfl); intro v7 w7 hr7 hg7 hv7))
        have hg8 := grown_alloc hg7 (fun g h => (HO.out.lt g h).2)
        have HV7 := Lib.hid (HV.out.keep HRB.out HO.out hg8)
        have HB7 := Lib.hid (HB.out.grown hg8 HB.out.size (fun g h => Nat.le_trans HBs.out.1 (HO.out.lt g h).1))
        have HBs7 := Lib.hid (show w.heap.size ≤ B1 ∧ B1 ≤ w7.heap.size from ⟨HBs.out.1, Nat.le_trans HBs.out.2 hg8.size⟩)
        have hO7 : Own B1 w7 (cur ++ [s]) v7 := by unfold Own; rw [List.length_append, List.map_append]; exact hr7
        obtain ⟨row, hrow⟩ : ∃ row, row = cur ++ [s] := ⟨_, rfl⟩
        have HRl := Lib.hid (show row.length ≤ k + 1 from by rw [hrow]; simp; omega)
        rw [← hrow] at hO7 HSt
        obtain ⟨A7, c7, rfl⟩ := hO7.slice
        have HO7 := Lib.hid hO7
        have hcell7 := HOc.out w7 HB7.out
        clear hg7 hr7 hv7 hg8 hO7 hrow hcell HOa HNc HM HY HBa H1 HV HB HBs HO HOc
        rcases opn_cases s with ⟨h1, h2⟩ | ⟨h1, h2⟩ | ⟨h1, h3, h2⟩
        · have t1 := tl_eq s _ h1
          have t2 := tl_ne s [41] (by rw [h1]; simp)
          have HSp := Lib.hid (show itmP (l.drop k) p cur = if p + 1 = 0 then row :: itmP (l.drop (k + 1)) 0 [] else itmP (l.drop (k + 1)) (p + 1) row from by rw [HSt.out, h2])
          clear h1 h2 HSt
          by_cases hz : p + 1 = 0
          · have hzb : (p + 1 == 0) = true := by rw [hz]; rfl
            have HN2 := Lib.hid (show (rs ++ [row]) ++ itmP (l.drop (k + 1)) 0 [] = itmP l 0 [] from by rw [← HI.out, HSp.out, if_pos hz, List.append_assoc]; rfl)
            have HZ := Lib.hid hz
            have HOa := Lib.hid (World.ownsRow.alloc HV7.out.1 (.cells #[.slice A7 row.length c7] 28))
            have HNc := Lib.hid (new_cell w7 (.slice A7 row.length c7) 28)
            have H1 := Lib.hid (show ∀ u ∈ [Value.slice A7 row.length c7], u.oneCell' = true from fun u hu => by simp only [List.mem_singleton] at hu; subst hu; rfl)
            have HM := Lib.hid (show rs.length + 1 ≤ maxLen from by unfold maxLen; omega)
            have HY := Lib.hid (show (rs.length + 1) * 24 ≤ 140737488355328 from by omega)
            have HBa := Lib.hid (show w.heap.size ≤ (w7.alloc (.cells #[.slice A7 row.length c7] 28)).heap.size from by have := HB7.out.size; simp; omega)
            clear hz
            go_wp2_with (at_builtin; (refine wpList_append_at9 rfl _ _ 29 rfl w.heap.size 28 i0 (.slice none 0 0) 1 24 Tryd.underlying29 hi0 hz0 hz1 hz2 rfl (by decide) u4 rs.length vs ?hs HOa.out ⟨w7.heap.size, 0, none⟩ 1 1 [.slice A7 row.length c7] ?hx rfl HNc.out H1.out HM.out HY.out HBa.out ?_; (case hs => rfl); (case hx => rfl); intro v9 w9 hr9 hg9 hv9))
            have hg10 := grown_alloc hg9 (fun g h => (World.ownsRow.lt HV7.out.1 g h).2)
            have HV9 := Lib.hid (HV7.out.push (HO7.out.base HBs7.out.1) hr9 hg10)
            have HB9 := Lib.hid (HB7.out.grown hg10 HB7.out.size (fun g h => (World.ownsRow.lt HV7.out.1 g h).1))
            have HRB9 := Lib.hid (show RowsB w9.heap.size (vs ++ [.slice A7 row.length c7]) from RowsB.push HRB.out (Nat.le_trans HBs7.out.2 hg10.size) (fun g h => Nat.lt_of_lt_of_le (HO7.out.lt g h).2 hg10.size))
            clear hr9 hg9 hv9 hg10
            go_wp2
            go_roundw
            case rel => exact ⟨k + 1, w9.heap.size, 0, rs ++ [row], [], _, by omega, by omega, by omega, by simp; omega, by simp, by go_num, by rw [HZ.out], HN2, HV9, HRB9, Lib.hid (Own.nil _ _), HB9, Lib.hid ⟨HB9.out.size, Nat.le_refl _⟩⟩
            case measure => simp [intOf]; omega
          · have hzb : (p + 1 == 0) = false := by simpa using hz
            have HN2 := Lib.hid (show rs ++ itmP (l.drop (k + 1)) (p + 1) row = itmP l 0 [] from by rw [← HI.out, HSp.out, if_neg hz])
            clear hz
            go_wp2
            go_roundw
            case rel => exact ⟨k + 1, B1, p + 1, rs, row, vs, by omega, by omega, by omega, by omega, HRl.out, by go_num, rfl, HN2, HV7, HRB, HO7, HB7, HBs7⟩
            case measure => simp [intOf]; omega
        · have t1 := tl_ne s [40] (by rw [h1]; simp)
          have t2 := tl_eq s _ h1
          have HSp := Lib.hid (show itmP (l.drop k) p cur = if p - 1 = 0 then row :: itmP (l.drop (k + 1)) 0 [] else itmP (l.drop (k + 1)) (p - 1) row from by rw [HSt.out, h2]; rfl)
          clear h1 h2 HSt
          by_cases hz : p - 1 = 0
          · have hzb : (p - 1 == 0) = true := by rw [hz]; rfl
            have HN2 := Lib.hid (show (rs ++ [row]) ++ itmP (l.drop (k + 1)) 0 [] = itmP l 0 [] from by rw [← HI.out, HSp.out, if_pos hz, List.append_assoc]; rfl)
            have HZ := Lib.hid hz
            have HOa := Lib.hid (World.ownsRow.alloc HV7.out.1 (.cells #[.slice A7 row.length c7] 28))
            have HNc := Lib.hid (new_cell w7 (.slice A7 row.length c7) 28)
            have H1 := Lib.hid (show ∀ u ∈ [Value.slice A7 row.length c7], u.oneCell' = true from fun u hu => by simp only [List.mem_singleton] at hu; subst hu; rfl)
            have HM := Lib.hid (show rs.length + 1 ≤ maxLen from by unfold maxLen; omega)
            have HY := Lib.hid (show (rs.length + 1) * 24 ≤ 140737488355328 from by omega)
            have HBa := Lib.hid (show w.heap.size ≤ (w7.alloc (.cells #[.slice A7 row.length c7] 28)).heap.size from by have := HB7.out.size; simp; omega)
            clear hz
            go_wp2_with (at_builtin; (refine wpList_append_at9 rfl _ _ 29 rfl w.heap.size 28 i0 (.slice none 0 0) 1 24 Tryd.underlying29 hi0 hz0 hz1 hz2 rfl (by decide) u4 rs.length vs ?hs HOa.out ⟨w7.heap.size, 0, none⟩ 1 1 [.slice A7 row.length c7] ?hx rfl HNc.out H1.out HM.out HY.out HBa.out ?_; (case hs => rfl); (case hx => rfl); intro v9 w9 hr9 hg9 hv9))
            have hg10 := grown_alloc hg9 (fun g h => (World.ownsRow.lt HV7.out.1 g h).2)
            have HV9 := Lib.hid (HV7.out.push (HO7.out.base HBs7.out.1) hr9 hg10)
            have HB9 := Lib.hid (HB7.out.grown hg10 HB7.out.size (fun g h => (World.ownsRow.lt HV7.out.1 g h).1))
            have HRB9 := Lib.hid (show RowsB w9.heap.size (vs ++ [.slice A7 row.length c7]) from RowsB.push HRB.out (Nat.le_trans HBs7.out.2 hg10.size) (fun g h => Nat.lt_of_lt_of_le (HO7.out.lt g h).2 hg10.size))
            clear hr9 hg9 hv9 hg10
            go_wp2
            go_roundw
            case rel => exact ⟨k + 1, w9.heap.size, 0, rs ++ [row], [], _, by omega, by omega, by omega, by simp; omega, by simp, by go_num, by rw [HZ.out], HN2, HV9, HRB9, Lib.hid (Own.nil _ _), HB9, Lib.hid ⟨HB9.out.size, Nat.le_refl _⟩⟩
            case measure => simp [intOf]; omega
          · have hzb : (p - 1 == 0) = false := by simpa using hz
            have HN2 := Lib.hid (show rs ++ itmP (l.drop (k + 1)) (p - 1) row = itmP l 0 [] from by rw [← HI.out, HSp.out, if_neg hz])
            clear hz
            go_wp2
            go_roundw
            case rel => exact ⟨k + 1, B1, p - 1, rs, row, vs, by omega, by omega, by omega, by omega, HRl.out, by go_num, rfl, HN2, HV7, HRB, HO7, HB7, HBs7⟩
            case measure => simp [intOf]; omega
        · have t1 := tl_ne s [40] h1
          have t2 := tl_ne s [41] h3
          have HSp := Lib.hid (show itmP (l.drop k) p cur = if p = 0 then row :: itmP (l.drop (k + 1)) 0 [] else itmP (l.drop (k + 1)) (p) row from by rw [HSt.out, h2, Int.add_zero])
          clear h1 h2 h3 HSt
          by_cases hz : p = 0
          · have hzb : (p == 0) = true := by rw [hz]; rfl
            have HN2 := Lib.hid (show (rs ++ [row]) ++ itmP (l.drop (k + 1)) 0 [] = itmP l 0 [] from by rw [← HI.out, HSp.out, if_pos hz, List.append_assoc]; rfl)
            have HZ := Lib.hid hz
            have HOa := Lib.hid (World.ownsRow.alloc HV7.out.1 (.cells #[.slice A7 row.length c7] 28))
            have HNc := Lib.hid (new_cell w7 (.slice A7 row.length c7) 28)
            have H1 := Lib.hid (show ∀ u ∈ [Value.slice A7 row.length c7], u.oneCell' = true from fun u hu => by simp only [List.mem_singleton] at hu; subst hu; rfl)
            have HM := Lib.hid (show rs.length + 1 ≤ maxLen from by unfold maxLen; omega)
            have HY := Lib.hid (show (rs.length + 1) * 24 ≤ 140737488355328 from by omega)
            have HBa := Lib.hid (show w.heap.size ≤ (w7.alloc (.cells #[.slice A7 row.length c7] 28)).heap.size from by have := HB7.out.size; simp; omega)
            clear hz
            go_wp2_with (at_builtin; (refine wpList_append_at9 rfl _ _ 29 rfl w.heap.size 28 i0 (.slice none 0 0) 1 24 Tryd.underlying29 hi0 hz0 hz1 hz2 rfl (by decide) u4 rs.length vs ?hs HOa.out ⟨w7.heap.size, 0, none⟩ 1 1 [.slice A7 row.length c7] ?hx rfl HNc.out H1.out HM.out HY.out HBa.out ?_; (case hs => rfl); (case hx => rfl); intro v9 w9 hr9 hg9 hv9))
            have hg10 := grown_alloc hg9 (fun g h => (World.ownsRow.lt HV7.out.1 g h).2)
            have HV9 := Lib.hid (HV7.out.push (HO7.out.base HBs7.out.1) hr9 hg10)
            have HB9 := Lib.hid (HB7.out.grown hg10 HB7.out.size (fun g h => (World.ownsRow.lt HV7.out.1 g h).1))
            have HRB9 := Lib.hid (show RowsB w9.heap.size (vs ++ [.slice A7 row.length c7]) from RowsB.push HRB.out (Nat.le_trans HBs7.out.2 hg10.size) (fun g h => Nat.lt_of_lt_of_le (HO7.out.lt g h).2 hg10.size))
            clear hr9 hg9 hv9 hg10
            go_wp2
            go_roundw
            case rel => exact ⟨k + 1, w9.heap.size, 0, rs ++ [row], [], _, by omega, by omega, by omega, by simp; omega, by simp, by go_num, by rw [HZ.out], HN2, HV9, HRB9, Lib.hid (Own.nil _ _), HB9, Lib.hid ⟨HB9.out.size, Nat.le_refl _⟩⟩
            case measure => simp [intOf]; omega
          · have hzb : (p == 0) = false := by simpa using hz
            have HN2 := Lib.hid (show rs ++ itmP (l.drop (k + 1)) (p) row = itmP l 0 [] from by rw [← HI.out, HSp.out, if_neg hz])
            clear hz
            go_wp2
            go_roundw
            case rel => exact ⟨k + 1, B1, p, rs, row, vs, by omega, by omega, by omega, by omega, HRl.out, by go_num, rfl, HN2, HV7, HRB, HO7, HB7, HBs7⟩
            case measure => simp [intOf]; omega
      · have HE := Lib.hid (show rs = itmP l 0 [] from by rw [← HI.out, List.drop_eq_nil_of_le (by rw [HL.out]; omega)]; simp [itmP])
        obtain ⟨A4, c4, rfl⟩ := RowsOwn.slice ⟨_, HV.out⟩
        have HR := Lib.hid (show ItemsE l w (.returned (.tuple #[.slice A4 rs.length c4, .int .i64 0])) wr from ⟨HB.out, .inr ⟨HT.out, A4, c4, by rw [← HE.out], by rw [← HE.out]; exact ⟨_, HV.out⟩⟩⟩)
        go_wp2
        go_ret2
        exact HR.out
end Go.Proofs.YtlkpfblpofjekaaDoor
