/- Layer 9: rows of rows of words that a call makes; Items. Condition: none. -/
import Derived.Test.YtbhdbglhejibbaaGreatDoorLexI
import Derived.Test.YtbhdbglhejibbaaGreatDoorShelf
namespace Go.Proofs.YtbhdbglhejibbaaGreatDoor
set_option maxRecDepth 100000
open Go.RowKit Go.Sort
set_option linter.unusedVariables false
def rwK (rs : List (List ByteArray)) (j : Nat) : List ByteArray := rs.getD j []
/-- rows of words that the call made, in a row that it made -/
def RowsV (B : Nat) (w : World) (rs : List (List ByteArray)) (v : Value) (vs : List Value) : Prop :=
  w.ownsRow B 38 1 v rs.length vs ∧ ∀ j, j < rs.length → ∃ A c, vs[j]? = some (.slice A (rwK rs j).length c) ∧ Own B w (rwK rs j) (.slice A (rwK rs j).length c)
def RowsOwn (B : Nat) (w : World) (rs : List (List ByteArray)) (v : Value) : Prop := ∃ vs, RowsV B w rs v vs
theorem RowsOwn.nil (B : Nat) (w : World) : RowsOwn B w [] (.slice none 0 0) := ⟨[], World.ownsRow_nil _ _ _ _, fun j hj => by simp at hj⟩
theorem RowsOwn.slice {B : Nat} {w : World} {rs : List (List ByteArray)} {v : Value} (h : RowsOwn B w rs v) : ∃ A c, v = .slice A rs.length c := by
  obtain ⟨vs, h1, h2⟩ := h
  rcases h1.2 with ⟨h3, h4⟩ | ⟨g, cap, cur, h3, _⟩
  · exact ⟨none, 0, by rw [h3, h4]⟩
  · exact ⟨_, _, h3⟩
theorem Own.below' {B : Nat} {w w' : World} {ws : List ByteArray} {v : Value} (h : Own B w ws v) (hb : Below w.heap.size w w') : Own B w' ws v := by
  refine ⟨h.1, ?_⟩
  rcases h.2 with h | ⟨g, cap, cur, h0, h1, h2, h3⟩
  · exact .inl h
  · exact .inr ⟨g, cap, cur, h0, h1, (hb.block g (Array.getElem?_eq_some_iff.1 h2).1).trans h2, h3⟩
theorem row_below {B : Nat} {w w' : World} {e : TypeId} {v : Value} {n : Nat} {vs : List Value} (h : w.ownsRow B e 1 v n vs) (hb : Below w.heap.size w w') : w'.ownsRow B e 1 v n vs := by
  refine ⟨h.1, ?_⟩
  rcases h.2 with h | ⟨g, cap, cur, h0, h1, h2, h3⟩
  · exact .inl h
  · exact .inr ⟨g, cap, cur, h0, h1, (hb.block g (Array.getElem?_eq_some_iff.1 h2).1).trans h2, h3⟩
theorem RowsV.below {B : Nat} {w w' : World} {rs : List (List ByteArray)} {v : Value} {vs : List Value} (h : RowsV B w rs v vs) (hb : Below w.heap.size w w') : RowsV B w' rs v vs :=
  ⟨row_below h.1 hb, fun j hj => by obtain ⟨A, c, h1, h2⟩ := h.2 j hj; exact ⟨A, c, h1, h2.below' hb⟩⟩
/-- a row of words stays where a row of rows is written on -/
theorem Own.apart {B : Nat} {w w' : World} {ws : List ByteArray} {v u : Value} {n : Nat} {vs : List Value} (h : Own B w ws v) (hu : w.ownsRow B 38 1 u n vs) (hg : w.grownBy w' u.ownBlock) : Own B w' ws v := by
  refine ⟨h.1, ?_⟩
  rcases h.2 with h | ⟨g, cap, cur, h0, h1, h2, h3⟩
  · exact .inl h
  · refine .inr ⟨g, cap, cur, h0, h1, (hg.block g (Array.getElem?_eq_some_iff.1 h2).1 (fun e => ?_)).trans h2, h3⟩
    rcases hu.2 with ⟨h4, _⟩ | ⟨g', cap', cur', h4, _, h5, _⟩
    · rw [h4] at e; cases e
    · rw [h4] at e
      have e' : g = g' := by simpa [Value.ownBlock] using e
      subst e'
      rw [h2] at h5
      simp at h5
theorem RowsV.push {B : Nat} {w w' : World} {rs : List (List ByteArray)} {u v' : Value} {vs : List Value} {row : List ByteArray} {A : Option Addr} {c : Nat} (h : RowsV B w rs u vs) (ho : Own B w row (.slice A row.length c))
    (hr : w'.ownsRow B 38 1 v' (rs.length + 1) (vs ++ [.slice A row.length c])) (hg : w.grownBy w' u.ownBlock) : RowsV B w' (rs ++ [row]) v' (vs ++ [.slice A row.length c]) := by
  have hl : vs.length = rs.length := by have := h.1.1; simpa using this
  refine ⟨by rw [List.length_append]; exact hr, fun j hj => ?_⟩
  by_cases hj' : j < rs.length
  · obtain ⟨A1, c1, h1, h2⟩ := h.2 j hj'
    have e : rwK (rs ++ [row]) j = rwK rs j := by unfold rwK; rw [List.getD, List.getD, List.getElem?_append_left hj']
    rw [e]
    exact ⟨A1, c1, by rw [List.getElem?_append_left (by omega)]; exact h1, h2.apart h.1 hg⟩
  · have hj2 : j = rs.length := by simp at hj; omega
    have e : rwK (rs ++ [row]) j = row := by unfold rwK; subst hj2; simp [List.getD]
    rw [e]
    exact ⟨A, c, by rw [List.getElem?_append_right (by omega), hj2, hl]; simp, ho.apart h.1 hg⟩
theorem info_rowL : (Tryz.prog.info? 38).map (fun i => (i.zero, i.size, i.bytes)) = some (some (.slice none 0 0), 1, 24) := by kernel_rfl
/-- words in parts: what is left, how many are open, the part under way -/
def itmP : List ByteArray → Int → List ByteArray → List (List ByteArray)
  | [], _, _ => []
  | s :: l, p, cur => if p + opnW s = 0 then (cur ++ [s]) :: itmP l 0 [] else itmP l (p + opnW s) (cur ++ [s])
def ItemsE (l : List ByteArray) (w : World) (e : Ending) (w' : World) : Prop := Below w.heap.size w w' ∧ ((nstB l = false ∧ e = .returned (.tuple #[.slice none 0 0, .int .i64 3])) ∨ (nstB l = true ∧ ∃ A c, e = .returned (.tuple #[.slice A (itmP l 0 []).length c, .int .i64 0]) ∧ RowsOwn w.heap.size w' (itmP l 0 []) (.slice A (itmP l 0 []).length c)))
theorem clone_any (zs : List ByteArray) (b o n c : Nat) (w : World) (hn : zs.length = n) (hmx : n ≤ 1000000000) (hc : ∀ k, k < n → w.cell? ⟨b, o + k, none⟩ = some (.string (wdK zs k))) :
    Calls Tryz.prog 90 #[.slice (some ⟨b, o, none⟩) n c] w fun e w' => ∃ v', e = .returned v' ∧ Own w.heap.size w' zs v' ∧ Below w.heap.size w w' := by
  refine (calls_of_every_depth fun D => AnyS.slices_Clone_string_in Tryz.laysClone D b o n c zs w (by omega) (by omega) (fun j hj => hc j (by omega))).mono ?_
  rintro e w' ⟨v', h1, h2, _, h3⟩
  refine ⟨v', h1, ?_, h3⟩
  unfold Own
  rw [hn]
  rw [← hn, List.take_length, hn] at h2
  exact h2
theorem cur_wd (l : List ByteArray) (b k j : Nat) (hj : j < k + 1 - b) (hk : k < l.length) : wdK ((l.drop b).take (k + 1 - b)) j = wdK l (b + j) := by
  unfold wdK
  simp [List.getD, hj, List.getElem?_drop]
theorem curW_snoc (l : List ByteArray) (b k : Nat) (hb : b ≤ k) (hk : k < l.length) : (l.drop b).take (k + 1 - b) = (l.drop b).take (k - b) ++ [wdK l k] := by
  have e : k + 1 - b = (k - b) + 1 := by omega
  have h : k - b < (l.drop b).length := by rw [List.length_drop]; omega
  rw [e, List.take_succ_eq_append_getElem h]
  congr 2
  rw [List.getElem_drop]
  unfold wdK
  have e2 : b + (k - b) = k := by omega
  simp only [e2]
  simp [hk]
set_option maxHeartbeats 4000000 in
theorem items_any (l : List ByteArray) (A : Option Addr) (n c : Nat) (hn : l.length = n) (hnc : n ≤ c) (hmx : n ≤ 1000000) (hcx : c ≤ 9223372036854775807) (w : World) (hA : WdAt w A l) :
    Calls Tryz.prog 57 #[.slice A n c] w (ItemsE l w) := by
  have HN := Lib.hid (nested_any l A n c hn (by omega) w hA)
  cases hb : nstB l
  case false =>
    have HR := Lib.hid (show ItemsE l w (.returned (.tuple #[.slice none 0 0, .int .i64 3])) w from ⟨Below.refl _ _, .inl ⟨hb, rfl⟩⟩)
    rw [hb] at HN
    clear hb hA hn
    go_enter Tryz.func57, Tryz.ntmps57
    go_wp2_with fail
    refine HN.out.mono ?_
    rintro e w2 ⟨rfl, rfl⟩
    go_wp2
    go_ret2
    exact HR.out
  case true =>
    have HT := Lib.hid hb
    have HL := Lib.hid hn
    have HA := Lib.hid hA
    rw [hb] at HN
    obtain ⟨i0, hi0, hz0, hz1, hz2⟩ := info_parts info_rowL
    clear hb hA hn
    go_enter Tryz.func57, Tryz.ntmps57
    go_wp2_with fail
    refine HN.out.mono ?_
    rintro e w2 ⟨rfl, rfl⟩
    go_wp2
    go_loopw [4, 5, 6, 14] (fun v4 v5 v6 v14 wr => ∃ (k b : Nat) (p : Int) (rs : List (List ByteArray)), k ≤ n ∧ b ≤ k ∧ -(k : Int) ≤ p ∧ p ≤ (k : Int) ∧ rs.length ≤ k ∧ v14 = .int .i64 k ∧ v5 = .int .i64 b ∧ v6 = .int .i64 p ∧ Hid (rs ++ itmP (l.drop k) p ((l.drop b).take (k - b)) = itmP l 0 []) ∧ Hid (RowsOwn w.heap.size wr rs v4) ∧ Hid (Below w.heap.size w wr)) (fun _ _ _ v14 _ => n - (intOf v14).toNat)
    case atStart => exact ⟨0, 0, 0, [], by omega, by omega, by omega, by omega, by simp, rfl, rfl, rfl, Lib.hid (by simp), Lib.hid (RowsOwn.nil _ _), Lib.hid (Below.refl _ _)⟩
    case round =>
      obtain ⟨k, b, p, rs, hk, hbk, hp0, hp1, hrk, rfl, rfl, rfl, HI, HO, HB⟩ := hrel
      have hk0 : (0 : Int) ≤ (k : Int) := by omega
      by_cases hlt : k < n
      · have hkl : k < l.length := by rw [HL.out]; exact hlt
        rcases HA.out with h0 | ⟨ba, oa, rfl, hca⟩
        · rw [h0] at hkl; simp at hkl
        have hq := opnW_bd (wdK l k)
        have hcell := cell_below (hca k hkl) HB.out
        have HC := Lib.hid (fun j (hj : j < l.length) => cell_below (hca j hj) HB.out)
        have HSn := Lib.hid (curW_snoc l b k hbk hkl)
        have HSt := Lib.hid (show itmP (l.drop k) p ((l.drop b).take (k - b)) = if p + opnW (wdK l k) = 0 then ((l.drop b).take (k + 1 - b)) :: itmP (l.drop (k + 1)) 0 [] else itmP (l.drop (k + 1)) (p + opnW (wdK l k)) ((l.drop b).take (k + 1 - b)) from by rw [curW_snoc l b k hbk hkl, drop_wd hkl]; rfl)
        have HKl := Lib.hid hkl
        clear hca hkl
        obtain ⟨q, hq'⟩ : ∃ q, q = opnW (wdK l k) := ⟨_, rfl⟩
        have HQ := Lib.hid hq'
        rw [← hq'] at hq HSt
        clear hq'
        by_cases hz : p + q = 0
        · have hzb : (p + q == 0) = true := by rw [hz]; rfl
          have hkn : (k : Int) + 1 ≤ (c : Int) := by omega
          have hbk' : (b : Int) ≤ (k : Int) := by omega
          obtain ⟨row, hrow⟩ : ∃ row, row = (l.drop b).take (k + 1 - b) := ⟨_, rfl⟩
          have HRl := Lib.hid (show row.length = k + 1 - b from by rw [hrow, List.length_take, List.length_drop]; have := HKl.out; omega)
          have HN2 := Lib.hid (show (rs ++ [row]) ++ itmP (l.drop (k + 1)) 0 [] = itmP l 0 [] from by rw [← HI.out, HSt.out, if_pos hz, hrow, List.append_assoc]; rfl)
          have HCl := Lib.hid (clone_any row ba (oa + b) (k + 1 - b) (c - b) wr HRl.out (by omega) (fun j hj => by
            have h := HC.out (b + j) (by have := HKl.out; omega)
            rw [hrow, cur_wd l b k j hj HKl.out, Nat.add_assoc]; exact h))
          have HZ := Lib.hid hz
          clear hrow HSt hz HSn
          go_wp2_with (go_at_call 80; refine (opens_any _ _).mono ?_; rintro e w' ⟨rfl, rfl⟩; rw [← HQ.out])
          refine HCl.out.mono ?_
          rintro e w3 ⟨v3, rfl, ho3, hb3⟩
          obtain ⟨A3, c3, rfl⟩ := ho3.slice
          have HO3 := Lib.hid (ho3.base HB.out.size)
          have HB3 := Lib.hid (HB.out.trans (hb3.mono HB.out.size))
          obtain ⟨vs, hvs⟩ := HO.out
          have HV3 := Lib.hid (hvs.below hb3)
          clear ho3 hb3 hvs HCl HQ
          have HOa := Lib.hid (World.ownsRow.alloc HV3.out.1 (.cells #[.slice A3 row.length c3] 38))
          have HNc := Lib.hid (new_cellL w3 (.slice A3 row.length c3) 38)
          have H1 := Lib.hid (show ∀ u ∈ [Value.slice A3 row.length c3], u.oneCell' = true from fun u hu => by simp only [List.mem_singleton] at hu; subst hu; rfl)
          have HM := Lib.hid (show rs.length + 1 ≤ maxLen from by unfold maxLen; omega)
          have HY := Lib.hid (show (rs.length + 1) * 24 ≤ 140737488355328 from by omega)
          have HBa := Lib.hid (show w.heap.size ≤ (w3.alloc (.cells #[.slice A3 row.length c3] 38)).heap.size from by have := HB3.out.size; simp; omega)
          go_wp2_with (at_builtin; (refine wpList_append_at9 rfl _ _ 122 rfl w.heap.size 38 i0 (.slice none 0 0) 1 24 Tryz.underlying122 hi0 hz0 hz1 hz2 rfl (by decide) u4 rs.length vs ?hs HOa.out ⟨w3.heap.size, 0, none⟩ 1 1 [.slice A3 row.length c3] ?hx rfl HNc.out H1.out HM.out HY.out HBa.out ?_; (case hs => rfl); (case hx => rfl); intro v7 w7 hr7 hg7 hv7))
          have hg8 := grown_alloc hg7 (fun g h => (World.ownsRow.lt HV3.out.1 g h).2)
          have HV7 := Lib.hid (show RowsOwn w.heap.size w7 (rs ++ [row]) v7 from ⟨_, HV3.out.push HO3.out hr7 hg8⟩)
          have HB7 := Lib.hid (HB3.out.grown hg8 HB3.out.size (fun g h => (World.ownsRow.lt HV3.out.1 g h).1))
          clear hr7 hg7 hv7 hg8
          go_wp2
          go_roundw
          case rel => exact ⟨k + 1, k + 1, 0, rs ++ [row], by omega, by omega, by omega, by omega, by simp; omega, by go_num, by go_num, by rw [HZ.out], Lib.hid (by rw [← HN2.out]; simp), HV7, HB7⟩
          case measure => simp [intOf]; omega
        · have hzb : (p + q == 0) = false := by simpa using hz
          have HN2 := Lib.hid (show rs ++ itmP (l.drop (k + 1)) (p + q) ((l.drop b).take (k + 1 - b)) = itmP l 0 [] from by rw [← HI.out, HSt.out, if_neg hz])
          clear HSt hz
          go_wp2_with (go_at_call 80; refine (opens_any _ _).mono ?_; rintro e w' ⟨rfl, rfl⟩; rw [← HQ.out])
          go_roundw
          case rel => exact ⟨k + 1, b, p + q, rs, by omega, by omega, by omega, by omega, by omega, by go_num, rfl, rfl, HN2, HO, HB⟩
          case measure => simp [intOf]; omega
      · have HE := Lib.hid (show rs = itmP l 0 [] from by rw [← HI.out, List.drop_eq_nil_of_le (by rw [HL.out]; omega)]; simp [itmP])
        obtain ⟨A4, c4, rfl⟩ := HO.out.slice
        have HR := Lib.hid (show ItemsE l w (.returned (.tuple #[.slice A4 rs.length c4, .int .i64 0])) wr from ⟨HB.out, .inr ⟨HT.out, A4, c4, by rw [← HE.out], by rw [← HE.out]; exact HO.out⟩⟩)
        go_wp2
        go_ret2
        exact HR.out
end Go.Proofs.YtbhdbglhejibbaaGreatDoor
