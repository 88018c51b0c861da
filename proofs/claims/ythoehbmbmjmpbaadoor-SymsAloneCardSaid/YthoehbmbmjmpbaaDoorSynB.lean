/- Layer 7: Entries. Condition: the tables of package ins read as they should. -/
import Derived.Test.YthoehbmbmjmpbaaDoorSymS
import Derived.Test.YthoehbmbmjmpbaaDoorSynA
namespace Go.Proofs.YthoehbmbmjmpbaaDoor
set_option maxRecDepth 100000
open Go.RowKit Go.Maps
set_option linter.unusedVariables false
/-- what an entry's name means -/
def entD (l : List ObjD) (k : Nat) (e : EntD) : Int × Int := valD (bookM l) l.length (e.1, (k : Int))
def entL (l : List ObjD) : Nat → List (Int × Int)
  | 0 => []
  | k + 1 => entL l k ++ (nAt l k).ents.map (entD l k)
theorem entL_len (l : List ObjD) : ∀ k, k ≤ l.length → (entL l k).length = ((l.take k).map fun d => d.ents.length).sum
  | 0, _ => rfl
  | k + 1, hk => by
    rw [entL, List.length_append, entL_len l k (by omega), List.take_succ_eq_append_getElem (by omega), List.map_append, List.sum_append, nAt_get (by omega)]
    simp
theorem may_ents {l : List ObjD} (h : mayLs l = true) : ∀ k, k ≤ l.length → (entL l k).length ≤ k * 64
  | 0, _ => by simp [entL]
  | k + 1, hk => by
    have h1 := may_ents h k (by omega)
    have h2 : (nAt l k).ents.length ≤ 64 := by
      unfold mayLs at h
      simp only [Bool.and_eq_true, decide_eq_true_eq] at h
      have h3 := List.all_eq_true.1 h.2 (nAt l k) (nAt_mem (by omega))
      rw [mayO_eq] at h3
      simp only [Bool.and_eq_true] at h3
      exact (few_of h3.1.1).2.2.2.2
    rw [entL, List.length_append, List.length_map]
    omega
def EntA7 (l : List ObjD) (w : World) (e : Ending) (w' : World) : Prop := ∃ ds v, e = .returned v ∧ DefsAt w' w.heap.size ds v ∧ (okL l → ds = entL l l.length) ∧ (¬ okL l → ds = []) ∧ Below w.heap.size w w'
set_option maxHeartbeats 8000000 in
theorem entries_any (l : List ObjD) (hW : ∀ d ∈ l, ObjW d) (A : Option Addr) (n c lo hi : Nat) (hn : l.length = n) (hmx : n ≤ maxLen) (w : World) (hT : Tabs w) (hA : ObjsAt w lo hi l A) (hh : hi ≤ w.heap.size) :
    Calls Tryd.prog 17 #[.slice A n c] w (EntA7 l w) := by
  have HRi := Lib.hid (syms_right_any l hW A n c lo hi hn hmx w hT hA hh)
  have HW := Lib.hid hW
  have HN := Lib.hid hn
  have HA := Lib.hid hA
  have HH := Lib.hid hh
  obtain ⟨i0, hi0, hz0, hz1, hz2⟩ := info_parts info_def
  clear hW hn hA hh hT
  go_enter Tryd.func17, Tryd.ntmps17
  go_wp2_with fail
  refine HRi.out.mono ?_
  rintro e w1 ⟨bb, rfl, hbb, hb1⟩
  have HB1 := Lib.hid hb1
  have HA1 := Lib.hid (HA.out.below HH.out hb1)
  have HH1 := Lib.hid (Nat.le_trans HH.out hb1.size)
  cases bb
  case false =>
    have hno : ¬ okL l := fun h => by have := hbb.2 h; cases this
    have HR := Lib.hid (show EntA7 l w (.returned (.slice none 0 0)) w1 from ⟨[], _, rfl, ⟨none, 0, rfl, World.ownsRow_nil _ _ _ _⟩, fun h => absurd h hno, fun _ => rfl, hb1⟩)
    clear hbb hb1 hno
    go_wp2
    go_ret
    exact HR.out
  have hok := hbb.1 rfl
  have HOk := Lib.hid hok
  obtain ⟨hn16, hsS, hsR⟩ := may_sums hok.1
  have HMe := Lib.hid (may_ents hok.1)
  have hn16' : n ≤ 16 := by rw [← HN.out]; exact hn16
  have HWr := Lib.hid (write_every l HW.out A n c lo hi HN.out (by omega) (by omega) w1 HA1.out HH1.out)
  clear hbb hb1 hok hn16 hsS hsR
  go_wp2_with fail
  refine HWr.out.mono ?_
  rintro e w2 ⟨b, N, rfl, hwb, hk, hN, hb2⟩
  have HB2 := Lib.hid (HB1.out.trans (hb2.mono HB1.out.size))
  have HK2 := Lib.hid (show KnK w2 b N (bookM l) from by unfold bookM; rw [HN.out]; exact hk)
  have HBx := Lib.hid ((Below.refl w2.heap.size w2).alloc (Nat.le_refl _) (.cells #[.int .i64 n, .map (some b)] 78))
  have HX3 := Lib.hid (heap_alloc_new w2 (.cells #[.int .i64 n, .map (some b)] 78))
  have HB3 := Lib.hid (HB2.out.trans (HBx.out.mono HB2.out.size))
  have HK3 := Lib.hid (HK2.out.below HBx.out)
  have HBb := Lib.hid (show b < (w2.alloc (.cells #[.int .i64 n, .map (some b)] 78)).heap.size from Nat.lt_of_lt_of_le hk.lt HBx.out.size)
  have HKb := Lib.hid (show w2.heap.size < (w2.alloc (.cells #[.int .i64 n, .map (some b)] 78)).heap.size from (Array.getElem?_eq_some_iff.1 HX3.out).1)
  clear hk hwb hN hb2 HK2 HBx
  go_wp2
  generalize (w2.alloc (.cells #[.int .i64 n, .map (some b)] 78)) = w3 at *
  generalize w2.heap.size = kb at *
  obtain ⟨r0, hr0⟩ : ∃ r, r = w3.heap.size := ⟨_, rfl⟩
  have HR0 := Lib.hid hr0
  have HWz := Lib.hid (show w.heap.size ≤ r0 from by rw [hr0]; exact HB3.out.size)
  have HRr := Lib.hid (show r0 ≤ w3.heap.size from Nat.le_of_eq hr0)
  rw [← hr0] at HBb HKb
  clear hr0
  go_loopw [18, 3] (fun i v wr => ∃ (k : Nat) (ds : List (Int × Int)), k ≤ n ∧ i = .int .i64 k ∧ Hid (ds = entL l k) ∧ Hid (DefsAt wr r0 ds v) ∧ Hid (Below w.heap.size w wr) ∧ Hid (Below r0 w3 wr)) (fun i _ _ => n - (intOf i).toNat)
  case atStart => exact ⟨0, [], by omega, rfl, Lib.hid rfl, Lib.hid ⟨none, 0, rfl, World.ownsRow_nil _ _ _ _⟩, HB3, Lib.hid (Below.refl _ _)⟩
  case round =>
    clear HB3
    obtain ⟨k, ds, hk, rfl, HDs, HD, HB, HBr⟩ := hrel
    by_cases hlt : k < n
    · have k0 : (0 : Int) ≤ k := by omega
      have k1 : (k : Int) < n := by omega
      have HLk := Lib.hid (show k < l.length by rw [HN.out]; exact hlt)
      obtain ⟨b1, o1, A1, n1, c1, A2, n2, c2, A3, n3, c3, A4, n4, c4, A5, n5, c5, rfl, hb1, ⟨x0, x1, x2, x3, x4⟩, ho, -, -, hn5⟩ := HA.out.at_ HLk.out
      obtain ⟨-, -, es, h5, h6⟩ := ho.rows
      have P5 := Lib.hid h5
      have P6 := Lib.hid h6
      have HN5 := Lib.hid hn5
      have hbw : b1 < w.heap.size := by have := HH.out; omega
      replace x0 := (HB.out.cell (p := ⟨b1, o1 + k * 5, none⟩) hbw).trans x0
      replace x1 := (HB.out.cell (p := ⟨b1, o1 + k * 5 + 1, none⟩) hbw).trans x1
      replace x2 := (HB.out.cell (p := ⟨b1, o1 + k * 5 + 2, none⟩) hbw).trans x2
      replace x3 := (HB.out.cell (p := ⟨b1, o1 + k * 5 + 3, none⟩) hbw).trans x3
      replace x4 := (HB.out.cell (p := ⟨b1, o1 + k * 5 + 4, none⟩) hbw).trans x4
      have hn5b : n5 ≤ 64 := by
        have h := HMe.out (k + 1) HLk.out
        have h2 := HOk.out.1
        unfold mayLs at h2
        simp only [Bool.and_eq_true, decide_eq_true_eq] at h2
        have h3 := List.all_eq_true.1 h2.2 l[k] (List.getElem_mem HLk.out)
        rw [mayO_eq] at h3
        simp only [Bool.and_eq_true] at h3
        rw [← hn5]
        exact (few_of h3.1.1).2.2.2.2
      have HBl := Lib.hid ((Below.refl wr.heap.size wr).alloc (Nat.le_refl _) (.cells #[.slice A1 n1 c1, .slice A2 n2 c2, .slice A3 n3 c3, .slice A4 n4 c4, .slice A5 n5 c5] 31))
      have HB4 := Lib.hid (HB.out.trans (HBl.out.mono HB.out.size))
      have HBr4 := Lib.hid (HBr.out.trans (HBl.out.mono (by have := HRr.out; have := HBr.out.size; omega)))
      have HD4 := Lib.hid (show DefsAt (wr.alloc (.cells #[.slice A1 n1 c1, .slice A2 n2 c2, .slice A3 n3 c3, .slice A4 n4 c4, .slice A5 n5 c5] 31)) r0 ds u3 from by obtain ⟨A, c, e, h⟩ := HD.out; exact ⟨A, c, e, rowO_below h HBl.out⟩)
      clear h5 h6 hn5 ho HB HBr HD hb1
      go_wp2
      clear x0 x1 x2 x3 x4 HBl
      generalize (wr.alloc (.cells #[.slice A1 n1 c1, .slice A2 n2 c2, .slice A3 n3 c3, .slice A4 n4 c4, .slice A5 n5 c5] 31)) = wk at *
      go_loopw [26, 3] (fun i v wr => ∃ (j : Nat) (ds : List (Int × Int)), j ≤ n5 ∧ i = .int .i64 j ∧ Hid (ds = entL l k ++ ((nAt l k).ents.take j).map (entD l k)) ∧ Hid (DefsAt wr r0 ds v) ∧ Hid (Below w.heap.size w wr) ∧ Hid (Below r0 w3 wr)) (fun i _ _ => n5 - (intOf i).toNat)
      case atStart => exact ⟨0, ds, by omega, rfl, Lib.hid (by rw [HDs.out]; simp), HD4, HB4, HBr4⟩
      case round =>
        clear HB4 HBr4 HD4 HDs
        obtain ⟨j, ds, hj, rfl, HDs, HD, HB, HBr⟩ := hrel
        by_cases hlj : j < n5
        · have j0 : (0 : Int) ≤ j := by omega
          have j1 : (j : Int) < n5 := by omega
          have HLj := Lib.hid (show j < (l[k]'HLk.out).ents.length by rw [HN5.out]; exact hlj)
          obtain ⟨Ap, cp, g0, g1, gr⟩ := P6.out.get HLj.out
          rcases P5.out with e | ⟨b5, o5, rfl, _, hb5, hc5⟩
          · rw [e] at g0; cases g0
          have y0 := (HB.out.cell (p := ⟨b5, o5 + j * 2, none⟩) (by have := HH.out; show b5 < _; omega)).trans (hc5 (j * 2) _ g0)
          have y1 := (HB.out.cell (p := ⟨b5, o5 + (j * 2 + 1), none⟩) (by have := HH.out; show b5 < _; omega)).trans (hc5 (j * 2 + 1) _ g1)
          rw [← Nat.add_assoc] at y1
          obtain ⟨en, hen⟩ : ∃ en, en = ((l[k]'HLk.out).ents[j]'HLj.out).1 := ⟨_, rfl⟩
          obtain ⟨pl, hpl⟩ : ∃ pl, pl = ((l[k]'HLk.out).ents[j]'HLj.out).2.length := ⟨_, rfl⟩
          rw [← hen] at y0
          rw [← hpl] at y1
          have HSz := Lib.hid (show en.size ≤ maxLen from by rw [hen]; exact ((HW.out _ (List.getElem_mem HLk.out)).ents _ (List.getElem_mem HLj.out)).1)
          have HDs2 := Lib.hid (show ds ++ [valD (bookM l) l.length (en, (k : Int))] = entL l k ++ ((nAt l k).ents.take (j + 1)).map (entD l k) from by
            rw [HDs.out, nAt_get HLk.out, List.take_succ_eq_append_getElem HLj.out, List.map_append, ← List.append_assoc, List.map_singleton]
            unfold entD
            rw [← hen])
          have HLd := Lib.hid (show ds.length ≤ 100000 from by
            rw [HDs.out, List.length_append, List.length_map, List.length_take]
            have := HMe.out k (by have := HLk.out; omega)
            omega)
          have HBl := Lib.hid ((Below.refl wr.heap.size wr).alloc (Nat.le_refl _) (.cells #[.string en, .slice Ap pl cp] 98))
          have HB4 := Lib.hid (HB.out.trans (HBl.out.mono HB.out.size))
          have HBr4 := Lib.hid (HBr.out.trans (HBl.out.mono (by have := HRr.out; have := HBr.out.size; omega)))
          have HRw := Lib.hid (show r0 ≤ wr.heap.size from by have := HRr.out; have := HBr.out.size; omega)
          have HY4 := Lib.hid (heap_alloc_new wr (.cells #[.string en, .slice Ap pl cp] 98))
          obtain ⟨A4, ca, rfl, hown⟩ := HD.out
          have HO4 := Lib.hid (rowO_below hown HBl.out)
          clear g0 g1 gr hc5 hen hpl HDs HD hown
          go_upto_region 11 with fail
          clear y0 y1
          generalize (wr.alloc (.cells #[.string en, .slice Ap pl cp] 98)) = W at *
          generalize wr.heap.size = ke at *
          have hX4 := (HBr4.out.block kb HKb.out).trans HX3.out
          have HX4 := Lib.hid hX4
          obtain ⟨y0, y1, yf⟩ := row2 HY4.out
          obtain ⟨x0, x1, xf⟩ := row2 hX4
          have HK4 := Lib.hid (HK3.out.low (Below.refl _ _) (by rw [← HR0.out]; exact HBr4.out) (by rw [← HR0.out]; exact HBb.out))
          have HR4 := Lib.hid (show r0 ≤ W.heap.size from by have := HRr.out; have := HBr4.out.size; omega)
          clear hX4 HB HBr HBl
          go_wp2_with fail
          refine (meaning_any b N n (by omega) (bookM l) k (by unfold IsI; omega) en HSz.out W HK4.out).mono ?_
          rintro e w6 ⟨rfl, hb6⟩
          obtain ⟨da, hda⟩ : ∃ x, x = (valD (bookM l) l.length (en, (k : Int))).1 := ⟨_, rfl⟩
          obtain ⟨dj, hdj⟩ : ∃ x, x = (valD (bookM l) l.length (en, (k : Int))).2 := ⟨_, rfl⟩
          have hd : defV (meanM (bookM l) n k en) = .agg #[.int .i64 da, .int .i64 dj] := by rw [hda, hdj, ← HN.out]; exact defV_val _ _ (en, (k : Int))
          rw [hd]
          have HV := Lib.hid (show valD (bookM l) l.length (en, (k : Int)) = (da, dj) from by rw [hda, hdj])
          have HBd := Lib.hid ((Below.refl w6.heap.size w6).alloc (Nat.le_refl _) (.cells #[.int .i64 da, .int .i64 dj] 39))
          have HBw := Lib.hid (hb6.trans (HBd.out.mono hb6.size))
          have HB6 := Lib.hid (HB4.out.trans (HBw.out.mono HB4.out.size))
          have HBr6 := Lib.hid (HBr4.out.trans (HBw.out.mono HR4.out))
          have HO6 := Lib.hid (rowO_below HO4.out HBw.out)
          have HR6 := Lib.hid (Nat.le_trans HR4.out HBw.out.size)
          have HY6 := Lib.hid (heap_alloc_new w6 (.cells #[.int .i64 da, .int .i64 dj] 39))
          clear hb6 hd hda hdj HBd HB4 HO4 HR4 HK4 HY4 HBr4 x0 x1 xf y0 y1 yf HX4
          go_upto_region 12 with fail
          clear HBw
          generalize (w6.alloc (.cells #[.int .i64 da, .int .i64 dj] 39)) = wz at *
          generalize w6.heap.size = kd at *
          have HBl2 := Lib.hid ((Below.refl wz.heap.size wz).alloc (Nat.le_refl _) (.cells #[.int .i64 da, .int .i64 dj] 39))
          have HOa := Lib.hid (rowO_below HO6.out HBl2.out)
          have HNa := Lib.hid (news_at (w := wz) (w2 := wz.alloc (.cells #[.int .i64 da, .int .i64 dj] 39)) (cs := encDef (da, dj)) (ty := 39) rfl)
          have HMl := Lib.hid (show ds.length + 1 ≤ maxLen by have := HLd.out; unfold maxLen; omega)
          have HBy := Lib.hid (show (ds.length + 1) * 16 ≤ 140737488355328 by have := HLd.out; omega)
          have HRz := Lib.hid (show r0 ≤ (wz.alloc (.cells #[.int .i64 da, .int .i64 dj] 39)).heap.size from Nat.le_trans HR6.out HBl2.out.size)
          have H1s := Lib.hid (one_def (da, dj))
          obtain ⟨y0, y1, yf⟩ := row2 HY6.out
          go_wp2_with (at_builtin; (refine wpList_append_at6 rfl _ _ 44 rfl r0 39 i0 (.agg #[.int .i64 0, .int .i64 0]) 2 16 Tryd.underlying44 hi0 hz0 hz1 hz2 rfl (by decide) (.slice A4 ds.length ca) ds.length (ds.flatMap encDef) ?hs HOa.out ⟨wz.heap.size, 0, none⟩ 1 1 (encDef (da, dj)) ?hx rfl HNa.out H1s.out HMl.out HBy.out HRz.out ?_; (case hs => rfl); (case hx => rfl); intro v' w7 hr hg hv'))
          obtain ⟨Aw, ew, rfl⟩ := ownO_slice hr
          have hgb : ∀ g, (Value.slice A4 ds.length ca).ownBlock = some g → r0 ≤ g := own_ge HOa.out
          have HB7 := Lib.hid ((HB6.out.trans (HBl2.out.mono HB6.out.size)).grown hg (HB6.out.trans (HBl2.out.mono HB6.out.size)).size (fun g e => by have := hgb g e; have := HWz.out; omega))
          have HBr7 := Lib.hid ((HBr6.out.trans (HBl2.out.mono HR6.out)).grown hg HRz.out (fun g e => hgb g e))
          have HO7 := Lib.hid (show DefsAt w7 r0 (ds ++ [(da, dj)]) (.slice Aw (ds.length + 1) ew) from ⟨Aw, ew, by simp, by
            rw [List.length_append, List.flatMap_append, List.flatMap_cons, List.flatMap_nil, List.append_nil]; exact hr⟩)
          clear hr hg hv' hgb
          go_wp2
          go_roundw
          case rel => exact ⟨j + 1, ds ++ [(da, dj)], by omega, by go_num, Lib.hid (by rw [← HV.out]; exact HDs2.out), HO7, HB7, HBr7⟩
          case measure => simp [intOf]; omega
        · have hjn : j = n5 := by omega
          have j1 : ¬ (j : Int) < n5 := by omega
          have HDs2 := Lib.hid (show ds = entL l (k + 1) from by
            have h := HDs.out
            rw [List.take_of_length_le (by rw [nAt_get HLk.out, HN5.out]; omega)] at h
            exact h)
          clear hjn hlj HDs
          go_wp2
          go_roundw
          case rel => exact ⟨k + 1, ds, by omega, by go_num, HDs2, HD, HB, HBr⟩
          case measure => simp [intOf]; omega
    · have hkn : k = n := by omega
      have k1 : ¬ (k : Int) < n := by omega
      have HR := Lib.hid (show EntA7 l w (.returned u3) wr from ⟨ds, u3, rfl, by obtain ⟨A1, c1, e1, h1⟩ := HD.out; exact ⟨A1, c1, e1, kn_base h1 HWz.out⟩, fun _ => by rw [HDs.out, HN.out, hkn], fun h => absurd HOk.out h, HB.out⟩)
      clear hkn hlt
      go_wp2
      go_ret
      exact HR.out
end Go.Proofs.YthoehbmbmjmpbaaDoor
