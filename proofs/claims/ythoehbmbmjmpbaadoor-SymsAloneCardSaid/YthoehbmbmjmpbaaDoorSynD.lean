/- Layer 7: Used, of any list. Condition: the tables of package ins read as they should. -/
import Derived.Test.YthoehbmbmjmpbaaDoorSynC
namespace Go.Proofs.YthoehbmbmjmpbaaDoor
set_option maxRecDepth 100000
open Go.RowKit Go.Maps Go.Sort
set_option linter.unusedVariables false
def UsedA (l : List ObjD) (w : World) (e : Ending) (w' : World) : Prop := ∃ ds v, e = .returned v ∧ DefsAt w' w.heap.size ds v ∧ (okL l → (∀ x, x ∈ ds ↔ usedP l x) ∧ ds.Pairwise ltP) ∧ (¬ okL l → ds = []) ∧ ds.length ≤ 16384 ∧ Below w.heap.size w w'
set_option maxHeartbeats 8000000 in
theorem used_any (l : List ObjD) (hW : ∀ d ∈ l, ObjW d) (A : Option Addr) (n c lo hi : Nat) (hn : l.length = n) (hmx : n ≤ maxLen) (w : World) (hT : Tabs w) (hA : ObjsAt w lo hi l A) (hh : hi ≤ w.heap.size) :
    Calls Tryd.prog 16 #[.slice A n c] w (UsedA l w) := by
  have HRi := Lib.hid (syms_right_any l hW A n c lo hi hn hmx w hT hA hh)
  have HW := Lib.hid hW
  have HN := Lib.hid hn
  have HA := Lib.hid hA
  have HH := Lib.hid hh
  obtain ⟨i0, hi0, hz0, hz1, hz2⟩ := info_parts info_def
  clear hW hn hA hh hT
  go_enter Tryd.func16, Tryd.ntmps16
  go_wp2_with fail
  refine HRi.out.mono ?_
  rintro e w1 ⟨bb, rfl, hbb, hb1⟩
  have HB1 := Lib.hid hb1
  have HA1 := Lib.hid (HA.out.below HH.out hb1)
  have HH1 := Lib.hid (Nat.le_trans HH.out hb1.size)
  cases bb
  case false =>
    have hno : ¬ okL l := fun h => by have := hbb.2 h; cases this
    have HR := Lib.hid (show UsedA l w (.returned (.slice none 0 0)) w1 from ⟨[], _, rfl, ⟨none, 0, rfl, World.ownsRow_nil _ _ _ _⟩, fun h => absurd h hno, fun _ => rfl, by simp, hb1⟩)
    clear hbb hb1 hno
    go_wp2
    go_ret
    exact HR.out
  case true =>
    have hok := hbb.1 rfl
    have HOk := Lib.hid hok
    obtain ⟨hn16, hsS, hsR⟩ := may_sums hok.1
    have HSR := Lib.hid hsR
    have HWr := Lib.hid (write_every l HW.out A n c lo hi HN.out (by have := HN.out; omega) (by omega) w1 HA1.out HH1.out)
    clear hbb hb1 hok
    go_wp2_with fail
    refine HWr.out.mono ?_
    rintro e w2 ⟨b, N, rfl, hwb, hk, hN, hb2⟩
    have HB2 := Lib.hid (HB1.out.trans (hb2.mono HB1.out.size))
    have HA2 := Lib.hid (HA1.out.below HH1.out hb2)
    have HH2 := Lib.hid (Nat.le_trans HH1.out hb2.size)
    have HK2 := Lib.hid (show KnK w2 b N (bookM l) from by unfold bookM; rw [HN.out]; exact hk)
    have HBb := Lib.hid (show b < w2.heap.size from hk.lt)
    have HNN := Lib.hid hN
    have HBx := Lib.hid ((Below.refl w2.heap.size w2).alloc (Nat.le_refl _) (.cells #[.int .i64 n, .map (some b)] 78))
    have HX3 := Lib.hid (heap_alloc_new w2 (.cells #[.int .i64 n, .map (some b)] 78))
    have HUs := Lib.hid (uses_any l HW.out A n c lo hi HN.out (by have := HN.out; omega) (by omega) (w2.alloc (.cells #[.int .i64 n, .map (some b)] 78)) (HA2.out.below HH2.out HBx.out) (Nat.le_trans HH2.out HBx.out.size))
    clear hk hwb hN hb2
    go_wp2_with fail
    refine HUs.out.mono ?_
    rintro e w3 ⟨rfl, hu3, hb3⟩
    have HX4 := Lib.hid ((hb3.block _ (Array.getElem?_eq_some_iff.1 HX3.out).1).trans HX3.out)
    have HB3 := Lib.hid (HB2.out.trans ((HBx.out.trans (hb3.mono HBx.out.size)).mono HB2.out.size))
    have HB23 := Lib.hid (HBx.out.trans (hb3.mono HBx.out.size))
    have HK3 := Lib.hid (HK2.out.below HB23.out)
    have HSb := Lib.hid (show w2.heap.size < w3.heap.size from (Array.getElem?_eq_some_iff.1 HX4.out).1)
    obtain ⟨u, hu⟩ : ∃ u, u = (w2.alloc (.cells #[.int .i64 n, .map (some b)] 78)).heap.size := ⟨_, rfl⟩
    have HUu := Lib.hid (show w2.heap.size < u from by rw [hu]; exact (Array.getElem?_eq_some_iff.1 HX3.out).1)
    obtain ⟨m, hm⟩ : ∃ m, m = sumR l l.length := ⟨_, rfl⟩
    have HM := Lib.hid (show m ≤ 16384 from by rw [hm]; exact HSR.out)
    have hU0 : UsK w3 u m (usL l l.length) := by
      have h := hu3
      rw [← hu, ← HN.out] at h
      rw [hm]; exact h
    clear hm
    rw [← hu]
    have HUn := Lib.hid hU0.lt
    obtain ⟨D, hown, hmap, hdom, hat⟩ := hU0
    have HDm := Lib.hid hdom
    have HAt := Lib.hid (show AtU D (usL l l.length) from hat)
    have HSz := Lib.hid hown.size_le
    obtain ⟨kb0, hkb⟩ : ∃ k, k = w2.heap.size := ⟨_, rfl⟩
    rw [← hkb] at HX4 HSb HUu
    rw [← hkb]
    have HKb := Lib.hid (show w.heap.size ≤ kb0 from by rw [hkb]; exact HB2.out.size)
    clear hu3 hb3 hu hmap hdom hat HX3 HBx HUs HWr hkb HK2
    go_wp2_with (at_range; refine wpList_range_own _ rfl _ 84 rfl 92 3 lawUs Tryd.underlying84 _ u m D rfl hown ?_; intro w4 hrg0 hg0 hs0)
    try go_frame
    have B4 := (below_of_grown' hg0)
    have HB4 := Lib.hid (HB3.out.trans (B4.mono HB3.out.size))
    have HG0 := Lib.hid hrg0
    have HX5 := Lib.hid ((B4.block _ HSb.out).trans HX4.out)
    have HS4 := Lib.hid hs0
    have HK4 := Lib.hid (HK3.out.below B4)
    have HBb3 := Lib.hid (show b < w3.heap.size from Nat.lt_of_lt_of_le HBb.out HB23.out.size)
    have HWz := Lib.hid (show w.heap.size ≤ w3.heap.size from HB3.out.size)
    have HB34 := Lib.hid B4
    clear B4 hg0 hs0 hrg0 hown
    obtain ⟨r0, hr0⟩ : ∃ r, r = w3.heap.size := ⟨_, rfl⟩
    have HR0 := Lib.hid hr0
    rw [← hr0] at HB34 HG0 HS4 HSb HWz HUn HBb3
    rw [← hr0]
    clear hr0
    go_loopg [3] (Maps.size D) (fun cnt v wr => ∃ (left : Lit → Bool) (ds : List (Int × Int)), Hid (RangeU wr u r0 m D left cnt) ∧ Hid (∀ kl, left kl = true → has D kl = true) ∧ Hid (NmD D (bookM l) l.length left ds) ∧ Hid (ds.length + cnt ≤ m) ∧ Hid (DefsAt wr (r0 + 1) ds v) ∧ Hid (Below w.heap.size w wr) ∧ Hid (Below r0 w3 wr) ∧ Hid (wr.heap[kb0]? = some (.cells #[.int .i64 n, .map (some b)] 78 (0, 0))) ∧ Hid (r0 + 1 ≤ wr.heap.size))
    case atStart => exact ⟨_, [], HG0, Lib.hid (fun _ h => h), Lib.hid (NmD.start D _ _), Lib.hid (by simpa using HSz.out), Lib.hid ⟨none, 0, rfl, World.ownsRow_nil _ _ _ _⟩, HB4, HB34, HX5, Lib.hid (by have := HS4.out; omega)⟩
    case round =>
      obtain ⟨left, ds, HRg, HSub, HNm, HLc, HNa, HB, HBr, HX, HR1⟩ := hrel
      clear HG0 HB4 HB34 HX5 HS4
      have hrg := HRg.out
      go_wp2_with (at_next; refine wpList_next_ranges _ rfl _ rfl 92 lawUs (plainElem Tryd.prog 3) (fun x : Value => x) (fun x : Value => x) (fun key kl _ => ⟨key, rfl⟩) (fun v y _ => ⟨v, rfl⟩) u r0 m D left gk rfl hrg ?_ ?_)
      · intro _ hl0
        have HC := Lib.hid (used_iff HNm.out hl0 HAt.out)
        have HL1 := Lib.hid (show ds.length ≤ 16384 from by have := HLc.out; have := HM.out; omega)
        have HSo := Lib.hid (sort_defs ds (r0 + 1) u3 wr HR1.out (by have := HL1.out; omega) HNa.out)
        clear hrg hl0
        go_wp2_with fail
        refine HSo.out.mono ?_
        rintro e w5 ⟨rfl, hd5, hb5⟩
        have HB5 := Lib.hid (HB.out.trans (hb5.mono (by have := HWz.out; omega)))
        have HR5 := Lib.hid (show r0 + 1 ≤ w5.heap.size from Nat.le_trans HR1.out hb5.size)
        have HCo := Lib.hid (compact_defs (srtD ds) (r0 + 1) u3 w5 (by rw [srtD_length]; have := HL1.out; omega) HR5.out hd5)
        clear hd5 hb5 HSo
        go_wp2_with fail
        refine HCo.out.mono ?_
        rintro e w6 ⟨v6, rfl, hd6, hb6⟩
        have HR := Lib.hid (show UsedA l w (.returned v6) w6 from ⟨Lib.compact (srtD ds), v6, rfl, by obtain ⟨A1, c1, e1, h1⟩ := hd6; exact ⟨A1, c1, e1, kn_base h1 (by have := HWz.out; omega)⟩, fun _ => ⟨fun x => ((defs_rise ds).2 x).trans (HC.out x), (defs_rise ds).1⟩, fun h => absurd HOk.out h, by have := cmp_le (srtD ds); rw [srtD_length] at this; have := HL1.out; omega, HB5.out.trans (hb6.mono (by have := HWz.out; omega))⟩)
        clear hd6 hb6 HCo
        go_wp2
        go_ret
        exact HR.out
      · intro x c' kl y ps w5 cnt' hkey hlk hv hat' hrg1 hlt hg1 hs1 hen
        have hlk2 := HSub.out _ hlk
        obtain ⟨t, ht, rfl⟩ := HDm.out _ hlk2
        have hx := lawUs.inj hkey (uKey_of ht)
        subst hx
        have HBr3 := Lib.hid (HBr.out.grown hg1 (by have := HR1.out; omega) (fun j hj => by cases hj; exact Nat.le_refl _))
        have HB3' := Lib.hid (HB.out.grown hg1 HB.out.size (fun j hj => by cases hj; exact HWz.out))
        have HX3' := Lib.hid ((hg1.block _ (Array.getElem?_eq_some_iff.1 HX.out).1 (by intro e; cases e; have := HSb.out; omega)).trans HX.out)
        obtain ⟨A4, ca, rfl, hown⟩ := HNa.out
        have HO3 := Lib.hid (hown.kept hg1 (by
          cases hob : (Value.slice A4 ds.length ca).ownBlock with
          | none => exact .inl rfl
          | some g => exact .inr (fun e => by cases e; have := (ownO_lt hown hob).2.1; omega)))
        have HR3 := Lib.hid (show r0 + 1 ≤ w5.heap.size from Nat.le_trans HR1.out hg1.size)
        have HRg3 := Lib.hid hrg1
        have HLt := Lib.hid hlt
        have HTw := Lib.hid ht
        have HTd := Lib.hid hlk2
        have HSub3 := Lib.hid (show ∀ kl, (left kl && !kl.sameKey (uKey t)) = true → has D kl = true from fun kl h => HSub.out kl (by simp only [Bool.and_eq_true] at h; exact h.1))
        have HLc3 := Lib.hid (show ds.length + 1 + cnt' ≤ m by have := HLc.out; omega)
        have HN5 := Lib.hid (HNm.out.hit ht hlk2)
        clear hkey hlk hlk2 hv hat' hrg1 hlt hg1 hs1 ht hrg HB HBr HX HNa HR1 HRg HSub HLc hown
        obtain ⟨s, i⟩ := t
        unfold usV at hen
        simp only at hen
        have HBl := Lib.hid ((Below.refl w5.heap.size w5).alloc (Nat.le_refl _) (.cells #[.string s, .int .i64 i] 92))
        have HB4 := Lib.hid (HB3'.out.trans (HBl.out.mono HB3'.out.size))
        have HBr4 := Lib.hid (HBr3.out.trans (HBl.out.mono (by have := HR3.out; omega)))
        have HX4' := Lib.hid ((HBl.out.block _ (Array.getElem?_eq_some_iff.1 HX3'.out).1).trans HX3'.out)
        have HO4 := Lib.hid (rowO_below HO3.out HBl.out)
        have HRg4 := Lib.hid (RangeU.below HRg3.out HBl.out)
        have HR4 := Lib.hid (Nat.le_trans HR3.out HBl.out.size)
        have HK4' := Lib.hid (HK3.out.low (Below.refl _ _) (by rw [← HR0.out]; exact HBr4.out) (by rw [← HR0.out]; exact HBb3.out))
        have HY4 := Lib.hid (heap_alloc_new w5 (.cells #[.string s, .int .i64 i] 92))
        clear HB3' HX3' HO3 HRg3 HR3 HBr3
        go_upto_region 8 with fail
        clear hen
        generalize (w5.alloc (.cells #[.string s, .int .i64 i] 92)) = W at *
        generalize w5.heap.size = kb at *
        obtain ⟨y0, y1, yf⟩ := row2 HY4.out
        obtain ⟨x0, x1, xf⟩ := row2 HX4'.out
        go_wp2_with fail
        refine (meaning_any b N n (by have := HN.out; omega) (bookM l) i (by have := HTw.out.2; unfold IsI; omega) s HTw.out.1 W HK4'.out).mono ?_
        rintro e w6 ⟨rfl, hb6⟩
        obtain ⟨da, hda⟩ : ∃ x, x = (valD (bookM l) l.length (s, i)).1 := ⟨_, rfl⟩
        obtain ⟨dj, hdj⟩ : ∃ x, x = (valD (bookM l) l.length (s, i)).2 := ⟨_, rfl⟩
        have hd : defV (meanM (bookM l) n i s) = .agg #[.int .i64 da, .int .i64 dj] := by rw [hda, hdj, ← HN.out]; exact defV_val _ _ (s, i)
        rw [hd]
        have HV := Lib.hid (show valD (bookM l) l.length (s, i) = (da, dj) from by rw [hda, hdj])
        have HB5 := Lib.hid (HB4.out.trans (hb6.mono HB4.out.size))
        have HBd := Lib.hid ((Below.refl w6.heap.size w6).alloc (Nat.le_refl _) (.cells #[.int .i64 da, .int .i64 dj] 39))
        have HBw := Lib.hid (hb6.trans (HBd.out.mono hb6.size))
        have HB6 := Lib.hid (HB4.out.trans (HBw.out.mono HB4.out.size))
        have HBr6 := Lib.hid (HBr4.out.trans (HBw.out.mono (by have := HR4.out; omega)))
        have HX6 := Lib.hid ((HBw.out.block _ (Array.getElem?_eq_some_iff.1 HX4'.out).1).trans HX4'.out)
        have HO6 := Lib.hid (rowO_below HO4.out HBw.out)
        have HRg6 := Lib.hid (RangeU.below HRg4.out HBw.out)
        have HR6 := Lib.hid (Nat.le_trans HR4.out HBw.out.size)
        have HY6 := Lib.hid (heap_alloc_new w6 (.cells #[.int .i64 da, .int .i64 dj] 39))
        clear hb6 hd hda hdj HB5 HBd HB4 HX4' HO4 HRg4 HR4 HK4' HY4 HBr4 x0 x1 xf y0 y1 yf
        go_upto_region 9 with fail
        clear HBw HBl
        generalize (w6.alloc (.cells #[.int .i64 da, .int .i64 dj] 39)) = wz at *
        generalize w6.heap.size = kd at *
        have HBl2 := Lib.hid ((Below.refl wz.heap.size wz).alloc (Nat.le_refl _) (.cells #[.int .i64 da, .int .i64 dj] 39))
        have HOa := Lib.hid (rowO_below HO6.out HBl2.out)
        have HNa := Lib.hid (news_at (w := wz) (w2 := wz.alloc (.cells #[.int .i64 da, .int .i64 dj] 39)) (cs := encDef (da, dj)) (ty := 39) rfl)
        have HMl := Lib.hid (show ds.length + 1 ≤ maxLen by have := HLc3.out; have := HM.out; unfold maxLen; omega)
        have HBy := Lib.hid (show (ds.length + 1) * 16 ≤ 140737488355328 by have := HLc3.out; have := HM.out; omega)
        have HRz := Lib.hid (show r0 + 1 ≤ (wz.alloc (.cells #[.int .i64 da, .int .i64 dj] 39)).heap.size from Nat.le_trans HR6.out HBl2.out.size)
        have H1s := Lib.hid (one_def (da, dj))
        obtain ⟨y0, y1, yf⟩ := row2 HY6.out
        go_wp2_with (at_builtin; (refine wpList_append_at6 rfl _ _ 44 rfl (r0 + 1) 39 i0 (.agg #[.int .i64 0, .int .i64 0]) 2 16 Tryd.underlying44 hi0 hz0 hz1 hz2 rfl (by decide) (.slice A4 ds.length ca) ds.length (ds.flatMap encDef) ?hs HOa.out ⟨wz.heap.size, 0, none⟩ 1 1 (encDef (da, dj)) ?hx rfl HNa.out H1s.out HMl.out HBy.out HRz.out ?_; (case hs => rfl); (case hx => rfl); intro v' w7 hr hg hv'))
        obtain ⟨Aw, ew, rfl⟩ := ownO_slice hr
        have hgb : ∀ g, (Value.slice A4 ds.length ca).ownBlock = some g → r0 + 1 ≤ g := own_ge HOa.out
        have HB7 := Lib.hid ((HB6.out.trans (HBl2.out.mono HB6.out.size)).grown hg (HB6.out.trans (HBl2.out.mono HB6.out.size)).size (fun g e => by have := hgb g e; have := HWz.out; omega))
        have HBr7 := Lib.hid ((HBr6.out.trans (HBl2.out.mono (by have := HR6.out; omega))).grown hg (by have := HRz.out; omega) (fun g e => by have := hgb g e; omega))
        have HX7 := Lib.hid ((hg.block _ (by have := (Array.getElem?_eq_some_iff.1 HX6.out).1; have := HBl2.out.size; omega) (fun e => by have := hgb _ e.symm; have := HSb.out; omega)).trans ((HBl2.out.block _ (Array.getElem?_eq_some_iff.1 HX6.out).1).trans HX6.out))
        have HRg7 := Lib.hid (show RangeU w7 u r0 m D _ cnt' from World.ranges.kept (RangeU.below HRg6.out HBl2.out) hg (fun e => by have := hgb _ e.symm; have := HUn.out; omega) (fun e => by have := hgb _ e.symm; omega))
        have HO7 := Lib.hid (show DefsAt w7 (r0 + 1) (ds ++ [(da, dj)]) (.slice Aw (ds.length + 1) ew) from ⟨Aw, ew, by simp, by
          rw [List.length_append, List.flatMap_append, List.flatMap_cons, List.flatMap_nil, List.append_nil]; exact hr⟩)
        have HR7 := Lib.hid (Nat.le_trans HRz.out hg.size)
        clear hr hg hv' hgb
        go_wp2
        go_roundg cnt'
        case measure => exact HLt.out
        case rel => exact ⟨_, ds ++ [(da, dj)], HRg7, HSub3, Lib.hid (by rw [← HV.out]; exact HN5.out), Lib.hid (by have := HLc3.out; simp; omega), HO7, HB7, HBr7, HX7, HR7⟩
end Go.Proofs.YthoehbmbmjmpbaaDoor
