/- The walk of the statement SymsAlone: it returns true, and writes nothing that was there. -/
import Derived.Test.YthoehbmbmjmpbaaDoorSymY
import Derived.Test.YthoehbmbmjmpbaaDoorSynA
import Derived.Test.YthoehbmbmjmpbaaDoorSynB
import Derived.Test.YthoehbmbmjmpbaaDoorSynD
import Derived.Test.YthoehbmbmjmpbaaDoorSynF
import Derived.Deep.QuietTactic
import Derived.BigQuiet
namespace Go.Proofs.YthoehbmbmjmpbaaDoor.SymsAloneWalk
set_option maxRecDepth 100000
open Go.RowKit
set_option linter.unusedVariables false
abbrev AlS (w0 w9 : World) (v : Value) (w : World) : Prop := w.cell? ⟨w0.heap.size, 4, none⟩ = some v ∧ (Below w9.heap.size w9 w ∧ w0.heap.size < w9.heap.size)
section
variable {w0 w9 w w' : World} {v : Value}
theorem alS_below (h : AlS w0 w9 v w) (hb : Below w.heap.size w w') : AlS w0 w9 v w' :=
  ⟨(hb.cell (p := ⟨w0.heap.size, 4, none⟩) (Nat.lt_of_lt_of_le h.2.2 h.2.1.size)).trans h.1, h.2.1.trans (hb.mono h.2.1.size), h.2.2⟩
theorem alS_drewN (h : AlS w0 w9 v w) (n : Nat) : AlS w0 w9 v (w.drewN n) := alS_below h ⟨rfl, rfl, rfl, Nat.le_refl _, fun _ _ => rfl⟩
theorem alS_drew (h : AlS w0 w9 v w) : AlS w0 w9 v w.drew := alS_below h ⟨rfl, rfl, rfl, Nat.le_refl _, fun _ _ => rfl⟩
end
set_option maxHeartbeats 8000000 in
theorem walk (v0 : Value) (D0 : ObjD) (a1 : Int) (w : World) (hO : ObjAt w 0 w.heap.size D0 v0) (hW : ObjW D0) (hL : ObjL D0) (w1 : (Lit.int .u8 a1).wf = true) (hT : Tabs w) :
    Calls Tryd.prog 5 #[v0, .int .u8 a1] w fun e w' => e = .returned (.bool true) ∧ Below w.heap.size w w' := by
  have hb := bounds_u8 w1
  have h0 : 0 ≤ a1 := by omega
  have h1 : a1 ≤ 255 := by omega
  obtain ⟨m, hm⟩ : ∃ m : Nat, a1 % 5 = (m : Int) := ⟨(a1 % 5).toNat, by omega⟩
  have hm4 : m ≤ 4 := by omega
  have HM := Lib.hid hm
  have hO' := hO
  obtain ⟨A1, c1, A2, c2, A3, c3, A4, c4, A5, c5, es, rfl, -⟩ := hO'
  obtain ⟨n1, f1⟩ : ∃ n, D0.text.length = n := ⟨_, rfl⟩
  obtain ⟨n2, f2⟩ : ∃ n, D0.data.length = n := ⟨_, rfl⟩
  obtain ⟨n3, f3⟩ : ∃ n, D0.syms.length = n := ⟨_, rfl⟩
  obtain ⟨n4, f4⟩ : ∃ n, D0.rels.length = n := ⟨_, rfl⟩
  obtain ⟨n5, f5⟩ : ∃ n, D0.ents.length = n := ⟨_, rfl⟩
  rw [f1, f2, f3, f4, f5] at hO ⊢
  have HN5 := Lib.hid f5
  have HO := Lib.hid hO
  have HW1 := Lib.hid (show ∀ d ∈ [D0], ObjW d from fun d hd => by rw [List.mem_singleton.1 hd]; exact hW)
  have HL1 := Lib.hid (show ∀ d ∈ [D0], ObjL d from fun d hd => by rw [List.mem_singleton.1 hd]; exact hL)
  have hbx := (Below.refl w.heap.size w).alloc (Nat.le_refl _) (.cells #[.slice A1 n1 c1, .slice A2 n2 c2, .slice A3 n3 c3, .slice A4 n4 c4, .slice A5 n5 c5] 31)
  have HBx := Lib.hid hbx
  have HX := Lib.hid (heap_alloc_new w (.cells #[.slice A1 n1 c1, .slice A2 n2 c2, .slice A3 n3 c3, .slice A4 n4 c4, .slice A5 n5 c5] 31))
  have HAw := Lib.hid (awake7_yes _ (hT.below hbx))
  have HT := Lib.hid hT
  clear hT hO hW hL f1 f2 f3 f4 f5 hb w1 hm hbx
  go_enter Tryd.func5, Tryd.ntmps5
  go_wp2_with fail
  refine HAw.out.mono ?_
  rintro e w2 ⟨rfl, hb1⟩
  have HB2 := Lib.hid (HBx.out.trans (hb1.mono HBx.out.size))
  have HX2 := Lib.hid ((hb1.block _ (Array.getElem?_eq_some_iff.1 HX.out).1).trans HX.out)
  clear hb1 HAw HBx HX
  obtain ⟨x0, x1, x2, x3, x4, xf⟩ := row5 HX2.out
  have HX3 := Lib.hid ((((Below.refl w2.heap.size w2).alloc (Nat.le_refl _) (.cells #[.slice A1 n1 c1, .slice A2 n2 c2, .slice A3 n3 c3, .slice A4 n4 c4, .slice A5 n5 c5] 31)).block _ (Array.getElem?_eq_some_iff.1 HX2.out).1).trans HX2.out)
  have HB3 := Lib.hid (HB2.out.trans (((Below.refl w2.heap.size w2).alloc (Nat.le_refl _) (.cells #[.slice A1 n1 c1, .slice A2 n2 c2, .slice A3 n3 c3, .slice A4 n4 c4, .slice A5 n5 c5] 31)).mono HB2.out.size))
  have HA3 := Lib.hid (show AlB (w2.alloc (.cells #[.slice A1 n1 c1, .slice A2 n2 c2, .slice A3 n3 c3, .slice A4 n4 c4, .slice A5 n5 c5] 31)) w2.heap.size [.slice A1 n1 c1, .slice A2 n2 c2, .slice A3 n3 c3, .slice A4 n4 c4, .slice A5 n5 c5] 0 (.slice (some ⟨w2.heap.size, 0, none⟩) 1 1) [] from
    ⟨rfl, fun p hp => by (cases hp), rfl, .inr ⟨_, 1, _, rfl, Nat.le_refl _, heap_alloc_new _ _, by omega, by unfold maxLen; omega, rfl, rfl⟩⟩)
  have HWz := Lib.hid (show w.heap.size + 1 ≤ w2.heap.size from (Array.getElem?_eq_some_iff.1 HX2.out).1)
  go_wp2_with fail
  clear x0 x1 x2 x3 x4 xf HX2 HB2
  generalize (w2.alloc (.cells #[.slice A1 n1 c1, .slice A2 n2 c2, .slice A3 n3 c3, .slice A4 n4 c4, .slice A5 n5 c5] 31)) = w3 at *
  generalize w2.heap.size = B at *
  have HO3 := Lib.hid (show ObjsAt w3 0 w3.heap.size [D0] (some ⟨B, 0, none⟩) from by
    obtain ⟨A, c, e, h⟩ := HA3.out.objs (HO.out.move (Nat.le_refl _) (Nat.le_refl _) (fun b _ h2 => HB3.out.block b h2)) HB3.out.size
    cases e
    exact h)
  refine (small7_any [D0] HW1.out HL1.out _ 1 1 0 w3.heap.size rfl (by unfold maxLen; omega) w3 HO3.out (Nat.le_refl _)).mono ?_
  rintro e w4 ⟨⟨b, rfl, hsm⟩, hb2⟩
  have HB4 := Lib.hid (HB3.out.trans (hb2.mono HB3.out.size))
  have HA4 := Lib.hid (HA3.out.below hb2)
  have HX4 := Lib.hid ((hb2.block _ (Array.getElem?_eq_some_iff.1 HX3.out).1).trans HX3.out)
  have HO4 := Lib.hid (HO3.out.below (Nat.le_refl _) hb2)
  have HS4 := Lib.hid hb2.size
  clear hb2 HB3 HA3 HX3
  cases b
  case false =>
    clear hsm
    go_wp2
    go_ret
    exact ⟨rfl, HB4.out⟩
  clear hsm
  go_wp2_with fail
  refine (check_any [D0] HW1.out _ 1 1 0 w3.heap.size rfl (by unfold maxLen; omega) w4 (HT.out.below HB4.out) HO4.out HS4.out).mono ?_
  rintro e w5 ⟨s5, k5, rfl, hc, hb2⟩
  have HB5 := Lib.hid (HB4.out.trans (hb2.mono HB4.out.size))
  have HA5 := Lib.hid (HA4.out.below hb2)
  have HX5 := Lib.hid ((hb2.block _ (Array.getElem?_eq_some_iff.1 HX4.out).1).trans HX4.out)
  have HO5 := Lib.hid (HO4.out.below HS4.out hb2)
  have HS5 := Lib.hid (Nat.le_trans HS4.out hb2.size)
  have HZ := Lib.hid (chk_zero hc)
  clear hb2 HB4 HA4 HX4 HO4 HS4 hc
  by_cases h5 : k5 = 0
  case neg =>
    go_wp2
    go_ret
    exact ⟨rfl, HB5.out⟩
  have HOk := Lib.hid (show okL [D0] from HZ.out.1 h5)
  subst h5
  go_wp2_with fail
  refine (used_any [D0] HW1.out _ 1 1 0 w3.heap.size rfl (by unfold maxLen; omega) w5 (HT.out.below HB5.out) HO5.out HS5.out).mono ?_
  rintro e w6 ⟨ds, v6, rfl, hda, hds, -, hdl, hb2⟩
  have HB6 := Lib.hid (HB5.out.trans (hb2.mono HB5.out.size))
  have HA6 := Lib.hid (HA5.out.below hb2)
  have HX6 := Lib.hid ((hb2.block _ (Array.getElem?_eq_some_iff.1 HX5.out).1).trans HX5.out)
  have HDs := Lib.hid (hds HOk.out)
  have HDl := Lib.hid hdl
  obtain ⟨A6, c6, rfl, -⟩ := id hda
  have HD6 := Lib.hid hda
  have HA7 := Lib.hid (show ∃ ts, AlB w6 B [.slice A1 n1 c1, .slice A2 n2 c2, .slice A3 n3 c3, .slice A4 n4 c4, .slice A5 n5 c5] 0 (.slice (some ⟨B, 0, none⟩) 1 1) ts from ⟨_, HA6.out⟩)
  clear hb2 HB5 HA5 HX5 HO5 HS5 hda hds hdl HA6 HO3 HZ
  go_wp2
  obtain ⟨i0, hi0, hz0, hz1, hz2⟩ := info_parts info_obj
  go_loopw [9, 5] (fun i v wr => ∃ k : Nat, k ≤ m ∧ i = .int .i64 k ∧ Hid (∃ ts, AlB wr B [.slice A1 n1 c1, .slice A2 n2 c2, .slice A3 n3 c3, .slice A4 n4 c4, .slice A5 n5 c5] k v ts) ∧ Hid (Below w.heap.size w wr) ∧ Hid (wr.heap[w.heap.size]? = some (.cells #[.slice A1 n1 c1, .slice A2 n2 c2, .slice A3 n3 c3, .slice A4 n4 c4, .slice A5 n5 c5] 31 (0, 0))) ∧ Hid (DefsAt wr w5.heap.size ds (.slice A6 ds.length c6))) (fun i _ _ => m - (intOf i).toNat)
  case atStart => exact ⟨0, by omega, rfl, HA7, HB6, HX6, HD6⟩
  case round =>
    clear HB6 HX6 HD6 HA7
    obtain ⟨k, hk, rfl, HA, HB, HX, HD⟩ := hrel
    by_cases hlt : k < m
    · have k0 : (0 : Int) ≤ k := by omega
      have k1 : (k : Int) < a1 % 5 := by have := HM.out; omega
      obtain ⟨ts, hA⟩ := HA.out
      have HA0 := Lib.hid hA
      obtain ⟨Al, cl, rfl⟩ := ownO_slice hA.own
      clear hA HA
      generalize h1 : wr.alloc (.cells #[.int .u32 1048691] 48) = y1
      generalize h2 : y1.alloc (.cells #[.string ⟨#[102]⟩, .bool false, .int .i64 0, .bool false, .string ⟨#[111, 119, 110]⟩, .bool false, .int .i64 0, .bool false] 47) = y2
      obtain ⟨t, ht⟩ : ∃ t, wr.heap.size = t := ⟨_, rfl⟩
      obtain ⟨s, hs⟩ : ∃ s, y1.heap.size = s := ⟨_, rfl⟩
      have b1 : Below wr.heap.size wr y1 := by rw [← h1]; exact (Below.refl _ _).alloc (Nat.le_refl _) _
      have b2 : Below y1.heap.size y1 y2 := by rw [← h2]; exact (Below.refl _ _).alloc (Nat.le_refl _) _
      have r1 := heap_alloc_new wr (.cells #[.int .u32 1048691] 48)
      rw [h1, ht] at r1
      have r2 := heap_alloc_new y1 (.cells #[.string ⟨#[102]⟩, .bool false, .int .i64 0, .bool false, .string ⟨#[111, 119, 110]⟩, .bool false, .int .i64 0, .bool false] 47)
      rw [h2, hs] at r2
      have b3 := (Below.refl y2.heap.size y2).alloc (Nat.le_refl _) (.cells #[.slice (some ⟨t, 0, none⟩) 1 1, .slice none 0 0, .slice (some ⟨s, 0, none⟩) 2 2, .slice none 0 0, .slice none 0 0] 31)
      have b23 := b2.trans (b3.mono b2.size)
      have b13 := b1.trans (b23.mono b1.size)
      have HR := Lib.hid (show xRow (y2.alloc (.cells #[.slice (some ⟨t, 0, none⟩) 1 1, .slice none 0 0, .slice (some ⟨s, 0, none⟩) 2 2, .slice none 0 0, .slice none 0 0] 31)) (t, s) from
        ⟨(b23.block _ (Array.getElem?_eq_some_iff.1 r1).1).trans r1, (b3.block _ (Array.getElem?_eq_some_iff.1 r2).1).trans r2⟩)
      have HAa := Lib.hid (HA0.out.below b13)
      have HBa := Lib.hid (HB.out.trans (b13.mono HB.out.size))
      have HXa := Lib.hid ((b13.block _ (Array.getElem?_eq_some_iff.1 HX.out).1).trans HX.out)
      have HDa := Lib.hid (HD.out.below b13)
      have HNa := Lib.hid (news_at (w := y2) (w2 := y2.alloc (.cells #[.slice (some ⟨t, 0, none⟩) 1 1, .slice none 0 0, .slice (some ⟨s, 0, none⟩) 2 2, .slice none 0 0, .slice none 0 0] 31)) (cs := encXs (t, s)) (ty := 31) rfl)
      have H1s := Lib.hid (one_xs (t, s))
      have HMl := Lib.hid (show k + 1 + 1 ≤ maxLen by unfold maxLen; omega)
      have HBy := Lib.hid (show (k + 1 + 1) * 120 ≤ 140737488355328 by omega)
      have HRz := Lib.hid (show B ≤ (y2.alloc (.cells #[.slice (some ⟨t, 0, none⟩) 1 1, .slice none 0 0, .slice (some ⟨s, 0, none⟩) 2 2, .slice none 0 0, .slice none 0 0] 31)).heap.size from by
        have hl := HAa.out.own
        rcases hl.2 with ⟨_, e⟩ | ⟨g, cap, cur, e, hb, hg, _⟩
        · omega
        · exact Nat.le_trans hb (Nat.le_of_lt (Array.getElem?_eq_some_iff.1 hg).1))
      clear b1 b2 b3 b23 b13 r1 r2 HB HX HD HA0
      go_wp2_with (at_builtin; (refine wpList_append_at6 rfl _ _ 22 rfl B 31 i0 (.agg #[.slice none 0 0, .slice none 0 0, .slice none 0 0, .slice none 0 0, .slice none 0 0]) 5 120 Tryd.underlying22 hi0 hz0 hz1 hz2 rfl (by decide) (.slice Al (k + 1) cl) (k + 1) ([.slice A1 n1 c1, .slice A2 n2 c2, .slice A3 n3 c3, .slice A4 n4 c4, .slice A5 n5 c5] ++ ts.flatMap encXs) ?hs HAa.out.own ⟨y2.heap.size, 0, none⟩ 1 1 (encXs (t, s)) ?hx rfl HNa.out H1s.out HMl.out HBy.out HRz.out ?_; (case hs => rfl); (case hx => rfl); intro v' w7 hr hg hv'))
      have hgb : ∀ g, (Value.slice Al (k + 1) cl).ownBlock = some g → B ≤ g := own_ge HAa.out.own
      have hWz := HWz.out
      have HA7 := Lib.hid (HAa.out.put HR.out hr hg)
      have HB7 := Lib.hid (HBa.out.grown hg HBa.out.size (fun g e => by have := hgb g e; omega))
      have HX7 := Lib.hid ((hg.block _ (Array.getElem?_eq_some_iff.1 HXa.out).1 (fun e => by have := hgb _ e.symm; omega)).trans HXa.out)
      have HD7 := Lib.hid (defs_grown HDa.out HAa.out.own hg)
      go_roundw
      case rel => exact ⟨k + 1, by omega, by go_num, Lib.hid ⟨_, HA7.out⟩, HB7, HX7, HD7⟩
      case measure => simp [intOf]; omega
    · have hkm : k = m := by omega
      have k1 : ¬ (k : Int) < a1 % 5 := by have := HM.out; omega
      obtain ⟨ts, hA⟩ := HA.out
      have HA0 := Lib.hid hA
      have hO0 := HO.out.move (Nat.le_refl _) (Nat.le_refl _) (fun b _ h2 => HB.out.block b h2)
      obtain ⟨Al, cl, rfl, hobj⟩ := hA.objs hO0 HB.out.size
      have HJ := Lib.hid hobj
      have HW2 := Lib.hid (al_w (HW1.out D0 (by simp)) k)
      have HOk2 := Lib.hid (al_ok (o := D0) (m := k) (by omega) HOk.out)
      have HLn := Lib.hid (al_len D0 k)
      clear hA HA hobj hO0 hkm hlt
      go_wp2_with fail
      refine (check_any (alD D0 k) HW2.out Al (k + 1) cl 0 wr.heap.size HLn.out (by unfold maxLen; omega) wr (HT.out.below HB.out) HJ.out (Nat.le_refl _)).mono ?_
      rintro e w8 ⟨s8, k8, rfl, hc, hb8⟩
      have h8 : k8 = 0 := (chk_zero hc).2 HOk2.out
      subst h8
      have HB8 := Lib.hid (HB.out.trans (hb8.mono HB.out.size))
      have HX8 := Lib.hid ((hb8.block _ (Array.getElem?_eq_some_iff.1 HX.out).1).trans HX.out)
      have HD8 := Lib.hid (HD.out.below hb8)
      have HJ8 := Lib.hid (HJ.out.below (Nat.le_refl _) hb8)
      have HS8 := Lib.hid hb8.size
      clear hc hb8 HB HX HD HJ
      go_wp2_with fail
      refine (used_any (alD D0 k) HW2.out Al (k + 1) cl 0 wr.heap.size HLn.out (by unfold maxLen; omega) w8 (HT.out.below HB8.out) HJ8.out HS8.out).mono ?_
      rintro e w9 ⟨ds9, v9, rfl, hda9, hds9, -, hdl9, hb9⟩
      have HB9 := Lib.hid (HB8.out.trans (hb9.mono HB8.out.size))
      have HX9 := Lib.hid ((hb9.block _ (Array.getElem?_eq_some_iff.1 HX8.out).1).trans HX8.out)
      have HD9 := Lib.hid (HD8.out.below hb9)
      have HJ9 := Lib.hid (HJ8.out.below HS8.out hb9)
      have HS9 := Lib.hid (Nat.le_trans HS8.out hb9.size)
      have hdd : ds9 = ds := rises_unique ltP_irr ltP_tr (hds9 HOk2.out).2 HDs.out.2 (fun x => ((hds9 HOk2.out).1 x).trans ((al_used (by omega) HOk.out x).trans (HDs.out.1 x).symm))
      subst hdd
      obtain ⟨A9, c9, rfl, -⟩ := id hda9
      have HDn := Lib.hid hda9.df
      have HDo := Lib.hid HD9.out.df
      clear hda9 hds9 hdl9 hb9 HB8 HX8 HD8 HJ8 HS8 HD9
      obtain ⟨x0, x1, x2, x3, x4, xf⟩ := row5 HX9.out
      have hS : AlS w w9 (.slice A5 n5 c5) w9 := ⟨x4, Below.refl _ _, (Array.getElem?_eq_some_iff.1 HX9.out).1⟩
      have HCd := Lib.hid (show ∀ w', AlS w w9 (.slice A5 n5 c5) w' → Calls Tryd.prog 18 #[.slice A6 ds9.length c6, .slice A9 ds9.length c9] w' (fun e w'' => e = .returned (.bool true) ∧ ∃ k, w'' = w'.drewN k) from fun w' h => by
        have h1 := defs7_any ds9 ds9 A6 A9 ds9.length ds9.length c6 c9 rfl rfl (by have := HDl.out; omega) w' (HDo.out.below h.2.1) (HDn.out.below h.2.1)
        rw [decide_eq_true rfl] at h1
        exact h1)
      have HCe := Lib.hid (show ∀ w', AlS w w9 (.slice A5 n5 c5) w' → Calls Tryd.prog 17 #[.slice Al (k + 1) cl] w' (fun e w'' => (∃ A c, e = .returned (.slice A n5 c)) ∧ Below w'.heap.size w' w'') from fun w' h => by
        have hb := HB9.out.trans (h.2.1.mono HB9.out.size)
        refine (entries_any (alD D0 k) HW2.out Al (k + 1) cl 0 wr.heap.size HLn.out (by unfold maxLen; omega) w' (HT.out.below hb) (HJ9.out.below HS9.out h.2.1) (Nat.le_trans HS9.out h.2.1.size)).mono ?_
        rintro e w'' ⟨ds', v', rfl, ⟨A', c', rfl, -⟩, h1, -, h2⟩
        have hl : ds'.length = n5 := by
          rw [h1 HOk2.out, entL_len _ _ (Nat.le_refl _), List.take_length]
          exact (al_ents D0 k).trans HN5.out
        exact ⟨⟨A', c', by rw [hl]⟩, h2⟩)
      clear x0 x1 x2 x3 x4 xf
      go_wp2_with fail
      go_region_held3 (fun w' => AlS w w9 (.slice A5 n5 c5) w') (first | (with_reducible assumption) | ((with_reducible apply alS_drew); (with_reducible assumption)) | ((with_reducible apply alS_drewN); (with_reducible assumption)) | ((with_reducible apply alS_below); (with_reducible assumption); (with_reducible assumption)))
        (first
        | (go_at_call 18; (with_reducible refine (HCd.out _ ?hm).mono ?_); (case hm => (first | (with_reducible assumption) | ((with_reducible apply alS_drew); (with_reducible assumption)) | ((with_reducible apply alS_drewN); (with_reducible assumption)))); rintro e w' ⟨rfl, kk, rfl⟩)
        | (go_at_call 17; (with_reducible refine (HCe.out _ ?hm).mono ?_); (case hm => (first | (with_reducible assumption) | ((with_reducible apply alS_drew); (with_reducible assumption)) | ((with_reducible apply alS_drewN); (with_reducible assumption)))); rintro e w' ⟨⟨A', c', rfl⟩, hb⟩))
      all_goals
        rename_i hhx
        have HHx := Lib.hid hhx.2.1
        clear hhx hS
        go_wp2
        go_ret
        exact ⟨rfl, HB9.out.trans (HHx.out.mono HB9.out.size)⟩
end Go.Proofs.YthoehbmbmjmpbaaDoor.SymsAloneWalk
