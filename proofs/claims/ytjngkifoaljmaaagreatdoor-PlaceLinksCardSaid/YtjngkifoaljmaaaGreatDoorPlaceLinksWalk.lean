/- The walk of the statement PlaceLinks: it returns true, and writes nothing that was there. Condition: the tables of package ins read as they should. -/
import Derived.Test.YtjngkifoaljmaaaGreatDoorPlbC
import Derived.Test.YtjngkifoaljmaaaGreatDoorPlaW
import Derived.Test.YtjngkifoaljmaaaGreatDoorSynA
import Derived.Test.YtjngkifoaljmaaaGreatDoorSymY
namespace Go.Proofs.YtjngkifoaljmaaaGreatDoor.PlaceLinksWalk
set_option maxRecDepth 100000
open Go.RowKit
set_option linter.unusedVariables false
theorem se_agg_u8 (w : World) : (isAgg 23).run Tryz.prog w = .ok false w := by kernel_rfl
theorem se_u64 : Tryz.prog.underlying 23 = some (.int .u64) := by kernel_rfl
theorem spot_fields : (Tryz.prog.fieldsOf 25).toList.map (fun f => (f.name, f.type, f.offset)) = [("Text", 23, 0), ("Data", 23, 1)] := by kernel_rfl
theorem spot_und : Tryz.prog.underlying 25 = some (.struct (Tryz.prog.fieldsOf 25)) := by kernel_rfl
theorem spot_stood : Tryz.prog.stoodInHeld 25 = false := by kernel_rfl
theorem neq_spot (x0 x1 : Int) (w : World) : (binOp .neq 25 (.agg #[.int .u64 x0, .int .u64 x1]) (.agg #[.int .u64 x0, .int .u64 x1])).run Tryz.prog w = .ok (.bool false) w := by
  rw [run_neq_struct]
  generalize hn : (10000 : Nat) = n
  obtain ⟨d, rfl⟩ : ∃ d, n = d + 2 := ⟨9998, by omega⟩
  rw [run_equalIn_agg w (d + 1) 25 _ _ spot_und spot_stood]
  rw [se_two7 spot_fields (by decide) (by decide) (se_part7 _ se_agg_u8 _ 0 (.int .u64 x0) rfl w) (se_part7 _ se_agg_u8 _ 1 (.int .u64 x1) rfl w)
    (se_part7 _ se_agg_u8 _ 0 (.int .u64 x0) rfl w) (se_part7 _ se_agg_u8 _ 1 (.int .u64 x1) rfl w)
    (run_equalIn_int w d _ .u64 .u64 _ _ se_u64) (run_equalIn_int w d _ .u64 .u64 _ _ se_u64)]
  rw [Result.andThen_ok]
  simp
theorem SpotP.one {l : List ObjD} {t d : Int} {n : Nat} {w w' : World} {e : Ending} (h : SpotP l t d n w e w') : ∃ m As cs, e = .returned (.tuple #[.slice As m cs, .int .i64 (spC l t d)]) ∧ SpAt w' w.heap.size (if spC l t d = 0 then spL l t d n else []) (.slice As m cs) ∧ m = (if spC l t d = 0 then n else 0) ∧ Below w.heap.size w w' := by
  obtain ⟨hb, v, rfl, h1, h2⟩ := h
  by_cases h0 : spC l t d = 0
  · have hs := h1 h0
    obtain ⟨As, cs, rfl⟩ := hs.slice
    rw [spL_len] at hs ⊢
    exact ⟨n, As, cs, rfl, by rw [if_pos h0]; exact hs, by rw [if_pos h0], hb⟩
  · have := h2 h0
    subst this
    exact ⟨0, none, 0, rfl, by rw [if_neg h0]; exact ⟨none, 0, rfl, World.ownsRow_nil _ _ _ _⟩, by rw [if_neg h0], hb⟩
theorem LinkP.one {l : List ObjD} {t d : Int} {n : Nat} (hn : l.length = n) {w w' : World} {e : Ending} (h : LinkP l t d n w e w') : ∃ m q A B c c', e = .returned (.tuple #[.slice A m c, .slice B q c', .int .i64 (lkC l t d n)]) ∧ TxAt w' w.heap.size (if lkC l t d n = 0 then (txT l (spL l t d n) n).getD [] else []) (.slice A m c) ∧ LgAt w' w.heap.size (if lkC l t d n = 0 then daT l n else []) (.slice B q c') ∧ m ≤ 1000000 ∧ q ≤ 1000000 ∧ Below w.heap.size w w' := by
  obtain ⟨hb, v, u, rfl, h1, h2⟩ := h
  by_cases h0 : lkC l t d n = 0
  · obtain ⟨xs, hx, ht, hg⟩ := h2 h0
    have hck : (chkF l).2 = 0 := by
      by_cases h : (chkF l).2 = 0
      · exact h
      · exfalso
        unfold lkC spC at h0
        rw [if_pos h] at h0
        rw [if_pos h] at h0
        exact h h0
    have hs := may_sumTD (chkF_may hck)
    have hxl := txT_len (by omega) hx
    have hdl := daT_len l n (by omega)
    have e1 := sumT_le l n
    have e2 := sumD_le l n
    obtain ⟨A, c, rfl, -⟩ := id ht
    obtain ⟨B, c', rfl, -⟩ := id hg
    exact ⟨_, _, A, B, c, c', rfl, by rw [if_pos h0, hx]; exact ht, by rw [if_pos h0]; exact hg, by omega, by omega, hb⟩
  · obtain ⟨rfl, rfl⟩ := h1 h0
    exact ⟨0, 0, none, none, 0, 0, rfl, by rw [if_neg h0]; exact ⟨none, 0, rfl, World.ownsRow_nil _ _ _ _⟩, by rw [if_neg h0]; exact ⟨none, 0, rfl, World.ownsRow_nil _ _ _ _⟩, by omega, by omega, hb⟩
set_option maxHeartbeats 8000000 in
theorem walk (A0 : Option Addr) (c0 : Nat) (l : List ObjD) (t d oo jj : Int) (w : World) (hO : ObjsAt w 0 w.heap.size l A0) (hW : ∀ d ∈ l, ObjW d) (hL : ∀ d ∈ l, ObjL d) (hn0 : l.length ≤ maxLen) (hnc : l.length ≤ c0) (wt : (Lit.int .u64 t).wf = true) (wd : (Lit.int .u64 d).wf = true) (wo : (Lit.int .i64 oo).wf = true) (wj : (Lit.int .i64 jj).wf = true) (hT : Tabs w) :
    Calls Tryz.prog 3 #[.slice A0 l.length c0, .agg #[.int .u64 t, .int .u64 d], .agg #[.int .i64 oo, .int .i64 jj]] w fun e w' => e = .returned (.bool true) ∧ Below w.heap.size w w' := by
  have HU := Lib.hid (And.intro (isU_of_wf wt) (And.intro (isU_of_wf wd) (And.intro (isI_of wo) (isI_of wj))))
  obtain ⟨y1, h1⟩ : ∃ y1, w.alloc (.cells #[.int .u64 t, .int .u64 d] 25) = y1 := ⟨_, rfl⟩
  obtain ⟨y2, h2⟩ : ∃ y2, y1.alloc (.cells #[.int .i64 oo, .int .i64 jj] 27) = y2 := ⟨_, rfl⟩
  have b1 : Below w.heap.size w y1 := by rw [← h1]; exact (Below.refl _ _).alloc (Nat.le_refl _) _
  have b2 : Below y1.heap.size y1 y2 := by rw [← h2]; exact (Below.refl _ _).alloc (Nat.le_refl _) _
  have r1 := heap_alloc_new w (.cells #[.int .u64 t, .int .u64 d] 25)
  rw [h1] at r1
  have r2 := heap_alloc_new y1 (.cells #[.int .i64 oo, .int .i64 jj] 27)
  have hs1 : y1.heap.size = w.heap.size + 1 := by rw [← h1]; simp
  rw [h2, hs1] at r2
  have HB0 := Lib.hid (b1.trans (b2.mono b1.size))
  have HX0 := Lib.hid ((b2.block _ (Array.getElem?_eq_some_iff.1 r1).1).trans r1)
  have HD0 := Lib.hid r2
  have HH := Lib.hid (And.intro h1 h2)
  have HT := Lib.hid hT
  have HO := Lib.hid hO
  have HW := Lib.hid hW
  have HL := Lib.hid hL
  have HMx := Lib.hid hn0
  have HCc := Lib.hid hnc
  obtain ⟨n, hn⟩ : ∃ n, l.length = n := ⟨_, rfl⟩
  rw [hn] at hn0 ⊢
  have HN := Lib.hid hn
  clear hT hO hW hL wt wd wo wj b1 b2 r1 r2 hnc h1 h2 hs1
  unfold maxLen at hn0
  go_enter Tryz.func3, Tryz.ntmps3
  go_wp2_with fail
  rw [HH.out.1, HH.out.2]
  refine (awake8_yes _ (HT.out.below HB0.out)).mono ?_
  rintro e w2 ⟨rfl, hb1⟩
  have HB1 := Lib.hid (HB0.out.trans (hb1.mono HB0.out.size))
  have HX1 := Lib.hid ((hb1.block _ (Array.getElem?_eq_some_iff.1 HX0.out).1).trans HX0.out)
  have HD1 := Lib.hid ((hb1.block _ (Array.getElem?_eq_some_iff.1 HD0.out).1).trans HD0.out)
  clear hb1 HB0 HX0 HD0 HH
  go_wp2_with fail
  refine (small7_any l HW.out HL.out A0 n c0 0 w.heap.size HN.out (by rw [← HN.out]; exact HMx.out) w2 (HO.out.below (Nat.le_refl _) HB1.out) HB1.out.size).mono ?_
  rintro e w3 ⟨⟨b, rfl, hsm⟩, hb2⟩
  have HB2 := Lib.hid (HB1.out.trans (hb2.mono HB1.out.size))
  have HX2 := Lib.hid ((hb2.block _ (Array.getElem?_eq_some_iff.1 HX1.out).1).trans HX1.out)
  have HD2 := Lib.hid ((hb2.block _ (Array.getElem?_eq_some_iff.1 HD1.out).1).trans HD1.out)
  clear hb2 HB1 HX1 HD1
  cases b
  case false =>
    clear hsm
    go_wp2
    go_ret
    exact ⟨rfl, HB2.out⟩
  obtain ⟨h20, hsS, hsR⟩ := hsm rfl
  have hn20 : n ≤ 20 := by omega
  have HSy := Lib.hid (show ∀ i (h : i < l.length), l[i].syms.length ≤ 1000000 from fun i h => by have h1 := sumS_go h; have h2 := sumS_le l (i + 1); omega)
  clear hsm hsS hsR h20 hn0 hn
  obtain ⟨x0, x1, xf⟩ := row2 HX2.out
  go_wp2_with fail
  refine (spots_any l HW.out A0 n c0 0 w.heap.size HN.out (by omega) t d HU.out.1 HU.out.2.1 w3 (HT.out.below HB2.out) (HO.out.below (Nat.le_refl _) HB2.out) HB2.out.size).mono ?_
  intro e w4 hs1
  obtain ⟨m1, As, cs, rfl, hsa, hm1, hb3⟩ := SpotP.one hs1
  have HB3 := Lib.hid (HB2.out.trans (hb3.mono HB2.out.size))
  have HX3 := Lib.hid ((hb3.block _ (Array.getElem?_eq_some_iff.1 HX2.out).1).trans HX2.out)
  have HD3 := Lib.hid ((hb3.block _ (Array.getElem?_eq_some_iff.1 HD2.out).1).trans HD2.out)
  have HSa := Lib.hid hsa
  have HM1 := Lib.hid hm1
  clear hb3 hs1 hsa HB2 HX2 HD2 x0 x1 xf hm1
  obtain ⟨x0, x1, xf⟩ := row2 HX3.out
  go_wp2_with fail
  refine (rspots_any l HW.out A0 n c0 0 w.heap.size HN.out (by rw [← HN.out]; exact HCc.out) (by omega) t d HU.out.1 HU.out.2.1 w4 (HO.out.below (Nat.le_refl _) HB3.out) HB3.out.size).mono ?_
  intro e w5 hs2
  obtain ⟨m2, Bs, cb, rfl, hsb, hm2, hb4⟩ := SpotP.one hs2
  have HB4 := Lib.hid (HB3.out.trans (hb4.mono HB3.out.size))
  have HX4 := Lib.hid ((hb4.block _ (Array.getElem?_eq_some_iff.1 HX3.out).1).trans HX3.out)
  have HD4 := Lib.hid ((hb4.block _ (Array.getElem?_eq_some_iff.1 HD3.out).1).trans HD3.out)
  have HSb := Lib.hid hsb
  have HSa4 := Lib.hid (HSa.out.below hb4)
  have hm3 := hm2.trans HM1.out.symm
  subst hm3
  have hmn : m2 ≤ 20 := by rw [hm2]; split <;> omega
  obtain ⟨xs, hxs⟩ : ∃ xs, (if spC l t d = 0 then spL l t d n else []) = xs := ⟨_, rfl⟩
  rw [hxs] at HSa4 HSb
  have hxl := HSb.out.len
  have HXl := Lib.hid hxl
  generalize spC l t d = code at *
  clear hb4 hs2 hsb HB3 HX3 HD3 HSa x0 x1 xf hm2 HM1 hxs hxl
  obtain ⟨B1, hB1⟩ : ∃ B, w3.heap.size = B := ⟨_, rfl⟩
  obtain ⟨B2, hB2⟩ : ∃ B, w4.heap.size = B := ⟨_, rfl⟩
  rw [hB1] at HSa4
  rw [hB2] at HSb
  clear hB1 hB2
  have tc : (code != code) = false := by simp
  go_wp2
  go_loopw [11] (fun i wr => ∃ k : Nat, k ≤ m2 ∧ i = .int .i64 k ∧ Hid (SpAt wr B1 xs (.slice As m2 cs)) ∧ Hid (SpAt wr B2 xs (.slice Bs m2 cb)) ∧ Hid (Below w5.heap.size w5 wr)) (fun i _ => m2 - (intOf i).toNat)
  case atStart => exact ⟨0, by omega, rfl, HSa4, HSb, Lib.hid (Below.refl _ _)⟩
  case round =>
    clear HSa4 HSb
    obtain ⟨k, hk, rfl, HSa, HSb, HBx⟩ := hrel
    by_cases hlt : k < m2
    · have k0 : (0 : Int) ≤ k := by omega
      have k1 : (k : Int) < m2 := by omega
      have hkx : k < xs.length := by rw [HXl.out]; exact hlt
      obtain ⟨b1, o1, rfl, z0, z1⟩ := HSa.out.at_ hkx
      obtain ⟨b2, o2, rfl, v0, v1⟩ := HSb.out.at_ hkx
      generalize xs[k].1 = X at *
      generalize xs[k].2 = Y at *
      have hq := fun W => neq_spot X Y W
      have hbn := fun q => below_drewN (Below.refl wr.heap.size wr) q
      have HSa2 := Lib.hid (fun q => HSa.out.below (hbn q))
      have HSb2 := Lib.hid (fun q => HSb.out.below (hbn q))
      have HBx2 := Lib.hid (fun q => HBx.out.trans ((hbn q).mono HBx.out.size))
      clear hbn HSa HSb HBx hkx
      go_wp2_with fail
      go_quiet (fail)
      go_wp2
      go_roundw
      case rel => exact ⟨k + 1, by omega, by go_num, Lib.hid (HSa2.out nq), Lib.hid (HSb2.out nq), Lib.hid (HBx2.out nq)⟩
      case measure => simp [intOf]; omega
    · have hkn : k = m2 := by omega
      have k1 : ¬ (k : Int) < m2 := by omega
      have HB5 := Lib.hid (HB4.out.trans (HBx.out.mono HB4.out.size))
      have HX5 := Lib.hid ((HBx.out.block _ (Array.getElem?_eq_some_iff.1 HX4.out).1).trans HX4.out)
      have HD5 := Lib.hid ((HBx.out.block _ (Array.getElem?_eq_some_iff.1 HD4.out).1).trans HD4.out)
      obtain ⟨d0, d1, df⟩ := row2 HD5.out
      have hxl := HXl.out
      have HAa := Lib.hid (addr_any l A0 n c0 0 w.heap.size HN.out (by omega) HSy.out xs As m2 cs B1 wr (HO.out.below (Nat.le_refl _) HB5.out) HB5.out.size HSa.out oo jj HU.out.2.2.1 HU.out.2.2.2)
      clear hlt hkn HB4 HX4 HD4 hxl
      go_wp2_with fail
      refine HAa.out.mono ?_
      rintro e w6 ⟨hb6, rfl⟩
      have HB6 := Lib.hid (HB5.out.trans (hb6.mono HB5.out.size))
      have HX6 := Lib.hid ((hb6.block _ (Array.getElem?_eq_some_iff.1 HX5.out).1).trans HX5.out)
      have HD6 := Lib.hid ((hb6.block _ (Array.getElem?_eq_some_iff.1 HD5.out).1).trans HD5.out)
      have HSb6 := Lib.hid (HSb.out.below hb6)
      obtain ⟨ad, hade⟩ : ∃ ad, adrF l xs oo jj = ad := ⟨_, rfl⟩
      have HAd := Lib.hid hade
      rw [hade]
      clear hb6 hade d0 d1 df HAa HB5 HX5 HD5 HSa HSb
      obtain ⟨d0, d1, df⟩ := row2 HD6.out
      go_wp2_with fail
      refine (raddr_any l A0 n c0 0 w.heap.size HN.out (by omega) HSy.out xs Bs m2 cb B2 w6 (HO.out.below (Nat.le_refl _) HB6.out) HB6.out.size HSb6.out oo jj).mono ?_
      rintro e w7 ⟨hb7, rfl⟩
      rw [HAd.out]
      have HB7 := Lib.hid (HB6.out.trans (hb7.mono HB6.out.size))
      have HX7 := Lib.hid ((hb7.block _ (Array.getElem?_eq_some_iff.1 HX6.out).1).trans HX6.out)
      clear hb7 d0 d1 df HB6 HX6 HD6 HSb6 HAd
      generalize ad.getD 0 = av
      generalize ad.isSome = ab
      go_wp2_with fail
      refine (psizes_w l A0 n c0 0 w.heap.size HN.out (by omega) w7 (HO.out.below (Nat.le_refl _) HB7.out) HB7.out.size).mono ?_
      rintro e w8 ⟨rfl, hb8⟩
      have HB8 := Lib.hid (HB7.out.trans (hb8.mono HB7.out.size))
      have HX8 := Lib.hid ((hb8.block _ (Array.getElem?_eq_some_iff.1 HX7.out).1).trans HX7.out)
      clear hb8 HB7 HX7
      go_wp2_with fail
      refine (rsizes_w l A0 n c0 0 w.heap.size (by rw [HN.out]; exact Nat.le_refl _) (by rw [HN.out]; omega) w8 (HO.out.below (Nat.le_refl _) HB8.out) HB8.out.size).mono ?_
      rintro e w9 ⟨rfl, rfl⟩
      generalize wT8 l n = st
      generalize wD8 l n = sd
      have u1 : ((av : Int) != av) = false := by simp
      have u2 : ((ab : Bool) != ab) = false := by simp
      have u3 : ((st : Int) != st) = false := by simp
      have u4 : ((sd : Int) != sd) = false := by simp
      obtain ⟨x0, x1, xf⟩ := row2 HX8.out
      go_wp2_with fail
      refine (link_any l HW.out A0 n c0 0 w.heap.size HN.out (by omega) t d HU.out.1 HU.out.2.1 _ (HT.out.below HB8.out) (HO.out.below (Nat.le_refl _) HB8.out) HB8.out.size).mono ?_
      intro e w10 hl1
      obtain ⟨n1, q1, A1, D1, c1, c2, rfl, ht1, hg1, hn1, hq1, hb10⟩ := LinkP.one HN.out hl1
      have HB10 := Lib.hid (HB8.out.trans (hb10.mono HB8.out.size))
      have HX10 := Lib.hid ((hb10.block _ (Array.getElem?_eq_some_iff.1 HX8.out).1).trans HX8.out)
      have HTa := Lib.hid ht1
      have HGa := Lib.hid hg1
      obtain ⟨lc, hlc⟩ : ∃ lc, lkC l t d n = lc := ⟨_, rfl⟩
      obtain ⟨X1, hX1⟩ : ∃ X, (if lkC l t d n = 0 then (txT l (spL l t d n) n).getD [] else []) = X := ⟨_, rfl⟩
      obtain ⟨Z1, hZ1⟩ : ∃ X, (if lkC l t d n = 0 then daT l n else []) = X := ⟨_, rfl⟩
      rw [hX1] at HTa
      rw [hZ1] at HGa
      have HEq := Lib.hid (And.intro hlc (And.intro hX1 hZ1))
      rw [hlc]
      clear hl1 ht1 hg1 hb10 hlc hX1 hZ1 x0 x1 xf HX8
      obtain ⟨x0, x1, xf⟩ := row2 HX10.out
      go_wp2_with fail
      refine (rlink_any l HW.out A0 n c0 0 w.heap.size HN.out (by rw [← HN.out]; exact HCc.out) (by omega) t d HU.out.1 HU.out.2.1 w10 (HO.out.below (Nat.le_refl _) HB10.out) HB10.out.size).mono ?_
      intro e w11 hl2
      obtain ⟨n2, q2, A2, D2, c3, c4, rfl, ht2, hg2, hn2, hq2, hb11⟩ := LinkP.one HN.out hl2
      rw [HEq.out.2.1] at ht2
      rw [HEq.out.2.2] at hg2
      rw [HEq.out.1]
      have HB11 := Lib.hid (HB10.out.trans (hb11.mono HB10.out.size))
      have ht1 := HTa.out.below hb11
      have hg1 := HGa.out.below hb11
      have e1 := ht1.len
      have e2 := ht2.len
      have e3 := hg1.len
      have e4 := hg2.len
      have e5 : n2 = n1 := by omega
      have e6 : q2 = q1 := by omega
      subst e5
      subst e6
      have HWo := Lib.hid (words_same X1 n2 e1 hn2 A1 A2 c1 c3 _ _ w11 ht1 ht2)
      have HG1 := Lib.hid hg1
      have HG2 := Lib.hid hg2
      have HL4 := Lib.hid (And.intro e3 hq2)
      clear hl2 ht1 ht2 hg1 hg2 e1 e2 e3 e4 hb11 x0 x1 xf HX10 HTa HGa HEq
      have tl : (lc == lc) = true := by simp
      go_wp2_with fail
      refine HWo.out.mono ?_
      rintro e w12 ⟨rfl, hb12⟩
      have HB12 := Lib.hid (HB11.out.trans (hb12.mono HB11.out.size))
      have HLo := Lib.hid (longs_same Z1 q2 HL4.out.1 HL4.out.2 D1 D2 c2 c4 _ _ w12 (HG1.out.below hb12) (HG2.out.below hb12))
      clear hb12 HWo HB11
      go_wp2_with fail
      refine HLo.out.mono ?_
      rintro e w13 ⟨rfl, hb13⟩
      have HB13 := Lib.hid (HB12.out.trans (hb13.mono HB12.out.size))
      clear hb13
      go_wp2
      go_ret
      exact ⟨rfl, HB13.out⟩
end Go.Proofs.YtjngkifoaljmaaaGreatDoor.PlaceLinksWalk
