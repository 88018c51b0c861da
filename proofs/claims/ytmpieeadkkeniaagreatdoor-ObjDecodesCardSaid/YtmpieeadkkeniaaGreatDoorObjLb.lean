/- Layer 6: the reference's Write, walked. No condition. -/
import Derived.Test.YtmpieeadkkeniaaGreatDoorObjLa
namespace Go.Proofs.YtmpieeadkkeniaaGreatDoor
set_option maxRecDepth 100000
open Go.RowKit
set_option linter.unusedVariables false
set_option maxHeartbeats 8000000 in
theorem rwrite_any (d : ObjD) (hF : ObjF d) (hlen : (encB d).length ≤ 700000) (v : Value) (lo hi : Nat) (w : World) (hO : ObjAt w lo hi d v) (hh : hi ≤ w.heap.size) :
    Calls Tryz.prog 22 #[v] w fun e w' => ∃ vv, e = .returned vv ∧ WrL w vv (encB d) w' := by
  obtain ⟨A1, c1, A2, c2, A3, c3, A4, c4, A5, c5, es, rfl, p1, p2, p3, p4, p5, p6⟩ := hO
  obtain ⟨n1, e1⟩ : ∃ n, d.text.length = n := ⟨_, rfl⟩
  obtain ⟨n2, e2⟩ : ∃ n, d.data.length = n := ⟨_, rfl⟩
  obtain ⟨n3, e3⟩ : ∃ n, d.syms.length = n := ⟨_, rfl⟩
  obtain ⟨n4, e4⟩ : ∃ n, d.rels.length = n := ⟨_, rfl⟩
  obtain ⟨n5, e5⟩ : ∃ n, d.ents.length = n := ⟨_, rfl⟩
  have hn1 : n1 < 65536 := by have := hF.ct; omega
  have hn2 : n2 < 65536 := by have := hF.cd; omega
  have hn3 : n3 < 65536 := by have := hF.cs; omega
  have hn4 : n4 < 65536 := by have := hF.cr; omega
  have hn5 : n5 < 65536 := by have := hF.ce; omega
  rw [e1, e2, e3, e4, e5]
  have HCn := Lib.hid (show cntsL d = [(n1 : Int), n2, n3, n4, n5] by unfold cntsL; rw [e1, e2, e3, e4, e5])
  have HPl := Lib.hid (P_len d)
  have HLe := Lib.hid hlen
  have HFd := Lib.hid hF
  have HH := Lib.hid hh
  have E1 := Lib.hid e1
  have E2 := Lib.hid e2
  have E3 := Lib.hid e3
  have E4 := Lib.hid e4
  have E5 := Lib.hid e5
  have R1 := Lib.hid p1
  have R2 := Lib.hid p2
  have R3 := Lib.hid p3
  have R4 := Lib.hid p4
  have R5 := Lib.hid p5
  have R6 := Lib.hid p6
  have HB0 := Lib.hid ((Below.refl w.heap.size w).alloc (Nat.le_refl _) (.cells #[.slice A1 n1 c1, .slice A2 n2 c2, .slice A3 n3 c3, .slice A4 n4 c4, .slice A5 n5 c5] 28))
  have HX0 := Lib.hid (heap_alloc_new w (.cells #[.slice A1 n1 c1, .slice A2 n2 c2, .slice A3 n3 c3, .slice A4 n4 c4, .slice A5 n5 c5] 28))
  have HSz := Lib.hid (show (w.alloc (.cells #[.slice A1 n1 c1, .slice A2 n2 c2, .slice A3 n3 c3, .slice A4 n4 c4, .slice A5 n5 c5] 28)).heap.size = w.heap.size + 1 by simp)
  have hcv := Lib.run_convert_bytes_const (P := Tryz.prog) (w.alloc (.cells #[.slice A1 n1 c1, .slice A2 n2 c2, .slice A3 n3 c3, .slice A4 n4 c4, .slice A5 n5 c5] 28)) 31 5 #[.int .u8 79, .int .u8 66, .int .u8 74, .int .u8 49] 4 4 Tryz.underlying31 Tryz.underlying5
  rw [HSz.out] at hcv
  obtain ⟨i0, hi0, hz0, hz1, hz2⟩ := info_parts infoU8
  clear hF hlen hh e1 e2 e3 e4 e5 p1 p2 p3 p4 p5 p6
  go_enter Tryz.func22, Tryz.ntmps22
  go_upto_region 3 with fail
  obtain ⟨W, hWe, hWx, hWm, hWc⟩ := write_start (A1 := A1) (A2 := A2) (A3 := A3) (A4 := A4) (A5 := A5) (n1 := n1) (n2 := n2) (n3 := n3) (n4 := n4) (n5 := n5) (c1 := c1) (c2 := c2) (c3 := c3) (c4 := c4) (c5 := c5) w
  have HXs := Lib.hid hWx
  have HMs := Lib.hid hWm
  have HCs := Lib.hid hWc
  have HWe := Lib.hid hWe
  clear hWe hWx hWm hWc hcv
  rw [← HWe.out]
  clear HWe HB0 HX0
  go_loopw [3, 5, 35] (fun vv _ i wr => ∃ (k : Nat) (v0 : Value), v0 = vv ∧ k ≤ 5 ∧ i = .int .i64 k ∧ Hid (WrM w v0 (magicW ++ ((cntsL d).take k).flatMap (fun x => bytesL x 2)) k wr) ∧ Hid (wr.heap[w.heap.size]? = some (.cells #[.slice A1 n1 c1, .slice A2 n2 c2, .slice A3 n3 c3, .slice A4 n4 c4, .slice A5 n5 c5] 28 (0, 0))) ∧ Hid (wr.heap[w.heap.size + 1 + 1]? = some (.cells #[.int .i64 n1, .int .i64 n2, .int .i64 n3, .int .i64 n4, .int .i64 n5] 3 (0, 0)))) (fun _ _ i _ => 5 - (intOf i).toNat)
  case atStart => exact ⟨0, _, rfl, by omega, rfl, Lib.hid (by simpa using HMs.out), HXs, HCs⟩
  case round =>
    clear HXs HMs HCs
    obtain ⟨k, v0, rfl, hk, rfl, HM, HX, HC⟩ := hrel
    by_cases hlt : k < 5
    · have k0 : (0 : Int) ≤ k := by omega
      have k1 : (k : Int) < 5 := by omega
      have hlz : k < (cntsL d).length := hlt
      obtain ⟨x, hx⟩ : ∃ x, nth [(n1 : Int), n2, n3, n4, n5] k = x := ⟨_, rfl⟩
      have hxb : 0 ≤ x ∧ x < 65536 := by
        rw [← hx]
        rcases (by omega : k = 0 ∨ k = 1 ∨ k = 2 ∨ k = 3 ∨ k = 4) with rfl | rfl | rfl | rfl | rfl <;> simp [nth] <;> omega
      have HGo := Lib.hid (show magicW ++ ((cntsL d).take (k + 1)).flatMap (fun x => bytesL x 2) = (magicW ++ ((cntsL d).take k).flatMap (fun x => bytesL x 2)) ++ bytesL x 2 by rw [take_flat _ hlz, ← nth_get hlz, ← hx, HCn.out, List.append_assoc])
      have hcell : wr.cell? ⟨w.heap.size + 1 + 1, k, none⟩ = some (.int .i64 x) := by
        refine (cell_of_row wr (w.heap.size + 1 + 1) k _ _ _ HC.out).trans ?_
        rw [← hx]
        rcases (by omega : k = 0 ∨ k = 1 ∨ k = 2 ∨ k = 3 ∨ k = 4) with rfl | rfl | rfl | rfl | rfl <;> rfl
      have hx0 := hxb.1
      have hx1 := hxb.2
      have HLen := Lib.hid (show (magicW ++ ((cntsL d).take k).flatMap (fun x => bytesL x 2)).length ≤ 1000000 by (have h1 := take_flat_len (fun x => bytesL x 2) (cntsL d) k; have h2 := HPl.out; have h3 := HLe.out; unfold P1 at h2; simp only [List.length_append] at h2 ⊢; omega))
      clear hx hxb hlz
      generalize (magicW ++ ((cntsL d).take k).flatMap (fun x => bytesL x 2)) = L at *
      go_wp2_with fail
      refine (rnum_any x 2 ⟨by omega, by omega⟩ (by omega) (by omega) wr).mono ?_
      rintro e w2 ⟨bb, oo, cc, rfl, hN, hb⟩
      obtain ⟨_, _, _, hv1, hnb, hnl, hnc⟩ := hN
      rw [bytesL_length] at hv1
      cases hv1
      have HN := Lib.hid (newB_cells hnc)
      have HM2 := Lib.hid (HM.out.below hb)
      have HX2 := Lib.hid ((hb.block _ (Array.getElem?_eq_some_iff.1 HX.out).1).trans HX.out)
      have HC2 := Lib.hid ((hb.block _ (Array.getElem?_eq_some_iff.1 HC.out).1).trans HC.out)
      have HNl := Lib.hid (show (u8L (bytesL x 2)).length = 2 * 1 by simp [bytesL_length])
      clear hb hnc hnb hnl HM HX HC hcell
      rcases HM2.out with ⟨rfl, rfl, hL, hmc, hms, hmb⟩ | ⟨hk0, hwl⟩
      · have HMc := Lib.hid hmc
        have HMb := Lib.hid hmb
        have HLm := Lib.hid hL
        clear hmc hms hmb HM2 hL
        go_wp2_with (at_builtin; refine wpList_append_grows _ rfl _ _ 31 rfl 5 i0 (.int .u8 0) 1 1 Tryz.underlying31 hi0 hz0 hz1 hz2 rfl (by decide) (some ⟨w.heap.size + 1, 0, none⟩) 4 4 (u8L magicW) rfl (fun h => nomatch h) rfl (fun b hb => by cases hb; exact HMc.out) ⟨bb, oo, none⟩ 2 cc (u8L (bytesL x 2)) rfl HNl.out HN.out (u8L_one _) (by decide) (by unfold maxLen; decide) (by decide) ?_)
        intro v3 w3 hown3 hg3
        have HR := Lib.hid (show WrM w v3 (magicW ++ ((cntsL d).take (0 + 1)).flatMap (fun x => bytesL x 2)) (0 + 1) w3 from by
          rw [HGo.out, HLm.out]
          refine .inr ⟨by omega, own_base ?_ HMb.out.size, HMb.out.grown hg3 HMb.out.size (by simp)⟩
          rw [List.length_append, bytesL_length]
          unfold u8L at hown3 ⊢
          rw [List.map_append]
          exact hown3)
        have HX3 := Lib.hid ((hg3.block _ (Array.getElem?_eq_some_iff.1 HX2.out).1 (by simp)).trans HX2.out)
        have HC3 := Lib.hid ((hg3.block _ (Array.getElem?_eq_some_iff.1 HC2.out).1 (by simp)).trans HC2.out)
        clear hown3 hg3
        go_wp2
        go_roundw
        case rel => exact ⟨0 + 1, v3, rfl, by omega, by go_num, HR, HX3, HC3⟩
        case measure => simp [intOf]
      · have HW := Lib.hid hwl
        clear hwl HM2
        go_wp2_with (at_builtin; refine wpList_append_own _ rfl _ _ 31 rfl w.heap.size 5 i0 (.int .u8 0) 1 1 Tryz.underlying31 hi0 hz0 hz1 hz2 rfl (by decide) v0 L.length (u8L L) rfl HW.out.1 ⟨bb, oo, none⟩ 2 cc (u8L (bytesL x 2)) rfl HNl.out HN.out (u8L_one _) (by have := HLen.out; unfold maxLen; omega) (by have := HLen.out; omega) HW.out.2.size ?_)
        intro v3 w3 hown3 hg3 _
        have HR := Lib.hid (show WrM w v3 (magicW ++ ((cntsL d).take (k + 1)).flatMap (fun x => bytesL x 2)) (k + 1) w3 from by
          rw [HGo.out]
          exact .inr ⟨by omega, HW.out.more (by rw [bytesL_length]) hown3 hg3⟩)
        have HX3 := Lib.hid (box_stays HW.out.1 hg3 HX2.out (by decide))
        have HC3 := Lib.hid (box_stays HW.out.1 hg3 HC2.out (by decide))
        clear hown3 hg3
        go_wp2
        go_roundw
        case rel => exact ⟨k + 1, v3, rfl, by omega, by go_num, HR, HX3, HC3⟩
        case measure => simp [intOf]; omega
    · have hlt2 : ¬ (k : Int) < 5 := by omega
      have HW := Lib.hid (show WrL w v0 (P1 d) wr from by
        obtain rfl : k = 5 := by omega
        rcases HM.out with ⟨h, _⟩ | ⟨_, h⟩
        · omega
        · rw [show (cntsL d).take 5 = cntsL d from rfl] at h
          exact h)
      clear HM HC hlt
      go_wp2
      clear hlt2 hk
      go_loopw [3, 6] (fun vv i wr => ∃ (k : Nat) (v0 : Value), v0 = vv ∧ k ≤ n1 ∧ i = .int .i64 k ∧ Hid (WrL w v0 (P1 d ++ (d.text.take k).flatMap (fun x => bytesL x 4)) wr) ∧ Hid (wr.heap[w.heap.size]? = some (.cells #[.slice A1 n1 c1, .slice A2 n2 c2, .slice A3 n3 c3, .slice A4 n4 c4, .slice A5 n5 c5] 28 (0, 0)))) (fun _ i _ => n1 - (intOf i).toNat)
      case atStart => exact ⟨0, _, rfl, by omega, rfl, Lib.hid (by simpa using HW.out), HX⟩
      case round =>
        clear HW HX
        obtain ⟨k, v0, rfl, hk, rfl, HW, HX⟩ := hrel
        obtain ⟨⟨x0, x1, x2, x3, x4⟩, _⟩ := row_cells5 HX.out
        by_cases hlt : k < n1
        · have k0 : (0 : Int) ≤ k := by omega
          have k1 : (k : Int) < n1 := by omega
          have hle : k < d.text.length := by rw [E1.out]; exact hlt
          obtain ⟨bb1, o1, eA, _, hb1, hc⟩ := R1.out.at_ (sz := 1) (fun x => rfl) (by omega) (by omega)
          subst eA
          have y0 := (HW.out.2.cell (p := ⟨bb1, o1 + (k * 1 + 0), none⟩) (by have := HH.out; show bb1 < _; omega)).trans (hc k hle 0 _ rfl)
          rw [show o1 + (k * 1 + 0) = o1 + k by omega] at y0
          have hxw := HFd.out.text _ (List.getElem_mem hle)
          obtain ⟨x, hx⟩ : ∃ x, d.text[k] = x := ⟨_, rfl⟩
          have HGo := Lib.hid (show P1 d ++ (d.text.take (k + 1)).flatMap (fun x => bytesL x 4) = (P1 d ++ (d.text.take k).flatMap (fun x => bytesL x 4)) ++ bytesL x 4 by rw [take_flat _ hle, hx, List.append_assoc])
          have HLen := Lib.hid (show (P1 d ++ (d.text.take k).flatMap (fun x => bytesL x 4)).length ≤ 1000000 by (have h1 := take_flat_len (fun x => bytesL x 4) d.text k; have h2 := HPl.out; have h3 := HLe.out; unfold P2 at h2; simp only [List.length_append] at h2 ⊢; omega))
          rw [hx] at y0 hxw
          obtain ⟨hx0, hx1⟩ := hxw
          clear hx hle hc hb1
          generalize (P1 d ++ (d.text.take k).flatMap (fun x => bytesL x 4)) = L at *
          go_wp2_with fail
          refine (rnum_any x 4 ⟨by omega, by omega⟩ (by omega) (by omega) wr).mono ?_
          rintro e w2 ⟨bb, oo, cc, rfl, hN, hb⟩
          obtain ⟨_, _, _, hv1, hnb, hnl, hnc⟩ := hN
          rw [bytesL_length] at hv1
          cases hv1
          have HN := Lib.hid (newB_cells hnc)
          have HW2 := Lib.hid (HW.out.below hb)
          have HX2 := Lib.hid ((hb.block _ (Array.getElem?_eq_some_iff.1 HX.out).1).trans HX.out)
          have HNl := Lib.hid (show (u8L (bytesL x 4)).length = 4 * 1 by simp [bytesL_length])
          clear hb hnc hnb hnl HW HX x0 x1 x2 x3 x4 y0
          go_wp2_with (at_builtin; refine wpList_append_own _ rfl _ _ 31 rfl w.heap.size 5 i0 (.int .u8 0) 1 1 Tryz.underlying31 hi0 hz0 hz1 hz2 rfl (by decide) v0 L.length (u8L L) rfl HW2.out.1 ⟨bb, oo, none⟩ 4 cc (u8L (bytesL x 4)) rfl HNl.out HN.out (u8L_one _) (by have := HLen.out; unfold maxLen; omega) (by have := HLen.out; omega) HW2.out.2.size ?_)
          intro v3 w3 hown3 hg3 _
          have HR := Lib.hid (show WrL w v3 (P1 d ++ (d.text.take (k + 1)).flatMap (fun x => bytesL x 4)) w3 from by
            rw [HGo.out]
            exact HW2.out.more (by rw [bytesL_length]) hown3 hg3)
          have HX3 := Lib.hid (box_stays HW2.out.1 hg3 HX2.out (by decide))
          clear hown3 hg3
          go_wp2
          go_roundw
          case rel => exact ⟨k + 1, v3, rfl, by omega, by go_num, HR, HX3⟩
          case measure => simp [intOf]; omega
        · obtain rfl : n1 = k := by omega
          clear hlt
          have HW2 := Lib.hid (show WrL w v0 (P2 d) wr from by
            have h := HW.out
            rw [← E1.out, List.take_length] at h
            exact h)
          clear HW
          have HW := HW2
          clear HW2
          go_wp2
          go_loopw [3, 7] (fun vv i wr => ∃ (k : Nat) (v0 : Value), v0 = vv ∧ k ≤ n2 ∧ i = .int .i64 k ∧ Hid (WrL w v0 (P2 d ++ (d.data.take k).flatMap (fun x => bytesL x 8)) wr) ∧ Hid (wr.heap[w.heap.size]? = some (.cells #[.slice A1 n1 c1, .slice A2 n2 c2, .slice A3 n3 c3, .slice A4 n4 c4, .slice A5 n5 c5] 28 (0, 0)))) (fun _ i _ => n2 - (intOf i).toNat)
          case atStart => exact ⟨0, _, rfl, by omega, rfl, Lib.hid (by simpa using HW.out), HX⟩
          case round =>
            clear HW HX
            obtain ⟨k, v0, rfl, hk, rfl, HW, HX⟩ := hrel
            obtain ⟨⟨x0, x1, x2, x3, x4⟩, _⟩ := row_cells5 HX.out
            by_cases hlt : k < n2
            · have k0 : (0 : Int) ≤ k := by omega
              have k1 : (k : Int) < n2 := by omega
              have hle : k < d.data.length := by rw [E2.out]; exact hlt
              obtain ⟨bb1, o1, eA, _, hb1, hc⟩ := R2.out.at_ (sz := 1) (fun x => rfl) (by omega) (by omega)
              subst eA
              have y0 := (HW.out.2.cell (p := ⟨bb1, o1 + (k * 1 + 0), none⟩) (by have := HH.out; show bb1 < _; omega)).trans (hc k hle 0 _ rfl)
              rw [show o1 + (k * 1 + 0) = o1 + k by omega] at y0
              have hxw := HFd.out.data _ (List.getElem_mem hle)
              obtain ⟨x, hx⟩ : ∃ x, d.data[k] = x := ⟨_, rfl⟩
              have HGo := Lib.hid (show P2 d ++ (d.data.take (k + 1)).flatMap (fun x => bytesL x 8) = (P2 d ++ (d.data.take k).flatMap (fun x => bytesL x 8)) ++ bytesL x 8 by rw [take_flat _ hle, hx, List.append_assoc])
              have HLen := Lib.hid (show (P2 d ++ (d.data.take k).flatMap (fun x => bytesL x 8)).length ≤ 1000000 by (have h1 := take_flat_len (fun x => bytesL x 8) d.data k; have h2 := HPl.out; have h3 := HLe.out; unfold P3 at h2; simp only [List.length_append] at h2 ⊢; omega))
              rw [hx] at y0 hxw
              obtain ⟨hx0, hx1⟩ := hxw
              clear hx hle hc hb1
              generalize (P2 d ++ (d.data.take k).flatMap (fun x => bytesL x 8)) = L at *
              go_wp2_with fail
              refine (rnum_any x 8 ⟨by omega, by omega⟩ (by omega) (by omega) wr).mono ?_
              rintro e w2 ⟨bb, oo, cc, rfl, hN, hb⟩
              obtain ⟨_, _, _, hv1, hnb, hnl, hnc⟩ := hN
              rw [bytesL_length] at hv1
              cases hv1
              have HN := Lib.hid (newB_cells hnc)
              have HW2 := Lib.hid (HW.out.below hb)
              have HX2 := Lib.hid ((hb.block _ (Array.getElem?_eq_some_iff.1 HX.out).1).trans HX.out)
              have HNl := Lib.hid (show (u8L (bytesL x 8)).length = 8 * 1 by simp [bytesL_length])
              clear hb hnc hnb hnl HW HX x0 x1 x2 x3 x4 y0
              go_wp2_with (at_builtin; refine wpList_append_own _ rfl _ _ 31 rfl w.heap.size 5 i0 (.int .u8 0) 1 1 Tryz.underlying31 hi0 hz0 hz1 hz2 rfl (by decide) v0 L.length (u8L L) rfl HW2.out.1 ⟨bb, oo, none⟩ 8 cc (u8L (bytesL x 8)) rfl HNl.out HN.out (u8L_one _) (by have := HLen.out; unfold maxLen; omega) (by have := HLen.out; omega) HW2.out.2.size ?_)
              intro v3 w3 hown3 hg3 _
              have HR := Lib.hid (show WrL w v3 (P2 d ++ (d.data.take (k + 1)).flatMap (fun x => bytesL x 8)) w3 from by
                rw [HGo.out]
                exact HW2.out.more (by rw [bytesL_length]) hown3 hg3)
              have HX3 := Lib.hid (box_stays HW2.out.1 hg3 HX2.out (by decide))
              clear hown3 hg3
              go_wp2
              go_roundw
              case rel => exact ⟨k + 1, v3, rfl, by omega, by go_num, HR, HX3⟩
              case measure => simp [intOf]; omega
            · obtain rfl : n2 = k := by omega
              clear hlt
              have HW2 := Lib.hid (show WrL w v0 (P3 d) wr from by
                have h := HW.out
                rw [← E2.out, List.take_length] at h
                exact h)
              clear HW
              have HW := HW2
              clear HW2
              go_wp2
              go_loopw [3, 8] (fun vv i wr => ∃ (k : Nat) (v0 : Value), v0 = vv ∧ k ≤ n3 ∧ i = .int .i64 k ∧ Hid (WrL w v0 (P3 d ++ (d.syms.take k).flatMap symWt) wr) ∧ Hid (wr.heap[w.heap.size]? = some (.cells #[.slice A1 n1 c1, .slice A2 n2 c2, .slice A3 n3 c3, .slice A4 n4 c4, .slice A5 n5 c5] 28 (0, 0)))) (fun _ i _ => n3 - (intOf i).toNat)
              case atStart => exact ⟨0, _, rfl, by omega, rfl, Lib.hid (by simpa using HW.out), HX⟩
              case round =>
                clear HW HX
                obtain ⟨k, v0, rfl, hk, rfl, HW, HX⟩ := hrel
                obtain ⟨⟨x0, x1, x2, x3, x4⟩, _⟩ := row_cells5 HX.out
                by_cases hlt : k < n3
                · have k0 : (0 : Int) ≤ k := by omega
                  have k1 : (k : Int) < n3 := by omega
                  have hle : k < d.syms.length := by rw [E3.out]; exact hlt
                  obtain ⟨bb1, o1, eA, _, hb1, hc⟩ := R3.out.at_ (sz := 4) (fun x => rfl) (by omega) (by omega)
                  subst eA
                  have hx := fun i v h => (HW.out.2.cell (p := ⟨bb1, o1 + (k * 4 + i), none⟩) (by have := HH.out; show bb1 < _; omega)).trans (hc k hle i v h)
                  have hmem := HFd.out.syms _ (List.getElem_mem hle)
                  obtain ⟨⟨s, b, o, p⟩, hq⟩ : ∃ x, d.syms[k] = x := ⟨_, rfl⟩
                  have HGo := Lib.hid (show P3 d ++ (d.syms.take (k + 1)).flatMap symWt = (P3 d ++ (d.syms.take k).flatMap symWt) ++ symWt (s, b, o, p) by rw [take_flat _ hle, hq, List.append_assoc])
                  have HLen := Lib.hid (show (P3 d ++ (d.syms.take k).flatMap symWt).length ≤ 1000000 by (have h1 := take_flat_len symWt d.syms k; have h2 := HPl.out; have h3 := HLe.out; unfold P4 at h2; simp only [List.length_append] at h2 ⊢; omega))
                  rw [hq] at hx hmem
                  obtain ⟨hs1, ho1, ho2⟩ := hmem
                  simp only at hs1 ho1 ho2
                  have y0 := hx 0 _ rfl
                  have y1 := hx 1 _ rfl
                  have y2 := hx 2 _ rfl
                  have y3 := hx 3 _ rfl
                  rw [show o1 + (k * 4 + 0) = o1 + k * 4 by omega] at y0
                  rw [← Nat.add_assoc] at y1 y2 y3
                  have hbx := (Array.getElem?_eq_some_iff.1 HX.out).1
                  have HUo := Lib.hid (show IsU o from ⟨ho1, by omega⟩)
                  have HWo := Lib.hid (wrap_id HUo.out)
                  have HWp := Lib.hid (wrap_byte (x := (s.size : Int)) (by omega) (by omega))
                  have HSW := Lib.hid (show symWt (s, b, o, p) = [(s.size : Int)] ++ (sB s ++ ([marksW b p] ++ bytesL o 4)) from by
                    unfold symWt symW nameW
                    simp only
                    rw [byte_one (by omega) (by omega), byte_one (by cases b <;> cases p <;> decide) (by cases b <;> cases p <;> decide), HWo.out]
                    simp)
                  have hs1' := hs1
                  clear hx hle hc hq ho1 ho2
                  generalize (P3 d ++ (d.syms.take k).flatMap symWt) = L at *
                  go_upto_region 19 with fail
                  have HX2 := Lib.hid ((heap_alloc_old wr (.cells #[.string s, .bool b, .int .i64 o, .bool p] 45) hbx).trans HX.out)
                  have HY2 := Lib.hid (heap_alloc_new wr (.cells #[.string s, .bool b, .int .i64 o, .bool p] 45))
                  have HW2 := Lib.hid (HW.out.below ((Below.refl wr.heap.size wr).alloc (Nat.le_refl _) (.cells #[.string s, .bool b, .int .i64 o, .bool p] 45)))
                  clear x0 x1 x2 x3 x4 y0 y1 y2 y3 HX hbx HW
                  generalize (wr.alloc (.cells #[.string s, .bool b, .int .i64 o, .bool p] 45)) = wq at *
                  generalize wr.heap.size = hq at *
                  have y1 := cell_of_row wq hq 1 _ _ _ HY2.out
                  have y3 := cell_of_row wq hq 3 _ _ _ HY2.out
                  simp only [List.getElem?_toArray, List.getElem?_cons_zero, List.getElem?_cons_succ] at y1 y3
                  go_upto_if 89 with fail
                  go_cut [10] (fun s10 wx => s10 = .int .u8 (marksW b false) ∧ wx = wq)
                  case first =>
                    cases b
                    · go_wp2_with fail
                      go_meet
                      exact ⟨rfl, rfl⟩
                    · go_wp2_with fail
                      go_meet
                      exact ⟨rfl, rfl⟩
                  case rest =>
                  obtain ⟨rfl, hwc⟩ := hcut
                  have hwc := hwc.symm
                  subst hwc
                  go_upto_if 93 with fail
                  go_cut [10] (fun s10 wx => s10 = .int .u8 (marksW b p) ∧ wx = wq)
                  case first =>
                    cases b <;> cases p
                    all_goals
                      go_wp2_with fail
                      go_meet
                      exact ⟨rfl, rfl⟩
                  case rest =>
                  obtain ⟨rfl, hwc⟩ := hcut
                  have hwc := hwc.symm
                  subst hwc
                  clear y1 y3
                  go_upto_region 24 with fail
                  have HBS := Lib.hid (show BxS w w.heap.size (.cells #[.slice A1 n1 c1, .slice A2 n2 c2, .slice (some ⟨bb1, o1, none⟩) n3 c3, .slice A4 n4 c4, .slice A5 n5 c5] 28 (0, 0)) hq (.cells #[.string s, .bool b, .int .i64 o, .bool p] 45 (0, 0)) wq.drew from BxS.below ⟨HW2.out.2, HX2.out, HY2.out⟩ (Below.drew (Below.refl _ _)))
                  refine wp_region_app (BxS w w.heap.size (.cells #[.slice A1 n1 c1, .slice A2 n2 c2, .slice (some ⟨bb1, o1, none⟩) n3 c3, .slice A4 n4 c4, .slice A5 n5 c5] 28 (0, 0)) hq (.cells #[.string s, .bool b, .int .i64 o, .bool p] 45 (0, 0))) w.heap.size 31 5 i0 (.int .u8 0) [.pure v0, .pure (.pointer (some ⟨hq, 0, none⟩)), .pure (.string s), .pure (.int .i64 s.size), .pure (.int .u8 s.size), .mat [(s.size : Int)], .app, .pure (.pointer (some ⟨hq, 0, none⟩)), .pure (.string s), .mat (sB s), .app, .pure (.int .u8 (marksW b p)), .mat [marksW b p], .app, .pure (.pointer (some ⟨hq, 2, none⟩)), .pure (.int .i64 o), .pure (.int .u64 o), .mat (bytesL o 4), .app, .cpy 18] [(6, 5), (10, 9), (13, 12), (18, 17)] v0 L 199
                    Tryz.underlying31 hi0 hz0 hz1 hz2 rfl (by kernel_rfl) (by kernel_rfl) rfl (by decide) rfl HBS.out HW2.out.2.size HW2.out.1 (fun _ _ _ _ _ hS hr hg => hS.grown (by decide) (by decide) hr hg) ?lim
                    (OblA.cons (OpOk.of_pure fun ac w1 hS hP => ?_) (OblA.cons (OpOk.of_pure fun ac w1 hS hP => ?_) (OblA.cons (OpOk.of_pure fun ac w1 hS hP => ?_) (OblA.cons (OpOk.of_pure fun ac w1 hS hP => ?_) (OblA.cons (OpOk.of_pure fun ac w1 hS hP => ?_) (OblA.cons (OpOk.of_mat fun ac w1 hS hP => ?_) (OblA.cons (OpOk.of_first (m := 5) (z := 0) rfl rfl rfl rfl (by decide +kernel) rfl rfl rfl rfl (by decide +kernel)) (OblA.cons (OpOk.of_pure fun ac w1 hS hP => ?_) (OblA.cons (OpOk.of_pure fun ac w1 hS hP => ?_) (OblA.cons (OpOk.of_mat fun ac w1 hS hP => ?_) (OblA.cons (OpOk.of_next (q := 0) (m := 9) rfl rfl rfl rfl (by decide +kernel) rfl rfl rfl rfl (by decide +kernel)) (OblA.cons (OpOk.of_pure fun ac w1 hS hP => ?_) (OblA.cons (OpOk.of_mat fun ac w1 hS hP => ?_) (OblA.cons (OpOk.of_next (q := 1) (m := 12) rfl rfl rfl rfl (by decide +kernel) rfl rfl rfl rfl (by decide +kernel)) (OblA.cons (OpOk.of_pure fun ac w1 hS hP => ?_) (OblA.cons (OpOk.of_pure fun ac w1 hS hP => ?_) (OblA.cons (OpOk.of_pure fun ac w1 hS hP => ?_) (OblA.cons (OpOk.of_mat fun ac w1 hS hP => ?_) (OblA.cons (OpOk.of_next (q := 2) (m := 17) rfl rfl rfl rfl (by decide +kernel) rfl rfl rfl rfl (by decide +kernel)) (OblA.cons (OpOk.of_cpy rfl rfl (by decide +kernel) (.inl rfl)) (OblA.nil))))))))))))))))))))) ?done
                  case lim =>
                    have := HLen.out
                    have h2 := sB_len s
                    have h3 := bytesL_length o 4
                    simp [rowA, chunkA]
                    omega
                  case done =>
                    intro V w3 hpu hcp hown hS
                    have hrow : rowA [.pure v0, .pure (.pointer (some ⟨hq, 0, none⟩)), .pure (.string s), .pure (.int .i64 s.size), .pure (.int .u8 s.size), .mat [(s.size : Int)], .app, .pure (.pointer (some ⟨hq, 0, none⟩)), .pure (.string s), .mat (sB s), .app, .pure (.int .u8 (marksW b p)), .mat [marksW b p], .app, .pure (.pointer (some ⟨hq, 2, none⟩)), .pure (.int .i64 o), .pure (.int .u64 o), .mat (bytesL o 4), .app, .cpy 18] [(6, 5), (10, 9), (13, 12), (18, 17)] L 4 = L ++ symWt (s, b, o, p) := by rw [HSW.out]; simp [rowA, chunkA]
                    have HR := Lib.hid (show WrL w (V 18) (P3 d ++ (d.syms.take (k + 1)).flatMap symWt) w3 from by
                      rw [HGo.out, ← hrow]
                      exact ⟨hown, hS.1⟩)
                    have HX3 := Lib.hid hS.2.1
                    have h19 := hcp 19 18 rfl
                    simp only [putL, if_true]
                    rw [h19]
                    clear hrow hown hS hpu hcp h19 HBS HX2 HY2 HW2
                    generalize V 18 = v3 at *
                    generalize V 0 = q0
                    generalize V 1 = q1
                    generalize V 2 = q2
                    generalize V 3 = q3
                    generalize V 4 = q4
                    generalize V 5 = q5
                    generalize V 6 = q6
                    generalize V 7 = q7
                    generalize V 8 = q8
                    generalize V 9 = q9
                    generalize V 10 = q10
                    generalize V 11 = q11
                    generalize V 12 = q12
                    generalize V 13 = q13
                    generalize V 14 = q14
                    generalize V 15 = q15
                    generalize V 16 = q16
                    generalize V 17 = q17
                    go_frame
                    go_wp2
                    go_roundw
                    case rel => exact ⟨k + 1, v3, rfl, by omega, by go_num, HR, HX3⟩
                    case measure => simp [intOf]; omega
                  · have f3 : ac.tmps[3]?.getD undef = v0 := tmp_of (hP.2 3 (by kernel_rfl))
                    simp [go_sem, f3]
                  · have f9 : ac.tmps[9]?.getD undef = (.pointer (some ⟨hq, 0, none⟩)) := tmp_of (hP.2 9 (by kernel_rfl))
                    simp [go_sem, f9]
                  · have f97 : ac.tmps[97]?.getD undef = (.pointer (some ⟨hq, 0, none⟩)) := tmp_of (hP.1 1 _ 97 _ rfl rfl rfl (by decide +kernel))
                    have y0 := cell_of_row w1 hq 0 _ _ _ hS.2.2
                    simp only [List.getElem?_toArray, List.getElem?_cons_zero] at y0
                    simp [go_sem, f97, y0]
                  · have f98 : ac.tmps[98]?.getD undef = (.string s) := tmp_of (hP.1 2 _ 98 _ rfl rfl rfl (by decide +kernel))
                    simp [go_sem, f98]
                  · have f99 : ac.tmps[99]?.getD undef = (.int .i64 s.size) := tmp_of (hP.1 3 _ 99 _ rfl rfl rfl (by decide +kernel))
                    have hw := HWp.out
                    simp [go_sem, f99, hw]
                  · exact mat_one rfl (hP.1 4 _ 100 _ rfl rfl rfl (by decide +kernel)) hS (fun w2 hb => hS.below hb)
                  · have f9 : ac.tmps[9]?.getD undef = (.pointer (some ⟨hq, 0, none⟩)) := tmp_of (hP.2 9 (by kernel_rfl))
                    simp [go_sem, f9]
                  · have f103 : ac.tmps[103]?.getD undef = (.pointer (some ⟨hq, 0, none⟩)) := tmp_of (hP.1 7 _ 103 _ rfl rfl rfl (by decide +kernel))
                    have y0 := cell_of_row w1 hq 0 _ _ _ hS.2.2
                    simp only [List.getElem?_toArray, List.getElem?_cons_zero] at y0
                    simp [go_sem, f103, y0]
                  · exact mat_str rfl (hP.1 8 _ 104 _ rfl rfl rfl (by decide +kernel)) hS (fun w2 hb => hS.below hb)
                  · have f10 : ac.tmps[10]?.getD undef = (.int .u8 (marksW b p)) := tmp_of (hP.2 10 (by kernel_rfl))
                    simp [go_sem, f10]
                  · exact mat_one rfl (hP.1 11 _ 107 _ rfl rfl rfl (by decide +kernel)) hS (fun w2 hb => hS.below hb)
                  · have f9 : ac.tmps[9]?.getD undef = (.pointer (some ⟨hq, 0, none⟩)) := tmp_of (hP.2 9 (by kernel_rfl))
                    simp [go_sem, f9]
                  · have f110 : ac.tmps[110]?.getD undef = (.pointer (some ⟨hq, 2, none⟩)) := tmp_of (hP.1 14 _ 110 _ rfl rfl rfl (by decide +kernel))
                    have y0 := cell_of_row w1 hq 2 _ _ _ hS.2.2
                    simp only [List.getElem?_toArray, List.getElem?_cons_zero, List.getElem?_cons_succ] at y0
                    simp [go_sem, f110, y0]
                  · have f111 : ac.tmps[111]?.getD undef = (.int .i64 o) := tmp_of (hP.1 15 _ 111 _ rfl rfl rfl (by decide +kernel))
                    have hw := HWo.out
                    simp [go_sem, f111, hw]
                  · exact mat_num (n := 4) rfl (hP.1 16 _ 112 _ rfl rfl rfl (by decide +kernel)) HUo.out (by decide) (by decide) hS (fun w2 hb => hS.below hb)
                · obtain rfl : n3 = k := by omega
                  clear hlt
                  have HW2 := Lib.hid (show WrL w v0 (P4 d) wr from by
                    have h := HW.out
                    rw [← E3.out, List.take_length] at h
                    exact h)
                  clear HW
                  have HW := HW2
                  clear HW2
                  go_wp2
                  go_loopw [3, 11] (fun vv i wr => ∃ (k : Nat) (v0 : Value), v0 = vv ∧ k ≤ n4 ∧ i = .int .i64 k ∧ Hid (WrL w v0 (P4 d ++ (d.rels.take k).flatMap relWt) wr) ∧ Hid (wr.heap[w.heap.size]? = some (.cells #[.slice A1 n1 c1, .slice A2 n2 c2, .slice A3 n3 c3, .slice A4 n4 c4, .slice A5 n5 c5] 28 (0, 0)))) (fun _ i _ => n4 - (intOf i).toNat)
                  case atStart => exact ⟨0, _, rfl, by omega, rfl, Lib.hid (by simpa using HW.out), HX⟩
                  case round =>
                    clear HW HX
                    obtain ⟨k, v0, rfl, hk, rfl, HW, HX⟩ := hrel
                    obtain ⟨⟨x0, x1, x2, x3, x4⟩, _⟩ := row_cells5 HX.out
                    by_cases hlt : k < n4
                    · have k0 : (0 : Int) ≤ k := by omega
                      have k1 : (k : Int) < n4 := by omega
                      have hle : k < d.rels.length := by rw [E4.out]; exact hlt
                      obtain ⟨bb1, o1, eA, _, hb1, hc⟩ := R4.out.at_ (sz := 4) (fun x => rfl) (by omega) (by omega)
                      subst eA
                      have hx := fun i v h => (HW.out.2.cell (p := ⟨bb1, o1 + (k * 4 + i), none⟩) (by have := HH.out; show bb1 < _; omega)).trans (hc k hle i v h)
                      have hmem := HFd.out.rels _ (List.getElem_mem hle)
                      obtain ⟨⟨a, kd, s, ad⟩, hq⟩ : ∃ x, d.rels[k] = x := ⟨_, rfl⟩
                      have HGo := Lib.hid (show P4 d ++ (d.rels.take (k + 1)).flatMap relWt = (P4 d ++ (d.rels.take k).flatMap relWt) ++ relWt (a, kd, s, ad) by rw [take_flat _ hle, hq, List.append_assoc])
                      have HLen := Lib.hid (show (P4 d ++ (d.rels.take k).flatMap relWt).length ≤ 1000000 by (have h1 := take_flat_len relWt d.rels k; have h2 := HPl.out; have h3 := HLe.out; unfold P5 at h2; simp only [List.length_append] at h2 ⊢; omega))
                      rw [hq] at hx hmem
                      obtain ⟨⟨ha1, ha2⟩, ⟨hk1, hk2⟩, hs1, hd1⟩ := hmem
                      simp only at ha1 ha2 hk1 hk2 hs1 hd1
                      have y0 := hx 0 _ rfl
                      have y1 := hx 1 _ rfl
                      have y2 := hx 2 _ rfl
                      have y3 := hx 3 _ rfl
                      rw [show o1 + (k * 4 + 0) = o1 + k * 4 by omega] at y0
                      rw [← Nat.add_assoc] at y1 y2 y3
                      have hbx := (Array.getElem?_eq_some_iff.1 HX.out).1
                      have HUa := Lib.hid (show IsU a from ⟨ha1, by omega⟩)
                      have HWa := Lib.hid (wrap_id HUa.out)
                      have HUk := Lib.hid (wrap_id (show IsU kd from ⟨hk1, by omega⟩))
                      have HWk := Lib.hid (wrap_byte hk1 hk2)
                      have HWp := Lib.hid (wrap_byte (x := (s.size : Int)) (by omega) (by omega))
                      have HUd := Lib.hid (show IsU (IntKind.u64.wrap ad) from by rw [IntKind.wrap_u64]; exact ⟨by omega, by omega⟩)
                      have HSW := Lib.hid (show relWt (a, kd, s, ad) = bytesL a 4 ++ ([kd] ++ ([(s.size : Int)] ++ (sB s ++ bytesL (IntKind.u64.wrap ad) 8))) from by
                        unfold relWt relW nameW
                        simp only
                        rw [HWa.out, HUk.out, byte_one hk1 hk2, byte_one (by omega) (by omega), List.append_assoc])
                      have hs1' := hs1
                      clear hx hle hc hq
                      generalize (P4 d ++ (d.rels.take k).flatMap relWt) = L at *
                      go_upto_region 29 with fail
                      have HX2 := Lib.hid ((heap_alloc_old wr (.cells #[.int .i64 a, .int .i64 kd, .string s, .int .i64 ad] 42) hbx).trans HX.out)
                      have HY2 := Lib.hid (heap_alloc_new wr (.cells #[.int .i64 a, .int .i64 kd, .string s, .int .i64 ad] 42))
                      have HW2 := Lib.hid (HW.out.below ((Below.refl wr.heap.size wr).alloc (Nat.le_refl _) (.cells #[.int .i64 a, .int .i64 kd, .string s, .int .i64 ad] 42)))
                      clear x0 x1 x2 x3 x4 y0 y1 y2 y3 HX hbx HW
                      generalize (wr.alloc (.cells #[.int .i64 a, .int .i64 kd, .string s, .int .i64 ad] 42)) = wq at *
                      generalize wr.heap.size = hq at *
                      have HBS := Lib.hid (show BxS w w.heap.size (.cells #[.slice A1 n1 c1, .slice A2 n2 c2, .slice A3 n3 c3, .slice (some ⟨bb1, o1, none⟩) n4 c4, .slice A5 n5 c5] 28 (0, 0)) hq (.cells #[.int .i64 a, .int .i64 kd, .string s, .int .i64 ad] 42 (0, 0)) wq.drew from BxS.below ⟨HW2.out.2, HX2.out, HY2.out⟩ (Below.drew (Below.refl _ _)))
                      refine wp_region_app (BxS w w.heap.size (.cells #[.slice A1 n1 c1, .slice A2 n2 c2, .slice A3 n3 c3, .slice (some ⟨bb1, o1, none⟩) n4 c4, .slice A5 n5 c5] 28 (0, 0)) hq (.cells #[.int .i64 a, .int .i64 kd, .string s, .int .i64 ad] 42 (0, 0))) w.heap.size 31 5 i0 (.int .u8 0) [.pure v0, .pure (.pointer (some ⟨hq, 0, none⟩)), .pure (.int .i64 a), .pure (.int .u64 a), .mat (bytesL a 4), .app, .pure (.pointer (some ⟨hq, 1, none⟩)), .pure (.int .i64 kd), .pure (.int .u8 kd), .mat [kd], .app, .pure (.pointer (some ⟨hq, 2, none⟩)), .pure (.string s), .pure (.int .i64 s.size), .pure (.int .u8 s.size), .mat [(s.size : Int)], .app, .pure (.pointer (some ⟨hq, 2, none⟩)), .pure (.string s), .mat (sB s), .app, .pure (.pointer (some ⟨hq, 3, none⟩)), .pure (.int .i64 ad), .pure (.int .u64 (IntKind.u64.wrap ad)), .mat (bytesL (IntKind.u64.wrap ad) 8), .app, .cpy 25] [(5, 4), (10, 9), (16, 15), (20, 19), (25, 24)] v0 L 199
                        Tryz.underlying31 hi0 hz0 hz1 hz2 rfl (by kernel_rfl) (by kernel_rfl) rfl (by decide) rfl HBS.out HW2.out.2.size HW2.out.1 (fun _ _ _ _ _ hS hr hg => hS.grown (by decide) (by decide) hr hg) ?lim
                        (OblA.cons (OpOk.of_pure fun ac w1 hS hP => ?_) (OblA.cons (OpOk.of_pure fun ac w1 hS hP => ?_) (OblA.cons (OpOk.of_pure fun ac w1 hS hP => ?_) (OblA.cons (OpOk.of_pure fun ac w1 hS hP => ?_) (OblA.cons (OpOk.of_mat fun ac w1 hS hP => ?_) (OblA.cons (OpOk.of_first (m := 4) (z := 0) rfl rfl rfl rfl (by decide +kernel) rfl rfl rfl rfl (by decide +kernel)) (OblA.cons (OpOk.of_pure fun ac w1 hS hP => ?_) (OblA.cons (OpOk.of_pure fun ac w1 hS hP => ?_) (OblA.cons (OpOk.of_pure fun ac w1 hS hP => ?_) (OblA.cons (OpOk.of_mat fun ac w1 hS hP => ?_) (OblA.cons (OpOk.of_next (q := 0) (m := 9) rfl rfl rfl rfl (by decide +kernel) rfl rfl rfl rfl (by decide +kernel)) (OblA.cons (OpOk.of_pure fun ac w1 hS hP => ?_) (OblA.cons (OpOk.of_pure fun ac w1 hS hP => ?_) (OblA.cons (OpOk.of_pure fun ac w1 hS hP => ?_) (OblA.cons (OpOk.of_pure fun ac w1 hS hP => ?_) (OblA.cons (OpOk.of_mat fun ac w1 hS hP => ?_) (OblA.cons (OpOk.of_next (q := 1) (m := 15) rfl rfl rfl rfl (by decide +kernel) rfl rfl rfl rfl (by decide +kernel)) (OblA.cons (OpOk.of_pure fun ac w1 hS hP => ?_) (OblA.cons (OpOk.of_pure fun ac w1 hS hP => ?_) (OblA.cons (OpOk.of_mat fun ac w1 hS hP => ?_) (OblA.cons (OpOk.of_next (q := 2) (m := 19) rfl rfl rfl rfl (by decide +kernel) rfl rfl rfl rfl (by decide +kernel)) (OblA.cons (OpOk.of_pure fun ac w1 hS hP => ?_) (OblA.cons (OpOk.of_pure fun ac w1 hS hP => ?_) (OblA.cons (OpOk.of_pure fun ac w1 hS hP => ?_) (OblA.cons (OpOk.of_mat fun ac w1 hS hP => ?_) (OblA.cons (OpOk.of_next (q := 3) (m := 24) rfl rfl rfl rfl (by decide +kernel) rfl rfl rfl rfl (by decide +kernel)) (OblA.cons (OpOk.of_cpy rfl rfl (by decide +kernel) (.inl rfl)) (OblA.nil)))))))))))))))))))))))))))) ?done
                      case lim =>
                        have := HLen.out
                        have h2 := sB_len s
                        have h3 := bytesL_length a 4
                        have h4 := bytesL_length (IntKind.u64.wrap ad) 8
                        simp [rowA, chunkA]
                        omega
                      case done =>
                        intro V w3 hpu hcp hown hS
                        have hrow : rowA [.pure v0, .pure (.pointer (some ⟨hq, 0, none⟩)), .pure (.int .i64 a), .pure (.int .u64 a), .mat (bytesL a 4), .app, .pure (.pointer (some ⟨hq, 1, none⟩)), .pure (.int .i64 kd), .pure (.int .u8 kd), .mat [kd], .app, .pure (.pointer (some ⟨hq, 2, none⟩)), .pure (.string s), .pure (.int .i64 s.size), .pure (.int .u8 s.size), .mat [(s.size : Int)], .app, .pure (.pointer (some ⟨hq, 2, none⟩)), .pure (.string s), .mat (sB s), .app, .pure (.pointer (some ⟨hq, 3, none⟩)), .pure (.int .i64 ad), .pure (.int .u64 (IntKind.u64.wrap ad)), .mat (bytesL (IntKind.u64.wrap ad) 8), .app, .cpy 25] [(5, 4), (10, 9), (16, 15), (20, 19), (25, 24)] L 5 = L ++ relWt (a, kd, s, ad) := by rw [HSW.out]; simp [rowA, chunkA]
                        have HR := Lib.hid (show WrL w (V 25) (P4 d ++ (d.rels.take (k + 1)).flatMap relWt) w3 from by
                          rw [HGo.out, ← hrow]
                          exact ⟨hown, hS.1⟩)
                        have HX3 := Lib.hid hS.2.1
                        have h19 := hcp 26 25 rfl
                        simp only [putL, if_true]
                        rw [h19]
                        clear hrow hown hS hpu hcp h19 HBS HX2 HY2 HW2
                        generalize V 25 = v3 at *
                        generalize V 0 = q0
                        generalize V 1 = q1
                        generalize V 2 = q2
                        generalize V 3 = q3
                        generalize V 4 = q4
                        generalize V 5 = q5
                        generalize V 6 = q6
                        generalize V 7 = q7
                        generalize V 8 = q8
                        generalize V 9 = q9
                        generalize V 10 = q10
                        generalize V 11 = q11
                        generalize V 12 = q12
                        generalize V 13 = q13
                        generalize V 14 = q14
                        generalize V 15 = q15
                        generalize V 16 = q16
                        generalize V 17 = q17
                        generalize V 18 = q18
                        generalize V 19 = q19
                        generalize V 20 = q20
                        generalize V 21 = q21
                        generalize V 22 = q22
                        generalize V 23 = q23
                        generalize V 24 = q24
                        go_frame
                        go_wp2
                        go_roundw
                        case rel => exact ⟨k + 1, v3, rfl, by omega, by go_num, HR, HX3⟩
                        case measure => simp [intOf]; omega
                      · have f3 : ac.tmps[3]?.getD undef = v0 := tmp_of (hP.2 3 (by kernel_rfl))
                        simp [go_sem, f3]
                      · have f12 : ac.tmps[12]?.getD undef = (.pointer (some ⟨hq, 0, none⟩)) := tmp_of (hP.2 12 (by kernel_rfl))
                        simp [go_sem, f12]
                      · have f128 : ac.tmps[128]?.getD undef = (.pointer (some ⟨hq, 0, none⟩)) := tmp_of (hP.1 1 _ 128 _ rfl rfl rfl (by decide +kernel))
                        have y0 := cell_of_row w1 hq 0 _ _ _ hS.2.2
                        simp only [List.getElem?_toArray, List.getElem?_cons_zero] at y0
                        simp [go_sem, f128, y0]
                      · have f129 : ac.tmps[129]?.getD undef = (.int .i64 a) := tmp_of (hP.1 2 _ 129 _ rfl rfl rfl (by decide +kernel))
                        have hw := HWa.out
                        simp [go_sem, f129, hw]
                      · exact mat_num (n := 4) rfl (hP.1 3 _ 130 _ rfl rfl rfl (by decide +kernel)) HUa.out (by decide) (by decide) hS (fun w2 hb => hS.below hb)
                      · have f12 : ac.tmps[12]?.getD undef = (.pointer (some ⟨hq, 0, none⟩)) := tmp_of (hP.2 12 (by kernel_rfl))
                        simp [go_sem, f12]
                      · have f133 : ac.tmps[133]?.getD undef = (.pointer (some ⟨hq, 1, none⟩)) := tmp_of (hP.1 6 _ 133 _ rfl rfl rfl (by decide +kernel))
                        have y0 := cell_of_row w1 hq 1 _ _ _ hS.2.2
                        simp only [List.getElem?_toArray, List.getElem?_cons_zero, List.getElem?_cons_succ] at y0
                        simp [go_sem, f133, y0]
                      · have f134 : ac.tmps[134]?.getD undef = (.int .i64 kd) := tmp_of (hP.1 7 _ 134 _ rfl rfl rfl (by decide +kernel))
                        have hw := HWk.out
                        simp [go_sem, f134, hw]
                      · exact mat_one rfl (hP.1 8 _ 135 _ rfl rfl rfl (by decide +kernel)) hS (fun w2 hb => hS.below hb)
                      · have f12 : ac.tmps[12]?.getD undef = (.pointer (some ⟨hq, 0, none⟩)) := tmp_of (hP.2 12 (by kernel_rfl))
                        simp [go_sem, f12]
                      · have f138 : ac.tmps[138]?.getD undef = (.pointer (some ⟨hq, 2, none⟩)) := tmp_of (hP.1 11 _ 138 _ rfl rfl rfl (by decide +kernel))
                        have y0 := cell_of_row w1 hq 2 _ _ _ hS.2.2
                        simp only [List.getElem?_toArray, List.getElem?_cons_zero, List.getElem?_cons_succ] at y0
                        simp [go_sem, f138, y0]
                      · have f139 : ac.tmps[139]?.getD undef = (.string s) := tmp_of (hP.1 12 _ 139 _ rfl rfl rfl (by decide +kernel))
                        simp [go_sem, f139]
                      · have f140 : ac.tmps[140]?.getD undef = (.int .i64 s.size) := tmp_of (hP.1 13 _ 140 _ rfl rfl rfl (by decide +kernel))
                        have hw := HWp.out
                        simp [go_sem, f140, hw]
                      · exact mat_one rfl (hP.1 14 _ 141 _ rfl rfl rfl (by decide +kernel)) hS (fun w2 hb => hS.below hb)
                      · have f12 : ac.tmps[12]?.getD undef = (.pointer (some ⟨hq, 0, none⟩)) := tmp_of (hP.2 12 (by kernel_rfl))
                        simp [go_sem, f12]
                      · have f144 : ac.tmps[144]?.getD undef = (.pointer (some ⟨hq, 2, none⟩)) := tmp_of (hP.1 17 _ 144 _ rfl rfl rfl (by decide +kernel))
                        have y0 := cell_of_row w1 hq 2 _ _ _ hS.2.2
                        simp only [List.getElem?_toArray, List.getElem?_cons_zero, List.getElem?_cons_succ] at y0
                        simp [go_sem, f144, y0]
                      · exact mat_str rfl (hP.1 18 _ 145 _ rfl rfl rfl (by decide +kernel)) hS (fun w2 hb => hS.below hb)
                      · have f12 : ac.tmps[12]?.getD undef = (.pointer (some ⟨hq, 0, none⟩)) := tmp_of (hP.2 12 (by kernel_rfl))
                        simp [go_sem, f12]
                      · have f148 : ac.tmps[148]?.getD undef = (.pointer (some ⟨hq, 3, none⟩)) := tmp_of (hP.1 21 _ 148 _ rfl rfl rfl (by decide +kernel))
                        have y0 := cell_of_row w1 hq 3 _ _ _ hS.2.2
                        simp only [List.getElem?_toArray, List.getElem?_cons_zero, List.getElem?_cons_succ] at y0
                        simp [go_sem, f148, y0]
                      · have f149 : ac.tmps[149]?.getD undef = (.int .i64 ad) := tmp_of (hP.1 22 _ 149 _ rfl rfl rfl (by decide +kernel))
                        simp [go_sem, f149]
                      · exact mat_num (n := 8) rfl (hP.1 23 _ 150 _ rfl rfl rfl (by decide +kernel)) HUd.out (by decide) (by decide) hS (fun w2 hb => hS.below hb)
                    · obtain rfl : n4 = k := by omega
                      clear hlt
                      have HW2 := Lib.hid (show WrL w v0 (P5 d) wr from by
                        have h := HW.out
                        rw [← E4.out, List.take_length] at h
                        exact h)
                      clear HW
                      have HW := HW2
                      clear HW2
                      go_wp2
                      go_loopw [3, 13] (fun vv i wr => ∃ (k : Nat) (v0 : Value), v0 = vv ∧ k ≤ n5 ∧ i = .int .i64 k ∧ Hid (WrL w v0 (P5 d ++ (d.ents.take k).flatMap entWt) wr) ∧ Hid (wr.heap[w.heap.size]? = some (.cells #[.slice A1 n1 c1, .slice A2 n2 c2, .slice A3 n3 c3, .slice A4 n4 c4, .slice A5 n5 c5] 28 (0, 0)))) (fun _ i _ => n5 - (intOf i).toNat)
                      case atStart => exact ⟨0, _, rfl, by omega, rfl, Lib.hid (by simpa using HW.out), HX⟩
                      case round =>
                        clear HW HX
                        obtain ⟨k, v0, rfl, hk, rfl, HW, HX⟩ := hrel
                        obtain ⟨⟨x0, x1, x2, x3, x4⟩, _⟩ := row_cells5 HX.out
                        by_cases hlt : k < n5
                        · have k0 : (0 : Int) ≤ k := by omega
                          have k1 : (k : Int) < n5 := by omega
                          have hle : k < d.ents.length := by rw [E5.out]; exact hlt
                          obtain ⟨bb1, o1, eA, _, hb1, hc⟩ := R5.out.raw (by rw [R6.out.len, E5.out]; omega)
                          subst eA
                          obtain ⟨Ap, cp, g0, g1, g2⟩ := EntC.get R6.out hle
                          have hmem := HFd.out.ents _ (List.getElem_mem hle)
                          obtain ⟨⟨s, zs⟩, hq⟩ : ∃ x, d.ents[k] = x := ⟨_, rfl⟩
                          have HGo := Lib.hid (show P5 d ++ (d.ents.take (k + 1)).flatMap entWt = (P5 d ++ (d.ents.take k).flatMap entWt) ++ entWt (s, zs) by rw [take_flat _ hle, hq, List.append_assoc])
                          have HLen := Lib.hid (show (P5 d ++ (d.ents.take k).flatMap entWt).length ≤ 700000 by (have h1 := take_flat_len entWt d.ents k; have h2 := congrArg List.length (P6_eq d); have h3 := HLe.out; simp only [List.length_append] at h2 ⊢; omega))
                          rw [hq] at g0 g1 g2 hmem
                          obtain ⟨np, hnp⟩ : ∃ n, zs.length = n := ⟨_, rfl⟩
                          obtain ⟨hs1, hz1', hzz⟩ := hmem
                          simp only at hs1 hz1' hzz
                          simp only [hnp] at g0 g1 g2 hz1'
                          have y0 := (HW.out.2.cell (p := ⟨bb1, o1 + k * 2, none⟩) (by have := HH.out; show bb1 < _; omega)).trans (hc _ _ g0)
                          have y1 := (HW.out.2.cell (p := ⟨bb1, o1 + (k * 2 + 1), none⟩) (by have := HH.out; show bb1 < _; omega)).trans (hc _ _ g1)
                          rw [← Nat.add_assoc] at y1
                          have hbx := (Array.getElem?_eq_some_iff.1 HX.out).1
                          have HZ := Lib.hid hzz
                          have HNp := Lib.hid hnp
                          have HPr := Lib.hid (RowO.rowC g2)
                          have HWp := Lib.hid (wrap_byte (x := (s.size : Int)) (by omega) (by omega))
                          have HWn := Lib.hid (wrap_byte (x := (np : Int)) (by omega) (by omega))
                          have HSW := Lib.hid (show entWt (s, zs) = [(s.size : Int)] ++ (sB s ++ ([(np : Int)] ++ paramW zs)) from by
                            unfold entWt entryW nameW
                            simp only
                            rw [hnp, byte_one (by omega) (by omega), byte_one (by omega) (by omega), List.append_assoc])
                          have hs1' := hs1
                          have hnp255 := hz1'
                          clear hle hc hq g0 g1 g2 hzz hnp
                          generalize (P5 d ++ (d.ents.take k).flatMap entWt) = L at *
                          go_upto_region 34 with fail
                          have HX2 := Lib.hid ((heap_alloc_old wr (.cells #[.string s, .slice Ap np cp] 52) hbx).trans HX.out)
                          have HY2 := Lib.hid (heap_alloc_new wr (.cells #[.string s, .slice Ap np cp] 52))
                          have HW2 := Lib.hid (HW.out.below ((Below.refl wr.heap.size wr).alloc (Nat.le_refl _) (.cells #[.string s, .slice Ap np cp] 52)))
                          clear x0 x1 x2 x3 x4 y0 y1 HX hbx HW
                          generalize (wr.alloc (.cells #[.string s, .slice Ap np cp] 52)) = wq at *
                          generalize wr.heap.size = hq at *
                          have HBS := Lib.hid (show BxS w w.heap.size (.cells #[.slice A1 n1 c1, .slice A2 n2 c2, .slice A3 n3 c3, .slice A4 n4 c4, .slice (some ⟨bb1, o1, none⟩) n5 c5] 28 (0, 0)) hq (.cells #[.string s, .slice Ap np cp] 52 (0, 0)) wq.drew from BxS.below ⟨HW2.out.2, HX2.out, HY2.out⟩ (Below.drew (Below.refl _ _)))
                          refine wp_region_app (BxS w w.heap.size (.cells #[.slice A1 n1 c1, .slice A2 n2 c2, .slice A3 n3 c3, .slice A4 n4 c4, .slice (some ⟨bb1, o1, none⟩) n5 c5] 28 (0, 0)) hq (.cells #[.string s, .slice Ap np cp] 52 (0, 0))) w.heap.size 31 5 i0 (.int .u8 0) [.pure v0, .pure (.pointer (some ⟨hq, 0, none⟩)), .pure (.string s), .pure (.int .i64 s.size), .pure (.int .u8 s.size), .mat [(s.size : Int)], .app, .pure (.pointer (some ⟨hq, 0, none⟩)), .pure (.string s), .mat (sB s), .app, .pure (.pointer (some ⟨hq, 1, none⟩)), .pure (.slice Ap np cp), .pure (.int .i64 np), .pure (.int .u8 np), .mat [(np : Int)], .app, .cpy 16] [(6, 5), (10, 9), (16, 15)] v0 L 199
                            Tryz.underlying31 hi0 hz0 hz1 hz2 rfl (by kernel_rfl) (by kernel_rfl) rfl (by decide) rfl HBS.out HW2.out.2.size HW2.out.1 (fun _ _ _ _ _ hS hr hg => hS.grown (by decide) (by decide) hr hg) ?lim
                            (OblA.cons (OpOk.of_pure fun ac w1 hS hP => ?_) (OblA.cons (OpOk.of_pure fun ac w1 hS hP => ?_) (OblA.cons (OpOk.of_pure fun ac w1 hS hP => ?_) (OblA.cons (OpOk.of_pure fun ac w1 hS hP => ?_) (OblA.cons (OpOk.of_pure fun ac w1 hS hP => ?_) (OblA.cons (OpOk.of_mat fun ac w1 hS hP => ?_) (OblA.cons (OpOk.of_first (m := 5) (z := 0) rfl rfl rfl rfl (by decide +kernel) rfl rfl rfl rfl (by decide +kernel)) (OblA.cons (OpOk.of_pure fun ac w1 hS hP => ?_) (OblA.cons (OpOk.of_pure fun ac w1 hS hP => ?_) (OblA.cons (OpOk.of_mat fun ac w1 hS hP => ?_) (OblA.cons (OpOk.of_next (q := 0) (m := 9) rfl rfl rfl rfl (by decide +kernel) rfl rfl rfl rfl (by decide +kernel)) (OblA.cons (OpOk.of_pure fun ac w1 hS hP => ?_) (OblA.cons (OpOk.of_pure fun ac w1 hS hP => ?_) (OblA.cons (OpOk.of_pure fun ac w1 hS hP => ?_) (OblA.cons (OpOk.of_pure fun ac w1 hS hP => ?_) (OblA.cons (OpOk.of_mat fun ac w1 hS hP => ?_) (OblA.cons (OpOk.of_next (q := 1) (m := 15) rfl rfl rfl rfl (by decide +kernel) rfl rfl rfl rfl (by decide +kernel)) (OblA.cons (OpOk.of_cpy rfl rfl (by decide +kernel) (.inl rfl)) (OblA.nil))))))))))))))))))) ?done
                          case lim =>
                            have := HLen.out
                            have h2 := sB_len s
                            simp [rowA, chunkA]
                            omega
                          case done =>
                            intro V w3 hpu hcp hown hS
                            have hrow : rowA [.pure v0, .pure (.pointer (some ⟨hq, 0, none⟩)), .pure (.string s), .pure (.int .i64 s.size), .pure (.int .u8 s.size), .mat [(s.size : Int)], .app, .pure (.pointer (some ⟨hq, 0, none⟩)), .pure (.string s), .mat (sB s), .app, .pure (.pointer (some ⟨hq, 1, none⟩)), .pure (.slice Ap np cp), .pure (.int .i64 np), .pure (.int .u8 np), .mat [(np : Int)], .app, .cpy 16] [(6, 5), (10, 9), (16, 15)] L 3 = L ++ ([(s.size : Int)] ++ (sB s ++ [(np : Int)])) := by simp [rowA, chunkA]
                            have HR := Lib.hid (show WrL w (V 16) (L ++ ([(s.size : Int)] ++ (sB s ++ [(np : Int)]))) w3 from by
                              rw [← hrow]
                              exact ⟨hown, hS.1⟩)
                            have HX3 := Lib.hid hS.2.1
                            have HY3 := Lib.hid hS.2.2
                            have h19 := hcp 17 16 rfl
                            simp only [putL, if_true]
                            rw [h19]
                            clear hrow hown hS hpu hcp h19 HBS HX2 HY2 HW2
                            generalize V 16 = v3 at *
                            generalize V 0 = q0
                            generalize V 1 = q1
                            generalize V 2 = q2
                            generalize V 3 = q3
                            generalize V 4 = q4
                            generalize V 5 = q5
                            generalize V 6 = q6
                            generalize V 7 = q7
                            generalize V 8 = q8
                            generalize V 9 = q9
                            generalize V 10 = q10
                            generalize V 11 = q11
                            generalize V 12 = q12
                            generalize V 13 = q13
                            generalize V 14 = q14
                            generalize V 15 = q15
                            go_frame
                            go_wp2
                            go_loopw [3, 15] (fun vv i wr => ∃ (j : Nat) (v0 : Value), v0 = vv ∧ j ≤ np ∧ i = .int .i64 j ∧ Hid (WrL w v0 ((L ++ ([(s.size : Int)] ++ (sB s ++ [(np : Int)]))) ++ paramW (zs.take j)) wr) ∧ Hid (wr.heap[w.heap.size]? = some (.cells #[.slice A1 n1 c1, .slice A2 n2 c2, .slice A3 n3 c3, .slice A4 n4 c4, .slice (some ⟨bb1, o1, none⟩) n5 c5] 28 (0, 0))) ∧ Hid (wr.heap[hq]? = some (.cells #[.string s, .slice Ap np cp] 52 (0, 0)))) (fun _ i _ => np - (intOf i).toNat)
                            case atStart => exact ⟨0, _, rfl, by omega, rfl, Lib.hid (by simpa [paramW] using HR.out), HX3, HY3⟩
                            case round =>
                              clear HR HX3 HY3
                              obtain ⟨j, v1, rfl, hj, rfl, HW, HX, HY⟩ := hrel
                              have y0 := cell_of_row wr hq 0 _ _ _ HY.out
                              have y1 := cell_of_row wr hq 1 _ _ _ HY.out
                              simp only [List.getElem?_toArray, List.getElem?_cons_zero, List.getElem?_cons_succ] at y0 y1
                              by_cases hlj : j < np
                              · have j0 : (0 : Int) ≤ j := by omega
                                have j1 : (j : Int) < np := by omega
                                have hlz : j < zs.length := by rw [HNp.out]; exact hlj
                                obtain ⟨bp, op, eAp, _, hbp, hcp⟩ := HPr.out.at_ (sz := 1) (fun x => rfl) (by omega) (by omega)
                                subst eAp
                                have z0 := (HW.out.2.cell (p := ⟨bp, op + (j * 1 + 0), none⟩) (by have := HH.out; show bp < _; omega)).trans (hcp j hlz 0 _ rfl)
                                rw [show op + (j * 1 + 0) = op + j by omega, ← nth_get hlz] at z0
                                have hzI := HZ.out _ (List.getElem_mem hlz)
                                rw [← nth_get hlz] at hzI
                                have HGj := Lib.hid (paramW_more hlz)
                                have HLj := Lib.hid (show ((L ++ ([(s.size : Int)] ++ (sB s ++ [(np : Int)]))) ++ paramW (zs.take j)).length ≤ 1000000 by
                                  have h1 := HLen.out
                                  have h2 := sB_len s
                                  have h3 := paramW_len (zs.take j)
                                  rw [List.length_take] at h3
                                  simp only [List.length_append, List.length_cons, List.length_nil]
                                  omega)
                                clear hcp hlz hbp
                                generalize nth zs j = z at *
                                obtain ⟨zi0, zi1⟩ := hzI
                                have hwz := wrap_byte zi0 zi1
                                have HB1 := Lib.hid (show bytesL (IntKind.u64.wrap z) 1 = [z] by rw [wrap_id ⟨zi0, by omega⟩, byte_one zi0 zi1])
                                generalize hLL : ((L ++ ([(s.size : Int)] ++ (sB s ++ [(np : Int)]))) ++ paramW (zs.take j)) = LL at *
                                have HLL := Lib.hid hLL
                                clear hLL
                                have HWa := Lib.hid (HW.out.below ((Below.refl wr.heap.size wr).alloc (Nat.le_refl _) (.cells #[.int .u8 z] 5)))
                                have HXa := Lib.hid ((heap_alloc_old wr (.cells #[.int .u8 z] 5) (Array.getElem?_eq_some_iff.1 HX.out).1).trans HX.out)
                                have HYa := Lib.hid ((heap_alloc_old wr (.cells #[.int .u8 z] 5) (Array.getElem?_eq_some_iff.1 HY.out).1).trans HY.out)
                                have HNa := Lib.hid (newB_cells (w := wr.alloc (.cells #[.int .u8 z] 5)) (b := wr.heap.size) (o := 0) (l := [z]) (fun k hk => by
                                  obtain rfl : k = 0 := by simp at hk; exact hk
                                  exact cell_of_row _ wr.heap.size (0 + 0) _ _ _ (heap_alloc_new wr (.cells #[.int .u8 z] 5))))
                                clear HW HX HY
                                go_wp2_with (at_builtin; refine wpList_append_own _ rfl _ _ 31 rfl w.heap.size 5 i0 (.int .u8 0) 1 1 Tryz.underlying31 hi0 hz0 hz1 hz2 rfl (by decide) v1 LL.length (u8L LL) rfl HWa.out.1 ⟨wr.heap.size, 0, none⟩ 1 1 (u8L [z]) rfl rfl HNa.out (u8L_one _) (by have := HLj.out; unfold maxLen; omega) (by have := HLj.out; omega) HWa.out.2.size ?_)
                                intro v3 w3 hown3 hg3 _
                                have HR := Lib.hid (show WrL w v3 ((L ++ ([(s.size : Int)] ++ (sB s ++ [(np : Int)]))) ++ paramW (zs.take (j + 1))) w3 from by
                                  rw [HGj.out, HB1.out, ← List.append_assoc, HLL.out]
                                  exact HWa.out.more rfl hown3 hg3)
                                have HX3 := Lib.hid (box_stays HWa.out.1 hg3 HXa.out (by decide))
                                have HY3 := Lib.hid (box_stays HWa.out.1 hg3 HYa.out (by decide))
                                clear hown3 hg3 y0 y1 z0
                                go_wp2
                                go_roundw
                                case rel => exact ⟨j + 1, v3, rfl, by omega, by go_num, HR, HX3, HY3⟩
                                case measure => simp [intOf]; omega
                              · obtain rfl : np = j := by omega
                                have HR := Lib.hid (show WrL w v1 (P5 d ++ (d.ents.take (k + 1)).flatMap entWt) wr from by
                                  have h := HW.out
                                  rw [← HNp.out, List.take_length] at h
                                  rw [HGo.out, HSW.out]
                                  simp only [List.append_assoc] at h ⊢
                                  rw [HNp.out] at h
                                  exact h)
                                clear HW hlj
                                go_wp2
                                go_roundw
                                case rel => exact ⟨k + 1, v1, rfl, by omega, by go_num, HR, HX⟩
                                case measure => simp [intOf]; omega
                          · have f3 : ac.tmps[3]?.getD undef = v0 := tmp_of (hP.2 3 (by kernel_rfl))
                            simp [go_sem, f3]
                          · have f14 : ac.tmps[14]?.getD undef = (.pointer (some ⟨hq, 0, none⟩)) := tmp_of (hP.2 14 (by kernel_rfl))
                            simp [go_sem, f14]
                          · have f166 : ac.tmps[166]?.getD undef = (.pointer (some ⟨hq, 0, none⟩)) := tmp_of (hP.1 1 _ 166 _ rfl rfl rfl (by decide +kernel))
                            have y0 := cell_of_row w1 hq 0 _ _ _ hS.2.2
                            simp only [List.getElem?_toArray, List.getElem?_cons_zero] at y0
                            simp [go_sem, f166, y0]
                          · have f167 : ac.tmps[167]?.getD undef = (.string s) := tmp_of (hP.1 2 _ 167 _ rfl rfl rfl (by decide +kernel))
                            simp [go_sem, f167]
                          · have f168 : ac.tmps[168]?.getD undef = (.int .i64 s.size) := tmp_of (hP.1 3 _ 168 _ rfl rfl rfl (by decide +kernel))
                            have hw := HWp.out
                            simp [go_sem, f168, hw]
                          · exact mat_one rfl (hP.1 4 _ 169 _ rfl rfl rfl (by decide +kernel)) hS (fun w2 hb => hS.below hb)
                          · have f14 : ac.tmps[14]?.getD undef = (.pointer (some ⟨hq, 0, none⟩)) := tmp_of (hP.2 14 (by kernel_rfl))
                            simp [go_sem, f14]
                          · have f172 : ac.tmps[172]?.getD undef = (.pointer (some ⟨hq, 0, none⟩)) := tmp_of (hP.1 7 _ 172 _ rfl rfl rfl (by decide +kernel))
                            have y0 := cell_of_row w1 hq 0 _ _ _ hS.2.2
                            simp only [List.getElem?_toArray, List.getElem?_cons_zero] at y0
                            simp [go_sem, f172, y0]
                          · exact mat_str rfl (hP.1 8 _ 173 _ rfl rfl rfl (by decide +kernel)) hS (fun w2 hb => hS.below hb)
                          · have f14 : ac.tmps[14]?.getD undef = (.pointer (some ⟨hq, 0, none⟩)) := tmp_of (hP.2 14 (by kernel_rfl))
                            simp [go_sem, f14]
                          · have f176 : ac.tmps[176]?.getD undef = (.pointer (some ⟨hq, 1, none⟩)) := tmp_of (hP.1 11 _ 176 _ rfl rfl rfl (by decide +kernel))
                            have y0 := cell_of_row w1 hq 1 _ _ _ hS.2.2
                            simp only [List.getElem?_toArray, List.getElem?_cons_zero, List.getElem?_cons_succ] at y0
                            simp [go_sem, f176, y0]
                          · have f177 : ac.tmps[177]?.getD undef = (.slice Ap np cp) := tmp_of (hP.1 12 _ 177 _ rfl rfl rfl (by decide +kernel))
                            simp [go_sem, f177]
                          · have f178 : ac.tmps[178]?.getD undef = (.int .i64 np) := tmp_of (hP.1 13 _ 178 _ rfl rfl rfl (by decide +kernel))
                            have hw := HWn.out
                            simp [go_sem, f178, hw]
                          · exact mat_one rfl (hP.1 14 _ 179 _ rfl rfl rfl (by decide +kernel)) hS (fun w2 hb => hS.below hb)
                        · obtain rfl : n5 = k := by omega
                          clear hlt
                          have HW2 := Lib.hid (show WrL w v0 (encB d) wr from by
                            have h := HW.out
                            rw [← E5.out, List.take_length, P6_eq] at h
                            exact h)
                          go_wp2
                          go_ret
                          exact ⟨v0, rfl, HW2.out⟩
end Go.Proofs.YtmpieeadkkeniaaGreatDoor
