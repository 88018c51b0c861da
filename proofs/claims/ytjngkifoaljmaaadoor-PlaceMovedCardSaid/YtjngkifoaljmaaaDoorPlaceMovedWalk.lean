/- The walk of the statement PlaceMoved: it returns true, and writes nothing that was there. Condition: the tables of package ins read as they should. -/
import Derived.Test.YtjngkifoaljmaaaDoorPlaI
import Derived.Test.YtjngkifoaljmaaaDoorPlaP
import Derived.Test.YtjngkifoaljmaaaDoorPlaW
import Derived.Test.YtjngkifoaljmaaaDoorSynA
namespace Go.Proofs.YtjngkifoaljmaaaDoor.PlaceMovedWalk
set_option maxRecDepth 100000
open Go.RowKit
set_option linter.unusedVariables false
set_option maxHeartbeats 8000000 in
theorem walk (A0 : Option Addr) (c0 : Nat) (l : List ObjD) (a1 : Int) (w : World) (hO : ObjsAt w 0 w.heap.size l A0) (hW : ∀ d ∈ l, ObjW d) (hL : ∀ d ∈ l, ObjL d) (hn0 : l.length ≤ maxLen) (w1 : (Lit.int .u8 a1).wf = true) (hT : Tabs w) :
    Calls Tryd.prog 4 #[.slice A0 l.length c0, .int .u8 a1] w fun e w' => e = .returned (.bool true) ∧ Below w.heap.size w w' := by
  obtain ⟨ha0, ha1⟩ := bounds_u8 w1
  have HT := Lib.hid hT
  have HO := Lib.hid hO
  have HW := Lib.hid hW
  have HL := Lib.hid hL
  have HMx := Lib.hid hn0
  obtain ⟨n, hn⟩ : ∃ n, l.length = n := ⟨_, rfl⟩
  rw [hn] at hn0 ⊢
  have HN := Lib.hid hn
  clear hT hO hW hL w1
  unfold maxLen at hn0
  go_enter Tryd.func4, Tryd.ntmps4
  go_wp2_with fail
  refine (awake8_yes w HT.out).mono ?_
  rintro e w2 ⟨rfl, hb1⟩
  have HB1 := Lib.hid hb1
  clear hb1
  go_wp2_with fail
  refine (small7_any l HW.out HL.out A0 n c0 0 w.heap.size HN.out (by rw [← HN.out]; exact HMx.out) w2 (HO.out.below (Nat.le_refl _) HB1.out) HB1.out.size).mono ?_
  rintro e w3 ⟨⟨b, rfl, hsm⟩, hb2⟩
  have HB2 := Lib.hid (HB1.out.trans (hb2.mono HB1.out.size))
  clear hb2
  cases b
  case false =>
    clear hsm
    go_wp2
    go_ret
    exact ⟨rfl, HB2.out⟩
  obtain ⟨h20, hsS, hsR⟩ := hsm rfl
  have hn20 : n ≤ 20 := by omega
  have HS := Lib.hid (And.intro hsS hsR)
  clear hsm hsS hsR h20 hn0 hn
  go_wp2_with fail
  refine (link_any l HW.out A0 n c0 0 w.heap.size HN.out (by omega) 4096 131072 ⟨by omega, by omega⟩ ⟨by omega, by omega⟩ w3 (HT.out.below HB2.out) (HO.out.below (Nat.le_refl _) HB2.out) HB2.out.size).mono ?_
  rintro e w4 ⟨hb3, v1, u1, rfl, g1, g2⟩
  have HB3 := Lib.hid (HB2.out.trans (hb3.mono HB2.out.size))
  have HG1 := Lib.hid g1
  have HG2 := Lib.hid g2
  clear hb3 g1 g2
  go_wp2_with fail
  refine (link_any l HW.out A0 n c0 0 w.heap.size HN.out (by omega) (4096 + 8 * a1) 131072 ⟨by omega, by omega⟩ ⟨by omega, by omega⟩ w4 (HT.out.below HB3.out) (HO.out.below (Nat.le_refl _) HB3.out) HB3.out.size).mono ?_
  rintro e w5 ⟨hb4, v2, u2, rfl, g3, g4⟩
  have HB4 := Lib.hid (HB3.out.trans (hb4.mono HB3.out.size))
  by_cases k1 : lkC l 4096 131072 n = 0
  case neg =>
    obtain ⟨k, hk⟩ : ∃ k, lkC l 4096 131072 n = k := ⟨_, rfl⟩
    obtain ⟨k', hk'⟩ : ∃ k', lkC l (4096 + 8 * a1) 131072 n = k' := ⟨_, rfl⟩
    rw [hk] at k1 ⊢
    rw [hk']
    have t1 : (k != (0 : Int)) = true := by simpa using k1
    clear g3 g4 hb4 hk hk' HG1 HG2
    go_wp2
    go_ret
    exact ⟨rfl, HB4.out⟩
  by_cases k2 : lkC l (4096 + 8 * a1) 131072 n = 0
  case neg =>
    obtain ⟨k', hk'⟩ : ∃ k', lkC l (4096 + 8 * a1) 131072 n = k' := ⟨_, rfl⟩
    rw [hk'] at k2 ⊢
    rw [k1]
    have t1 : (k' != (0 : Int)) = true := by simpa using k2
    clear g3 g4 hb4 hk' HG1 HG2 k1
    go_wp2
    go_ret
    exact ⟨rfl, HB4.out⟩
  obtain ⟨xs, hx, htx, hlg⟩ := HG2.out k1
  obtain ⟨ys, hy, hty, hmg⟩ := g4 k2
  rw [k1, k2]
  have hck : (chkF l).2 = 0 := by
    by_cases h : (chkF l).2 = 0
    · exact h
    · exfalso
      unfold lkC spC at k1
      rw [if_pos h] at k1
      rw [if_pos h] at k1
      exact h k1
  have HCk := Lib.hid hck
  have hxl := txT_len (by rw [HN.out]; exact Nat.le_refl _) hx
  have hyl := txT_len (by rw [HN.out]; exact Nat.le_refl _) hy
  have hts := may_sumTD (chkF_may hck)
  have hdl := daT_len l n (by rw [HN.out]; exact Nat.le_refl _)
  have hD := sumD_le l n
  have hTl := sumT_le l n
  have htx5 := htx.below hb4
  have hlg5 := hlg.below hb4
  obtain ⟨Ax, cx, rfl, -⟩ := id htx
  obtain ⟨Ay, cy, rfl, -⟩ := id hty
  obtain ⟨Au, cu, rfl, -⟩ := id hlg
  obtain ⟨Av, cv, rfl, -⟩ := id hmg
  have HHx := Lib.hid hx
  have HHy := Lib.hid hy
  obtain ⟨m, hm⟩ : ∃ m, sumT l n = m := ⟨_, rfl⟩
  obtain ⟨q, hq⟩ : ∃ q, sumD l n = q := ⟨_, rfl⟩
  rw [hm] at hxl hyl hTl
  rw [hq] at hdl hD
  rw [hxl] at htx5 ⊢
  rw [hyl] at hty ⊢
  rw [hdl] at hlg5 hmg ⊢
  have hm2 : m ≤ 65536 := by omega
  have hq2 : q ≤ 65536 := by omega
  obtain ⟨B1, hB1⟩ : ∃ B, w3.heap.size = B := ⟨_, rfl⟩
  obtain ⟨B2, hB2⟩ : ∃ B, w4.heap.size = B := ⟨_, rfl⟩
  rw [hB1] at htx5 hlg5
  rw [hB2] at hty hmg
  have HX := Lib.hid htx5
  have HY := Lib.hid hty
  have HLg := Lib.hid (longs_same (daT l n) q hdl (by omega) Au Av cu cv B1 B2 w5 hlg5 hmg)
  have HMs := Lib.hid hm
  have HXl := Lib.hid (And.intro hxl hyl)
  clear hx hy htx hlg hty hmg g3 g4 hb4 hck hxl hyl hts hdl hD hTl htx5 hlg5 hm hq hB1 hB2 k1 k2 HG1 HG2
  go_wp2_with fail
  refine HLg.out.mono ?_
  rintro e w6 ⟨rfl, hb5⟩
  have HB6 := Lib.hid (HB4.out.trans (hb5.mono HB4.out.size))
  have HX6 := Lib.hid (HX.out.below hb5)
  have HY6 := Lib.hid (HY.out.below hb5)
  clear hb5 HX HY HLg
  have hmi : (m : Int) ≤ 65536 := by omega
  go_wp2
  go_loopw [11, 12] (fun kk i wr => ∃ k : Nat, k ≤ n ∧ i = .int .i64 k ∧ kk = .int .i64 (sumT l k) ∧ Hid (TxAt wr B1 xs (.slice Ax m cx)) ∧ Hid (TxAt wr B2 ys (.slice Ay m cy)) ∧ Hid (Below w.heap.size w wr)) (fun _ i _ => n - (intOf i).toNat)
  case atStart => exact ⟨0, by omega, rfl, by simp [sumT], HX6, HY6, HB6⟩
  case round =>
    clear HX6 HY6 HB6
    obtain ⟨k, hk, rfl, rfl, HX, HY, HB⟩ := hrel
    by_cases hlt : k < n
    · have k0 : (0 : Int) ≤ k := by omega
      have k1 : (k : Int) < n := by omega
      have hlk : k < l.length := by rw [HN.out]; exact hlt
      obtain ⟨b, o, A1, n1, c1, A2, n2, c2, A3, n3, c3, A4, n4, c4, A5, n5, c5, rfl, hb, ⟨x0, x1, x2, x3, x4⟩, f1, f2, f3, f4, -⟩ := (HO.out.below (Nat.le_refl _) HB.out).td hlk
      have hfw := may_few (chkF_may HCk.out) hlk
      have hsg := sumT_go hlk
      have hsl := sumT_le l (k + 1)
      have hsn : sumT l (k + 1) ≤ m := by
        rw [← HMs.out]
        have h1 := sumT_le (l.take n) (k + 1)
        have h2 : sumT (l.take n) (k + 1) = sumT l (k + 1) := by unfold sumT; rw [List.take_take, show min (k + 1) n = k + 1 by omega]
        have h3 : sumT (l.take n) (l.take n).length = sumT l n := by unfold sumT; rw [List.take_length]
        omega
      rw [f1] at hsg hfw
      rw [f4] at hfw
      have hn1 : n1 ≤ 4096 := hfw.1
      have hn4 : n4 ≤ 16384 := hfw.2.2.2
      have HF := Lib.hid (And.intro f1 f4)
      obtain ⟨s, hs⟩ : ∃ s, sumT l k = s := ⟨_, rfl⟩
      rw [hs] at hsg ⊢
      have HSk := Lib.hid hs
      have HSg := Lib.hid hsg
      have hsm : s + n1 ≤ m := by omega
      have HC := Lib.hid (And.intro x0 (And.intro x2 x3))
      have HHb := Lib.hid hb
      clear hfw hsl hsn hsg hs f1 f2 f3 f4 x1 x2 x3 x4 hb
      go_wp2
      go_loopw [11, 13] (fun kk j wx => ∃ p : Nat, p ≤ n1 ∧ j = .int .i64 p ∧ kk = .int .i64 (s + p : Nat) ∧ Hid (TxAt wx B1 xs (.slice Ax m cx)) ∧ Hid (TxAt wx B2 ys (.slice Ay m cy)) ∧ Hid (Below wr.heap.size wr wx)) (fun _ j _ => n1 - (intOf j).toNat)
      case atStart => exact ⟨0, by omega, rfl, rfl, HX, HY, Lib.hid (Below.refl _ _)⟩
      case round =>
        clear x0 HX HY
        obtain ⟨p, hp, rfl, rfl, HX, HY, HBx⟩ := hrel
        have HBw := Lib.hid (HB.out.trans (HBx.out.mono HB.out.size))
        have x0 := (HBx.out.cell (p := ⟨b, o + k * 5, none⟩) (block_lt HC.out.1)).trans HC.out.1
        by_cases hlp : p < n1
        · have p0 : (0 : Int) ≤ p := by omega
          have p1 : (p : Int) < n1 := by omega
          have hpl : p < l[k].text.length := by rw [HF.out.1]; exact hlp
          obtain ⟨P, hP⟩ : ∃ P, s + p = P := ⟨_, rfl⟩
          rw [hP]
          have HPm := Lib.hid (show P < m from by omega)
          have HP := Lib.hid hP
          have HHp := Lib.hid (And.intro hp (And.intro hsm hk))
          have HMb := Lib.hid hm2
          clear hP ha0 ha1 hq2 hm2 hmi hsm hk
          go_wp2
          go_loopw [14, 15, 16] (fun hh uu j wx => ∃ (r : Nat) (h u : Bool), r ≤ n4 ∧ j = .int .i64 r ∧ hh = .bool h ∧ uu = .bool u ∧ Hid (h = false → u = false → ∀ q (hq : q < l[k].rels.length), q < r → l[k].rels[q].1 = 4 * (p : Int) → 1 < l[k].rels[q].2.1 ∧ ∀ (o jj : Nat), o < l.length → fndD l (k : Int) l[k].rels[q].2.2.1 = some ((o : Int), (jj : Int)) → (symAt (nAt l o) jj).2.1 = false) ∧ Hid (TxAt wx B1 xs (.slice Ax m cx)) ∧ Hid (TxAt wx B2 ys (.slice Ay m cy)) ∧ Hid (Below wr.heap.size wr wx)) (fun _ _ j _ => n4 - (intOf j).toNat)
          case atStart => exact ⟨0, false, false, by omega, rfl, rfl, rfl, Lib.hid (fun _ _ q _ hq => by omega), HX, HY, Lib.hid (Below.refl _ _)⟩
          case round =>
            clear x0 HX HY
            obtain ⟨r, h, u, hr, rfl, rfl, rfl, HQ, HX, HY, HBy⟩ := hrel
            have HBv := Lib.hid (HBw.out.trans (HBy.out.mono HBw.out.size))
            have HBz := Lib.hid (HBx.out.trans (HBy.out.mono HBx.out.size))
            have x3 := (HBz.out.cell (p := ⟨b, o + k * 5 + 3, none⟩) (block_lt HC.out.2.2)).trans HC.out.2.2
            by_cases hlr : r < n4
            · have r0 : (0 : Int) ≤ r := by omega
              have r1 : (r : Int) < n4 := by omega
              have hrl : r < l[k].rels.length := by rw [HF.out.2]; exact hlr
              obtain ⟨b', o', n4', c4', b4, o4, eA, yA, hn4', z0, z1, z2, -⟩ := (HO.out.below (Nat.le_refl _) HBv.out).relAt hlk hrl
              cases eA
              have eS := x3.symm.trans yA
              cases eS
              clear yA hn4'
              obtain ⟨o2, ho2, jj, hjj, hf⟩ := chk_found HCk.out hlk (List.getElem_mem hrl)
              obtain ⟨b7, o7, n7, c7, b3, o3, eA, y2, hn7, -, v1, -, -⟩ := (HO.out.below (Nat.le_refl _) HBv.out).symAt ho2 hjj
              cases eA
              obtain ⟨ra, hra⟩ : ∃ ra, l[k].rels[r].1 = ra := ⟨_, rfl⟩
              obtain ⟨rk, hrk⟩ : ∃ rk, l[k].rels[r].2.1 = rk := ⟨_, rfl⟩
              obtain ⟨rn, hrn⟩ : ∃ rn, l[k].rels[r].2.2.1 = rn := ⟨_, rfl⟩
              obtain ⟨iD, hiD⟩ : ∃ iD, l[o2].syms[jj].2.1 = iD := ⟨_, rfl⟩
              rw [hra] at z0
              rw [hrk] at z1
              rw [hrn] at z2 hf
              rw [hiD] at v1
              have hjn : jj < n7 := by rw [← hn7]; exact hjj
              have HQn := Lib.hid (show ra ≠ 4 * (p : Int) → (h = false → u = false → ∀ q (hq : q < l[k].rels.length), q < r + 1 → l[k].rels[q].1 = 4 * (p : Int) → 1 < l[k].rels[q].2.1 ∧ ∀ (o jj : Nat), o < l.length → fndD l (k : Int) l[k].rels[q].2.2.1 = some ((o : Int), (jj : Int)) → (symAt (nAt l o) jj).2.1 = false) from fun hne e1 e2 q hq hqr hq4 => by
                by_cases e : q = r
                · subst e; exact absurd (hra.symm.trans hq4) hne
                · exact HQ.out e1 e2 q hq (by omega) hq4)
              have HQy := Lib.hid (show ∀ h' u' : Bool, (h' = false → h = false ∧ 1 < rk) → (u' = false → u = false ∧ iD = false) → (h' = false → u' = false → ∀ q (hq : q < l[k].rels.length), q < r + 1 → l[k].rels[q].1 = 4 * (p : Int) → 1 < l[k].rels[q].2.1 ∧ ∀ (o jj : Nat), o < l.length → fndD l (k : Int) l[k].rels[q].2.2.1 = some ((o : Int), (jj : Int)) → (symAt (nAt l o) jj).2.1 = false) from fun h' u' i1 i2 e1 e2 q hq hqr hq4 => by
                obtain ⟨e1, e3⟩ := i1 e1
                obtain ⟨e2, e4⟩ := i2 e2
                by_cases e : q = r
                · subst e
                  refine ⟨by rw [hrk]; exact e3, fun o' jj' ho' hf' => ?_⟩
                  rw [hrn] at hf'
                  rw [hf] at hf'
                  simp only [Option.some.injEq, Prod.mk.injEq, Int.natCast_inj] at hf'
                  obtain ⟨rfl, rfl⟩ := hf'
                  rw [nAt_get ho']
                  unfold symAt
                  rw [List.getD_eq_getElem?_getD, List.getElem?_eq_getElem hjj]
                  exact hiD.trans e4
                · exact HQ.out e1 e2 q hq (by omega) hq4)
              have HFn := Lib.hid (show findP l k rn = some ((o2 : Int), (jj : Int)) from by rw [← fnd_plain hlk]; exact hf)
              have ho2n : (o2 : Int) < n := by have := HN.out; omega
              have ho20 : (0 : Int) ≤ o2 := by omega
              have hj20 : (0 : Int) ≤ jj := by omega
              have hj2n : (jj : Int) < n7 := by omega
              clear hra hrk hrn hiD hf hn7 HQ hrl hjj ho2 hpl hjn
              by_cases hre : ra = 4 * (p : Int)
              case neg =>
                have g : (ra == 4 * (p : Int)) = false := by simpa using hre
                have HQ2 := Lib.hid (HQn.out hre)
                clear HQn HQy hre
                go_wp2
                go_roundw
                case rel => exact ⟨r + 1, h, u, by omega, by go_num, rfl, rfl, HQ2, HX, HY, HBy⟩
                case measure => simp [intOf]; omega
              subst hre
              cases h
              case true =>
                have HQ2 := Lib.hid (fun u' => HQy.out true u' (fun e => by cases e))
                clear HQn HQy
                go_wp2_with fail
                refine (rfind7_any l (some ⟨b, o, none⟩) n c0 0 w.heap.size HN.out (by omega) (by have := HS.out.1; omega) k (by omega) rn wr (HO.out.below (Nat.le_refl _) HBv.out) HBv.out.size).mono ?_
                rintro e w7 ⟨rfl, hb7⟩
                rw [HFn.out, show defV (some ((o2 : Int), (jj : Int))) = .agg #[.int .i64 o2, .int .i64 jj] from rfl, show (some ((o2 : Int), (jj : Int))).isSome = true from rfl]
                have hbl := (Below.refl w7.heap.size w7).alloc (Nat.le_refl _) (.cells #[.int .i64 o2, .int .i64 jj] 49)
                have hb8 := hb7.trans (hbl.mono hb7.size)
                have HD8 := Lib.hid (heap_alloc_new w7 (.cells #[.int .i64 o2, .int .i64 jj] 49))
                have HX8 := Lib.hid (HX.out.below hb8)
                have HY8 := Lib.hid (HY.out.below hb8)
                have HB8 := Lib.hid (HBy.out.trans (hb8.mono HBy.out.size))
                replace y2 := (hb8.cell (p := ⟨b, o + o2 * 5 + 2, none⟩) (block_lt y2)).trans y2
                replace v1 := (hb8.cell (p := ⟨b3, o3 + jj * 4 + 1, none⟩) (block_lt v1)).trans v1
                clear hb7 hbl hb8 HX HY HBy z0 z1 z2 x3
                go_upto_region 26 with fail
                generalize (w7.alloc (.cells #[.int .i64 o2, .int .i64 jj] 49)) = w8 at *
                generalize w7.heap.size = kd at *
                obtain ⟨d0, d1, df⟩ := row2 HD8.out
                have hbn := fun q => below_drewN (Below.refl w8.heap.size w8) q
                have HX9 := Lib.hid (fun q => HX8.out.below (hbn q))
                have HY9 := Lib.hid (fun q => HY8.out.below (hbn q))
                have HB9 := Lib.hid (fun q => HB8.out.trans ((hbn q).mono HB8.out.size))
                clear hbn HX8 HY8 HB8 HD8
                cases u
                case true =>
                  have HQ3 := Lib.hid (HQ2.out true (fun e => by cases e))
                  clear HQ2
                  go_wp2_with fail
                  go_quiet (fail)
                  go_wp2
                  go_roundw
                  case rel => exact ⟨r + 1, true, true, by omega, by go_num, rfl, rfl, HQ3, Lib.hid (HX9.out nq), Lib.hid (HY9.out nq), Lib.hid (HB9.out nq)⟩
                  case measure => simp [intOf]; omega
                case false =>
                  have HQ3 := Lib.hid (HQ2.out iD (fun e => ⟨rfl, e⟩))
                  clear HQ2
                  go_wp2_with fail
                  go_quiet (fail)
                  go_wp2
                  go_roundw
                  case rel => exact ⟨r + 1, true, iD, by omega, by go_num, rfl, rfl, HQ3, Lib.hid (HX9.out nq), Lib.hid (HY9.out nq), Lib.hid (HB9.out nq)⟩
                  case measure => simp [intOf]; omega
              case false =>
                by_cases hk1 : rk ≤ 1
                · have HQ2 := Lib.hid (fun u' => HQy.out true u' (fun e => by cases e))
                  clear HQn HQy
                  go_wp2_with fail
                  refine (rfind7_any l (some ⟨b, o, none⟩) n c0 0 w.heap.size HN.out (by omega) (by have := HS.out.1; omega) k (by omega) rn wr (HO.out.below (Nat.le_refl _) HBv.out) HBv.out.size).mono ?_
                  rintro e w7 ⟨rfl, hb7⟩
                  rw [HFn.out, show defV (some ((o2 : Int), (jj : Int))) = .agg #[.int .i64 o2, .int .i64 jj] from rfl, show (some ((o2 : Int), (jj : Int))).isSome = true from rfl]
                  have hbl := (Below.refl w7.heap.size w7).alloc (Nat.le_refl _) (.cells #[.int .i64 o2, .int .i64 jj] 49)
                  have hb8 := hb7.trans (hbl.mono hb7.size)
                  have HD8 := Lib.hid (heap_alloc_new w7 (.cells #[.int .i64 o2, .int .i64 jj] 49))
                  have HX8 := Lib.hid (HX.out.below hb8)
                  have HY8 := Lib.hid (HY.out.below hb8)
                  have HB8 := Lib.hid (HBy.out.trans (hb8.mono HBy.out.size))
                  replace y2 := (hb8.cell (p := ⟨b, o + o2 * 5 + 2, none⟩) (block_lt y2)).trans y2
                  replace v1 := (hb8.cell (p := ⟨b3, o3 + jj * 4 + 1, none⟩) (block_lt v1)).trans v1
                  clear hb7 hbl hb8 HX HY HBy z0 z1 z2 x3
                  go_upto_region 26 with fail
                  generalize (w7.alloc (.cells #[.int .i64 o2, .int .i64 jj] 49)) = w8 at *
                  generalize w7.heap.size = kd at *
                  obtain ⟨d0, d1, df⟩ := row2 HD8.out
                  have hbn := fun q => below_drewN (Below.refl w8.heap.size w8) q
                  have HX9 := Lib.hid (fun q => HX8.out.below (hbn q))
                  have HY9 := Lib.hid (fun q => HY8.out.below (hbn q))
                  have HB9 := Lib.hid (fun q => HB8.out.trans ((hbn q).mono HB8.out.size))
                  clear hbn HX8 HY8 HB8 HD8
                  cases u
                  case true =>
                    have HQ3 := Lib.hid (HQ2.out true (fun e => by cases e))
                    clear HQ2
                    go_wp2_with fail
                    go_quiet (fail)
                    go_wp2
                    go_roundw
                    case rel => exact ⟨r + 1, true, true, by omega, by go_num, rfl, rfl, HQ3, Lib.hid (HX9.out nq), Lib.hid (HY9.out nq), Lib.hid (HB9.out nq)⟩
                    case measure => simp [intOf]; omega
                  case false =>
                    have HQ3 := Lib.hid (HQ2.out iD (fun e => ⟨rfl, e⟩))
                    clear HQ2
                    go_wp2_with fail
                    go_quiet (fail)
                    go_wp2
                    go_roundw
                    case rel => exact ⟨r + 1, true, iD, by omega, by go_num, rfl, rfl, HQ3, Lib.hid (HX9.out nq), Lib.hid (HY9.out nq), Lib.hid (HB9.out nq)⟩
                    case measure => simp [intOf]; omega
                · have HQ2 := Lib.hid (fun u' => HQy.out false u' (fun _ => ⟨rfl, by omega⟩))
                  clear HQn HQy
                  go_wp2_with fail
                  refine (rfind7_any l (some ⟨b, o, none⟩) n c0 0 w.heap.size HN.out (by omega) (by have := HS.out.1; omega) k (by omega) rn wr (HO.out.below (Nat.le_refl _) HBv.out) HBv.out.size).mono ?_
                  rintro e w7 ⟨rfl, hb7⟩
                  rw [HFn.out, show defV (some ((o2 : Int), (jj : Int))) = .agg #[.int .i64 o2, .int .i64 jj] from rfl, show (some ((o2 : Int), (jj : Int))).isSome = true from rfl]
                  have hbl := (Below.refl w7.heap.size w7).alloc (Nat.le_refl _) (.cells #[.int .i64 o2, .int .i64 jj] 49)
                  have hb8 := hb7.trans (hbl.mono hb7.size)
                  have HD8 := Lib.hid (heap_alloc_new w7 (.cells #[.int .i64 o2, .int .i64 jj] 49))
                  have HX8 := Lib.hid (HX.out.below hb8)
                  have HY8 := Lib.hid (HY.out.below hb8)
                  have HB8 := Lib.hid (HBy.out.trans (hb8.mono HBy.out.size))
                  replace y2 := (hb8.cell (p := ⟨b, o + o2 * 5 + 2, none⟩) (block_lt y2)).trans y2
                  replace v1 := (hb8.cell (p := ⟨b3, o3 + jj * 4 + 1, none⟩) (block_lt v1)).trans v1
                  clear hb7 hbl hb8 HX HY HBy z0 z1 z2 x3
                  go_upto_region 26 with fail
                  generalize (w7.alloc (.cells #[.int .i64 o2, .int .i64 jj] 49)) = w8 at *
                  generalize w7.heap.size = kd at *
                  obtain ⟨d0, d1, df⟩ := row2 HD8.out
                  have hbn := fun q => below_drewN (Below.refl w8.heap.size w8) q
                  have HX9 := Lib.hid (fun q => HX8.out.below (hbn q))
                  have HY9 := Lib.hid (fun q => HY8.out.below (hbn q))
                  have HB9 := Lib.hid (fun q => HB8.out.trans ((hbn q).mono HB8.out.size))
                  clear hbn HX8 HY8 HB8 HD8
                  cases u
                  case true =>
                    have HQ3 := Lib.hid (HQ2.out true (fun e => by cases e))
                    clear HQ2
                    go_wp2_with fail
                    go_quiet (fail)
                    go_wp2
                    go_roundw
                    case rel => exact ⟨r + 1, false, true, by omega, by go_num, rfl, rfl, Lib.hid (fun a b => HQ3.out trivial b), Lib.hid (HX9.out nq), Lib.hid (HY9.out nq), Lib.hid (HB9.out nq)⟩
                    case measure => simp [intOf]; omega
                  case false =>
                    have HQ3 := Lib.hid (HQ2.out iD (fun e => ⟨rfl, e⟩))
                    clear HQ2
                    go_wp2_with fail
                    go_quiet (fail)
                    go_wp2
                    go_roundw
                    case rel => exact ⟨r + 1, false, iD, by omega, by go_num, rfl, rfl, Lib.hid (fun a b => HQ3.out trivial b), Lib.hid (HX9.out nq), Lib.hid (HY9.out nq), Lib.hid (HB9.out nq)⟩
                    case measure => simp [intOf]; omega
            · have hrm : r = n4 := by omega
              have r1 : ¬ (r : Int) < n4 := by omega
              subst hrm
              obtain ⟨g1, e1, -, w1, -⟩ := HX.out.at_ (i := P) (by rw [HX.out.len]; exact HPm.out)
              obtain ⟨g2, e2, -, w2', -⟩ := HY.out.at_ (i := P) (by rw [HY.out.len]; exact HPm.out)
              subst e1 e2
              have P0 : (0 : Int) ≤ P := by omega
              have P1 : (P : Int) < m := by have := HPm.out; omega
              have hPb : P ≤ 65536 := by have := HMb.out; have := HPm.out; omega
              have HMw := Lib.hid (fun (e1 : h = false) (e2 : u = false) => moved_word HCk.out HN.out HHx.out HHy.out hlk hpl (fun q hq h4 => ⟨by have := (HQ.out e1 e2 q hq (by rw [← HF.out.2]; exact hq) h4).1; omega, (HQ.out e1 e2 q hq (by rw [← HF.out.2]; exact hq) h4).2⟩))
              have hlx : P < xs.length := by rw [HX.out.len]; exact HPm.out
              have hly : P < ys.length := by rw [HY.out.len]; exact HPm.out
              have HXY := Lib.hid (show h = false → u = false → xs[P] = ys[P] from fun e1 e2 => by
                have h := HMw.out e1 e2
                rw [HSk.out, HP.out] at h
                simpa [List.getD_eq_getElem?_getD, hlx, hly] using h)
              obtain ⟨X, hX⟩ : ∃ X, xs[P] = X := ⟨_, rfl⟩
              obtain ⟨Y, hY⟩ : ∃ Y, ys[P] = Y := ⟨_, rfl⟩
              rw [hX] at w1
              rw [hY] at w2'
              rw [hX, hY] at HXY
              have HX1 := Lib.hid (fun q => HX.out.below (below_drewN (Below.refl wr.heap.size wr) q))
              have HY1 := Lib.hid (fun q => HY.out.below (below_drewN (Below.refl wr.heap.size wr) q))
              have HB1' := Lib.hid (fun q => HBz.out.trans ((below_drewN (Below.refl wr.heap.size wr) q).mono HBz.out.size))
              clear HMw hlx hly hX hY HQ HX HY HBy HBv HBw hlr
              cases h
              case true =>
                clear HXY
                go_wp2_with fail
                go_quiet (fail)
                go_wp2
                go_roundw
                case rel => exact ⟨p + 1, by have := HHp.out.1; omega, by go_num, by rw [← HP.out]; go_num, Lib.hid (HX1.out nq), Lib.hid (HY1.out nq), Lib.hid (HB1'.out nq)⟩
                case measure => simp [intOf]; omega
              case false =>
                cases u
                case true =>
                  clear HXY
                  go_wp2_with fail
                  go_quiet (fail)
                  go_wp2
                  go_roundw
                  case rel => exact ⟨p + 1, by have := HHp.out.1; omega, by go_num, by rw [← HP.out]; go_num, Lib.hid (HX1.out nq), Lib.hid (HY1.out nq), Lib.hid (HB1'.out nq)⟩
                  case measure => simp [intOf]; omega
                case false =>
                  have hxy := HXY.out rfl rfl
                  subst hxy
                  have t1 : ((X : Int) != X) = false := by simp
                  clear HXY
                  go_wp2_with fail
                  go_quiet (fail)
                  go_wp2
                  go_roundw
                  case rel => exact ⟨p + 1, by have := HHp.out.1; omega, by go_num, by rw [← HP.out]; go_num, Lib.hid (HX1.out nq), Lib.hid (HY1.out nq), Lib.hid (HB1'.out nq)⟩
                  case measure => simp [intOf]; omega
        · have hpn : p = n1 := by omega
          have p1 : ¬ (p : Int) < n1 := by omega
          subst hpn
          go_wp2
          go_roundw
          case rel => exact ⟨k + 1, by omega, by go_num, by rw [HSg.out], HX, HY, HBw⟩
          case measure => simp [intOf]; omega
    · have hkn : k = n := by omega
      have k1 : ¬ (k : Int) < n := by omega
      subst hkn
      go_wp2
      go_ret
      exact ⟨rfl, HB.out⟩
end Go.Proofs.YtjngkifoaljmaaaDoor.PlaceMovedWalk
