/- The walk of the statement PlaceAlone: it returns true, and writes nothing that was there. Condition: the tables of package ins read as they should. -/
import Derived.Test.YtjngkifoaljmaaaDoorPlaI
import Derived.Test.YtjngkifoaljmaaaDoorPlaU
import Derived.Deep.QuietTactic
import Derived.BigQuiet
namespace Go.Proofs.YtjngkifoaljmaaaDoor.PlaceAloneWalk
set_option maxRecDepth 100000
open Go.RowKit
set_option linter.unusedVariables false
set_option maxHeartbeats 8000000 in
theorem walk (A0 : Option Addr) (c0 : Nat) (ds : List (List Int)) (a1 : Int) (w : World) (hR : RwU w w.heap.size A0 ds) (hU : ∀ d ∈ ds, ∀ x ∈ d, IsU x) (hL : ∀ d ∈ ds, d.length ≤ maxLen) (hn0 : ds.length ≤ maxLen) (w1 : (Lit.int .u16 a1).wf = true) (hT : Tabs w) :
    Calls Tryd.prog 6 #[.slice A0 ds.length c0, .int .u16 a1] w fun e w' => e = .returned (.bool true) ∧ Below w.heap.size w w' := by
  obtain ⟨ha0, ha1⟩ := bounds_u16 w1
  have HT := Lib.hid hT
  have HR := Lib.hid hR
  have HU := Lib.hid hU
  have HL := Lib.hid hL
  obtain ⟨n, hn⟩ : ∃ n, ds.length = n := ⟨_, rfl⟩
  rw [hn] at hn0 ⊢
  have HN := Lib.hid hn
  clear hT hR hU hL w1 hn
  unfold maxLen at hn0
  go_enter Tryd.func6, Tryd.ntmps6
  go_wp2_with fail
  refine (awake8_yes w HT.out).mono ?_
  rintro e w2 ⟨rfl, hb⟩
  have HB2 := Lib.hid hb
  clear hb
  by_cases h10 : n ≤ 10
  case neg =>
    have g : (n : Int) > 10 := by omega
    go_wp2
    go_ret
    exact ⟨rfl, HB2.out⟩
  have g10 : ¬ (n : Int) > 10 := by omega
  obtain ⟨B, hB⟩ : ∃ B, w2.heap.size = B := ⟨_, rfl⟩
  have HA2 := Lib.hid (show ∃ M, Alb w B M ds 0 (.slice none 0 0) w2 from ⟨B, ⟨⟨fun _ => [], World.ownsRow_nil _ _ _ _, fun i hi => (by omega)⟩, fun g hg => (by cases hg), HB2.out, (by rw [← hB]; exact HB2.out.size), Nat.le_refl _, (by omega)⟩⟩)
  clear hB HB2 hn0
  go_wp2
  go_loopw [5, 6, 7] (fun v m i wr => ∃ k : Nat, k ≤ n ∧ i = .int .i64 k ∧ m = .int .i64 (tri k) ∧ Hid (∃ M, Alb w B M ds k v wr) ∧ Hid (∀ i, i < k → (ds.getD i []).length ≤ 100)) (fun _ _ i _ => n - (intOf i).toNat)
  case atStart => exact ⟨0, by omega, rfl, rfl, HA2, Lib.hid (fun i hi => by omega)⟩
  case round =>
    clear HA2
    obtain ⟨k, hk, rfl, rfl, HA, HD⟩ := hrel
    by_cases hlt : k < n
    · have k0 : (0 : Int) ≤ k := by omega
      have k1 : (k : Int) < n := by omega
      obtain ⟨M, hA⟩ := HA.out
      have HAl := Lib.hid hA
      obtain ⟨Al, cl, rfl⟩ : ∃ A c, u5 = .slice A k c := by
        obtain ⟨f, h1, _⟩ := hA.own
        exact ownO_slice h1
      clear hA HA
      obtain ⟨b, o, Ad, cd, rfl, y0, hfd⟩ := (HR.out.below (Nat.le_refl _) HAl.out.b).get (i := k) (by rw [HN.out]; exact hlt)
      have HFd := Lib.hid hfd
      obtain ⟨m, hm⟩ : ∃ m, (ds.getD k []).length = m := ⟨_, rfl⟩
      have HM := Lib.hid hm
      rw [hm] at y0
      clear hfd hm
      by_cases hbig : m ≤ 100
      case neg =>
        have gb : (m : Int) > 100 := by omega
        go_wp2
        go_ret
        exact ⟨rfl, HAl.out.b⟩
      have gb : ¬ (m : Int) > 100 := by omega
      obtain ⟨bo, hbo⟩ : ∃ bo, wr.heap.size = bo := ⟨_, rfl⟩
      have HX0 := Lib.hid (show ∃ vt, Alo w B M ds k (.slice Al k cl) bo Ad cd 0 vt (wr.alloc (.cells #[.slice none 0 0, .slice Ad m cd, .slice none 0 0, .slice none 0 0, .slice none 0 0] 45)) from by
        have hb := (Below.refl wr.heap.size wr).alloc (Nat.le_refl _) (.cells #[.slice none 0 0, .slice Ad m cd, .slice none 0 0, .slice none 0 0, .slice none 0 0] 45)
        have hx := heap_alloc_new wr (.cells #[.slice none 0 0, .slice Ad m cd, .slice none 0 0, .slice none 0 0, .slice none 0 0] 45)
        rw [hbo] at hx
        exact ⟨.slice none 0 0, HAl.out.below hb, by rw [← hbo]; exact HAl.out.m, by rw [HM.out]; exact hx, World.ownsRow_nil _ _ _ _, HFd.out.move (Nat.le_refl _) (Nat.le_refl _) (fun b _ hb' => hb.block b (Nat.lt_of_lt_of_le hb' HAl.out.b.size))⟩)
      go_wp2
      clear y0 HAl HFd
      go_loopw [9] (fun i wx => ∃ q : Nat, q ≤ k ∧ i = .int .i64 q ∧ Hid (∃ vt, Alo w B M ds k (.slice Al k cl) bo Ad cd q vt wx)) (fun i _ => k - (intOf i).toNat)
      case atStart => exact ⟨0, by omega, rfl, HX0⟩
      case round =>
        clear HX0 hbo
        obtain ⟨q, hq, rfl, HX⟩ := hrel
        obtain ⟨vt, hX⟩ := HX.out
        clear HX
        obtain ⟨At, ct, rfl⟩ := ownO_slice hX.ft
        have HX := Lib.hid hX
        obtain ⟨x0, x1, x2, x3, x4, xf⟩ := row5 hX.box
        clear hX
        by_cases hlq : q < k
        · have q0 : (0 : Int) ≤ q := by omega
          have q1 : (q : Int) < k := by omega
          obtain ⟨j0, hj0, hy0, hy1, hy2⟩ := info_parts info_u32
          have HXa := Lib.hid (HX.out.below ((Below.refl wr.heap.size wr).alloc (Nat.le_refl _) (.cells #[.int .u32 1048691] 22)))
          obtain ⟨p0, p1, p2, p3, p4, pf⟩ := row5 HXa.out.box
          have HNa := Lib.hid (news_at (w := wr) (w2 := wr.alloc (.cells #[.int .u32 1048691] 22)) (cs := encU32 1048691) (ty := 22) rfl)
          have H1s := Lib.hid (one_u32v 1048691)
          have HMl := Lib.hid (show q + 1 ≤ maxLen by unfold maxLen; omega)
          have HBy := Lib.hid (show (q + 1) * 4 ≤ 140737488355328 by omega)
          have HZ := Lib.hid (show bo + 1 ≤ (wr.alloc (.cells #[.int .u32 1048691] 22)).heap.size from (Array.getElem?_eq_some_iff.1 HXa.out.box).1)
          go_wp2_with (at_builtin; (refine wpList_append_at6 rfl _ _ 36 rfl (bo + 1) 22 j0 (.int .u32 0) 1 4 Tryd.underlying36 hj0 hy0 hy1 hy2 rfl (by decide) (.slice At q ct) q ((List.replicate q 1048691).flatMap encU32) ?hs HXa.out.ft ⟨wr.heap.size, 0, none⟩ 1 1 (encU32 1048691) ?hx rfl HNa.out H1s.out HMl.out HBy.out HZ.out ?_; (case hs => rfl); (case hx => rfl); intro v' w3 hr hg hv'; obtain ⟨z0, z1, z2, z3, z4, zf⟩ := row5 (HXa.out.boxed hg); obtain ⟨A3, e3, rfl⟩ := ownO_slice hr))
          have HY := Lib.hid (HXa.out.put hr hg)
          clear hr hg hv' HXa HX HNa
          go_roundw
          case rel => exact ⟨q + 1, by omega, by go_num, Lib.hid ⟨_, HY.out⟩⟩
          case measure => simp [intOf]; omega
        · have hqk : q = k := by omega
          have q1 : ¬ (q : Int) < k := by omega
          have htr := tri_go k
          have htl := tri_le (k := k + 1) (by omega)
          have HTr := Lib.hid htr
          have htb : tri k ≤ 1000 := by omega
          clear htr htl hlq
          subst hqk
          obtain ⟨i0, hi0, hz0, hz1, hz2⟩ := info_parts info_obj8
          have hb1 := (Below.refl wr.heap.size wr).alloc (Nat.le_refl _) (.cells #[.slice At q ct, .slice Ad (ds.getD q []).length cd, .slice none 0 0, .slice none 0 0, .slice none 0 0] 45)
          have HXa := Lib.hid (HX.out.below hb1)
          obtain ⟨f, hf1, hf2⟩ := HXa.out.a.own
          have HOw := Lib.hid hf1
          have HFs := Lib.hid hf2
          have HDo := Lib.hid (HX.out.done.below HX.out.a.b.size hb1)
          have HSz := Lib.hid hb1.size
          have HNa := Lib.hid (news_at (w := wr) (w2 := wr.alloc (.cells #[.slice At q ct, .slice Ad (ds.getD q []).length cd, .slice none 0 0, .slice none 0 0, .slice none 0 0] 45)) (cs := [.slice At q ct, .slice Ad (ds.getD q []).length cd, .slice none 0 0, .slice none 0 0, .slice none 0 0]) (ty := 45) rfl)
          have H1s := Lib.hid (show ∀ u ∈ [Value.slice At q ct, .slice Ad (ds.getD q []).length cd, .slice none 0 0, .slice none 0 0, .slice none 0 0], u.oneCell' = true from fun u hu => by
            simp only [List.mem_cons, List.not_mem_nil, or_false] at hu
            rcases hu with rfl | rfl | rfl | rfl | rfl <;> rfl)
          have HMl := Lib.hid (show q + 1 ≤ maxLen by unfold maxLen; omega)
          have HBy := Lib.hid (show (q + 1) * 120 ≤ 140737488355328 by omega)
          have HZ := Lib.hid (show B ≤ (wr.alloc (.cells #[.slice At q ct, .slice Ad (ds.getD q []).length cd, .slice none 0 0, .slice none 0 0, .slice none 0 0] 45)).heap.size from Nat.le_trans HXa.out.a.bm HXa.out.a.m)
          have HDd := Lib.hid (show ∀ i, i < q + 1 → (ds.getD i []).length ≤ 100 from fun i hi => by
            by_cases e : i = q
            · subst e; rw [HM.out]; exact hbig
            · exact HD.out i (by omega))
          clear hb1 hf1 hf2 HD
          generalize hm' : (ds.getD q []).length = m' at *
          have HM' := Lib.hid hm'
          clear hm'
          go_wp2_with (at_builtin; (refine wpList_append_at6 rfl _ _ 34 rfl B 45 i0 (.agg #[.slice none 0 0, .slice none 0 0, .slice none 0 0, .slice none 0 0, .slice none 0 0]) 5 120 Tryd.underlying34 hi0 hz0 hz1 hz2 rfl (by decide) (.slice Al q cl) q ((List.range q).flatMap f) ?hs HOw.out ⟨wr.heap.size, 0, none⟩ 1 1 [.slice At q ct, .slice Ad m' cd, .slice none 0 0, .slice none 0 0, .slice none 0 0] ?hx rfl HNa.out H1s.out HMl.out HBy.out HZ.out ?_; (case hs => rfl); (case hx => rfl); intro v' w3 hr hg hv'))
          have hnb := HXa.out.a.nb
          have HY := Lib.hid (HXa.out.a.push HOw.out HFs.out hr hg ((HDo.out.grow hnb HXa.out.a.b.size HOw.out (by decide) hg).up (Nat.le_trans HSz.out hg.size)))
          clear hr hg hv'
          go_roundw
          case rel => exact ⟨q + 1, by omega, by go_num, by rw [HTr.out]; go_num, Lib.hid ⟨_, HY.out⟩, HDd⟩
          case measure => simp [intOf]; omega
    · have hkn : k = n := by omega
      have k1 : ¬ (k : Int) < n := by omega
      subst hkn
      obtain ⟨M, hA⟩ := HA.out
      obtain ⟨Al, cl, rfl⟩ : ∃ A c, u5 = .slice A k c := by
        obtain ⟨f, h1, _⟩ := hA.own
        exact ownO_slice h1
      have HAl := Lib.hid hA
      have HW := Lib.hid (alL8_w (ds := ds) (k := k) (fun i hi => by
        have e : ds.getD i [] = ds[i]'(by rw [HN.out]; exact hi) := by rw [List.getD_eq_getElem?_getD, List.getElem?_eq_getElem (by rw [HN.out]; exact hi)]; rfl
        rw [e]
        exact HU.out _ (List.getElem_mem _)))
      have HLk := Lib.hid (link_any (alL8 ds k) HW.out Al k cl 0 wr.heap.size (alL8_len ds k) (by omega) (8 * a1) 1048576 ⟨by omega, by omega⟩ ⟨by omega, by omega⟩ wr (HT.out.below HAl.out.b) HAl.out.objs (Nat.le_refl _))
      have hlk := alL8_lk (ds := ds) (n := k) (t := 8 * a1) (d := 1048576) h10 HD.out (by unfold baseB; simp; omega) (by decide)
      clear hA HA
      go_wp2_with fail
      refine HLk.out.mono ?_
      rintro e w5 ⟨hb5, v, u, rfl, -, h2⟩
      obtain ⟨xs, hx, htx, hlg⟩ := h2 hlk
      rw [hlk]
      have hxl := txT_len (by rw [alL8_len]; exact Nat.le_refl _) hx
      rw [alL8_sumT ds k k (Nat.le_refl _)] at hxl
      obtain ⟨Av, cv, rfl, -⟩ := htx
      rw [hxl]
      have hdt := alL8_daT ds HN.out.symm k (Nat.le_refl _)
      have hde : ds.take k = ds := by rw [List.take_of_length_le (by rw [HN.out]; exact Nat.le_refl _)]
      rw [hde] at hdt
      rw [hdt] at hlg
      have htot := flatn_len ds k
      rw [hde] at htot
      obtain ⟨Au, cu, rfl, hou⟩ := id hlg
      rw [htot]
      have HB5 := Lib.hid (HAl.out.b.trans (hb5.mono HAl.out.b.size))
      have HG := Lib.hid (show LgAt w5 wr.heap.size ds.flatten (.slice Au (posA ds k) cu) from by rw [← htot]; exact hlg)
      obtain ⟨BB, hBB⟩ : ∃ BB, wr.heap.size = BB := ⟨_, rfl⟩
      rw [hBB] at HG
      have HTo := Lib.hid htot
      have hpm : ∀ i, i ≤ k → posA ds i ≤ 100 * i := fun i => by
        induction i with
        | zero => intro _; simp [posA]
        | succ i ih =>
          intro hi
          have hil : i < ds.length := by rw [HN.out]; omega
          rw [posA_go hil]
          have := ih (by omega)
          have h1 := HD.out i (by omega)
          rw [List.getD_eq_getElem?_getD, List.getElem?_eq_getElem hil] at h1
          have h1 : ds[i].length ≤ 100 := h1
          omega
      have HPm := Lib.hid hpm
      have hpk := hpm k (Nat.le_refl _)
      obtain ⟨tot, htt⟩ : ∃ tot, posA ds k = tot := ⟨_, rfl⟩
      rw [htt] at HG hpk ⊢
      have HTt := Lib.hid htt
      clear hx hxl hlg hou hdt hde htot h2 hb5 hlk hpm htt HLk HAl hBB
      go_wp2
      go_loopw [13, 14] (fun q i wx => ∃ j : Nat, j ≤ k ∧ i = .int .i64 j ∧ q = .int .i64 (posA ds j) ∧ Hid (LgAt wx BB ds.flatten (.slice Au tot cu)) ∧ Hid (Below w.heap.size w wx)) (fun _ i _ => k - (intOf i).toNat)
      case atStart => exact ⟨0, by omega, rfl, rfl, HG, HB5⟩
      case round =>
        clear HG HB5
        obtain ⟨j, hj, rfl, rfl, HG, HB⟩ := hrel
        have hpj := HPm.out j hj
        by_cases hlj : j < k
        · have j0 : (0 : Int) ≤ j := by omega
          have j1 : (j : Int) < k := by omega
          have hjl : j < ds.length := by rw [HN.out]; exact hlj
          obtain ⟨b, o, Ad, cd, rfl, y0, hfd⟩ := (HR.out.below (Nat.le_refl _) HB.out).get hjl
          have hgo := posA_go hjl
          have hp1 := HPm.out (j + 1) (by omega)
          have hle : posA ds (j + 1) ≤ tot := by
            rw [← HTt.out, ← HTo.out, ← flatn_len ds (j + 1)]
            conv => rhs; rw [← List.take_append_drop (j + 1) ds]
            rw [List.flatten_append, List.length_append]
            omega
          have hgd : ds.getD j [] = ds[j] := by rw [List.getD_eq_getElem?_getD, List.getElem?_eq_getElem hjl]; rfl
          have hfa := fun r (hr : r < ds[j].length) => flat_at (ds := ds) hjl hr
          rw [hgd] at y0 hfd
          obtain ⟨L, hL⟩ : ∃ L, ds[j] = L := ⟨_, rfl⟩
          rw [hL] at hgo y0 hfd
          have HFa := Lib.hid (show ∀ r (hr : r < L.length), ds.flatten[posA ds j + r]? = some L[r] from fun r hr => by subst hL; exact hfa r hr)
          obtain ⟨m, hm⟩ : ∃ m, L.length = m := ⟨_, rfl⟩
          rw [hm] at hgo y0
          have HM := Lib.hid hm
          have HFd := Lib.hid hfd
          have HGo := Lib.hid hgo
          obtain ⟨p, hp⟩ : ∃ p, posA ds j = p := ⟨_, rfl⟩
          rw [hp] at hgo hpj HGo HFa ⊢
          have hpm : p + m ≤ tot := by omega
          have hpm2 : p + m ≤ 2000 := by omega
          have Y0 := Lib.hid y0
          clear hfa hgd hL hm hfd hp1 hle hgo hp
          go_wp2
          go_loopw [13, 15] (fun q i wx => ∃ r : Nat, r ≤ m ∧ i = .int .i64 r ∧ q = .int .i64 (p + r : Nat) ∧ Hid (LgAt wx BB ds.flatten (.slice Au tot cu)) ∧ Hid (Below wr.heap.size wr wx)) (fun _ i _ => m - (intOf i).toNat)
          case atStart => exact ⟨0, by omega, rfl, rfl, HG, Lib.hid (Below.refl _ _)⟩
          case round =>
            clear y0
            obtain ⟨r, hr, rfl, rfl, HGx, HBx⟩ := hrel
            have y0 := (HBx.out.cell (p := ⟨b, o + j, none⟩) (block_lt Y0.out)).trans Y0.out
            by_cases hlr : r < m
            · have r0 : (0 : Int) ≤ r := by omega
              have r1 : (r : Int) < m := by omega
              have hrl : r < L.length := by rw [HM.out]; exact hlr
              have hfr := HFa.out r hrl
              obtain ⟨hpl, hpe⟩ := List.getElem?_eq_some_iff.1 hfr
              obtain ⟨g, rfl, z0⟩ := HGx.out.at_ hpl
              rw [hpe] at z0
              rcases HFd.out with e0 | ⟨b6, o6, rfl, _, _, hc6⟩
              · have h := enc64_at hrl
                rw [e0] at h; cases h
              have v0 := hc6 r _ (enc64_at hrl)
              have v1 := (HBx.out.cell (p := ⟨b6, o6 + r, none⟩) (block_lt v0)).trans v0
              generalize L[r] = X at *
              obtain ⟨P, hP⟩ : ∃ P, p + r = P := ⟨_, rfl⟩
              rw [hP] at z0
              have hPt : P < tot := by omega
              have hPb : P ≤ 2000 := by omega
              have HP := Lib.hid hP
              rw [hP]
              have t1 : ¬ (P : Int) ≥ tot := by omega
              have t2 : decide (tot ≤ P) = false := by simp; omega
              have t3 : (0 : Int) ≤ (P : Int) := by omega
              have t4 : (P : Int) < tot := by omega
              have g1 : ((X : Int) != X) = false := by simp
              clear hfr hpe hpl hc6 v0 hP
              go_wp2_with fail
              go_quiet (fail)
              have hbn := below_drewN (Below.refl wr.heap.size wr) nq
              have HG2 := Lib.hid (HGx.out.below hbn)
              have HB2 := Lib.hid (HBx.out.trans (hbn.mono HBx.out.size))
              clear hbn
              go_wp2
              go_roundw
              case rel => exact ⟨r + 1, by omega, by go_num, by rw [← HP.out]; go_num, HG2, HB2⟩
              case measure => simp [intOf]; omega
            · have hrm : r = m := by omega
              have r1 : ¬ (r : Int) < m := by omega
              subst hrm
              go_wp2
              go_roundw
              case rel => exact ⟨j + 1, by omega, by go_num, by rw [HGo.out], HGx, Lib.hid (HB.out.trans (HBx.out.mono HB.out.size))⟩
              case measure => simp [intOf]; omega
        · have hjk : j = k := by omega
          have j1 : ¬ (j : Int) < k := by omega
          subst hjk
          rw [HTt.out]
          go_wp2
          go_ret
          exact ⟨rfl, HB.out⟩
end Go.Proofs.YtjngkifoaljmaaaDoor.PlaceAloneWalk
