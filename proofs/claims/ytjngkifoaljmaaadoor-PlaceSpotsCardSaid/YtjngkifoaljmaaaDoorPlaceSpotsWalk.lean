/- The walk of the statement PlaceSpots: it returns true, and writes nothing that was there. Condition: the tables of package ins read as they should. -/
import Derived.Test.YtjngkifoaljmaaaDoorPlaO
import Derived.Test.YtjngkifoaljmaaaDoorPlaQ
import Derived.Test.YtjngkifoaljmaaaDoorSynA
import Derived.Deep.QuietTactic
import Derived.BigQuiet
namespace Go.Proofs.YtjngkifoaljmaaaDoor.PlaceSpotsWalk
set_option maxRecDepth 100000
open Go.RowKit
set_option linter.unusedVariables false
theorem sp_base {l : List ObjD} {t d : Int} (h : spC l t d = 0) : (chkF l).2 = 0 ∧ t ≤ 1073741824 ∧ d ≤ 1073741824 := by
  unfold spC at h
  by_cases h1 : (chkF l).2 ≠ 0
  · rw [if_pos h1] at h; exact absurd h h1
  · rw [if_neg h1] at h
    split at h
    · cases h
    · split at h
      · next hb => exact ⟨by omega, base_lt hb.1, base_lt hb.2⟩
      · cases h
theorem adr_text {t d off : Int} {a b n : Nat} (h0 : 0 ≤ t) (h1 : t ≤ 1073741824) (ha : a ≤ 65536) (h2 : 0 ≤ off) (h3 : off ≤ 4 * (n : Int)) (hn : n ≤ 65536) : adr1 (t + 4 * (a : Int), d + 8 * (b : Int)) false off = t + 4 * (a : Int) + off := by
  unfold adr1
  simp only [Bool.false_eq_true, if_false, IntKind.wrap_u64]
  omega
theorem adr_data {t d off : Int} {a b n : Nat} (h0 : 0 ≤ d) (h1 : d ≤ 1073741824) (ha : b ≤ 65536) (h2 : 0 ≤ off) (h3 : off ≤ 8 * (n : Int)) (hn : n ≤ 65536) : adr1 (t + 4 * (a : Int), d + 8 * (b : Int)) true off = d + 8 * (b : Int) + off := by
  unfold adr1
  simp only [if_true, IntKind.wrap_u64]
  omega
set_option maxHeartbeats 8000000 in
theorem walk (A0 : Option Addr) (c0 : Nat) (l : List ObjD) (t d : Int) (w : World) (hO : ObjsAt w 0 w.heap.size l A0) (hW : ∀ d ∈ l, ObjW d) (hL : ∀ d ∈ l, ObjL d) (hn0 : l.length ≤ maxLen) (wt : (Lit.int .u64 t).wf = true) (wd : (Lit.int .u64 d).wf = true) (hT : Tabs w) :
    Calls Tryd.prog 5 #[.slice A0 l.length c0, .agg #[.int .u64 t, .int .u64 d]] w fun e w' => e = .returned (.bool true) ∧ Below w.heap.size w w' := by
  have HU := Lib.hid (And.intro (isU_of_wf wt) (isU_of_wf wd))
  have HB0 := Lib.hid ((Below.refl w.heap.size w).alloc (Nat.le_refl _) (.cells #[.int .u64 t, .int .u64 d] 56))
  have HX0 := Lib.hid (heap_alloc_new w (.cells #[.int .u64 t, .int .u64 d] 56))
  have HT := Lib.hid hT
  have HO := Lib.hid hO
  have HW := Lib.hid hW
  have HL := Lib.hid hL
  have HMx := Lib.hid hn0
  obtain ⟨n, hn⟩ : ∃ n, l.length = n := ⟨_, rfl⟩
  rw [hn] at hn0 ⊢
  have HN := Lib.hid hn
  clear hT hO hW hL wt wd
  unfold maxLen at hn0
  obtain ⟨x0, x1, xf⟩ := row2 HX0.out
  go_enter Tryd.func5, Tryd.ntmps5
  go_wp2_with fail
  refine (awake8_yes _ (HT.out.below HB0.out)).mono ?_
  rintro e w2 ⟨rfl, hb1⟩
  have HB1 := Lib.hid (HB0.out.trans (hb1.mono HB0.out.size))
  have HX1 := Lib.hid ((hb1.block _ (Array.getElem?_eq_some_iff.1 HX0.out).1).trans HX0.out)
  clear hb1 x0 x1 xf
  go_wp2_with fail
  refine (small7_any l HW.out HL.out A0 n c0 0 w.heap.size HN.out (by rw [← HN.out]; exact HMx.out) w2 (HO.out.below (Nat.le_refl _) HB1.out) HB1.out.size).mono ?_
  rintro e w3 ⟨⟨b, rfl, hsm⟩, hb2⟩
  have HB2 := Lib.hid (HB1.out.trans (hb2.mono HB1.out.size))
  have HX2 := Lib.hid ((hb2.block _ (Array.getElem?_eq_some_iff.1 HX1.out).1).trans HX1.out)
  clear hb2
  cases b
  case false =>
    clear hsm
    go_wp2
    go_ret
    exact ⟨rfl, HB2.out⟩
  obtain ⟨h20, hsS, hsR⟩ := hsm rfl
  have hn20 : n ≤ 20 := by omega
  clear hsm hsS hsR h20 hn0 hn
  obtain ⟨x0, x1, xf⟩ := row2 HX2.out
  go_wp2_with fail
  refine (spots_any l HW.out A0 n c0 0 w.heap.size HN.out (by omega) t d HU.out.1 HU.out.2 w3 (HT.out.below HB2.out) (HO.out.below (Nat.le_refl _) HB2.out) HB2.out.size).mono ?_
  rintro e w4 ⟨hb3, v, rfl, h1, h2⟩
  have HB3 := Lib.hid (HB2.out.trans (hb3.mono HB2.out.size))
  have HX3 := Lib.hid ((hb3.block _ (Array.getElem?_eq_some_iff.1 HX2.out).1).trans HX2.out)
  clear hb3 x0 x1 xf
  by_cases hc : spC l t d = 0
  case neg =>
    have h2' := h2 hc
    subst h2'
    obtain ⟨k, hk⟩ : ∃ k, spC l t d = k := ⟨_, rfl⟩
    rw [hk] at hc ⊢
    have k0 : (k != (0 : Int)) = true := by simpa using hc
    clear h1 h2 hk
    go_wp2
    go_ret
    exact ⟨rfl, HB3.out⟩
  have hs := h1 hc
  obtain ⟨As, cs, rfl⟩ := hs.slice
  rw [spL_len] at hs ⊢
  rw [hc]
  have HS3 := Lib.hid hs
  obtain ⟨hck, ht1, hd1⟩ := sp_base hc
  have HM := Lib.hid (chkF_may hck)
  have hsum := may_sumTD HM.out
  have HSm := Lib.hid hsum
  obtain ⟨x0, x1, xf⟩ := row2 HX3.out
  have ht0 := HU.out.1.1
  have hd0 := HU.out.2.1
  obtain ⟨base, hbase⟩ : ∃ base, w3.heap.size = base := ⟨_, rfl⟩
  rw [hbase] at HS3
  clear h1 h2 hc hs hck hsum hbase
  go_wp2
  go_loopw [7, 8, 9] (fun x y i wr => ∃ k : Nat, k ≤ n ∧ i = .int .i64 k ∧ x = .int .u64 (t + 4 * (sumT l k : Int)) ∧ y = .int .u64 (d + 8 * (sumD l k : Int)) ∧ Hid (SpAt wr base (spL l t d n) (.slice As n cs)) ∧ Hid (Below w.heap.size w wr)) (fun _ _ i _ => n - (intOf i).toNat)
  case atStart => exact ⟨0, by omega, rfl, by simp [sumT], by simp [sumD], HS3, HB3⟩
  case round =>
    clear HX3 HB3 HS3 x0 x1 xf
    obtain ⟨k, hk, rfl, rfl, rfl, HS, HB⟩ := hrel
    by_cases hlt : k < n
    · have k0 : (0 : Int) ≤ k := by omega
      have k1 : (k : Int) < n := by omega
      have HXk := Lib.hid (show k < (spL l t d n).length by rw [spL_len]; exact hlt)
      have hlk : k < l.length := by rw [HN.out]; exact hlt
      obtain ⟨b, o, A1, n1, c1, A2, n2, c2, A3, n3, c3, A4, n4, c4, A5, n5, c5, rfl, hb, ⟨x0, x1, x2, x3, x4⟩, f1, f2, f3, f4, -⟩ := (HO.out.below (Nat.le_refl _) HB.out).td hlk
      obtain ⟨b5, o5, rfl, s0, s1⟩ := HS.out.at_ HXk.out
      have hget : (spL l t d n)[k]'HXk.out = (t + 4 * (sumT l k : Int), d + 8 * (sumD l k : Int)) := by
        have h := spL_at l t d hlt
        rw [List.getElem?_eq_getElem HXk.out] at h
        exact Option.some.inj h
      rw [hget] at s0 s1
      obtain ⟨tk, htk⟩ : ∃ tk, t + 4 * (sumT l k : Int) = tk := ⟨_, rfl⟩
      obtain ⟨dk, hdk⟩ : ∃ dk, d + 8 * (sumD l k : Int) = dk := ⟨_, rfl⟩
      have hg1 := sumT_go hlk
      have hg2 := sumD_go hlk
      rw [f1] at hg1
      rw [f2] at hg2
      have hl1 := sumT_le l (k + 1)
      have hl2 := sumD_le l (k + 1)
      have hs1 := HSm.out.1
      have hs2 := HSm.out.2
      have HE := Lib.hid (show t + 4 * (sumT l (k + 1) : Int) = tk + 4 * (n1 : Int) ∧ d + 8 * (sumD l (k + 1) : Int) = dk + 8 * (n2 : Int) from by rw [hg1, hg2, ← htk, ← hdk]; omega)
      have HAd := Lib.hid (show ∀ (q : Nat) (hq : q < l[k].syms.length), ∃ off, l[k].syms[q].2.2.1 = off ∧ 0 ≤ off ∧ adr1 ((spL l t d n)[k]'HXk.out) l[k].syms[q].2.1 l[k].syms[q].2.2.1 = (if l[k].syms[q].2.1 = true then dk else tk) + off ∧ off ≤ (if l[k].syms[q].2.1 = true then 8 * (n2 : Int) else 4 * (n1 : Int)) from fun q hq => by
        obtain ⟨g0, g1⟩ := may_sym HM.out hlk hq
        rw [f1, f2] at g1
        refine ⟨_, rfl, g0, ?_, g1⟩
        rw [hget]
        cases hb : l[k].syms[q].2.1 with
        | false => rw [hb] at g1; rw [adr_text ht0 ht1 (by omega) g0 (by simpa using g1) (by omega)]; rw [htk]; rfl
        | true => rw [hb] at g1; rw [adr_data hd0 hd1 (by omega) g0 (by simpa using g1) (by omega)]; rw [hdk]; rfl)
      have ht2 : 0 ≤ tk := by omega
      have ht3 : tk + 4 * (n1 : Int) ≤ 1074003968 := by omega
      have hd2 : 0 ≤ dk := by omega
      have hd3 : dk + 8 * (n2 : Int) ≤ 1074003968 := by omega
      replace s0 : wr.cell? ⟨b5, o5 + k * 2, none⟩ = some (.int .u64 tk) := by rw [← htk]; exact s0
      replace s1 : wr.cell? ⟨b5, o5 + k * 2 + 1, none⟩ = some (.int .u64 dk) := by rw [← hdk]; exact s1
      rw [htk, hdk]
      have HSy := Lib.hid f3
      have hn3b : n3 ≤ 1000000 := by rw [← f3]; exact (may_few HM.out hlk).2.2.1
      have hn1 : (n1 : Int) ≤ 65536 := by omega
      have hn2 : (n2 : Int) ≤ 65536 := by omega
      clear hget htk hdk hg1 hg2 hl1 hl2 hs1 hs2 f1 f2 f3 f4
      have HC := Lib.hid (And.intro x0 (And.intro x1 (And.intro x2 (And.intro x3 x4))))
      go_wp2
      go_loopw [10] (fun i wx => ∃ q : Nat, q ≤ n3 ∧ i = .int .i64 q ∧ Hid (SpAt wx base (spL l t d n) (.slice (some ⟨b5, o5, none⟩) n cs)) ∧ Hid (Below wr.heap.size wr wx)) (fun i _ => n3 - (intOf i).toNat)
      case atStart => exact ⟨0, by omega, rfl, HS, Lib.hid (Below.refl _ _)⟩
      case round =>
        clear x0 x1 x2 x3 x4 s0 s1
        obtain ⟨q, hq, rfl, HSx, HBx⟩ := hrel
        have x0 := (HBx.out.cell (p := ⟨b, o + k * 5, none⟩) (block_lt HC.out.1)).trans HC.out.1
        have x1 := (HBx.out.cell (p := ⟨b, o + k * 5 + 1, none⟩) (block_lt HC.out.2.1)).trans HC.out.2.1
        have x2 := (HBx.out.cell (p := ⟨b, o + k * 5 + 2, none⟩) (block_lt HC.out.2.2.1)).trans HC.out.2.2.1
        have HBw := Lib.hid (HB.out.trans (HBx.out.mono HB.out.size))
        by_cases hlq : q < n3
        · have q0 : (0 : Int) ≤ q := by omega
          have q1 : (q : Int) < n3 := by omega
          have hlq' : q < l[k].syms.length := by rw [HSy.out]; exact hlq
          have HAc := Lib.hid (addr_yes l (some ⟨b, o, none⟩) n c0 0 w.heap.size HN.out (by omega) (spL l t d n) (some ⟨b5, o5, none⟩) cs base wr (HO.out.below (Nat.le_refl _) HBw.out) HBw.out.size HSx.out k q hlk hlq' (may_few HM.out hlk).2.2.1 HXk.out)
          obtain ⟨off, ho1, ho2, ho3, ho4⟩ := HAd.out q hlq'
          obtain ⟨b0', o0', n3', c3', b3, o3, eA, y2, hn3', v0, v1, v2, v3⟩ := (HO.out.below (Nat.le_refl _) HBw.out).symAt hlk hlq'
          cases eA
          have e2 := x2.symm.trans y2
          cases e2
          clear y2
          generalize l[k].syms[q].2.1 = iD at *
          generalize l[k].syms[q].2.2.2 = ot at *
          generalize l[k].syms[q].1 = nm at *
          rw [ho1] at v2
          rw [ho3] at HAc
          clear ho1 ho3 hn3' hlq' HAd
          go_wp2_with fail
          refine HAc.out.mono ?_
          rintro e w7 ⟨hb7, rfl⟩
          have HB7 := Lib.hid (HBw.out.trans (hb7.mono HBw.out.size))
          have HBx7 := Lib.hid (HBx.out.trans (hb7.mono HBx.out.size))
          have HS7 := Lib.hid (HSx.out.below hb7)
          replace x0 := (hb7.cell (p := ⟨b, o + k * 5, none⟩) (block_lt x0)).trans x0
          replace x1 := (hb7.cell (p := ⟨b, o + k * 5 + 1, none⟩) (block_lt x1)).trans x1
          replace x2 := (hb7.cell (p := ⟨b, o + k * 5 + 2, none⟩) (block_lt x2)).trans x2
          replace v1 := (hb7.cell (p := ⟨b3, o3 + q * 4 + 1, none⟩) (block_lt v1)).trans v1
          rw [show (some ((if iD = true then dk else tk) + off)).getD 0 = (if iD = true then dk else tk) + off from rfl, show (some ((if iD = true then dk else tk) + off)).isSome = true from rfl]
          clear hb7 HAc v0 v2 v3 HBw HBx HSx
          cases iD
          case false =>
            simp only [Bool.false_eq_true, if_false] at ho4 ⊢
            have c1 : ¬ tk + off < tk := by omega
            have c2 : ¬ tk + off > tk + 4 * (n1 : Int) := by omega
            go_wp2_with fail
            go_region_law (fail)
            all_goals
              go_wp2
              go_roundw
              case rel => exact ⟨q + 1, by omega, by go_num, Lib.hid (HS7.out.below (Below.refl _ _).drew), Lib.hid HBx7.out.drew⟩
              case measure => simp [intOf]; omega
          case true =>
            simp only [if_true] at ho4 ⊢
            have c1 : ¬ dk + off < dk := by omega
            have c2 : ¬ dk + off > dk + 8 * (n2 : Int) := by omega
            go_wp2_with fail
            go_region_law (fail)
            go_wp2_with fail
            go_region_law (fail)
            all_goals
              go_wp2
              go_roundw
              case rel => exact ⟨q + 1, by omega, by go_num, Lib.hid (HS7.out.below (Below.refl _ _).drew.drew), Lib.hid HBx7.out.drew.drew⟩
              case measure => simp [intOf]; omega
        · have hqn : q = n3 := by omega
          have q1 : ¬ (q : Int) < n3 := by omega
          go_wp2
          go_roundw
          case rel => exact ⟨k + 1, by omega, by go_num, by rw [HE.out.1], by rw [HE.out.2], HSx, HBw⟩
          case measure => simp [intOf]; omega
    · have hkn : k = n := by omega
      have k1 : ¬ (k : Int) < n := by omega
      subst hkn
      go_wp2
      go_ret
      exact ⟨rfl, HB.out⟩
end Go.Proofs.YtjngkifoaljmaaaDoor.PlaceSpotsWalk
