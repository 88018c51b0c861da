/- The walk of the statement SymsOuts: it returns true, and writes nothing that was there. -/
import Derived.Test.YthoehbmbmjmpbaaDoorSymY
import Derived.Test.YthoehbmbmjmpbaaDoorSynA
import Derived.Test.YthoehbmbmjmpbaaDoorSynB
import Derived.Test.YthoehbmbmjmpbaaDoorSynP
import Derived.Deep.QuietTactic
import Derived.BigQuiet
import Derived.Laws.Cover1
import Derived.Lib.MinMaxS
namespace Go.Proofs.YthoehbmbmjmpbaaDoor.SymsOutsWalk
set_option maxRecDepth 100000
open Go.RowKit
set_option linter.unusedVariables false
theorem leq_no {a b : ByteArray} (h : ltB b.data.toList a.data.toList) : (Op.bytesLess a.toList b.toList || a.toList == b.toList) = false := by
  have h1 : Op.bytesLess a.toList b.toList = false := by
    rw [Proofs.bytesLess_eq, Lib.toList_data, Lib.toList_data]
    exact decide_eq_false fun h2 => ltB_irr _ (ltB_tr _ _ _ h2 h)
  have h2 : (a.toList == b.toList) = false := by
    rw [beq_str', decide_eq_false]
    intro e
    rw [e] at h
    exact ltB_irr _ h
  rw [h1, h2]; rfl
set_option maxHeartbeats 8000000 in
theorem walk (A0 : Option Addr) (c0 : Nat) (l : List ObjD) (w : World) (hO : ObjsAt w 0 w.heap.size l A0) (hW : ∀ d ∈ l, ObjW d) (hL : ∀ d ∈ l, ObjL d) (hn0 : l.length ≤ maxLen) (hT : Tabs w) :
    Calls Tryd.prog 4 #[.slice A0 l.length c0] w fun e w' => e = .returned (.bool true) ∧ Below w.heap.size w w' := by
  have HT := Lib.hid hT
  have HAw := Lib.hid (awake7_yes w hT)
  have HO := Lib.hid hO
  have HW := Lib.hid hW
  have HL := Lib.hid hL
  have HMx := Lib.hid hn0
  obtain ⟨n, hn⟩ : ∃ n, l.length = n := ⟨_, rfl⟩
  rw [hn] at hn0 ⊢
  have HN := Lib.hid hn
  clear hT hO hW hL
  unfold maxLen at hn0
  go_enter Tryd.func4, Tryd.ntmps4
  go_wp2_with fail
  refine HAw.out.mono ?_
  rintro e w2 ⟨rfl, hb1⟩
  have HB1 := Lib.hid hb1
  clear hb1 HAw
  go_wp2_with fail
  refine (small7_any l HW.out HL.out A0 n c0 0 w.heap.size HN.out (by rw [← HN.out]; exact HMx.out) w2 (HO.out.below (Nat.le_refl _) HB1.out) HB1.out.size).mono ?_
  rintro e w3 ⟨⟨b, rfl, hsm⟩, hb2⟩
  have HB2 := Lib.hid (HB1.out.trans (hb2.mono HB1.out.size))
  clear hb2
  cases b
  case false =>
    clear hsm
    go_wp2
    go_ret
    exact ⟨rfl, HB2.out⟩
  obtain ⟨h20, hsS, hsR⟩ := hsm rfl
  have HS := Lib.hid hsS
  have HZ := Lib.hid hn
  have hn20 : n ≤ 20 := by omega
  clear hsm hsS hsR h20 hn0 hn
  go_wp2_with fail
  refine (outs_any l HW.out A0 n c0 0 w.heap.size HN.out (by omega) (by have := HS.out; omega) w3 (HO.out.below (Nat.le_refl _) HB2.out) HB2.out.size).mono ?_
  rintro e w4 ⟨names, v, rfl, hna, hnm, hln, hb3⟩
  obtain ⟨L, hLe⟩ : ∃ L, L = cmpN (srtN names) := ⟨_, rfl⟩
  rw [← hLe] at hna
  have HRi := Lib.hid (show (rowsB L).Pairwise ltB from by rw [hLe]; exact (outs_rise names).1)
  have HOu := Lib.hid (show ∀ s ∈ L, s.size ≤ maxLen ∧ ∃ q : Nat, q < l.length ∧ outIn (nAt l q) s = true from fun s hs => by
    rw [hLe] at hs
    have h := (hnm s).1 (((outs_rise names).2 s).1 hs)
    rw [← HN.out] at h
    exact (outs_plain (by rw [HN.out]; omega) s).1 h)
  obtain ⟨A4, c4, rfl, ho4⟩ := id hna
  have HLm := Lib.hid (show L.length ≤ maxLen from by
    rcases ho4.2 with ⟨_, e⟩ | ⟨_, _, _, _, _, _, h1, h2, _⟩
    · rw [e]; exact Nat.zero_le _
    · exact Nat.le_trans h1 h2)
  have HNa := Lib.hid hna.wd
  have HB3 := Lib.hid (HB2.out.trans (hb3.mono HB2.out.size))
  clear hna hnm hln hb3 hLe ho4
  go_wp2_with fail
  refine (check_any l HW.out A0 n c0 0 w.heap.size HN.out (by unfold maxLen; omega) w4 (HT.out.below HB3.out) (HO.out.below (Nat.le_refl _) HB3.out) HB3.out.size).mono ?_
  rintro e w5 ⟨s5, k5, rfl, _, hb4⟩
  have HN5 := Lib.hid (HNa.out.below hb4)
  have HB5 := Lib.hid (HB3.out.trans (hb4.mono HB3.out.size))
  clear hb4 HNa HB3
  obtain ⟨m, hm⟩ : ∃ m, L.length = m := ⟨_, rfl⟩
  have HM := Lib.hid hm
  have hmm : m ≤ 9223372036854775807 := by rw [← hm]; have := HLm.out; unfold maxLen at this; exact this
  rw [hm]
  clear hm
  go_wp2
  go_loopw [6] (fun i wr => ∃ k : Nat, k ≤ m ∧ i = .int .i64 k ∧ Hid (WdAt wr A4 L) ∧ Hid (Below w.heap.size w wr)) (fun i _ => m - (intOf i).toNat)
  case atStart => exact ⟨0, by omega, rfl, HN5, HB5⟩
  case round =>
    clear HN5 HB5
    obtain ⟨k, hk, rfl, HNm, HB⟩ := hrel
    by_cases hlt : k < m
    · have k0 : (0 : Int) ≤ k := by omega
      have k1 : (k : Int) < m := by omega
      have HLk := Lib.hid (show k < L.length by rw [HM.out]; exact hlt)
      rcases HNm.out with e0 | ⟨b4, o4, rfl, hc4⟩
      · have := HLk.out; rw [e0] at this; cases this
      have y0 := hc4 k HLk.out
      by_cases hkz : k = 0
      · have hz2 : decide (0 < k) = false := by simp; omega
        clear hkz
        go_wp2_with fail
        go_quiet (fail)
        try rw [hle]
        have HN6 := Lib.hid (HNm.out.below (⟨rfl, rfl, rfl, Nat.le_refl _, fun _ _ => rfl⟩ : Below wr.heap.size wr (wr.drewN nq)))
        have HB6 := Lib.hid (show Below w.heap.size w (wr.drewN nq) from ⟨HB.out.os, HB.out.tape, HB.out.output, HB.out.size, HB.out.block⟩)
        clear y0 HNm HB
        generalize wr.drewN nq = wk at *
        go_wp2
        go_loopw [7] (fun i wr => ∃ q : Nat, q ≤ n ∧ i = .int .i64 q ∧ Hid (WdAt wr (some ⟨b4, o4, none⟩) L) ∧ Hid (Below w.heap.size w wr)) (fun i _ => n - (intOf i).toNat)
        case atStart => exact ⟨0, by omega, rfl, HN6, HB6⟩
        case round =>
          clear HN6 HB6
          obtain ⟨q, hq, rfl, HNm, HB⟩ := hrel
          by_cases hlq : q < n
          · have q0 : (0 : Int) ≤ q := by omega
            have q1 : (q : Int) < n := by omega
            have HLq := Lib.hid (show q < l.length by rw [HN.out]; exact hlq)
            rcases HNm.out with e0 | ⟨b5, o5, e5, hc5⟩
            · have := HLk.out; rw [e0] at this; cases this
            cases e5
            have y0 := hc5 k HLk.out
            obtain ⟨nm, hnm⟩ : ∃ nm, nm = wdK L k := ⟨_, rfl⟩
            rw [← hnm] at y0
            have hmem : nm ∈ L := by rw [hnm]; unfold wdK; rw [List.getD_eq_getElem?_getD, List.getElem?_eq_getElem HLk.out]; exact List.getElem_mem _
            obtain ⟨hsz, qo, hqo, hout⟩ := HOu.out nm hmem
            have HSz := Lib.hid hsz
            obtain ⟨x, hx⟩ := Option.isSome_iff_exists.1 (find_out HLq.out hqo hout)
            obtain ⟨o, ho, j, hj, rfl, hsn, hso⟩ := find_some' HLq.out hx
            have HF := Lib.hid (show fndD l (q : Int) nm = some ((o : Int), (j : Int)) from by rw [fnd_plain HLq.out]; exact hx)
            obtain ⟨bo, oo, n3, c3, b3, o3, eA, sz, hn3, s0, -, -, s3⟩ := HO.out.symAt ho hj
            rw [hsn] at s0
            have hjn : j < n3 := by rw [← hn3]; exact hj
            generalize l[o].syms[j].2.2.2 = fl at s3 hso
            subst eA
            have hj0 : (0 : Int) ≤ j := by omega
            have hj1 : (j : Int) < n3 := by omega
            have ho0 : (0 : Int) ≤ o := by omega
            have ho1 : (o : Int) < n := by have := HN.out; omega
            clear hnm hmem hsz hout hqo hx hsn ho hj hc5 hn3 hjn
            go_wp2_with fail
            refine (find_any l HW.out _ n c0 0 w.heap.size HN.out (by omega) (by have := HS.out; omega) q (by unfold IsI; omega) nm HSz.out wr (HO.out.below (Nat.le_refl _) HB.out) HB.out.size).mono ?_
            rintro e w7 ⟨rfl, hb7⟩
            rw [HF.out]
            have HB7 := Lib.hid (HB.out.trans (hb7.mono HB.out.size))
            have HN7 := Lib.hid (HNm.out.below hb7)
            replace y0 := (hb7.cell (p := ⟨b4, o4 + k, none⟩) (cell_lt y0)).trans y0
            clear hb7 HNm HB
            rw [show defV (some ((o : Int), (j : Int))) = .agg #[.int .i64 o, .int .i64 j] from rfl, show (some ((o : Int), (j : Int))).isSome = true from rfl]
            have HBl := Lib.hid ((Below.refl w7.heap.size w7).alloc (Nat.le_refl _) (.cells #[.int .i64 o, .int .i64 j] 39))
            have HD8 := Lib.hid (heap_alloc_new w7 (.cells #[.int .i64 o, .int .i64 j] 39))
            have HB8 := Lib.hid (HB7.out.trans (HBl.out.mono HB7.out.size))
            have HN8 := Lib.hid (HN7.out.below HBl.out)
            replace y0 := (HBl.out.cell (p := ⟨b4, o4 + k, none⟩) (cell_lt y0)).trans y0
            clear HB7 HN7
            go_upto_region 16 with fail
            clear HBl
            generalize (w7.alloc (.cells #[.int .i64 o, .int .i64 j] 39)) = w8 at *
            generalize w7.heap.size = kd at *
            obtain ⟨d0, d1, df⟩ := row2 HD8.out
            replace sz := (HB8.out.cell (p := ⟨bo, oo + o * 5 + 2, none⟩) (cell_lt sz)).trans sz
            replace s0 := (HB8.out.cell (p := ⟨b3, o3 + j * 4, none⟩) (cell_lt s0)).trans s0
            replace s3 := (HB8.out.cell (p := ⟨b3, o3 + j * 4 + 3, none⟩) (cell_lt s3)).trans s3
            have HN9 := fun n => (HN8.out.below (⟨rfl, rfl, rfl, Nat.le_refl _, fun _ _ => rfl⟩ : Below w8.heap.size w8 (w8.drewN n)))
            have HB9 := fun n => (show Below w.heap.size w (w8.drewN n) from ⟨HB8.out.os, HB8.out.tape, HB8.out.output, HB8.out.size, HB8.out.block⟩)
            have HN10 := Lib.hid HN9
            have HB10 := Lib.hid HB9
            clear HN9 HB9 HN8 HB8 HD8
            have g1 : decide (n ≤ o) = false := by simp; omega
            have g2 : decide (n3 ≤ j) = false := by simp; omega
            have g3 : (nm.toList == nm.toList) = true := by simp
            by_cases hoq : o = q
            · subst hoq
              have g4 : ((o : Int) == (o : Int)) = true := by simp
              have g5 : ((o : Int) != (o : Int)) = false := by simp
              go_wp2_with fail
              go_quiet (fail)
              go_wp2
              go_roundw
              case rel => exact ⟨o + 1, by omega, by go_num, Lib.hid (HN10.out nq), Lib.hid (HB10.out nq)⟩
              case measure => simp [intOf]; omega
            · have g4 : ((o : Int) == (q : Int)) = false := by simp; omega
              have g5 : ((o : Int) != (q : Int)) = true := by simp; omega
              have hfl : fl = true := hso.resolve_left hoq
              subst hfl
              clear hso
              go_wp2_with fail
              go_quiet (fail)
              go_wp2
              go_roundw
              case rel => exact ⟨q + 1, by omega, by go_num, Lib.hid (HN10.out nq), Lib.hid (HB10.out nq)⟩
              case measure => simp [intOf]; omega
          · have hqn : q = n := by omega
            have q1 : ¬ (q : Int) < n := by omega
            clear hqn hlq
            go_wp2
            go_roundw
            case rel => exact ⟨k + 1, by omega, by go_num, HNm, HB⟩
            case measure => simp [intOf]; omega
      · have hz : 0 < k := by omega
        have hz2 : decide (0 < k) = true := by simp; omega
        have y1 := hc4 (k - 1) (by have := HLk.out; omega)
        have hi2 : (0 : Int) ≤ (k : Int) - 1 := by omega
        have hi3 : (k : Int) - 1 < m := by omega
        have hle := leq_no (a := wdK L k) (b := wdK L (k - 1)) (by
          have h1 := List.pairwise_iff_getElem.1 HRi.out (k - 1) k (by unfold rowsB; rw [List.length_map]; have := HLk.out; omega) (by unfold rowsB; rw [List.length_map]; exact HLk.out) (by omega)
          unfold rowsB at h1
          rw [List.getElem_map, List.getElem_map] at h1
          unfold wdK
          rw [List.getD_eq_getElem?_getD, List.getD_eq_getElem?_getD, List.getElem?_eq_getElem HLk.out, List.getElem?_eq_getElem (show k - 1 < L.length by have := HLk.out; omega)]
          exact h1)
        generalize wdK L k = sa at y0 hle
        generalize wdK L (k - 1) = sb at y1 hle
        go_wp2_with fail
        go_quiet (fail)
        try rw [hle]
        have HN6 := Lib.hid (HNm.out.below (⟨rfl, rfl, rfl, Nat.le_refl _, fun _ _ => rfl⟩ : Below wr.heap.size wr (wr.drewN nq)))
        have HB6 := Lib.hid (show Below w.heap.size w (wr.drewN nq) from ⟨HB.out.os, HB.out.tape, HB.out.output, HB.out.size, HB.out.block⟩)
        clear y0 y1 HNm HB hle
        generalize wr.drewN nq = wk at *
        go_wp2
        go_loopw [7] (fun i wr => ∃ q : Nat, q ≤ n ∧ i = .int .i64 q ∧ Hid (WdAt wr (some ⟨b4, o4, none⟩) L) ∧ Hid (Below w.heap.size w wr)) (fun i _ => n - (intOf i).toNat)
        case atStart => exact ⟨0, by omega, rfl, HN6, HB6⟩
        case round =>
          clear HN6 HB6
          obtain ⟨q, hq, rfl, HNm, HB⟩ := hrel
          by_cases hlq : q < n
          · have q0 : (0 : Int) ≤ q := by omega
            have q1 : (q : Int) < n := by omega
            have HLq := Lib.hid (show q < l.length by rw [HN.out]; exact hlq)
            rcases HNm.out with e0 | ⟨b5, o5, e5, hc5⟩
            · have := HLk.out; rw [e0] at this; cases this
            cases e5
            have y0 := hc5 k HLk.out
            obtain ⟨nm, hnm⟩ : ∃ nm, nm = wdK L k := ⟨_, rfl⟩
            rw [← hnm] at y0
            have hmem : nm ∈ L := by rw [hnm]; unfold wdK; rw [List.getD_eq_getElem?_getD, List.getElem?_eq_getElem HLk.out]; exact List.getElem_mem _
            obtain ⟨hsz, qo, hqo, hout⟩ := HOu.out nm hmem
            have HSz := Lib.hid hsz
            obtain ⟨x, hx⟩ := Option.isSome_iff_exists.1 (find_out HLq.out hqo hout)
            obtain ⟨o, ho, j, hj, rfl, hsn, hso⟩ := find_some' HLq.out hx
            have HF := Lib.hid (show fndD l (q : Int) nm = some ((o : Int), (j : Int)) from by rw [fnd_plain HLq.out]; exact hx)
            obtain ⟨bo, oo, n3, c3, b3, o3, eA, sz, hn3, s0, -, -, s3⟩ := HO.out.symAt ho hj
            rw [hsn] at s0
            have hjn : j < n3 := by rw [← hn3]; exact hj
            generalize l[o].syms[j].2.2.2 = fl at s3 hso
            subst eA
            have hj0 : (0 : Int) ≤ j := by omega
            have hj1 : (j : Int) < n3 := by omega
            have ho0 : (0 : Int) ≤ o := by omega
            have ho1 : (o : Int) < n := by have := HN.out; omega
            clear hnm hmem hsz hout hqo hx hsn ho hj hc5 hn3 hjn
            go_wp2_with fail
            refine (find_any l HW.out _ n c0 0 w.heap.size HN.out (by omega) (by have := HS.out; omega) q (by unfold IsI; omega) nm HSz.out wr (HO.out.below (Nat.le_refl _) HB.out) HB.out.size).mono ?_
            rintro e w7 ⟨rfl, hb7⟩
            rw [HF.out]
            have HB7 := Lib.hid (HB.out.trans (hb7.mono HB.out.size))
            have HN7 := Lib.hid (HNm.out.below hb7)
            replace y0 := (hb7.cell (p := ⟨b4, o4 + k, none⟩) (cell_lt y0)).trans y0
            clear hb7 HNm HB
            rw [show defV (some ((o : Int), (j : Int))) = .agg #[.int .i64 o, .int .i64 j] from rfl, show (some ((o : Int), (j : Int))).isSome = true from rfl]
            have HBl := Lib.hid ((Below.refl w7.heap.size w7).alloc (Nat.le_refl _) (.cells #[.int .i64 o, .int .i64 j] 39))
            have HD8 := Lib.hid (heap_alloc_new w7 (.cells #[.int .i64 o, .int .i64 j] 39))
            have HB8 := Lib.hid (HB7.out.trans (HBl.out.mono HB7.out.size))
            have HN8 := Lib.hid (HN7.out.below HBl.out)
            replace y0 := (HBl.out.cell (p := ⟨b4, o4 + k, none⟩) (cell_lt y0)).trans y0
            clear HB7 HN7
            go_upto_region 16 with fail
            clear HBl
            generalize (w7.alloc (.cells #[.int .i64 o, .int .i64 j] 39)) = w8 at *
            generalize w7.heap.size = kd at *
            obtain ⟨d0, d1, df⟩ := row2 HD8.out
            replace sz := (HB8.out.cell (p := ⟨bo, oo + o * 5 + 2, none⟩) (cell_lt sz)).trans sz
            replace s0 := (HB8.out.cell (p := ⟨b3, o3 + j * 4, none⟩) (cell_lt s0)).trans s0
            replace s3 := (HB8.out.cell (p := ⟨b3, o3 + j * 4 + 3, none⟩) (cell_lt s3)).trans s3
            have HN9 := fun n => (HN8.out.below (⟨rfl, rfl, rfl, Nat.le_refl _, fun _ _ => rfl⟩ : Below w8.heap.size w8 (w8.drewN n)))
            have HB9 := fun n => (show Below w.heap.size w (w8.drewN n) from ⟨HB8.out.os, HB8.out.tape, HB8.out.output, HB8.out.size, HB8.out.block⟩)
            have HN10 := Lib.hid HN9
            have HB10 := Lib.hid HB9
            clear HN9 HB9 HN8 HB8 HD8
            have g1 : decide (n ≤ o) = false := by simp; omega
            have g2 : decide (n3 ≤ j) = false := by simp; omega
            have g3 : (nm.toList == nm.toList) = true := by simp
            by_cases hoq : o = q
            · subst hoq
              have g4 : ((o : Int) == (o : Int)) = true := by simp
              have g5 : ((o : Int) != (o : Int)) = false := by simp
              go_wp2_with fail
              go_quiet (fail)
              go_wp2
              go_roundw
              case rel => exact ⟨o + 1, by omega, by go_num, Lib.hid (HN10.out nq), Lib.hid (HB10.out nq)⟩
              case measure => simp [intOf]; omega
            · have g4 : ((o : Int) == (q : Int)) = false := by simp; omega
              have g5 : ((o : Int) != (q : Int)) = true := by simp; omega
              have hfl : fl = true := hso.resolve_left hoq
              subst hfl
              clear hso
              go_wp2_with fail
              go_quiet (fail)
              go_wp2
              go_roundw
              case rel => exact ⟨q + 1, by omega, by go_num, Lib.hid (HN10.out nq), Lib.hid (HB10.out nq)⟩
              case measure => simp [intOf]; omega
          · have hqn : q = n := by omega
            have q1 : ¬ (q : Int) < n := by omega
            clear hqn hlq
            go_wp2
            go_roundw
            case rel => exact ⟨k + 1, by omega, by go_num, HNm, HB⟩
            case measure => simp [intOf]; omega
    · have hkm : k = m := by omega
      have k1 : ¬ (k : Int) < m := by omega
      clear hkm hlt
      by_cases h5 : k5 = 0
      · subst h5
        have HCe := Lib.hid (entries_any l HW.out A0 n c0 0 w.heap.size HN.out (by unfold maxLen; omega) wr (HT.out.below HB.out) (HO.out.below (Nat.le_refl _) HB.out) HB.out.size)
        have g1 : ((0 : Int) != (0 : Int)) = false := by decide
        go_wp2_with fail
        refine HCe.out.mono ?_
        rintro e w9 ⟨ds, v9, rfl, hda, -, -, hb9⟩
        obtain ⟨A9, c9, rfl, -⟩ := hda
        have HB9 := Lib.hid (HB.out.trans (hb9.mono HB.out.size))
        have g2 : (0 : Int) ≤ (ds.length : Int) := by omega
        clear hb9 HCe
        go_wp2
        go_ret
        exact ⟨rfl, HB9.out⟩
      · have g1 : (k5 != (0 : Int)) = true := by simpa using h5
        have g2 : (k5 == (0 : Int)) = false := by simpa using h5
        go_wp2_with fail
        go_ret
        exact ⟨rfl, HB.out⟩
end Go.Proofs.YthoehbmbmjmpbaaDoor.SymsOutsWalk
