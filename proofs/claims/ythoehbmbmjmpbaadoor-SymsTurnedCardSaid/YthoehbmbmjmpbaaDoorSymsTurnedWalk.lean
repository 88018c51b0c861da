/- The walk of the statement SymsTurned: it returns true, and writes nothing that was there. -/
import Derived.Test.YthoehbmbmjmpbaaDoorSymY
import Derived.Test.YthoehbmbmjmpbaaDoorSynA
import Derived.Test.YthoehbmbmjmpbaaDoorSynB
import Derived.Test.YthoehbmbmjmpbaaDoorSynD
import Derived.Test.YthoehbmbmjmpbaaDoorSynG
import Derived.Deep.QuietTactic
import Derived.BigQuiet
namespace Go.Proofs.YthoehbmbmjmpbaaDoor.SymsTurnedWalk
set_option maxRecDepth 100000
open Go.RowKit
set_option linter.unusedVariables false
set_option maxHeartbeats 8000000 in
theorem walk (A0 : Option Addr) (c0 : Nat) (l : List ObjD) (w : World) (hO : ObjsAt w 0 w.heap.size l A0) (hW : ∀ d ∈ l, ObjW d) (hL : ∀ d ∈ l, ObjL d) (hn0 : l.length ≤ maxLen) (hT : Tabs w) :
    Calls Tryd.prog 3 #[.slice A0 l.length c0] w fun e w' => e = .returned (.bool true) ∧ Below w.heap.size w w' := by
  have HT := Lib.hid hT
  have HAw := Lib.hid (awake7_yes w hT)
  have HO := Lib.hid hO
  have HW := Lib.hid hW
  have HL := Lib.hid hL
  have HMx := Lib.hid hn0
  obtain ⟨n, hn⟩ : ∃ n, l.length = n := ⟨_, rfl⟩
  rw [hn] at hn0 ⊢
  have HN := Lib.hid hn
  clear hT hO hW hL
  unfold maxLen at hn0
  obtain ⟨i0, hi0, hz0, hz1, hz2⟩ := info_parts info_obj
  go_enter Tryd.func3, Tryd.ntmps3
  go_wp2_with fail
  refine HAw.out.mono ?_
  rintro e w2 ⟨rfl, hb1⟩
  have HB1 := Lib.hid hb1
  clear hb1 HAw
  go_wp2_with fail
  refine (small7_any l HW.out HL.out A0 n c0 0 w.heap.size HN.out (by rw [← HN.out]; exact HMx.out) w2 (HO.out.below (Nat.le_refl _) HB1.out) HB1.out.size).mono ?_
  rintro e w3 ⟨⟨b, rfl, hsm⟩, hb2⟩
  have HB2 := Lib.hid (HB1.out.trans (hb2.mono HB1.out.size))
  clear hb2 HB1
  cases b
  case false =>
    clear hsm
    go_wp2
    go_ret
    exact ⟨rfl, HB2.out⟩
  obtain ⟨h20, hsS, hsR⟩ := hsm rfl
  have HS := Lib.hid hsS
  have HSr := Lib.hid hsR
  have hn20 : n ≤ 20 := by omega
  have HV := Lib.hid (show ∃ v : Value, v = .slice none 0 0 ∧ RvAt w w3 l w.heap.size n v from ⟨_, rfl, by rw [← HN.out]; exact RvAt.start w w3 l w.heap.size⟩)
  clear hsm hsS hsR h20 hn0 hn
  go_wp2
  go_loopw [5, 4] (fun i v wr => ∃ c : Nat, c ≤ n ∧ i = .int .i64 ((c : Int) - 1) ∧ Hid (RvAt w wr l w.heap.size c v) ∧ Hid (Below w.heap.size w wr)) (fun i _ _ => ((intOf i) + 1).toNat)
  case atStart =>
    obtain ⟨v, rfl, h⟩ := HV.out
    exact ⟨n, Nat.le_refl _, rfl, Lib.hid h, HB2⟩
  case round =>
    clear HV HB2
    obtain ⟨c, hc, rfl, HV, HB⟩ := hrel
    by_cases hlt : 1 ≤ c
    · obtain ⟨d, rfl⟩ : ∃ d, c = d + 1 := ⟨c - 1, by omega⟩
      have hd : ((d + 1 : Nat) : Int) - 1 = (d : Int) := by omega
      rw [hd]
      have hge : (0 : Int) ≤ (d : Int) := by omega
      have hdn : (d : Int) < (n : Int) := by omega
      have HLd := Lib.hid (show d < l.length by rw [HN.out]; omega)
      obtain ⟨b1, o1, A1, n1, c1, A2, n2, c2, A3, n3, c3, A4, n4, c4, A5, n5, c5, eA, hb1, ⟨x0, x1, x2, x3, x4⟩, ho, -⟩ := HO.out.at_ HLd.out
      rw [← nAt_get HLd.out] at ho
      subst eA
      have HOd := Lib.hid ho
      replace x0 := (HB.out.cell (p := ⟨b1, o1 + d * 5, none⟩) hb1).trans x0
      replace x1 := (HB.out.cell (p := ⟨b1, o1 + d * 5 + 1, none⟩) hb1).trans x1
      replace x2 := (HB.out.cell (p := ⟨b1, o1 + d * 5 + 2, none⟩) hb1).trans x2
      replace x3 := (HB.out.cell (p := ⟨b1, o1 + d * 5 + 3, none⟩) hb1).trans x3
      replace x4 := (HB.out.cell (p := ⟨b1, o1 + d * 5 + 4, none⟩) hb1).trans x4
      have b3 := (Below.refl wr.heap.size wr).alloc (Nat.le_refl _) (.cells #[.slice A1 n1 c1, .slice A2 n2 c2, .slice A3 n3 c3, .slice A4 n4 c4, .slice A5 n5 c5] 31)
      obtain ⟨cs, hown, hcs⟩ := HV.out.below b3
      obtain ⟨Al, cl, rfl⟩ := ownO_slice hown
      rw [HN.out] at hown
      have HCs := Lib.hid hcs
      have HOw := Lib.hid hown
      rw [HN.out]
      have HBa := Lib.hid (HB.out.trans (b3.mono HB.out.size))
      have HNa := Lib.hid (news_at (w := wr) (w2 := wr.alloc (.cells #[.slice A1 n1 c1, .slice A2 n2 c2, .slice A3 n3 c3, .slice A4 n4 c4, .slice A5 n5 c5] 31)) (cs := [.slice A1 n1 c1, .slice A2 n2 c2, .slice A3 n3 c3, .slice A4 n4 c4, .slice A5 n5 c5]) (ty := 31) rfl)
      have H1s := Lib.hid (show ∀ u ∈ [Value.slice A1 n1 c1, .slice A2 n2 c2, .slice A3 n3 c3, .slice A4 n4 c4, .slice A5 n5 c5], u.oneCell' = true from fun u hu => by
        simp only [List.mem_cons, List.not_mem_nil, or_false] at hu
        rcases hu with rfl | rfl | rfl | rfl | rfl <;> rfl)
      have HMl := Lib.hid (show n - (d + 1) + 1 ≤ maxLen by unfold maxLen; omega)
      have HBy := Lib.hid (show (n - (d + 1) + 1) * 120 ≤ 140737488355328 by omega)
      have HRz := Lib.hid (show w.heap.size ≤ (wr.alloc (.cells #[.slice A1 n1 c1, .slice A2 n2 c2, .slice A3 n3 c3, .slice A4 n4 c4, .slice A5 n5 c5] 31)).heap.size from HBa.out.size)
      clear ho hb1 b3 hown hcs HV HB hd hlt hc
      go_wp2_with (at_builtin; (refine wpList_append_at6 rfl _ _ 22 rfl w.heap.size 31 i0 (.agg #[.slice none 0 0, .slice none 0 0, .slice none 0 0, .slice none 0 0, .slice none 0 0]) 5 120 Tryd.underlying22 hi0 hz0 hz1 hz2 rfl (by decide) (.slice Al (n - (d + 1)) cl) (n - (d + 1)) cs ?hs HOw.out ⟨wr.heap.size, 0, none⟩ 1 1 [.slice A1 n1 c1, .slice A2 n2 c2, .slice A3 n3 c3, .slice A4 n4 c4, .slice A5 n5 c5] ?hx rfl HNa.out H1s.out HMl.out HBy.out HRz.out ?_; (case hs => rfl); (case hx => rfl); intro v' w7 hr hg hv'))
      have HV7 := Lib.hid (show RvAt w w7 l w.heap.size d v' from rv_put HLd.out (by rw [HN.out]; exact HOw.out.1) HCs.out HOd.out (by rw [HN.out]; exact hr))
      have HB7 := Lib.hid (HBa.out.grown hg HBa.out.size (fun g e => own_ge HOw.out g e))
      have hdn2 : d ≤ n := by omega
      clear hr hg hv'
      go_roundw
      case rel => exact ⟨d, hdn2, rfl, HV7, HB7⟩
      case measure => simp [intOf]
    · obtain rfl : c = 0 := by omega
      obtain ⟨Ab, kb, rfl, hR⟩ := HV.out.objs HB.out
      rw [HN.out]
      obtain ⟨zz, hzz⟩ : ∃ z, wr.heap.size = z := ⟨_, rfl⟩
      rw [hzz] at hR
      have HR := Lib.hid hR
      have HZz := Lib.hid (Nat.le_of_eq hzz.symm)
      have HWb := Lib.hid (rev_w HW.out)
      have HNb := Lib.hid (show l.reverse.length = n by rw [List.length_reverse]; exact HN.out)
      clear hR HV hc hlt hzz
      go_wp2_with fail
      refine (check_any l HW.out A0 n c0 0 w.heap.size HN.out (by unfold maxLen; omega) wr (HT.out.below HB.out) (HO.out.below (Nat.le_refl _) HB.out) HB.out.size).mono ?_
      rintro e w5 ⟨s5, k5, rfl, hc5, hb5⟩
      have HC5 := Lib.hid hc5
      have HB5 := Lib.hid (HB.out.trans (hb5.mono HB.out.size))
      have HR5 := Lib.hid (HR.out.below HZz.out hb5)
      have HS5 := Lib.hid (Nat.le_trans HZz.out hb5.size)
      clear hb5 HB HR hc5
      go_wp2_with fail
      refine (check_any l.reverse HWb.out Ab n kb 0 zz HNb.out (by unfold maxLen; omega) w5 (HT.out.below HB5.out) HR5.out HS5.out).mono ?_
      rintro e w6 ⟨s6, k6, rfl, hc6, hb6⟩
      have HC6 := Lib.hid (chk_rev (by rw [HN.out]; omega) hc6)
      have HB6 := Lib.hid (HB5.out.trans (hb6.mono HB5.out.size))
      have HR6 := Lib.hid (HR5.out.below HS5.out hb6)
      have HS6 := Lib.hid (Nat.le_trans HS5.out hb6.size)
      have hes : s6 = s5 := (chk_eq HW.out (by rw [HN.out]; omega) HC6.out).1.trans (chk_eq HW.out (by rw [HN.out]; omega) HC5.out).1.symm
      have hek : k6 = k5 := (chk_eq HW.out (by rw [HN.out]; omega) HC6.out).2.trans (chk_eq HW.out (by rw [HN.out]; omega) HC5.out).2.symm
      subst hes hek
      clear hb6 HB5 HR5 HS5 hc6 HC6
      have g1 : (s6.toList == s6.toList) = true := by simp
      have g2 : (k6 == k6) = true := by simp
      have g3 : (k6 != k6) = false := by simp
      go_wp2_with fail
      refine (outs_any l HW.out A0 n c0 0 w.heap.size HN.out (by omega) (by have := HS.out; omega) w6 (HO.out.below (Nat.le_refl _) HB6.out) HB6.out.size).mono ?_
      rintro e w7 ⟨na, va, rfl, hna, hma, hla, hb7⟩
      have HB7 := Lib.hid (HB6.out.trans (hb7.mono HB6.out.size))
      have HR7 := Lib.hid (HR6.out.below HS6.out hb7)
      have HS7 := Lib.hid (Nat.le_trans HS6.out hb7.size)
      obtain ⟨Aa, ca, rfl, -⟩ := id hna
      have HNa := Lib.hid hna.wd
      clear hb7 HB6 HR6 HS6 hna
      go_wp2_with fail
      refine (outs_any l.reverse HWb.out Ab n kb 0 zz HNb.out (by omega) (by rw [sumS_rev]; have := HS.out; omega) w7 HR7.out HS7.out).mono ?_
      rintro e w8 ⟨nb, vb, rfl, hnb, hmb, hlb, hb8⟩
      have HB8 := Lib.hid (HB7.out.trans (hb8.mono HB7.out.size))
      have HR8 := Lib.hid (HR7.out.below HS7.out hb8)
      have HS8 := Lib.hid (Nat.le_trans HS7.out hb8.size)
      obtain ⟨Abb, cbb, rfl, -⟩ := id hnb
      have HNb2 := Lib.hid hnb.wd
      have HNa8 := Lib.hid (HNa.out.below hb8)
      have hab : cmpN (srtN na) = cmpN (srtN nb) := names_unique (outs_rise na).1 (outs_rise nb).1 (fun s => by
        rw [(outs_rise na).2 s, (outs_rise nb).2 s, hma s, hmb s]
        have h1 := outs_plain (l := l) (by rw [HN.out]; omega) s
        have h2 := outs_plain (l := l.reverse) (by rw [HNb.out]; omega) s
        unfold bookM at h1 h2
        rw [HN.out] at h1
        rw [HNb.out] at h2
        rw [h1, h2]
        have h3 := out_rev (l := l) s
        rw [HN.out, HNb.out] at h3
        rw [h3])
      have hlen : (cmpN (srtN nb)).length ≤ 1000000000 := by
        have h1 : (cmpN (srtN nb)).length ≤ (srtN nb).length := by
          unfold cmpN namesL
          rw [List.length_map]
          exact Nat.le_trans (Lib.compact_length_le _) (by unfold rowsB; rw [List.length_map]; exact Nat.le_refl _)
        rw [srtN_length] at h1
        omega
      rw [hab] at HNa8
      rw [hab]
      have HLen := Lib.hid hlen
      generalize cmpN (srtN nb) = L at *
      clear hb8 HB7 HR7 HS7 hnb hma hmb hla hlb hab HNa hlen
      go_wp2_with fail
      refine (texts7_any L L Aa Abb L.length L.length ca cbb rfl rfl HLen.out w8 HNa8.out HNb2.out).mono ?_
      rintro e w9 ⟨rfl, k9, rfl⟩
      rw [decide_eq_true rfl]
      have hq9 : Below w8.heap.size w8 (w8.drewN k9) := ⟨rfl, rfl, rfl, Nat.le_refl _, fun _ _ => rfl⟩
      have HB9 := Lib.hid (HB8.out.trans (hq9.mono HB8.out.size))
      have HR9 := Lib.hid (HR8.out.below HS8.out hq9)
      have HS9 := Lib.hid (Nat.le_trans HS8.out hq9.size)
      clear hq9 HB8 HR8 HS8 HNa8 HNb2 HLen
      generalize w8.drewN k9 = wx at *
      by_cases hk0 : k6 = 0
      case neg =>
        have g4 : (k6 != (0 : Int)) = true := by simpa using hk0
        go_wp2
        go_ret
        exact ⟨rfl, HB9.out⟩
      subst hk0
      have HOk := Lib.hid (show okL l from (chk_zero HC5.out).1 rfl)
      have g5 : ((0 : Int) != (0 : Int)) = false := by decide
      clear g1 g2 g3 HC5
      go_wp2
      go_loopw [10] (fun i wr' => ∃ k : Nat, k ≤ n ∧ i = .int .i64 k ∧ Hid (Below w.heap.size w wr') ∧ Hid (ObjsAt wr' 0 zz l.reverse Ab) ∧ Hid (zz ≤ wr'.heap.size)) (fun i _ => n - (intOf i).toNat)
      case atStart => exact ⟨0, by omega, rfl, HB9, HR9, HS9⟩
      case round =>
        clear HB9 HR9 HS9
        obtain ⟨i, hi, rfl, HB, HR, HSz⟩ := hrel
        by_cases hlt : i < n
        · have k0 : (0 : Int) ≤ i := by omega
          have k1 : (i : Int) < n := by omega
          have HLi := Lib.hid (show i < l.length by rw [HN.out]; exact hlt)
          obtain ⟨b1, o1, A1, n1, c1, A2, n2, c2, A3, n3, c3, A4, n4, c4, A5, n5, c5, eA, hb1, ⟨-, -, -, x3, -⟩, -, -, hn4, -⟩ := HO.out.at_ HLi.out
          subst eA
          have hn4b : n4 ≤ 1000000 := by
            have h1 := sumR_go HLi.out
            have h2 := sumR_le l (i + 1)
            have h3 := HSr.out
            omega
          have HN4 := Lib.hid hn4
          have HX3 := Lib.hid x3
          clear hn4 x3
          go_wp2
          go_loopw [11] (fun j wr' => ∃ k : Nat, k ≤ n4 ∧ j = .int .i64 k ∧ Hid (Below w.heap.size w wr') ∧ Hid (ObjsAt wr' 0 zz l.reverse Ab) ∧ Hid (zz ≤ wr'.heap.size)) (fun j _ => n4 - (intOf j).toNat)
          case atStart => exact ⟨0, by omega, rfl, HB, HR, HSz⟩
          case round =>
            clear HB HR HSz
            obtain ⟨j, hj, rfl, HB, HR, HSz2⟩ := hrel
            have x3 := (HB.out.cell (p := ⟨b1, o1 + i * 5 + 3, none⟩) hb1).trans HX3.out
            by_cases hlj : j < n4
            · have j0 : (0 : Int) ≤ j := by omega
              have j1 : (j : Int) < n4 := by omega
              have hLj : j < (l[i]'HLi.out).rels.length := by rw [HN4.out]; exact hlj
              obtain ⟨bq, oq, n4', c4', b4, o4, eq, z, hn4', -, -, r2, -⟩ := HO.out.relAt HLi.out hLj
              cases eq
              have hz4 := HX3.out.symm.trans z
              simp only [Option.some.injEq, Value.slice.injEq] at hz4
              obtain ⟨rfl, rfl, rfl⟩ := hz4
              have hsz := ((HW.out _ (List.getElem_mem HLi.out)).rels _ (List.getElem_mem hLj)).2.2.1
              have hrl : relIn (nAt l i) ((l[i]'HLi.out).rels[j]'hLj).2.2.1 = true := by
                unfold relIn
                rw [List.any_eq_true, nAt_get HLi.out]
                exact ⟨_, List.getElem_mem hLj, decide_eq_true rfl⟩
              generalize ((l[i]'HLi.out).rels[j]'hLj).2.2.1 = nm at *
              obtain ⟨x, hx⟩ := Option.isSome_iff_exists.1 (rel_find (by rw [HN.out]; omega) HOk.out HLi.out hsz hrl)
              obtain ⟨o, ho, jj, hjj, rfl, -, -⟩ := find_some' HLi.out hx
              have hx2 := find_rev (by rw [HN.out]; omega) HLi.out hsz (HOk.out.2.1 nm) ho hx
              rw [← fnd_plain HLi.out] at hx
              rw [← fnd_plain (by rw [List.length_reverse]; omega), HN.out] at hx2
              have hon : o < n := by rw [← HN.out]; exact ho
              rw [show ((n - 1 - i : Nat) : Int) = (n : Int) - 1 - i by omega, show ((n - 1 - o : Nat) : Int) = (n : Int) - 1 - o by omega] at hx2
              have HF1 := Lib.hid hx
              have HF2 := Lib.hid hx2
              have HSz := Lib.hid hsz
              have y2 := (HB.out.cell (p := ⟨b4, o4 + j * 4 + 2, none⟩) (cell_lt r2)).trans r2
              have HR2 := Lib.hid r2
              clear hLj z hn4' r2 hsz hrl hx hx2 ho hjj
              go_wp2_with fail
              refine (find_any l HW.out _ n c0 0 w.heap.size HN.out (by omega) (by have := HS.out; omega) i (by unfold IsI; omega) nm HSz.out wr (HO.out.below (Nat.le_refl _) HB.out) HB.out.size).mono ?_
              rintro e w7 ⟨rfl, hb7⟩
              rw [HF1.out, show defV (some ((o : Int), (jj : Int))) = .agg #[.int .i64 o, .int .i64 jj] from rfl, show (some ((o : Int), (jj : Int))).isSome = true from rfl]
              have hbl := (Below.refl w7.heap.size w7).alloc (Nat.le_refl _) (.cells #[.int .i64 o, .int .i64 jj] 39)
              have hb78 := hb7.trans (hbl.mono hb7.size)
              have HD8 := Lib.hid (heap_alloc_new w7 (.cells #[.int .i64 o, .int .i64 jj] 39))
              have HB8 := Lib.hid (HB.out.trans (hb78.mono HB.out.size))
              have HR8 := Lib.hid (HR.out.below HSz2.out hb78)
              have HS8 := Lib.hid (Nat.le_trans HSz2.out hb78.size)
              clear hb7 hbl hb78 HB HR HSz2 x3 y2
              go_upto_region 24 with fail
              generalize (w7.alloc (.cells #[.int .i64 o, .int .i64 jj] 39)) = w8 at *
              generalize w7.heap.size = kd at *
              have x3 := (HB8.out.cell (p := ⟨b1, o1 + i * 5 + 3, none⟩) hb1).trans HX3.out
              have y2 := (HB8.out.cell (p := ⟨b4, o4 + j * 4 + 2, none⟩) (cell_lt HR2.out)).trans HR2.out
              have hin : -9223372036854775808 ≤ (n : Int) - 1 - i := by omega
              go_wp2_with fail
              refine (find_any l.reverse HWb.out Ab n kb 0 zz HNb.out (by omega) (by rw [sumS_rev]; have := HS.out; omega) ((n : Int) - 1 - i) (by unfold IsI; omega) nm HSz.out w8 HR8.out HS8.out).mono ?_
              rintro e w9 ⟨rfl, hb9⟩
              rw [HF2.out, show defV (some ((n : Int) - 1 - o, (jj : Int))) = .agg #[.int .i64 ((n : Int) - 1 - o), .int .i64 jj] from rfl, show (some ((n : Int) - 1 - (o : Int), (jj : Int))).isSome = true from rfl]
              have hbl := (Below.refl w9.heap.size w9).alloc (Nat.le_refl _) (.cells #[.int .i64 ((n : Int) - 1 - o), .int .i64 jj] 39)
              have hb90 := hb9.trans (hbl.mono hb9.size)
              have HE0 := Lib.hid (heap_alloc_new w9 (.cells #[.int .i64 ((n : Int) - 1 - o), .int .i64 jj] 39))
              have HD0 := Lib.hid ((hb90.block _ (Array.getElem?_eq_some_iff.1 HD8.out).1).trans HD8.out)
              have HB0 := Lib.hid (HB8.out.trans (hb90.mono HB8.out.size))
              have HR0 := Lib.hid (HR8.out.below HS8.out hb90)
              have HS0 := Lib.hid (Nat.le_trans HS8.out hb90.size)
              clear hb9 hbl hb90 HB8 HR8 HS8 HD8 x3 y2
              go_upto_region 25 with fail
              generalize (w9.alloc (.cells #[.int .i64 ((n : Int) - 1 - o), .int .i64 jj] 39)) = w10 at *
              generalize w9.heap.size = ke at *
              obtain ⟨d0, d1, df⟩ := row2 HD0.out
              obtain ⟨f0, f1, ff⟩ := row2 HE0.out
              have hq := fun W => neq_def ((n : Int) - 1 - o) jj ((n : Int) - 1 - o) jj W
              have hqb : (!((n : Int) - 1 - o == (n : Int) - 1 - o && (jj : Int) == jj)) = false := by simp
              rw [hqb] at hq
              go_wp2_with fail
              go_roundw
              case rel => exact ⟨j + 1, by omega, by go_num, HB0, HR0, HS0⟩
              case measure => simp [intOf]; omega
            · have j1 : ¬ (j : Int) < n4 := by omega
              clear hlj
              go_wp2
              go_roundw
              case rel => exact ⟨i + 1, by omega, by go_num, HB, HR, HSz2⟩
              case measure => simp [intOf]; omega
        · have hin : i = n := by omega
          have k1 : ¬ (i : Int) < n := by omega
          clear hin hlt hi
          go_wp2_with fail
          refine (used_any l HW.out A0 n c0 0 w.heap.size HN.out (by unfold maxLen; omega) wr (HT.out.below HB.out) (HO.out.below (Nat.le_refl _) HB.out) HB.out.size).mono ?_
          rintro e u1 ⟨d1, v1, rfl, ha1, hu1, -, -, hb1⟩
          obtain ⟨A1, c1, rfl, -⟩ := id ha1
          have HB1 := Lib.hid (HB.out.trans (hb1.mono HB.out.size))
          have HR1 := Lib.hid (HR.out.below HSz.out hb1)
          have HS1 := Lib.hid (Nat.le_trans HSz.out hb1.size)
          have HU1 := Lib.hid (hu1 HOk.out)
          clear hb1 ha1 hu1 HB HR HSz
          go_wp2_with fail
          refine (used_any l.reverse HWb.out Ab n kb 0 zz HNb.out (by unfold maxLen; omega) u1 (HT.out.below HB1.out) HR1.out HS1.out).mono ?_
          rintro e u2 ⟨d2, v2, rfl, ha2, hu2, -, -, hb2⟩
          obtain ⟨A2, c2, rfl, -⟩ := id ha2
          have HB2 := Lib.hid (HB1.out.trans (hb2.mono HB1.out.size))
          have HR2 := Lib.hid (HR1.out.below HS1.out hb2)
          have HS2 := Lib.hid (Nat.le_trans HS1.out hb2.size)
          have hU2 := hu2 (ok_rev (by rw [HN.out]; omega) HOk.out)
          have hl12 : d1.length = d2.length := used_len (by rw [HN.out]; omega) HOk.out (HU1.out.2.imp fun h e => by subst e; exact ltP_irr _ h) (hU2.2.imp fun h e => by subst e; exact ltP_irr _ h) HU1.out.1 hU2.1
          rw [← hl12]
          have g7 : ((d1.length : Int) == (d1.length : Int)) = true := by simp
          clear hb2 ha2 hu2 hU2 HB1 HR1 HS1 hl12 HU1
          go_wp2_with fail
          refine (entries_any l HW.out A0 n c0 0 w.heap.size HN.out (by unfold maxLen; omega) u2 (HT.out.below HB2.out) (HO.out.below (Nat.le_refl _) HB2.out) HB2.out.size).mono ?_
          rintro e u3 ⟨d3, v3, rfl, ha3, hu3, -, hb3⟩
          obtain ⟨A3, c3, rfl, -⟩ := id ha3
          have HB3 := Lib.hid (HB2.out.trans (hb3.mono HB2.out.size))
          have HR3 := Lib.hid (HR2.out.below HS2.out hb3)
          have HS3 := Lib.hid (Nat.le_trans HS2.out hb3.size)
          have h3 : d3.length = sumE l := by rw [hu3 HOk.out, entL_sum]
          rw [h3]
          clear hb3 ha3 hu3 HB2 HR2 HS2 h3
          go_wp2_with fail
          refine (entries_any l.reverse HWb.out Ab n kb 0 zz HNb.out (by unfold maxLen; omega) u3 (HT.out.below HB3.out) HR3.out HS3.out).mono ?_
          rintro e u4 ⟨d4, v4, rfl, ha4, hu4, -, hb4⟩
          obtain ⟨A4, c4, rfl, -⟩ := id ha4
          have HB4 := Lib.hid (HB3.out.trans (hb4.mono HB3.out.size))
          have h4 : d4.length = sumE l := by rw [hu4 (ok_rev (by rw [HN.out]; omega) HOk.out), entL_sum, sumE_rev]
          rw [h4]
          have g8 : ((sumE l : Int) == (sumE l : Int)) = true := by simp
          clear hb4 ha4 hu4 HB3 HR3 HS3 h4
          go_wp2
          go_ret
          exact ⟨rfl, HB4.out⟩
end Go.Proofs.YthoehbmbmjmpbaaDoor.SymsTurnedWalk
