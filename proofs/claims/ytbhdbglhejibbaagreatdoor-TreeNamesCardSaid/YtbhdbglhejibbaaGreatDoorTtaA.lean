/- Layer 10: a source, read. Condition: the tables read as they should.
   Layer 10: what leaves by a lack, of sources. Condition: the tables read as they should.
   Layer 10: what Parse does behind its words (over newReader's contract). Condition: the tables read as they should.
   Layer 10: words are short and few. No condition.
   Layer 10: Parse (over newReader's contract). Condition: the tables read as they should. -/
import Derived.Test.YtbhdbglhejibbaaGreatDoorTsaR
import Derived.Test.YtbhdbglhejibbaaGreatDoorLexJ
namespace Go.Proofs.YtbhdbglhejibbaaGreatDoor
set_option maxRecDepth 100000
open Go.RowKit
set_option linter.unusedVariables false
theorem infoAr : (Tryz.prog.info? 55).map (fun i => (i.zero, i.size, i.bytes)) = some (some (.agg #[.string ⟨#[]⟩, .int .i64 0]), 2, 24) := by kernel_rfl
theorem infoFn : (Tryz.prog.info? 48).map (fun i => (i.zero, i.size, i.bytes)) = some (some (.agg #[.string ⟨#[]⟩, .bool false, .slice none 0 0, .slice none 0 0]), 4, 72) := by kernel_rfl
set_option maxHeartbeats 8000000 in
theorem rsource_any (R : RdC) (ts : List TokD) (hok : ToksOk ts) (hB : ∀ t ∈ ts, TokB t) (hdp : tdeps ts ≤ 24) (hln : ts.length ≤ 100000) (A : Option Addr) (n c : Nat) (w : World) (hR : RdIs R w) (hn : (flats ts).length = n) (hnc : n ≤ c) (hn1 : n ≤ 1000000) (hcx : c ≤ 9223372036854775807) (hW : WdAt w A (flats ts)) :
    Calls Tryz.prog 32 #[.pointer (some ⟨R.r, 0, none⟩), .slice A n c] w fun e w' => Below w.heap.size w w' ∧ ProgP w.heap.size w' (srcP ts) e := by
  have hbl := (Below.refl w.heap.size w).alloc (Nat.le_refl _) (.cells #[.slice none 0 0, .slice none 0 0] 25)
  have h0 := heap_alloc_new w (.cells #[.slice none 0 0, .slice none 0 0] 25)
  have hWd : WdAt (w.alloc (.cells #[.slice none 0 0, .slice none 0 0] 25)) A (flats ts) := by
    rcases hW with h | ⟨b, o, e, h⟩
    · exact .inl h
    · exact .inr ⟨b, o, e, fun k hk => cell_belowT (h k hk) hbl⟩
  have HI := Lib.hid (items_any (flats ts) A n c hn hnc hn1 hcx _ hWd)
  have HE := Lib.hid (And.intro ((nst_deps hok).2 hdp) (itm_toks ts hok))
  have HB := Lib.hid hbl
  have HX := Lib.hid h0
  have HR := Lib.hid (hR.below hbl)
  have HT := Lib.hid hR.top
  have HK := Lib.hid (And.intro (toksOk_iff.1 hok) hB)
  have hsz : (w.alloc (.cells #[.slice none 0 0, .slice none 0 0] 25)).heap.size = w.heap.size + 1 := by simp
  obtain ⟨ia, hia, ha0, ha1, ha2⟩ := info_parts infoAr
  obtain ⟨jf, hif, hf0, hf1, hf2⟩ := info_parts infoFn
  clear hbl h0 hWd hW hR hok hB
  go_enter Tryz.func32, Tryz.ntmps32
  go_wp2_with fail
  generalize (w.alloc (.cells #[.slice none 0 0, .slice none 0 0] 25)) = W1 at *
  refine HI.out.mono ?_
  rintro e w2 ⟨hb, hx⟩
  rcases hx with ⟨hx, _⟩ | ⟨_, A2, c2, rfl, hr⟩
  · have := HE.out.1; rw [this] at hx; cases hx
  have hlen : (itmP (flats ts) 0 []).length = ts.length := by rw [HE.out.2, List.length_map]
  rw [hlen] at hr ⊢
  rw [HE.out.2] at hr
  obtain ⟨r1, r2, r3⟩ := hr.toks rfl
  have hbx := (Below.refl w2.heap.size w2).alloc (Nat.le_refl _) (.cells #[.slice none 0 0, .slice none 0 0] 25)
  have HS0 := Lib.hid (show SrcE w2 w2.heap.size ([], []) (.slice none 0 0) (.slice none 0 0) [] [] (w2.alloc (.cells #[.slice none 0 0, .slice none 0 0] 25)) from ⟨hbx, heap_alloc_new _ _, RowG.nil, RowG.nil, fun _ => rfl, fun g e => by cases e⟩)
  have HTk := Lib.hid (r3.move (S' := fun b => b < w2.heap.size) (fun b hb => hb.2) (fun b _ => rfl))
  have HB2 := Lib.hid (HB.out.trans (hb.mono HB.out.size))
  have HR2 := Lib.hid (HR.out.below hb)
  have HX2 := Lib.hid ((hb.block _ (Array.getElem?_eq_some_iff.1 HX.out).1).trans HX.out)
  have hQ : w.heap.size < w2.heap.size := (Array.getElem?_eq_some_iff.1 HX2.out).1
  clear hb hr hbx r2 r3 hlen
  go_wp2
  go_loopw [18] (fun i wr => ∃ k : Nat, k ≤ ts.length ∧ i = .int .i64 k ∧ Hid (∃ xs fs v1 v2 css1 css2, srcF (ts.take k) = some (xs, fs) ∧ SrcE w2 w2.heap.size (xs, fs) v1 v2 css1 css2 wr ∧ xs.length ≤ k ∧ fs.length ≤ k)) (fun i _ => ts.length - (intOf i).toNat)
  case atStart => exact ⟨0, by omega, rfl, Lib.hid ⟨[], [], _, _, [], [], rfl, HS0.out, by simp, by simp⟩⟩
  case round =>
    obtain ⟨k, hk, rfl, HS⟩ := hrel
    obtain ⟨xs, fs, v1, v2, css1, css2, hsf, hst, hl1, hl2⟩ := HS.out
    by_cases hlt : k < ts.length
    · rcases HTk.out with e0 | ⟨g, o, rfl, hg, hcs⟩
      · rw [e0] at hlt; simp at hlt
      obtain ⟨a, q, c1, g1, g2, g3, g4, g5⟩ := hcs k hlt
      have hbr := hst.low
      have y0 : wr.cell? ⟨g, o + k, none⟩ = some (.slice (some ⟨a, q, none⟩) (flat ts[k]).length c1) := (World.cell?_of_block (hbr.block g hg)).trans g1
      have hiv : ItemV wr ts[k] (.slice (some ⟨a, q, none⟩) (flat ts[k]).length c1) := ⟨a, q, c1, rfl, g2, g3, by have := hbr.size; omega, fun j hj => (World.cell?_of_block (hbr.block a g4)).trans (g5 j hj)⟩
      have HRr := Lib.hid (HR2.out.move (hbr.mono (show R.top ≤ w2.heap.size by have := HT.out; omega)))
      have HBc := Lib.hid (becomeQ_of R ts[k] (HK.out.1 _ (List.getElem_mem hlt)) (HK.out.2 _ (List.getElem_mem hlt)) wr _ HRr.out hiv)
      have HStep := Lib.hid (show srcF (ts.take (k + 1)) = srcS (some (xs, fs)) ts[k] from by rw [srcF_step hlt, hsf])
      have HStop := Lib.hid (fun (h : srcS (some (xs, fs)) ts[k] = none) => srcF_stop hlt (by rw [hsf]; exact h))
      generalize ts[k] = t at *
      have i0 : wr.cell? ⟨R.r, 0, none⟩ = some (.map (some R.ri)) := by rw [cell_of_row _ _ 0 _ _ _ HRr.out.blk]; rfl
      have k0 : (0 : Int) ≤ k := by omega
      have k1 : (k : Int) < ts.length := by omega
      have HSt := Lib.hid hst
      clear hst HS hbr hiv hcs g1 g2 g3 g5 hsf
      go_wp2_with fail
      refine HBc.out.mono ?_
      rintro e w3 ⟨hb3, h3⟩
      have hS3 := HSt.out.below hb3
      have HB3 := Lib.hid (HB2.out.trans (hS3.low.mono (Nat.le_of_lt hQ)))
      cases hq : becQ t with
      | none =>
        rw [hq] at h3
        have h3 : e = tlackP := h3
        subst h3
        exact ⟨rfl, HB3.out, by rw [HStop.out (by unfold srcS; rw [hq])]; rfl⟩
      | some y =>
        rw [hq] at h3
        obtain ⟨x1, x2, rfl, hA, hF⟩ := h3
        rcases becQ_shape hq with ⟨a0, rfl⟩ | ⟨f0, rfl⟩
        · obtain ⟨ga, oa, ca, rfl, hna, hca, hwa⟩ := LsA.one hA
          obtain ⟨Af, cf, rfl, _⟩ := hF
          rw [show (([a0], ([] : List FunD)) : ProD).2.length = 0 from rfl] at *
          have hbx := (Below.refl w3.heap.size w3).alloc (Nat.le_refl _) (.cells #[.slice (some ⟨ga, oa, none⟩) 1 ca, .slice Af 0 cf] 25)
          have hS4 := hS3.below hbx
          have HS4 := Lib.hid hS4
          have HN4 := Lib.hid (heap_alloc_new w3 (.cells #[.slice (some ⟨ga, oa, none⟩) 1 ca, .slice Af 0 cf] 25))
          have HB4 := Lib.hid (HB3.out.trans (hbx.mono HB3.out.size))
          obtain ⟨A1, d1, e1⟩ := ownO_slice hS4.r1.row
          obtain ⟨B2, d2, e2⟩ := ownO_slice hS4.r2.row
          have hv1lt : ∀ g, v1.ownBlock = some g → g < w3.heap.size := fun g e => (ownO_lt hS3.r1.row e).1
          subst e1 e2
          have m0 := cell_of_row _ _ 0 _ _ _ HN4.out
          have m1 := cell_of_row _ _ 1 _ _ _ HN4.out
          have l0 := cell_of_row _ _ 0 _ _ _ hS4.blk
          have l1 := cell_of_row _ _ 1 _ _ _ hS4.blk
          simp only [List.getElem?_toArray, List.getElem?_cons_zero, List.getElem?_cons_succ] at m0 m1 l0 l1
          have HQl := Lib.hid hS3.lt
          have HNa := Lib.hid (show ∀ j u, ([.string a0.1, .int .i64 a0.2] : List Value)[j]? = some u → (w3.alloc (.cells #[.slice (some ⟨ga, oa, none⟩) 1 ca, .slice Af 0 cf] 25)).cell? ((⟨ga, oa, none⟩ : Addr).add j) = some u from fun j u hj => by have h9 := hca j u hj; rw [Addr.add_lit] at h9 ⊢; exact (World.cell?_of_block (hbx.block ga hna.2.lt)).trans h9)
          have HWa := Lib.hid hwa
          have HV1 := Lib.hid hv1lt
          have fq := frozen_of_row _ _ 0 _ _ hS4.blk
          by_cases hfs : fs = []
          · subst hfs
            have HSt5 := Lib.hid (show srcF (ts.take (k + 1)) = some (xs ++ [a0], []) from HStep.out.trans (by unfold srcS; rw [hq]; simp))
            have HMl := Lib.hid (show xs.length + 1 ≤ maxLen from by unfold maxLen; omega)
            have HBy := Lib.hid (show (xs.length + 1) * 24 ≤ 140737488355328 from by omega)
            have HZ := Lib.hid (show w2.heap.size + 1 ≤ (w3.alloc (.cells #[.slice (some ⟨ga, oa, none⟩) 1 ca, .slice Af 0 cf] 25)).heap.size from by have := HQl.out; simp; omega)
            have H1 := Lib.hid (show ∀ u ∈ ([.string a0.1, .int .i64 a0.2] : List Value), u.oneCell' = true from elA_ok.one (w := w3) (S := fun _ => True) (x := a0) ⟨rfl, hwa⟩)
            clear hb3 hS3 hA hbx hS4 hna hca hwa hq hv1lt
            go_wp2_with fail
            refine (twant_yes _).mono ?_
            rintro e w5 ⟨rfl, rfl⟩
            have HBx := Lib.hid HN4.out
            go_wp2_with (at_builtin; first | (refine wpList_append_at6 rfl _ _ 22 rfl (w2.heap.size + 1) 55 ia (.agg #[.string ⟨#[]⟩, .int .i64 0]) 2 24 Tryz.underlying22 hia ha0 ha1 ha2 rfl (by decide) (.slice A1 xs.length d1) xs.length css1.flatten ?hs HS4.out.r1.row ⟨ga, oa, none⟩ 1 ca [.string a0.1, .int .i64 a0.2] ?hx rfl HNa.out H1.out HMl.out HBy.out HZ.out ?_; (case hs => rfl); (case hx => rfl); intro v' w6 hr hg hv'; obtain ⟨A3, d3, rfl⟩ := ownO_slice hr; have HS6 := Lib.hid (HS4.out.push1 rfl HWa.out hr hg (by simpa using hv')); have hq6 := (hg.block w2.heap.size HS4.out.lt (fun e => by have := (ownO_lt HS4.out.r1.row e.symm).2.1; omega)).trans HS4.out.blk; have l6 := cell_of_row _ _ 0 _ _ _ hq6; have f6 := frozen_of_row _ _ 0 _ _ hq6; have hm6 := (hg.block w3.heap.size (by simp) (fun e => by have := HV1.out _ e.symm; omega)).trans HN4.out; have HM6 := Lib.hid ((heap_set_off (o := 0) (v := (.slice A3 (xs.length + 1) d3)) (show w3.heap.size ≠ w2.heap.size from by have := HQl.out; omega)).trans hm6); have l61 := cell_of_row _ _ 1 _ _ _ HS6.out.blk; have f61 := frozen_of_row _ _ 1 _ _ HS6.out.blk; have m61 := cell_of_row _ _ 1 _ _ _ HM6.out; have HBb := Lib.hid (HB2.out.trans (HS6.out.low.mono (Nat.le_of_lt hQ))); simp only [List.getElem?_toArray, List.getElem?_cons_zero, List.getElem?_cons_succ] at l6 l61 m61; clear hr hg hv' hq6 hm6) | (refine wpList_append_none rfl _ _ 23 rfl (A := Af) (c := cf) Tryz.underlying23 hif ?hs ?hx HS6.out.r2.row ?_; (case hs => rfl); (case hx => rfl)))
            go_roundw
            case rel => exact ⟨k + 1, by omega, by go_num, Lib.hid ⟨xs ++ [a0], [], _, _, _, _, HSt5.out, HS6.out.same 1 _ rfl, by simp; omega, by simp⟩⟩
            case measure => simp [intOf]; omega
          · have HNo := Lib.hid (HStop.out (by unfold srcS; rw [hq]; simp [hfs]))
            have hne : (((fs.length : Nat) : Int) == 0) = false := by
              rw [beq_eq_false_iff_ne]
              intro h
              exact hfs (List.length_eq_zero_iff.1 (by omega))
            clear hb3 hS3 hA hbx hS4 hna hca hwa hq hv1lt hfs
            go_wp2_with fail
            refine (twant_no _).mono ?_
            rintro e w5 ⟨rfl, rfl⟩
            exact ⟨rfl, HB4.out, by rw [HNo.out]; rfl⟩
        · obtain ⟨gf, of_, cf, cs, rfl, hnf, hcf, hel⟩ := LsF.one hF
          obtain ⟨Aa, ca, rfl, _⟩ := hA
          rw [show ((([] : List ArrD), [f0]) : ProD).1.length = 0 from rfl] at *
          have hbx := (Below.refl w3.heap.size w3).alloc (Nat.le_refl _) (.cells #[.slice Aa 0 ca, .slice (some ⟨gf, of_, none⟩) 1 cf] 25)
          have hS4 := hS3.below hbx
          have HS4 := Lib.hid hS4
          have HN4 := Lib.hid (heap_alloc_new w3 (.cells #[.slice Aa 0 ca, .slice (some ⟨gf, of_, none⟩) 1 cf] 25))
          obtain ⟨A1, d1, e1⟩ := ownO_slice hS4.r1.row
          obtain ⟨B2, d2, e2⟩ := ownO_slice hS4.r2.row
          have hv2lt : ∀ g, v2.ownBlock = some g → g < wr.heap.size := fun g e => (ownO_lt HSt.out.r2.row e).1
          subst e1 e2
          have m0 := cell_of_row _ _ 0 _ _ _ HN4.out
          have m1 := cell_of_row _ _ 1 _ _ _ HN4.out
          have l0 := cell_of_row _ _ 0 _ _ _ hS4.blk
          have l1 := cell_of_row _ _ 1 _ _ _ hS4.blk
          simp only [List.getElem?_toArray, List.getElem?_cons_zero, List.getElem?_cons_succ] at m0 m1 l0 l1
          have HQl := Lib.hid HSt.out.lt
          have hw3 : wr.heap.size ≤ w3.heap.size := hb3.size
          have HS5 := Lib.hid (hS4.same 0 _ rfl)
          have hk5 : ∀ b, wr.heap.size ≤ b → b < w3.heap.size → ((w3.alloc (.cells #[.slice Aa 0 ca, .slice (some ⟨gf, of_, none⟩) 1 cf] 25)).setCell ⟨w2.heap.size, 0, none⟩ (.slice A1 xs.length d1)).heap[b]? = w3.heap[b]? := fun b h1 h2 => (heap_set_off (by have := HQl.out; omega)).trans (hbx.block b h2)
          have HNa := Lib.hid (show ∀ j u, cs[j]? = some u → ((w3.alloc (.cells #[.slice Aa 0 ca, .slice (some ⟨gf, of_, none⟩) 1 cf] 25)).setCell ⟨w2.heap.size, 0, none⟩ (.slice A1 xs.length d1)).cell? ((⟨gf, of_, none⟩ : Addr).add j) = some u from fun j u hj => by have h9 := hcf j u hj; rw [Addr.add_lit] at h9 ⊢; exact (World.cell?_of_block (hk5 gf hnf.1 hnf.2.lt)).trans h9)
          have HEl := Lib.hid (show ElF ((w3.alloc (.cells #[.slice Aa 0 ca, .slice (some ⟨gf, of_, none⟩) 1 cf] 25)).setCell ⟨w2.heap.size, 0, none⟩ (.slice A1 xs.length d1)) (RowS (w2.heap.size + 1) ((w3.alloc (.cells #[.slice Aa 0 ca, .slice (some ⟨gf, of_, none⟩) 1 cf] 25)).setCell ⟨w2.heap.size, 0, none⟩ (.slice A1 xs.length d1)) (.slice B2 fs.length d2)) f0 cs from
            elF_ok.move hel (fun b hb => ⟨by have := hb.1; have := HQl.out; omega, hb.2.move (hk5 b hb.1 hb.2.lt), fun e => by have := hv2lt b e.symm; have := hb.1; omega⟩) (fun b hb => hk5 b hb.1 hb.2.lt))
          have H1 := Lib.hid (elF_ok.one hel)
          have HCl := Lib.hid (show cs.length = 1 * 4 from elF_ok.len hel)
          have hm5 : ((w3.alloc (.cells #[.slice Aa 0 ca, .slice (some ⟨gf, of_, none⟩) 1 cf] 25)).setCell ⟨w2.heap.size, 0, none⟩ (.slice A1 xs.length d1)).heap[w3.heap.size]? = some (.cells #[.slice Aa 0 ca, .slice (some ⟨gf, of_, none⟩) 1 cf] 25) := (heap_set_off (by have := HQl.out; omega)).trans HN4.out
          have m51 := cell_of_row _ _ 1 _ _ _ hm5
          have l51 := cell_of_row _ _ 1 _ _ _ HS5.out.blk
          simp only [List.getElem?_toArray, List.getElem?_cons_zero, List.getElem?_cons_succ] at m51 l51
          have fq := frozen_of_row _ _ 0 _ _ hS4.blk
          have HSt5 := Lib.hid (show srcF (ts.take (k + 1)) = some (xs, fs ++ [f0]) from HStep.out.trans (by unfold srcS; rw [hq]; simp))
          have HMl := Lib.hid (show fs.length + 1 ≤ maxLen from by unfold maxLen; omega)
          have HBy := Lib.hid (show (fs.length + 1) * 72 ≤ 140737488355328 from by omega)
          have HZ := Lib.hid (show w2.heap.size + 1 ≤ ((w3.alloc (.cells #[.slice Aa 0 ca, .slice (some ⟨gf, of_, none⟩) 1 cf] 25)).setCell ⟨w2.heap.size, 0, none⟩ (.slice A1 xs.length d1)).heap.size from by have := HQl.out; simp; omega)
          clear hb3 hS3 hF hbx hS4 hnf hcf hel hq hv2lt hk5 hm5 hw3
          go_wp2_with fail
          refine (twant_yes _).mono ?_
          rintro e w5 ⟨rfl, rfl⟩
          go_wp2_with (at_builtin; first | (refine wpList_append_none rfl _ _ 22 rfl (A := Aa) (c := ca) Tryz.underlying22 hia ?hs ?hx HS4.out.r1.row ?_; (case hs => rfl); (case hx => rfl)) | (refine wpList_append_at6 rfl _ _ 23 rfl (w2.heap.size + 1) 48 jf (.agg #[.string ⟨#[]⟩, .bool false, .slice none 0 0, .slice none 0 0]) 4 72 Tryz.underlying23 hif hf0 hf1 hf2 rfl (by decide) (.slice B2 fs.length d2) fs.length css2.flatten ?hs HS5.out.r2.row ⟨gf, of_, none⟩ 1 cf cs ?hx HCl.out HNa.out H1.out HMl.out HBy.out HZ.out ?_; (case hs => rfl); (case hx => rfl); intro v' w6 hr hg hv'; obtain ⟨A3, d3, rfl⟩ := ownO_slice hr; have HS6 := Lib.hid (HS5.out.push2 HEl.out hr hg hv'); have hq6 := (hg.block w2.heap.size HS5.out.lt (fun e => by have := (ownO_lt HS5.out.r2.row e.symm).2.1; omega)).trans HS5.out.blk; have l6 := cell_of_row _ _ 1 _ _ _ hq6; have f6 := frozen_of_row _ _ 1 _ _ hq6; simp only [List.getElem?_toArray, List.getElem?_cons_zero, List.getElem?_cons_succ] at l6; clear hr hg hv' hq6))
          go_roundw
          case rel => exact ⟨k + 1, by omega, by go_num, Lib.hid ⟨xs, fs ++ [f0], _, _, _, _, HSt5.out, HS6.out, by omega, by simp; omega⟩⟩
          case measure => simp [intOf]; omega
    · have hkn : k = ts.length := by omega
      subst hkn
      rw [List.take_length] at hsf
      have k1 : ¬ (ts.length : Int) < ts.length := by omega
      have HSt := Lib.hid hst
      obtain ⟨A1, d1, e1⟩ := ownO_slice hst.r1.row
      obtain ⟨B2, d2, e2⟩ := ownO_slice hst.r2.row
      subst e1 e2
      have l0 := cell_of_row _ _ 0 _ _ _ hst.blk
      have l1 := cell_of_row _ _ 1 _ _ _ hst.blk
      simp only [List.getElem?_toArray, List.getElem?_cons_zero, List.getElem?_cons_succ] at l0 l1
      have HBw := Lib.hid (HB2.out.trans (hst.low.mono (Nat.le_of_lt hQ)))
      have HM := Lib.hid (mayProg_any A1 B2 xs.length d1 fs.length d2 wr)
      have HXw := Lib.hid ((hst.low.block _ hQ).trans HX2.out)
      have HSf := Lib.hid hsf
      clear hst hsf HS
      go_wp2_with fail
      refine HM.out.mono ?_
      rintro e w4 ⟨rfl, hb4⟩
      have HS4 := Lib.hid (HSt.out.below hb4)
      have HB4 := Lib.hid (HBw.out.trans (hb4.mono HBw.out.size))
      have hX4 := (hb4.block _ (Array.getElem?_eq_some_iff.1 HXw.out).1).trans HXw.out
      cases hx : progB xs.length fs.length with
      | false =>
        have HN := Lib.hid (show srcP ts = none from by unfold srcP; rw [HSf.out]; show (if progB xs.length fs.length = true then _ else _) = _; rw [if_neg (by rw [hx]; simp)])
        clear hb4 hX4 hx
        go_wp2_with fail
        refine (twant_no _).mono ?_
        rintro e w5 ⟨rfl, rfl⟩
        exact ⟨rfl, HB4.out, by rw [HN.out]; rfl⟩
      | true =>
        have HN := Lib.hid (show srcP ts = some (xs, fs) from by unfold srcP; rw [HSf.out]; show (if progB xs.length fs.length = true then _ else _) = _; rw [if_pos hx])
        have HX4 := Lib.hid hX4
        have z0 := cell_of_row _ _ 0 _ _ _ HS4.out.blk
        have z1 := cell_of_row _ _ 1 _ _ _ HS4.out.blk
        have x0 := cell_of_row _ _ 0 _ _ _ hX4
        have x1 := cell_of_row _ _ 1 _ _ _ hX4
        simp only [List.getElem?_toArray, List.getElem?_cons_zero, List.getElem?_cons_succ] at z0 z1 x0 x1
        have q0 := frozen_of_row _ _ 0 _ _ hX4
        have q1 := frozen_of_row _ _ 1 _ _ hX4
        clear hb4 hX4 hx
        go_wp2_with fail
        refine (twant_yes _).mono ?_
        rintro e w5 ⟨rfl, rfl⟩
        go_wp2
        obtain ⟨hA, hF⟩ := prog_boxed (w := w) (w1 := w) (p := 0) (x := (xs, fs)) (B := w2.heap.size + 1) (by omega) HX4.out (HS4.out.r1.lsA) (HS4.out.r2.lsF)
        refine bodyPost_ret (v := .agg #[.slice A1 xs.length d1, .slice B2 fs.length d2]) (res_cell2P (j := 4) (b := w.heap.size) rfl rfl (sfill2 HX4.out _ _)) rfl ⟨tbelow_set (tbelow_set HB4.out (Nat.le_refl _)) (Nat.le_refl _), ?_⟩
        rw [HN.out]
        exact ⟨_, _, rfl, hA, hF⟩
end Go.Proofs.YtbhdbglhejibbaaGreatDoor
namespace Go.Proofs.YtbhdbglhejibbaaGreatDoor
set_option maxRecDepth 100000
open Go.RowKit
set_option linter.unusedVariables false
theorem lackQ_idle (p q : Addr) (w : World) :
    CallsD Tryz.prog 49 #[.pointer (some p), .pointer (some q)] .returning w fun e u' w' => e = .returned (.tuple #[]) ∧ u' = .returning ∧ w' = w := by
  refine callsD_of_wpS Tryz.func49 rfl fun c₀ cs hu => ?_
  apply wpS_seq
  apply wpS_region
  simp [wpOpsS, go_sem, recoverD, hu, Tryz.ntmps49, Exit.thenS]
  refine wpS_of_wp ?_
  go_wp2
  cases c₀
  simp_all [bodyPostS, results, Tryz.results49]
theorem lackQ_mis (a b : Nat) (c : Int) (v0 : Value) (T : TypeId) (w : World) (ha : w.cell? ⟨a, 0, none⟩ = some (.int .i64 c)) (h : w.heap[b]? = some (.cells #[v0] T (0, 0))) :
    CallsD Tryz.prog 49 #[.pointer (some ⟨a, 0, none⟩), .pointer (some ⟨b, 0, none⟩)] (.panicking ({ v := tlackV, recovered := false } :: [])) w fun e u' w' =>
      e = .returned (.tuple #[]) ∧ u' = .panicking ({ v := tlackV, recovered := true } :: []) ∧ w'.heap[b]? = some (.cells #[.int .i64 c] T (0, 0)) ∧ (∀ n, n ≤ b → Below n w w') := by
  have y0 := cell_of_row w b 0 _ _ _ h
  simp only [List.getElem?_toArray, List.getElem?_cons_zero] at y0
  have yr := frozen_of_row w b 0 _ _ h
  have h' := (heap_alloc_old w (.cells #[] 86) (Array.getElem?_eq_some_iff.1 h).1).trans h
  have y0' := cell_of_row _ b 0 _ _ _ h'
  simp only [List.getElem?_toArray, List.getElem?_cons_zero] at y0'
  have yr' := frozen_of_row _ b 0 _ _ h'
  have hlt := (Array.getElem?_eq_some_iff.1 h).1
  have ha' : (w.alloc (.cells #[] 86)).cell? ⟨a, 0, none⟩ = some (.int .i64 c) := cell_belowT ha ((Below.refl _ w).alloc (Nat.le_refl _) _)
  refine callsD_of_wpS Tryz.func49 rfl fun c₀ cs hu => ?_
  apply wpS_seq
  apply wpS_region
  simp [wpOpsS, go_sem, recoverD, hu, Tryz.ntmps49, Exit.thenS]
  refine wpS_of_wp ?_
  have hta : ∀ w : World, (Instr.typeAssert (.iface 86 (.agg #[])) 20 86 true).run Tryz.prog w = .ok (.tuple #[.agg #[], .bool true]) w := fun w => by kernel_rfl
  unfold tlackV
  go_wp2
  refine ⟨rfl, .panicking [{ v := .iface 86 (.agg #[]), recovered := true }], by cases c₀; rfl, .tuple #[], ?hres, rfl, rfl, ?h1, ?h2⟩
  case hres => simp [results, Tryz.results49]
  case h1 =>
    have hs := heap_setCell_same w b 0 _ _ (.int .i64 c) h
    exact (heap_alloc_old _ _ (Array.getElem?_eq_some_iff.1 hs).1).trans hs
  case h2 => exact fun n hn => ((Below.refl n w).setCell (p := ⟨b, 0, none⟩) hn _).alloc (Nat.le_trans hn (by simp; exact Nat.le_of_lt hlt)) _
def DoQ (r : Option ProD) (w : World) (e : Ending) (w' : World) : Prop := Below w.heap.size w w' ∧ ProgP w.heap.size w' r e
def LackQP (r : Option ProD) (c : Int) (w : World) (e : Ending) (w' : World) : Prop := Below w.heap.size w w' ∧ match r with
  | none => e = .returned (.tuple #[.agg #[.slice none 0 0, .slice none 0 0], .int .i64 c])
  | some x => ∃ v1 v2, e = .returned (.tuple #[.agg #[v1, v2], .int .i64 0]) ∧ LsA w.heap.size w' x.1 v1 ∧ LsF w.heap.size w' x.2 v2
theorem res_lackQ {T : Array Value} {a b : Nat} {W : World} {v0 v1 v2 : Value} {ty tp : TypeId} (h2 : T[4]? = some (.pointer (some ⟨a, 0, none⟩))) (h3 : T[5]? = some (.pointer (some ⟨b, 0, none⟩))) (hp : W.heap[a]? = some (.cells #[v1, v2] tp (0, 0))) (hr : W.heap[b]? = some (.cells #[v0] ty (0, 0))) :
    (results Tryz.f29 T).run Tryz.prog W = .ok (.tuple #[.agg #[v1, v2], v0]) W := by
  have y0 := cell_of_row W b 0 _ _ _ hr
  have z0 := cell_of_row W a 0 _ _ _ hp
  have z1 := cell_of_row W a 1 _ _ _ hp
  simp only [List.getElem?_toArray, List.getElem?_cons_zero, List.getElem?_cons_succ] at y0 z0 z1
  simp [results, Tryz.results29, go_sem, h2, h3, y0, z0, z1]
theorem door_lackQ {P : Program} {fn : Func} {R : Ending → World → Prop} {w : World} {a b : Nat} {T : Array Value} (h : Leaves P fn T R [{ target := Target.fn (Fn.func 49) #[.pointer (some ⟨a, 0, none⟩), .pointer (some ⟨b, 0, none⟩)], args := #[] }] (.panicking [{ v := tlackV, recovered := false }]) w) :
    bodyPostD P fn R (.panic [{ v := tlackV, recovered := false }]) { tmps := T, defers := [{ target := Target.fn (Fn.func 49) #[.pointer (some ⟨a, 0, none⟩), .pointer (some ⟨b, 0, none⟩)], args := #[] }] } w := h
/-- the three boxes of a reading that may lack -/
def boxW (w : World) (c : Int) : World := ((w.alloc (.cells #[.int .i64 c] 28)).alloc (.cells #[.slice none 0 0, .slice none 0 0] 25)).alloc (.cells #[.int .i64 0] 28)
theorem boxW_all (w : World) (c : Int) : Below w.heap.size w (boxW w c) ∧ (boxW w c).heap.size = w.heap.size + 1 + 1 + 1 ∧ (boxW w c).heap[w.heap.size]? = some (.cells #[.int .i64 c] 28 (0, 0)) ∧ (boxW w c).heap[w.heap.size + 1]? = some (.cells #[.slice none 0 0, .slice none 0 0] 25 (0, 0)) ∧ (boxW w c).heap[w.heap.size + 1 + 1]? = some (.cells #[.int .i64 0] 28 (0, 0)) := by
  have hb := (((Below.refl w.heap.size w).alloc (Nat.le_refl _) (.cells #[.int .i64 c] 28)).alloc (by simp) (.cells #[.slice none 0 0, .slice none 0 0] 25)).alloc (by simp; omega) (.cells #[.int .i64 0] 28)
  obtain ⟨h1, h2, _, hsz⟩ := two_new w (.cells #[.int .i64 c] 28) (.cells #[.slice none 0 0, .slice none 0 0] 25)
  have h3 := heap_alloc_new ((w.alloc (.cells #[.int .i64 c] 28)).alloc (.cells #[.slice none 0 0, .slice none 0 0] 25)) (.cells #[.int .i64 0] 28)
  rw [show ((w.alloc (.cells #[.int .i64 c] 28)).alloc (.cells #[.slice none 0 0, .slice none 0 0] 25)).heap.size = w.heap.size + 1 + 1 by simp] at h3
  exact ⟨hb, by unfold boxW; simp, (heap_alloc_old _ _ (Array.getElem?_eq_some_iff.1 h1).1).trans h1, (heap_alloc_old _ _ (Array.getElem?_eq_some_iff.1 h2).1).trans h2, h3⟩
set_option maxHeartbeats 2000000 in
theorem lackingQ_any (p0 : Value) (c : Int) (r : Option ProD) (w : World) (hC : Calls Tryz.prog 30 #[p0] (boxW w c) (DoQ r (boxW w c))) :
    Calls Tryz.prog 29 #[.int .i64 c, .func (.func 30) #[] #[p0]] w (LackQP r c w) := by
  have hmf : ∀ (fn : Fn) (first cap : Array Value) (w : World), (Instr.makeFunc fn first cap).run Tryz.prog w = .ok (.func fn first cap) w := fun _ _ _ _ => rfl
  obtain ⟨hb, hsz, hx1, hx2, hx3⟩ := boxW_all w c
  have HB := Lib.hid hb
  have HX1 := Lib.hid hx1
  have HX2 := Lib.hid hx2
  have HX := Lib.hid hx3
  have HC := Lib.hid hC
  have HSz := Lib.hid hsz
  clear hC hb hx1 hx2 hx3 hsz
  unfold boxW at HC HB HX HX1 HX2 HSz
  go_enter_defers Tryz.func29, Tryz.ntmps29
  go_wp2_with fail
  generalize (((w.alloc (.cells #[.int .i64 c] 28)).alloc (.cells #[.slice none 0 0, .slice none 0 0] 25)).alloc (.cells #[.int .i64 0] 28)) = W at *
  refine HC.out.mono ?_
  intro e w1 h1
  obtain ⟨hb, h1⟩ := h1
  have HB1 := Lib.hid (HB.out.trans (hb.mono HB.out.size))
  have HY := Lib.hid ((hb.block _ (Array.getElem?_eq_some_iff.1 HX.out).1).trans HX.out)
  have HY2 := Lib.hid ((hb.block _ (Array.getElem?_eq_some_iff.1 HX2.out).1).trans HX2.out)
  have hy1 := (hb.block _ (Array.getElem?_eq_some_iff.1 HX1.out).1).trans HX1.out
  have x1 := cell_of_row w1 w.heap.size 0 _ _ _ hy1
  simp only [List.getElem?_toArray, List.getElem?_cons_zero] at x1
  clear hb
  cases r with
  | none =>
    have h1 : e = tlackP := h1
    subst h1
    refine door_lackQ ?_
    refine leaves_cons (f := 49) (args := #[.pointer (some ⟨w.heap.size, 0, none⟩), .pointer (some ⟨w.heap.size + 1 + 1, 0, none⟩)]) (by simp) (by simp [go_sem]) ?_
    refine (lackQ_mis w.heap.size (w.heap.size + 1 + 1) c _ _ _ x1 HY.out).mono ?_
    rintro e u' w2 ⟨rfl, rfl, h1, h2⟩
    exact ⟨_, res_lackQ (a := w.heap.size + 1) (b := w.heap.size + 1 + 1) rfl rfl (((h2 (w.heap.size + 1 + 1) (by omega)).block _ (by omega)).trans HY2.out) h1, HB1.out.trans (h2 _ (by omega)), rfl⟩
  | some x =>
    obtain ⟨v1, v2, rfl, hA, hF⟩ := h1
    obtain ⟨A1, c1, rfl, q1⟩ := hA
    obtain ⟨A2, c2, rfl, q2⟩ := hF
    have HA := Lib.hid (show LsA W.heap.size w1 x.1 (.slice A1 x.1.length c1) ∧ LsF W.heap.size w1 x.2 (.slice A2 x.2.length c2) from ⟨⟨A1, c1, rfl, q1⟩, ⟨A2, c2, rfl, q2⟩⟩)
    clear q1 q2 x1 hy1
    have y0 := cell_of_row w1 (w.heap.size + 1 + 1) 0 _ _ _ HY.out
    have z0 := cell_of_row w1 (w.heap.size + 1) 0 _ _ _ HY2.out
    have z1 := cell_of_row w1 (w.heap.size + 1) 1 _ _ _ HY2.out
    simp only [List.getElem?_toArray, List.getElem?_cons_zero, List.getElem?_cons_succ] at y0 z0 z1
    have yr := frozen_of_row w1 (w.heap.size + 1 + 1) 0 _ _ HY.out
    have zr := frozen_of_row w1 (w.heap.size + 1) 0 _ _ HY2.out
    have zs := frozen_of_row w1 (w.heap.size + 1) 1 _ _ HY2.out
    go_wp2
    refine leaves_cons (f := 49) (args := #[.pointer (some ⟨w.heap.size, 0, none⟩), .pointer (some ⟨w.heap.size + 1 + 1, 0, none⟩)]) (by simp) (by simp [go_sem]) ?_
    refine (lackQ_idle ⟨w.heap.size, 0, none⟩ ⟨w.heap.size + 1 + 1, 0, none⟩ _).mono ?_
    rintro e u' w4 ⟨rfl, rfl, rfl⟩
    have hz := HSz.out
    have hS2 := sfill2 HY2.out (.slice A1 x.1.length c1) (.slice A2 x.2.length c2)
    have hS3 : ((w1.setCell ⟨w.heap.size + 1, 0, none⟩ (.slice A1 x.1.length c1)).setCell ⟨w.heap.size + 1, 1, none⟩ (.slice A2 x.2.length c2)).heap[w.heap.size + 1 + 1]? = some (.cells #[.int .i64 0] 28 (0, 0)) := (sfill2_off (by omega) _ _).trans HY.out
    have hk : ∀ b, w.heap.size + 1 + 1 + 1 ≤ b → (((w1.setCell ⟨w.heap.size + 1, 0, none⟩ (.slice A1 x.1.length c1)).setCell ⟨w.heap.size + 1, 1, none⟩ (.slice A2 x.2.length c2)).setCell ⟨w.heap.size + 1 + 1, 0, none⟩ (.int .i64 0)).heap[b]? = w1.heap[b]? := fun b hb => (heap_set_off (by omega)).trans (sfill2_off (by omega) _ _)
    refine ⟨_, res_lackQ (a := w.heap.size + 1) (b := w.heap.size + 1 + 1) rfl rfl ((heap_set_off (by omega)).trans hS2) (heap_setCell_same _ _ _ _ _ _ hS3), tbelow_set (tbelow_set (tbelow_set HB1.out (by omega)) (by omega)) (by omega), ?_⟩
    exact ⟨_, _, rfl, HA.out.1.move (by omega) (fun b hb _ => hk b (by omega)), HA.out.2.move (by omega) (fun b hb _ => hk b (by omega))⟩
end Go.Proofs.YtbhdbglhejibbaaGreatDoor
namespace Go.Proofs.YtbhdbglhejibbaaGreatDoor
set_option maxRecDepth 100000
open Go.RowKit
set_option linter.unusedVariables false
def NewRd (w : World) (e : Ending) (w' : World) : Prop := ∃ R : RdC, e = .returned (.pointer (some ⟨R.r, 0, none⟩)) ∧ RdIs R w' ∧ Below w.heap.size w w'
theorem res_cell2D {fn : Func} {T : Array Value} {j b : Nat} {W : World} {v0 v1 : Value} {ty : TypeId} (hf : fn.results = #[.cell j 25]) (h2 : T[j]? = some (.pointer (some ⟨b, 0, none⟩))) (hr : W.heap[b]? = some (.cells #[v0, v1] ty (0, 0))) :
    (results fn T).run Tryz.prog W = .ok (.agg #[v0, v1]) W := res_cell2P hf h2 hr
set_option maxHeartbeats 4000000 in
theorem parseDo_any (hN : ∀ w, TrT w → LxT w → Calls Tryz.prog 31 #[] w (NewRd w)) (ts : List TokD) (hok : ToksOk ts) (hB : ∀ t ∈ ts, TokB t) (hdp : tdeps ts ≤ 24) (hln : ts.length ≤ 100000) (A : Option Addr) (n c g : Nat) (T : TypeId) (w : World) (hT : TrT w) (hL : LxT w) (hn : (flats ts).length = n) (hnc : n ≤ c) (hn1 : n ≤ 1000000) (hcx : c ≤ 9223372036854775807) (hW : WdAt w A (flats ts)) (hg : w.heap[g]? = some (.cells #[.slice A n c] T (0, 0))) :
    Calls Tryz.prog 30 #[.pointer (some ⟨g, 0, none⟩)] w (DoQ (srcP ts) w) := by
  have hcf : ∀ (args : Array Value) (w : World), (callFunc 31 args).run Tryz.prog w = .ok (.enter 31 args) w := fun args w => by kernel_rfl
  have hcs : ∀ (args : Array Value) (w : World), (callFunc 32 args).run Tryz.prog w = .ok (.enter 32 args) w := fun args w => by kernel_rfl
  have hb := (Below.refl w.heap.size w).alloc (Nat.le_refl _) (.cells #[.slice none 0 0, .slice none 0 0] 25)
  have h0 := heap_alloc_new w (.cells #[.slice none 0 0, .slice none 0 0] 25)
  have hbd := hb.drew
  have HNr := Lib.hid (hN _ (hT.below hbd) (hL.below hbd))
  have hx0 : w.cell? ⟨g, 0, none⟩ = some (.slice A n c) := by rw [cell_of_row w g 0 _ _ _ hg]; rfl
  have HX0 := Lib.hid hx0
  have x0 : (w.alloc (.cells #[.slice none 0 0, .slice none 0 0] 25)).drew.cell? ⟨g, 0, none⟩ = some (.slice A n c) := cell_belowT hx0 hbd
  have HBd := Lib.hid hbd
  have H0 := Lib.hid (show (w.alloc (.cells #[.slice none 0 0, .slice none 0 0] 25)).drew.heap[w.heap.size]? = some (.cells #[.slice none 0 0, .slice none 0 0] 25 (0, 0)) from h0)
  have HS := Lib.hid (fun (R : RdC) (w2 : World) (h1 : RdIs R w2) (h2 : Below w.heap.size w w2) => rsource_any R ts hok hB hdp hln A n c w2 h1 hn hnc hn1 hcx (by
    rcases hW with h | ⟨b, o, e, h⟩
    · exact .inl h
    · exact .inr ⟨b, o, e, fun k hk => cell_belowT (h k hk) h2⟩))
  clear hT hL hb h0 hbd hx0 hW hok hB
  cases hr : srcP ts with
  | none =>
    rw [hr] at HS
    clear hr
    go_enter Tryz.func30, Tryz.ntmps30
    go_wp2
    go_region_law (first
      | (refine step_call6 rfl 31 _ _ rfl #[] ?hv hcf HNr.out ?_; (case hv => simp [go_sem]); intro e w2 h; obtain ⟨R, rfl, h1, h2⟩ := h; have hb2 := HBd.out.trans (h2.mono HBd.out.size); have HSr := Lib.hid (HS.out R w2 h1 hb2); have HB2 := Lib.hid hb2; have y0 : w2.cell? ⟨g, 0, none⟩ = some (.slice A n c) := cell_belowT HX0.out hb2; refine ⟨_, rfl, ?_⟩; clear h1 h2 hb2)
      | (refine quit_goal (P := Tryz.prog) ?_ ?_; (refine step_call8 rfl 32 _ _ rfl #[.pointer (some ⟨_, 0, none⟩), .slice A n c] ?hv hcs HSr.out ?_; (case hv => simp [go_sem]); intro e w3 h; exact .inr ⟨_, h.2, And.intro rfl (And.intro (HB2.out.trans (h.1.mono HB2.out.size)) rfl)⟩)))
    all_goals trivial
  | some x =>
    rw [hr] at HS
    clear hr
    go_enter Tryz.func30, Tryz.ntmps30
    go_wp2
    go_region_law (first
      | (refine step_call6 rfl 31 _ _ rfl #[] ?hv hcf HNr.out ?_; (case hv => simp [go_sem]); intro e w2 h; obtain ⟨R, rfl, h1, h2⟩ := h; have hb2 := HBd.out.trans (h2.mono HBd.out.size); have HSr := Lib.hid (HS.out R w2 h1 hb2); have HB2 := Lib.hid hb2; have HX2 := Lib.hid ((h2.block _ (Array.getElem?_eq_some_iff.1 H0.out).1).trans H0.out); have y0 : w2.cell? ⟨g, 0, none⟩ = some (.slice A n c) := cell_belowT HX0.out hb2; refine ⟨_, rfl, ?_⟩; clear h1 h2 hb2)
      | (refine step_call6 rfl 32 _ _ rfl #[.pointer (some ⟨_, 0, none⟩), .slice A n c] ?hv hcs HSr.out ?_; (case hv => simp [go_sem]); intro e w3 h; obtain ⟨hb3, v1, v2, rfl, hA, hF⟩ := h; obtain ⟨A1, c1, rfl, q1⟩ := hA; obtain ⟨A2, c2, rfl, q2⟩ := hF; have hx3 := (hb3.block _ (Array.getElem?_eq_some_iff.1 HX2.out).1).trans HX2.out; have HX3 := Lib.hid hx3; have HB3 := Lib.hid (HB2.out.trans (hb3.mono HB2.out.size)); have HA := Lib.hid (prog_boxed (w := w) (w1 := w) (p := 0) (x := x) (B := w2.heap.size) (Array.getElem?_eq_some_iff.1 HX2.out).1 hx3 (show LsA w2.heap.size w3 x.1 (.slice A1 x.1.length c1) from ⟨A1, c1, rfl, q1⟩) (show LsF w2.heap.size w3 x.2 (.slice A2 x.2.length c2) from ⟨A2, c2, rfl, q2⟩)); have z0 := cell_of_row _ _ 0 _ _ _ hx3; have z1 := cell_of_row _ _ 1 _ _ _ hx3; simp only [List.getElem?_toArray, List.getElem?_cons_zero, List.getElem?_cons_succ] at z0 z1; have f0 := frozen_of_row _ _ 0 _ _ hx3; have f1 := frozen_of_row _ _ 1 _ _ hx3; refine ⟨_, rfl, ?_⟩; clear hb3 hx3 q1 q2))
    all_goals
      go_wp2
      refine bodyPost_ret (v := .agg #[.slice A1 x.1.length c1, .slice A2 x.2.length c2]) (res_cell2P (j := 1) (b := w.heap.size) rfl rfl (sfill2 HX3.out _ _)) rfl ⟨tbelow_set (tbelow_set HB3.out (Nat.le_refl _)) (Nat.le_refl _), ?_⟩
      exact ⟨_, _, rfl, HA.out.1, HA.out.2⟩
end Go.Proofs.YtbhdbglhejibbaaGreatDoor
namespace Go.Proofs.YtbhdbglhejibbaaGreatDoor
set_option maxRecDepth 100000
open Go.RowKit
set_option linter.unusedVariables false
def massW (ws : List ByteArray) : Nat := (ws.map ByteArray.size).sum
theorem massW_app (a b : List ByteArray) : massW (a ++ b) = massW a + massW b := by unfold massW; rw [List.map_append, List.sum_append]
theorem split_mass (sep : ByteArray) : ∀ (k : Nat) (s : ByteArray), massW (Lib.splitB sep 0 k s) ≤ s.size
  | 0, s => by unfold Lib.splitB massW; simp
  | k + 1, s => by
    unfold Lib.splitB
    split
    · unfold massW; simp
    · have ih := split_mass sep k (s.extract ((Lib.indexB s sep).toNat + sep.size) s.size)
      have e : ∀ (x : ByteArray) (l : List ByteArray), massW (x :: l) = x.size + massW l := fun x l => by unfold massW; rw [List.map_cons, List.sum_cons]
      rw [e]
      rw [ByteArray.size_extract] at ih ⊢
      omega
theorem putW_mass (ws : List ByteArray) (cur : List UInt8) (h : ∀ x ∈ ws, 1 ≤ x.size) : massW (putW ws cur) = massW ws + cur.length ∧ ∀ x ∈ putW ws cur, 1 ≤ x.size := by
  unfold putW
  split
  · next e => subst e; exact ⟨by simp, h⟩
  · next e =>
    refine ⟨by rw [massW_app]; unfold massW; simp [ByteArray.size], fun x hx => ?_⟩
    rcases List.mem_append.1 hx with hx | hx
    · exact h x hx
    · simp only [List.mem_singleton] at hx
      subst hx
      have : cur.length ≠ 0 := fun e' => e (List.length_eq_zero_iff.1 e')
      show 1 ≤ cur.toArray.size
      simp
      omega
theorem lineP_mass : ∀ (l cur : List UInt8) (ws ws' : List ByteArray), lineP l cur ws = some ws' → (∀ x ∈ ws, 1 ≤ x.size) → massW ws' ≤ massW ws + cur.length + l.length ∧ ∀ x ∈ ws', 1 ≤ x.size
  | [], cur, ws, ws', h, hw => by
    unfold lineP at h
    cases h
    have := putW_mass ws cur hw
    exact ⟨by rw [this.1]; simp, this.2⟩
  | c :: l, cur, ws, ws', h, hw => by
    unfold lineP at h
    have hp := putW_mass ws cur hw
    split at h
    · cases h
    · split at h
      · have := lineP_mass l (cur ++ [c]) ws ws' h hw
        simp only [List.length_append, List.length_cons, List.length_nil] at this ⊢
        exact ⟨by omega, this.2⟩
      · split at h
        · cases h
          exact ⟨by rw [hp.1]; simp only [List.length_cons]; omega, hp.2⟩
        · split at h
          · have := lineP_mass l [] (putW ws cur ++ [⟨#[c]⟩]) ws' h (fun x hx => by
              rcases List.mem_append.1 hx with hx | hx
              · exact hp.2 x hx
              · simp only [List.mem_singleton] at hx
                subst hx
                exact Nat.le_refl _)
            rw [massW_app, hp.1, show massW [⟨#[c]⟩] = 1 from rfl] at this
            simp only [List.length_cons, List.length_nil] at this ⊢
            exact ⟨by omega, this.2⟩
          · have := lineP_mass l [] (putW ws cur) ws' h hp.2
            rw [hp.1] at this
            simp only [List.length_cons, List.length_nil] at this ⊢
            exact ⟨by omega, this.2⟩
theorem linesP_mass : ∀ (l ws ws' : List ByteArray), linesP l ws = some ws' → (∀ x ∈ ws, 1 ≤ x.size) → massW ws' ≤ massW ws + massW l ∧ ∀ x ∈ ws', 1 ≤ x.size
  | [], ws, ws', h, hw => by
    unfold linesP at h
    cases h
    exact ⟨by omega, hw⟩
  | x :: r, ws, ws', h, hw => by
    unfold linesP at h
    cases hl : lineP x.data.toList [] ws with
    | none => rw [hl] at h; cases h
    | some w2 =>
      rw [hl] at h
      have h1 := lineP_mass _ _ _ _ hl hw
      have h2 := linesP_mass r w2 ws' h h1.2
      have e : massW (x :: r) = x.size + massW r := by unfold massW; rw [List.map_cons, List.sum_cons]
      have e2 : x.data.toList.length = x.size := Array.length_toList
      rw [e2] at h1
      simp only [List.length_nil] at h1
      exact ⟨by omega, h2.2⟩
theorem massW_ge : ∀ {ws : List ByteArray}, (∀ x ∈ ws, 1 ≤ x.size) → ws.length ≤ massW ws ∧ ∀ x ∈ ws, x.size ≤ massW ws
  | [], h => ⟨Nat.zero_le _, fun x hx => by cases hx⟩
  | x :: r, h => by
    have ih := massW_ge (ws := r) fun y hy => h y (by simp [hy])
    have e : massW (x :: r) = x.size + massW r := by unfold massW; rw [List.map_cons, List.sum_cons]
    have hx := h x (by simp)
    refine ⟨by rw [e]; simp; omega, fun y hy => ?_⟩
    rcases List.mem_cons.1 hy with rfl | hy
    · omega
    · have := ih.2 y hy; omega
/-- a source's words: none is longer than it, and there are no more than it has bytes -/
theorem words_small {s : ByteArray} {ws : List ByteArray} (h : wordsP s = some ws) : ws.length ≤ s.size ∧ ∀ x ∈ ws, x.size ≤ s.size := by
  have h1 := linesP_mass _ _ _ h (by simp)
  have h2 := split_mass ⟨#[10]⟩ (Lib.countB s ⟨#[10]⟩) s
  have h3 := massW_ge h1.2
  have e : massW [] = 0 := rfl
  have h4 : massW ws ≤ s.size := by unfold linesOf at h1; omega
  exact ⟨Nat.le_trans h3.1 h4, fun x hx => Nat.le_trans (h3.2 x hx) h4⟩
/-- the trees of a source's words are as Parse asks -/
theorem toks_small {s : ByteArray} {ts : List TokD} (hs : s.size ≤ 20000) (h : wordsV s = some (flats ts)) (hok : ToksOk ts) : (∀ t ∈ ts, TokB t) ∧ tdeps ts ≤ 24 ∧ ts.length ≤ 100000 ∧ (flats ts).length ≤ 1000000 := by
  unfold wordsV at h
  cases hw : wordsP s with
  | none => rw [hw] at h; cases h
  | some ws =>
    rw [hw] at h
    simp only at h
    split at h
    · next hn =>
      cases h
      have hsm := words_small hw
      have hd := (nst_deps hok).1 hn
      have hmem : ∀ t ∈ ts, tdep t ≤ tdeps ts := fun t ht => tdep_mem ht
      refine ⟨fun t ht => ?_, hd, ?_, by omega⟩
      · have := flat_mem ht
        exact ⟨by omega, fun x hx => by have := hsm.2 x (this.2 x hx); omega, by have := hmem t ht; omega⟩
      · have := flats_len ts
        omega
    · cases h
end Go.Proofs.YtbhdbglhejibbaaGreatDoor
namespace Go.Proofs.YtbhdbglhejibbaaGreatDoor
set_option maxRecDepth 100000
open Go.RowKit
set_option linter.unusedVariables false
theorem words_big (s : ByteArray) (hs : 20000 < s.size) (w : World) : Calls Tryz.prog 28 #[.string s] w fun e w' => e = .returned (.tuple #[.slice none 0 0, .int .i64 4]) ∧ w = w' := by
  have hs' : (s.size : Int) > 20000 := by omega
  go_enter Tryz.func28, Tryz.ntmps28
  go_wp2
  go_ret2
  exact ⟨rfl, rfl⟩
/-- what a source's text is read as -/
def ParsR (s : ByteArray) (r : Option ProD) : Prop := (wordsV s = none ∧ r = none) ∨ ∃ ts, ToksOk ts ∧ wordsV s = some (flats ts) ∧ r = srcP ts
def ParseE (s : ByteArray) (w : World) (e : Ending) (w' : World) : Prop := if 20000 < s.size then LackQP none 4 w e w' else ∃ r, ParsR s r ∧ LackQP r 3 w e w'
theorem res_parse {T : Array Value} {b : Nat} {W : World} {v0 v1 v2 : Value} {ty : TypeId} (h2 : T[2]? = some (.pointer (some ⟨b, 0, none⟩))) (h3 : T[3]? = some v0) (hr : W.heap[b]? = some (.cells #[v1, v2] ty (0, 0))) :
    (results Tryz.f13 T).run Tryz.prog W = .ok (.tuple #[.agg #[v1, v2], v0]) W := by
  have z0 := cell_of_row W b 0 _ _ _ hr
  have z1 := cell_of_row W b 1 _ _ _ hr
  simp only [List.getElem?_toArray, List.getElem?_cons_zero, List.getElem?_cons_succ] at z0 z1
  simp [results, Tryz.results13, go_sem, h2, h3, z0, z1]
set_option maxHeartbeats 4000000 in
theorem tparse_bad (s : ByteArray) (k : Int) (w : World) (hk : k ≠ 0) (hC : Calls Tryz.prog 28 #[.string s] (w.alloc (.cells #[.slice none 0 0, .slice none 0 0] 25)) fun e w' => Below (w.alloc (.cells #[.slice none 0 0, .slice none 0 0] 25)).heap.size (w.alloc (.cells #[.slice none 0 0, .slice none 0 0] 25)) w' ∧ e = .returned (.tuple #[.slice none 0 0, .int .i64 k])) :
    Calls Tryz.prog 13 #[.string s] w (LackQP none k w) := by
  have hb := (Below.refl w.heap.size w).alloc (Nat.le_refl _) (.cells #[.slice none 0 0, .slice none 0 0] 25)
  have h0 := heap_alloc_new w (.cells #[.slice none 0 0, .slice none 0 0] 25)
  have HB := Lib.hid hb
  have HX := Lib.hid h0
  have HC := Lib.hid hC
  clear hb h0 hC
  go_enter Tryz.func13, Tryz.ntmps13
  go_wp2_with fail
  generalize (w.alloc (.cells #[.slice none 0 0, .slice none 0 0] 25)) = W at *
  refine HC.out.mono ?_
  rintro e w2 ⟨hb, rfl⟩
  have hx2 := (hb.block _ (Array.getElem?_eq_some_iff.1 HX.out).1).trans HX.out
  have hba := (Below.refl w2.heap.size w2).alloc (Nat.le_refl _) (.cells #[.slice none 0 0] 38)
  have hx3 := (hba.block _ (Array.getElem?_eq_some_iff.1 hx2).1).trans hx2
  have HB3 := Lib.hid ((HB.out.trans (hb.mono HB.out.size)).trans (hba.mono (HB.out.trans (hb.mono HB.out.size)).size))
  have HX3 := Lib.hid hx3
  have z0 := cell_of_row _ _ 0 _ _ _ hx3
  have z1 := cell_of_row _ _ 1 _ _ _ hx3
  simp only [List.getElem?_toArray, List.getElem?_cons_zero, List.getElem?_cons_succ] at z0 z1
  have f0 := frozen_of_row _ _ 0 _ _ hx3
  have f1 := frozen_of_row _ _ 1 _ _ hx3
  clear hb hx2 hba hx3
  go_wp2
  refine bodyPost_ret (v := .tuple #[.agg #[.slice none 0 0, .slice none 0 0], .int .i64 k]) (res_parse (b := w.heap.size) rfl rfl (sfill2 HX3.out _ _)) rfl ⟨tbelow_set (tbelow_set HB3.out (Nat.le_refl _)) (Nat.le_refl _), rfl⟩
set_option maxHeartbeats 4000000 in
theorem tparse_good (hN : ∀ w, TrT w → LxT w → Calls Tryz.prog 31 #[] w (NewRd w)) (s : ByteArray) (ts : List TokD) (hs : s.size ≤ 20000) (hok : ToksOk ts) (hw : wordsV s = some (flats ts)) (w : World) (hT : TrT w) (hL : LxT w) :
    Calls Tryz.prog 13 #[.string s] w (LackQP (srcP ts) 3 w) := by
  have hmf : ∀ (fn : Fn) (first cap : Array Value) (w : World), (Instr.makeFunc fn first cap).run Tryz.prog w = .ok (.func fn first cap) w := fun _ _ _ _ => rfl
  have hb := (Below.refl w.heap.size w).alloc (Nat.le_refl _) (.cells #[.slice none 0 0, .slice none 0 0] 25)
  have h0 := heap_alloc_new w (.cells #[.slice none 0 0, .slice none 0 0] 25)
  have hsz : (w.alloc (.cells #[.slice none 0 0, .slice none 0 0] 25)).heap.size = w.heap.size + 1 := by simp
  have HC := Lib.hid (words_any s hs _ (hL.below hb))
  have HSm := Lib.hid (toks_small hs hw hok)
  have HB := Lib.hid hb
  have HX := Lib.hid h0
  have HTL := Lib.hid (And.intro hT hL)
  have HW := Lib.hid hw
  have HOk := Lib.hid hok
  have HN := Lib.hid hN
  clear hb h0 hT hL hw hok hN
  go_enter Tryz.func13, Tryz.ntmps13
  go_wp2_with fail
  generalize (w.alloc (.cells #[.slice none 0 0, .slice none 0 0] 25)) = W at *
  refine HC.out.mono ?_
  rintro e w2 ⟨hb, hx⟩
  rcases hx with ⟨hx, _⟩ | ⟨ws, A, c, hx, hl, rfl, ho⟩
  · rw [HW.out] at hx; cases hx
  rw [HW.out] at hx
  cases hx
  have hwd := ho.wd
  have hc : (flats ts).length ≤ c ∧ c ≤ 9223372036854775807 := by
    rcases ho.2 with ⟨e, h0⟩ | ⟨g, cap, cur, e, _, _, h1, h2, _⟩
    · simp only [Value.slice.injEq] at e
      omega
    · simp only [Value.slice.injEq] at e
      unfold maxLen at h2
      omega
  have hx2 := (hb.block _ (Array.getElem?_eq_some_iff.1 HX.out).1).trans HX.out
  have hba := (Below.refl w2.heap.size w2).alloc (Nat.le_refl _) (.cells #[.slice A (flats ts).length c] 38)
  have hx3 := (hba.block _ (Array.getElem?_eq_some_iff.1 hx2).1).trans hx2
  have hB3 := (HB.out.trans (hb.mono HB.out.size)).trans (hba.mono (HB.out.trans (hb.mono HB.out.size)).size)
  have hbox := boxW_all (w2.alloc (.cells #[.slice A (flats ts).length c] 38)) 3
  have hB4 := hB3.trans (hbox.1.mono hB3.size)
  have hg := (hbox.1.block _ (by simp)).trans (heap_alloc_new w2 (.cells #[.slice A (flats ts).length c] 38))
  have hwd4 : WdAt (boxW (w2.alloc (.cells #[.slice A (flats ts).length c] 38)) 3) A (flats ts) := by
    rcases hwd with h | ⟨b, o, e, h⟩
    · exact .inl h
    · exact .inr ⟨b, o, e, fun k hk => cell_belowT (cell_belowT (h k hk) hba) hbox.1⟩
  have HLk := Lib.hid (lackingQ_any (.pointer (some ⟨w2.heap.size, 0, none⟩)) 3 (srcP ts) (w2.alloc (.cells #[.slice A (flats ts).length c] 38))
    (parseDo_any HN.out ts HOk.out HSm.out.1 HSm.out.2.1 HSm.out.2.2.1 A (flats ts).length c w2.heap.size 38 _ (HTL.out.1.below hB4) (HTL.out.2.below hB4) rfl hc.1 HSm.out.2.2.2 hc.2 hwd4 hg))
  have HB3 := Lib.hid hB3
  have HX3 := Lib.hid hx3
  have hlt : w.heap.size < w2.heap.size := (Array.getElem?_eq_some_iff.1 hx2).1
  clear hb hx2 hba hx3 hB3 hB4 hbox hg hwd hwd4 ho hc
  go_wp2_with fail
  refine HLk.out.mono ?_
  rintro e w4 ⟨hb4, h4⟩
  have hx4 := (hb4.block _ (Array.getElem?_eq_some_iff.1 HX3.out).1).trans HX3.out
  have HB4 := Lib.hid (HB3.out.trans (hb4.mono HB3.out.size))
  have HX4 := Lib.hid hx4
  have z0 := cell_of_row _ _ 0 _ _ _ hx4
  have z1 := cell_of_row _ _ 1 _ _ _ hx4
  simp only [List.getElem?_toArray, List.getElem?_cons_zero, List.getElem?_cons_succ] at z0 z1
  have f0 := frozen_of_row _ _ 0 _ _ hx4
  have f1 := frozen_of_row _ _ 1 _ _ hx4
  cases hr : srcP ts with
  | none =>
    rw [hr] at h4
    have h4 : e = .returned (.tuple #[.agg #[.slice none 0 0, .slice none 0 0], .int .i64 3]) := h4
    subst h4
    have HRr := Lib.hid hr
    clear hb4 hx4 hr
    go_wp2
    refine bodyPost_ret (v := .tuple #[.agg #[.slice none 0 0, .slice none 0 0], .int .i64 3]) (res_parse (b := w.heap.size) rfl rfl (sfill2 HX4.out _ _)) rfl ⟨tbelow_set (tbelow_set HB4.out (Nat.le_refl _)) (Nat.le_refl _), by rw [HRr.out]⟩
  | some x =>
    rw [hr] at h4
    obtain ⟨v1, v2, rfl, hA, hF⟩ := h4
    obtain ⟨A1, c1, rfl, q1⟩ := hA
    obtain ⟨A2, c2, rfl, q2⟩ := hF
    have HA := Lib.hid (prog_boxed (w := w) (w1 := w) (p := 0) (x := x) (by simp; omega) hx4 (show LsA (w2.alloc (.cells #[.slice A (flats ts).length c] 38)).heap.size w4 x.1 (.slice A1 x.1.length c1) from ⟨A1, c1, rfl, q1⟩) (show LsF (w2.alloc (.cells #[.slice A (flats ts).length c] 38)).heap.size w4 x.2 (.slice A2 x.2.length c2) from ⟨A2, c2, rfl, q2⟩))
    have HRr := Lib.hid hr
    clear hb4 hx4 hr q1 q2
    go_wp2
    refine bodyPost_ret (v := .tuple #[.agg #[.slice A1 x.1.length c1, .slice A2 x.2.length c2], .int .i64 0]) (res_parse (b := w.heap.size) rfl rfl (sfill2 HX4.out _ _)) rfl ⟨tbelow_set (tbelow_set HB4.out (Nat.le_refl _)) (Nat.le_refl _), ?_⟩
    rw [HRr.out]
    exact ⟨_, _, rfl, HA.out.1, HA.out.2⟩
theorem tparse_any (hN : ∀ w, TrT w → LxT w → Calls Tryz.prog 31 #[] w (NewRd w)) (s : ByteArray) (w : World) (hT : TrT w) (hL : LxT w) :
    Calls Tryz.prog 13 #[.string s] w (ParseE s w) := by
  by_cases hs : 20000 < s.size
  · refine (tparse_bad s 4 w (by decide) ((words_big s hs _).mono ?_)).mono ?_
    · rintro e w' ⟨rfl, rfl⟩
      exact ⟨Below.refl _ _, rfl⟩
    · intro e w' h
      unfold ParseE
      rw [if_pos hs]
      exact h
  · have hs' : s.size ≤ 20000 := by omega
    cases hw : wordsV s with
    | none =>
      refine (tparse_bad s 3 w (by decide) ((words_any s hs' _ (hL.below ((Below.refl w.heap.size w).alloc (Nat.le_refl _) _))).mono ?_)).mono ?_
      · rintro e w' ⟨hb, hx⟩
        rcases hx with ⟨_, rfl⟩ | ⟨ws, _, _, h, _⟩
        · exact ⟨hb, rfl⟩
        · rw [hw] at h; cases h
      · intro e w' h
        unfold ParseE
        rw [if_neg hs]
        exact ⟨none, .inl ⟨hw, rfl⟩, h⟩
    | some ws =>
      have hn : nstB ws = true := by
        unfold wordsV at hw
        split at hw
        · split at hw
          · next h => cases hw; exact h
          · cases hw
        · cases hw
      obtain ⟨ts, h1, rfl⟩ := toks_nst hn
      refine (tparse_good hN s ts hs' h1 hw w hT hL).mono ?_
      intro e w' h
      unfold ParseE
      rw [if_neg hs]
      exact ⟨_, .inr ⟨ts, h1, hw, rfl⟩, h⟩
end Go.Proofs.YtbhdbglhejibbaaGreatDoor
