/- The walk of the statement ObjCuts. Condition: the tables of package ins read as they should. -/
import Derived.Test.YtfdpbogbnfkilaaDoorObjAwk
import Derived.Test.YtfdpbogbnfkilaaDoorObjOpen
import Derived.Test.YtfdpbogbnfkilaaDoorObjSmall
import Derived.Test.YtfdpbogbnfkilaaDoorInsLays
namespace Go.Proofs.YtfdpbogbnfkilaaDoor.ObjCutsWalk
set_option maxRecDepth 100000
open Go.RowKit
set_option linter.unusedVariables false
theorem slB_take {w : World} {hi : Nat} {A : Option Addr} {l : List Int} (h : SlB w hi A l) (k : Nat) : SlB w hi A (l.take k) := by
  rcases h with rfl | ⟨b, off, rfl, hb, hc⟩
  · exact .inl (by simp)
  · refine .inr ⟨b, off, rfl, hb, fun i hi => ?_⟩
    have h2 : i < k ∧ i < l.length := by rw [List.length_take] at hi; exact Nat.lt_min.1 hi
    rw [hc i h2.2, nth_get h2.2, nth_get hi, List.getElem_take]
theorem encB_pos (d : ObjD) : 0 < (encB d).length := by unfold encB magicW; simp
theorem empty_row {w : World} {t : TypeId} : (w.alloc (.cells #[] t)).ownsRow w.heap.size t 1 (.slice (some ⟨w.heap.size, 0, none⟩) 0 0) 0 [] :=
  ⟨rfl, .inr ⟨_, 0, #[], rfl, Nat.le_refl _, heap_alloc_new w _, by omega, by unfold maxLen; omega, rfl, rfl⟩⟩
theorem slB_below {w w' : World} {hi : Nat} {A : Option Addr} {l : List Int} (h : SlB w hi A l) (hh : hi ≤ w.heap.size) (hb : Below w.heap.size w w') : SlB w' w'.heap.size A l := by
  rcases h with rfl | ⟨b, off, rfl, h1, hc⟩
  · exact .inl rfl
  · exact .inr ⟨b, off, rfl, by have := hb.size; omega, fun k hk => by rw [World.cell?_of_block (hb.block b (by omega))]; exact hc k hk⟩
theorem slB_own {w : World} {base : Nat} {e : TypeId} {A : Option Addr} {n c : Nat} {l : List Int} (h : w.ownsRow base e 1 (.slice A n c) n (l.map (Value.int .u8))) : SlB w w.heap.size A l := by
  rcases h.2 with ⟨h3, h4⟩ | ⟨g, cap, cur, h3, h4, h5, h6, h7, _⟩
  · have hl := h.1
    rw [List.length_map] at hl
    exact .inl (List.eq_nil_of_length_eq_zero (by rw [hl, h4, Nat.zero_mul]))
  · cases h3
    refine .inr ⟨g, 0, rfl, (Array.getElem?_eq_some_iff.1 h5).1, fun k hk => ?_⟩
    have := h.cells (g := g) rfl k (.int .u8 (nth l k)) (by rw [List.getElem?_map, List.getElem?_eq_getElem hk, nth_get hk]; rfl)
    rwa [addO] at this
theorem slB_news {w : World} {hi b off : Nat} {l : List Int} (h : SlB w hi (some ⟨b, off, none⟩) l) : ∀ j u, (l.map (Value.int .u8))[j]? = some u → w.cell? ((⟨b, off, none⟩ : Addr).add j) = some u := by
  intro j u hj
  rcases h with rfl | ⟨b', off', he, _, hc⟩
  · simp at hj
  · injection he with he
    injection he with h1 h2
    subst h1 h2
    simp only [List.getElem?_map, Option.map_eq_some_iff] at hj
    obtain ⟨x, hx, rfl⟩ := hj
    have hlt := (List.getElem?_eq_some_iff.1 hx).1
    rw [addO, hc j hlt, nth_get hlt, (List.getElem?_eq_some_iff.1 hx).2]
theorem empty_at {w : World} {t : TypeId} {h : Nat} (e : w.heap.size = h) : (w.alloc (.cells #[] t)).ownsRow h t 1 (.slice (some ⟨h, 0, none⟩) 0 0) 0 [] := by subst e; exact empty_row
theorem own_form {w : World} {base n : Nat} {e : TypeId} {v : Value} {xs : List Value} (h : w.ownsRow base e 1 v n xs) (hn : ¬ v = .slice none 0 0) : ∃ g cap, v = .slice (some ⟨g, 0, none⟩) n cap ∧ n ≤ cap ∧ cap ≤ maxLen ∧ base ≤ g := by
  rcases h.2 with ⟨h, _⟩ | ⟨g, cap, _, h, h1, h2, h3, h4, _⟩
  · exact absurd h hn
  · exact ⟨g, cap, h, h3, h4, h1⟩
theorem news_block {w : World} {B : Nat} {x : Value} {t : TypeId} (hb : w.heap[B]? = some (.cells #[x] t (0, 0))) : ∀ j u, [x][j]? = some u → w.cell? ((⟨B, 0, none⟩ : Addr).add j) = some u := by
  intro j u hj
  cases j with
  | zero =>
    have y0 := cell_of_row w B 0 _ _ _ hb
    simp only [List.getElem?_toArray, List.getElem?_cons_zero] at y0 hj
    rw [addO, Nat.add_zero, y0, hj]
  | succ j => simp at hj
set_option maxHeartbeats 4000000 in
theorem walk (v : Value) (d : ObjD) (a1 : Int) (w : World) (hO : ObjAt w 0 w.heap.size d v) (hW : ObjW d) (hL : ObjL d) (w1 : (Lit.int .u16 a1).wf = true) (hT : Tabs w) :
    Calls Tryd.prog 4 #[v, .int .u16 a1] w fun e w' => e = .returned (.bool true) ∧ Below w.heap.size w w' := by
  obtain ⟨b0, b0'⟩ := bounds_u16 w1
  obtain ⟨q, rfl⟩ := Int.eq_ofNat_of_zero_le b0
  obtain ⟨i0, hi, hz0, hz1, hz2⟩ := info_parts info5
  have hO' := hO
  obtain ⟨A1, c1, A2, c2, A3, c3, A4, c4, A5, c5, es, rfl, _⟩ := hO'
  have HB0 := Lib.hid ((Below.refl w.heap.size w).alloc (Nat.le_refl _) (.cells #[.slice A1 d.text.length c1, .slice A2 d.data.length c2, .slice A3 d.syms.length c3, .slice A4 d.rels.length c4, .slice A5 d.ents.length c5] 28))
  have HX0 := Lib.hid (heap_alloc_new w (.cells #[.slice A1 d.text.length c1, .slice A2 d.data.length c2, .slice A3 d.syms.length c3, .slice A4 d.rels.length c4, .slice A5 d.ents.length c5] 28))
  have HO := Lib.hid hO
  have HWd := Lib.hid hW
  have HL := Lib.hid hL
  have HT := Lib.hid hT
  clear hO hW hL w1 hT
  go_enter Tryd.func4, Tryd.ntmps4
  go_wp2_with fail
  refine (awake_any _ (HT.out.below HB0.out)).mono ?_
  rintro e wa ⟨rfl, hba⟩
  have HBa := Lib.hid (HB0.out.trans (hba.mono HB0.out.size))
  have HXa := Lib.hid ((hba.block _ (Array.getElem?_eq_some_iff.1 HX0.out).1).trans HX0.out)
  have HOa := Lib.hid (HO.out.move (Nat.le_refl _) (Nat.le_refl _) (fun b g1 g2 => HBa.out.block b g2))
  clear hba HB0 HX0
  obtain ⟨⟨x0, x1, x2, x3, x4⟩, _⟩ := row_cells5 HXa.out
  go_wp2_with fail
  refine (rsmall_any d _ _ _ wa HOa.out HBa.out.size HL.out).mono ?_
  rintro e ws ⟨⟨s, rfl⟩, hb⟩
  have HBs := Lib.hid (HBa.out.trans (hb.mono HBa.out.size))
  have HXs := Lib.hid ((hb.block _ (Array.getElem?_eq_some_iff.1 HXa.out).1).trans HXa.out)
  have HOs := Lib.hid (HO.out.move (Nat.le_refl _) (Nat.le_refl _) (fun b g1 g2 => HBs.out.block b g2))
  clear hb x0 x1 x2 x3 x4 HBa HXa HOa
  obtain ⟨⟨x0, x1, x2, x3, x4⟩, _⟩ := row_cells5 HXs.out
  cases s
  case false =>
    go_wp2
    go_ret
    exact ⟨rfl, HBs.out⟩
  go_wp2_with fail
  refine (enc_any d HWd.out _ _ _ ws (HT.out.below HBs.out) HOs.out HBs.out.size).mono ?_
  rintro e we ⟨hb, hno, hyes⟩
  have HBe := Lib.hid (HBs.out.trans (hb.mono HBs.out.size))
  clear hb x0 x1 x2 x3 x4 HBs HXs HOs HO
  cases hm : mayO d
  case false =>
    obtain rfl := hno hm
    clear hno hyes hm
    go_wp2
    go_ret
    exact ⟨rfl, HBe.out⟩
  obtain ⟨A, c, rfl, hs, hlc, hcm, _⟩ := hyes hm
  have hpos := encB_pos d
  have HM := Lib.hid hm
  obtain ⟨n, hn⟩ : ∃ n, (encB d).length = n := ⟨_, rfl⟩
  have HS := Lib.hid hs
  rcases hs with e | ⟨b, off, rfl, hbl, hcl⟩
  · rw [e] at hpos; simp at hpos
  have HN := Lib.hid hn
  rw [hn] at hlc hpos ⊢
  have HCl := Lib.hid hcl
  have HBl := Lib.hid hbl
  have hn1 : (n : Int) ≤ 9223372036854775807 := by unfold maxLen at hcm; omega
  have hn0 : (0 : Int) < n := by omega
  have hlcI : (n : Int) ≤ c := by omega
  obtain ⟨k, hk⟩ : ∃ k, q % n = k := ⟨_, rfl⟩
  have hkn : k < n := by rw [← hk]; exact Nat.mod_lt _ hpos
  have hkt : ((q : Int).tmod n) = (k : Int) := by rw [← hk]; rfl
  have HCc := Lib.hid (And.intro hlc hcm)
  have HLe := Lib.hid (show n ≤ 700000 by
    have h2 := may_fits HWd.out hm
    have h := hm
    rw [mayO_eq] at h
    simp only [Bool.and_eq_true] at h
    have h3 := encB_len h2 (few_of h.1.1)
    omega)
  clear hno hyes hm hn hcl hbl hk
  go_wp2_with fail
  refine (dec_any (some ⟨b, off, none⟩) ((encB d).take k) k c we (slB_take HS.out k) (by rw [List.length_take, HN.out]; omega) ((encB_all d).take k) (by have := HCc.out; omega) HCc.out.2 (HT.out.below HBe.out)).mono ?_
  intro e w2 h2
  rw [decB_cut HWd.out HM.out (by rw [HN.out]; exact hkn)] at h2
  obtain ⟨hb, rfl⟩ := h2
  have HB2 := Lib.hid (HBe.out.trans (hb.mono HBe.out.size))
  have HS2 := Lib.hid (slB_below HS.out (Nat.le_refl _) hb)
  clear hb hkt hkn
  have HB2a := Lib.hid (HB2.out.trans (((Below.refl w2.heap.size w2).alloc (Nat.le_refl _) (.cells #[.slice none 0 0, .slice none 0 0, .slice none 0 0, .slice none 0 0, .slice none 0 0] 28)).mono HB2.out.size))
  have HS3 := Lib.hid (slB_below HS2.out (Nat.le_refl _) (((Below.refl w2.heap.size w2).alloc (Nat.le_refl _) (.cells #[.slice none 0 0, .slice none 0 0, .slice none 0 0, .slice none 0 0, .slice none 0 0] 28)).alloc (by simp) (.cells #[] 5)))
  have hsz2 : (w2.alloc (.cells #[.slice none 0 0, .slice none 0 0, .slice none 0 0, .slice none 0 0, .slice none 0 0] 28)).heap.size = w2.heap.size + 1 := by simp
  go_wp2_with (at_builtin; refine wpList_append_own _ rfl _ _ 35 rfl (w2.heap.size + 1) 5 i0 (.int .u8 0) 1 1 Tryd.underlying35 hi hz0 hz1 hz2 rfl (by decide) _ 0 [] rfl ?own ⟨b, off, none⟩ n c ((encB d).map (Value.int .u8)) rfl ?len ?c1 ?c2 ?c3 ?c4 ?c5 ?_)
  case own => exact empty_at hsz2
  case len => rw [List.length_map]; exact HN.out.trans (by simp)
  case c1 => exact slB_news HS3.out
  case c2 =>
    intro u hu
    obtain ⟨x, _, rfl⟩ := List.mem_map.1 hu
    rfl
  case c3 => have := HLe.out; unfold maxLen; omega
  case c4 => have := HLe.out; omega
  case c5 => simp
  intro v3 w3 hown hgrow hnil
  obtain ⟨g, cap, rfl, hcap1, hcap2, hg⟩ := own_form hown hnil
  have HB3 := Lib.hid (HB2.out.trans ((((((Below.refl w2.heap.size w2).alloc (Nat.le_refl _) (.cells #[.slice none 0 0, .slice none 0 0, .slice none 0 0, .slice none 0 0, .slice none 0 0] 28)).alloc (by simp) (.cells #[] 5)).grown hgrow (by simp; omega) (by intro x hx; simp [Value.ownBlock] at hx; omega))).mono HB2.out.size))
  have hlt := (hown.lt g rfl)
  have HLt := Lib.hid hlt
  clear hgrow hnil hlt hcap1 hcap2
  have hn2 : ((n : Int) + 1) ≤ 700001 := by have := HLe.out; omega
  go_wp2_with (at_builtin; refine wpList_append_own _ rfl _ _ 35 rfl (w2.heap.size + 1) 5 i0 (.int .u8 0) 1 1 Tryd.underlying35 hi hz0 hz1 hz2 rfl (by decide) _ n _ rfl (hown.alloc _) ⟨w3.heap.size, 0, none⟩ 1 1 [.int .u8 ((q : Int) % 256)] rfl rfl ?c1 ?c2 ?c3 ?c4 ?c5 ?_)
  case c1 => exact news_block (heap_alloc_new w3 _)
  case c2 => simp [Value.oneCell']
  case c3 => have := HLe.out; unfold maxLen; omega
  case c4 => omega
  case c5 => simp; have := HLt.out; omega
  intro v4 w4 hown4 hgrow4 hnil4
  obtain ⟨g4, cap4, rfl, hcap3, hcap4, hg4⟩ := own_form hown4 hnil4
  have HB4 := Lib.hid (HB3.out.trans ((((Below.refl w3.heap.size w3).alloc (Nat.le_refl _) (.cells #[.int .u8 ((q : Int) % 256)] 5))).mono HB3.out.size))
  have HBel := Lib.hid (show Below w.heap.size w w4 from HB4.out.grown hgrow4 (by simp; have := HB3.out.size; omega) (by intro x hx; simp [Value.ownBlock] at hx; have := HLt.out; have := HB2.out.size; omega))
  have HS4 := Lib.hid (show SlB w4 w4.heap.size (some ⟨g4, 0, none⟩) (encB d ++ [(q : Int) % 256]) from slB_own (l := encB d ++ [(q : Int) % 256]) (by rw [List.map_append]; exact hown4))
  have HC4 := Lib.hid (And.intro hcap3 hcap4)
  clear hgrow4 hnil4 hcap3 hcap4 hown4 hown
  go_wp2_with fail
  refine (dec_any (some ⟨g4, 0, none⟩) (encB d ++ [(q : Int) % 256]) (n + 1) cap4 w4 HS4.out (by rw [List.length_append, HN.out]; rfl) (fun x hx => by
    rcases List.mem_append.1 hx with h | h
    · exact encB_all d x h
    · rw [List.mem_singleton.1 h]; omega) HC4.out.1 HC4.out.2 (HT.out.below HBel.out)).mono ?_
  intro e w5 h2
  rw [decB_long HWd.out HM.out] at h2
  obtain ⟨hb, rfl⟩ := h2
  have HB5 := Lib.hid ((HBel.out.trans (hb.mono HBel.out.size)).trans (((Below.refl w5.heap.size w5).alloc (Nat.le_refl _) (.cells #[.slice none 0 0, .slice none 0 0, .slice none 0 0, .slice none 0 0, .slice none 0 0] 28)).mono (HBel.out.trans (hb.mono HBel.out.size)).size))
  clear hb
  go_wp2
  go_ret
  exact ⟨rfl, HB5.out⟩
end Go.Proofs.YtfdpbogbnfkilaaDoor.ObjCutsWalk
