/- The walk of the statement ObjDecodes. Condition: the tables of package ins read as they should. -/
import Derived.Test.YtmpieeadkkeniaaGreatDoorObjI
import Derived.Test.YtmpieeadkkeniaaGreatDoorObjMc
import Derived.Test.YtmpieeadkkeniaaGreatDoorInsLays
namespace Go.Proofs.YtmpieeadkkeniaaGreatDoor.ObjDecodesWalk
set_option maxRecDepth 100000
open Go.RowKit
set_option linter.unusedVariables false
theorem empty_row {w : World} {t : TypeId} : (w.alloc (.cells #[] t)).ownsRow w.heap.size t 1 (.slice (some ⟨w.heap.size, 0, none⟩) 0 0) 0 [] :=
  ⟨rfl, .inr ⟨_, 0, #[], rfl, Nat.le_refl _, heap_alloc_new w _, by omega, by unfold maxLen; omega, rfl, rfl⟩⟩
theorem slB_own {w : World} {base : Nat} {e : TypeId} {A : Option Addr} {n c : Nat} {l : List Int} (h : w.ownsRow base e 1 (.slice A n c) n (l.map (Value.int .u8))) : SlB w w.heap.size A l ∧ n ≤ c ∧ c ≤ maxLen := by
  rcases h.2 with ⟨h3, h4⟩ | ⟨g, cap, cur, h3, h4, h5, h6, h7, _⟩
  · have hl := h.1
    rw [List.length_map] at hl
    cases h3
    exact ⟨.inl (List.eq_nil_of_length_eq_zero (by rw [hl, h4, Nat.zero_mul])), by omega, Nat.zero_le _⟩
  · cases h3
    refine ⟨.inr ⟨g, 0, rfl, (Array.getElem?_eq_some_iff.1 h5).1, fun k hk => ?_⟩, h6, h7⟩
    have := h.cells (g := g) rfl k (.int .u8 (nth l k)) (by rw [List.getElem?_map, List.getElem?_eq_getElem hk, nth_get hk]; rfl)
    rwa [addO] at this
theorem slB_news {w : World} {hi b off : Nat} {l : List Int} (h : SlB w hi (some ⟨b, off, none⟩) l) : ∀ j u, (l.map (Value.int .u8))[j]? = some u → w.cell? ((⟨b, off, none⟩ : Addr).add j) = some u := by
  intro j u hj
  rcases h with rfl | ⟨b', off', he, _, hc⟩
  · simp at hj
  · injection he with he
    injection he with h1 h2
    subst h1 h2
    simp only [List.getElem?_map, Option.map_eq_some_iff] at hj
    obtain ⟨x, hx, rfl⟩ := hj
    have hlt := (List.getElem?_eq_some_iff.1 hx).1
    rw [addO, hc j hlt, nth_get hlt, (List.getElem?_eq_some_iff.1 hx).2]
theorem dec_L {d : ObjD} (h : ObjF d) : ObjL d :=
  ⟨by have := h.ct; unfold maxLen; omega, by have := h.cd; unfold maxLen; omega, by have := h.cs; unfold maxLen; omega, by have := h.cr; unfold maxLen; omega, by have := h.ce; unfold maxLen; omega, fun x hx => by (have := (h.ents x hx).2.1; unfold maxLen; omega)⟩
theorem dE_L : ObjL dE := ⟨by decide, by decide, by decide, by decide, by decide, fun x hx => (by cases hx)⟩
def dZ (r : Option ObjD) : Int := if r.isSome then 0 else 3
theorem decP_form {r : Option ObjD} {w w' : World} {e : Ending} (h : DecP r w e w') : ∃ (A1 : Option Addr) (n1 c1 : Nat) (A2 : Option Addr) (n2 c2 : Nat) (A3 : Option Addr) (n3 c3 : Nat) (A4 : Option Addr) (n4 c4 : Nat) (A5 : Option Addr) (n5 c5 : Nat),
    e = .returned (.tuple #[.agg #[.slice A1 n1 c1, .slice A2 n2 c2, .slice A3 n3 c3, .slice A4 n4 c4, .slice A5 n5 c5], .int .i64 (dZ r)]) ∧ ObjAt w' w.heap.size w'.heap.size (r.getD dE) (.agg #[.slice A1 n1 c1, .slice A2 n2 c2, .slice A3 n3 c3, .slice A4 n4 c4, .slice A5 n5 c5]) ∧ Below w.heap.size w w' := by
  obtain ⟨hb, h⟩ := h
  cases r with
  | none => exact ⟨none, 0, 0, none, 0, 0, none, 0, 0, none, 0, 0, none, 0, 0, h, objAt_nil _ _ _, hb⟩
  | some d =>
    obtain ⟨v, rfl, ho⟩ := h
    have ho' := ho
    obtain ⟨A1, c1, A2, c2, A3, c3, A4, c4, A5, c5, es, rfl, _⟩ := ho'
    exact ⟨A1, _, c1, A2, _, c2, A3, _, c3, A4, _, c4, A5, _, c5, rfl, ho, hb⟩
theorem dec_facts {l : List Int} (ha : AllB l) : ObjL ((decB l).getD dE) ∧ ∀ d, decB l = some d → ObjF d ∧ mayO d = true ∧ encB d = l := by
  refine ⟨?_, fun d h => ?_⟩
  · cases h : decB l with
    | none => exact dE_L
    | some d => exact dec_L (decB_back ha h).2.2
  · obtain ⟨h1, h2, h3⟩ := decB_back ha h
    exact ⟨h3, h2, h1⟩
set_option maxHeartbeats 8000000 in
theorem walk (a0 : Option Addr) (len0 cap0 : Nat) (z0 : List Int) (w : World) (w0 : IsRow .u8 w a0 len0 cap0 z0) (hT : Tabs w) :
    Calls Tryz.prog 4 #[.slice a0 len0 cap0] w fun e w' => e = .returned (.bool true) ∧ Below w.heap.size w w' := by
  obtain ⟨sl, hl, hb, _⟩ := w0.sl
  have hcap : len0 ≤ cap0 ∧ cap0 ≤ maxLen := by
    rcases w0 with ⟨_, rfl, rfl, _⟩ | ⟨_, _, h1, h2, _⟩
    · exact ⟨Nat.le_refl _, Nat.zero_le _⟩
    · exact ⟨h1, h2⟩
  have hnil : a0 = none → len0 = 0 ∧ cap0 = 0 := by
    rcases w0 with ⟨_, rfl, rfl, _⟩ | ⟨_, rfl, _⟩
    · exact fun _ => ⟨rfl, rfl⟩
    · exact fun h => by cases h
  generalize z0.take len0 = l at *
  have HSl := Lib.hid sl
  have HL := Lib.hid hl
  have HAb := Lib.hid hb
  have HCp := Lib.hid hcap
  have HNil := Lib.hid hnil
  have HT := Lib.hid hT
  obtain ⟨i0, hi, hz0, hz1, hz2⟩ := info_parts info5
  clear sl hl hb hcap hnil hT w0
  go_enter Tryz.func4, Tryz.ntmps4
  go_wp2_with fail
  refine (awake_any _ HT.out).mono ?_
  rintro e wa ⟨rfl, hba⟩
  have HBa := Lib.hid hba
  clear hba
  by_cases hlen : len0 ≤ 8000
  case neg =>
    have h1 : (len0 : Int) > 8000 := by omega
    go_wp2
    go_ret
    exact ⟨rfl, HBa.out⟩
  have h1 : ¬ (len0 : Int) > 8000 := by omega
  have HS0 := Lib.hid (show SlB wa wa.heap.size a0 l from by
    rcases HSl.out.below HBa.out with h | ⟨b, off, e, hc⟩
    · exact .inl h
    · by_cases h0 : l = []
      · exact .inl h0
      · have h2 := hc 0 (List.length_pos_iff.2 h0)
        exact .inr ⟨b, off, e, block_lt h2, hc⟩)
  clear HSl
  go_upto_region 5 with fail
  go_cut [3] (fun v wx => ∃ (A : Option Addr) (c : Nat), v = .slice A len0 c ∧ Hid (SlB wx wx.heap.size A l) ∧ Hid (len0 ≤ c ∧ c ≤ maxLen) ∧ Hid (Below wa.heap.size wa wx))
  case first =>
    rcases a0 with _ | ad
    · obtain ⟨rfl, rfl⟩ := HNil.out rfl
      have hl0 : l = [] := List.eq_nil_of_length_eq_zero HL.out
      have HBl := Lib.hid ((Below.refl wa.heap.size wa).alloc (Nat.le_refl _) (.cells #[] 5))
      go_wp2
      go_meet
      case rel => exact ⟨_, _, rfl, Lib.hid (.inl hl0), Lib.hid ⟨Nat.le_refl _, Nat.zero_le _⟩, HBl⟩
    · have hnews := Lib.hid (show ∀ j u, (l.map (Value.int .u8))[j]? = some u → (wa.alloc (.cells #[] 5)).cell? (ad.add j) = some u from by
        have h3 := slB_down HS0.out (Nat.le_refl _) ((Below.refl wa.heap.size wa).alloc (Nat.le_refl _) (.cells #[] 5))
        intro j u hj
        rcases h3 with h | ⟨b, off, e, hb, hc⟩
        · rw [h] at hj; simp at hj
        · cases e
          exact slB_news (hi := (wa.alloc (.cells #[] 5)).heap.size) (.inr ⟨b, off, rfl, hb, hc⟩) j u hj)
      have HE := Lib.hid (empty_row (w := wa) (t := 5))
      go_wp2_with (at_builtin; refine wpList_append_own _ rfl _ _ 31 rfl wa.heap.size 5 i0 (.int .u8 0) 1 1 Tryz.underlying31 hi hz0 hz1 hz2 rfl (by decide) _ 0 [] rfl HE.out ad len0 cap0 (l.map (Value.int .u8)) rfl ?len hnews.out ?c2 ?c3 ?c4 ?c5 ?_)
      case len => rw [List.length_map, HL.out]; omega
      case c2 =>
        intro u hu
        obtain ⟨x, _, rfl⟩ := List.mem_map.1 hu
        rfl
      case c3 => unfold maxLen; omega
      case c4 => omega
      case c5 => simp
      intro v3 w3 hown hgrow _
      have hb3 : Below wa.heap.size wa w3 := ((Below.refl wa.heap.size wa).alloc (Nat.le_refl _) (.cells #[] 5)).grown hgrow (by simp) (by intro x hx; simp [Value.ownBlock] at hx; omega)
      have HB3 := Lib.hid hb3
      obtain ⟨A3, c3, rfl⟩ := ownO_slice hown
      have H3 := Lib.hid (slB_own hown)
      clear hown hgrow hb3
      go_wp2
      go_meet
      case rel => exact ⟨A3, c3, rfl, Lib.hid H3.out.1, Lib.hid H3.out.2, HB3⟩
  case rest =>
    obtain ⟨A, c, rfl, HSo, HCo, HBo⟩ := hcut
    have HB1 := Lib.hid (HBa.out.trans (HBo.out.mono HBa.out.size))
    have HS1 := Lib.hid (slB_down HS0.out (Nat.le_refl _) HBo.out)
    clear HNil
    have HDB := Lib.hid (dec_facts (l := l) HAb.out)
    have HDA := Lib.hid (fun (A : Option Addr) (c : Nat) (w' : World) (hs : SlB w' w'.heap.size A l) (hc : len0 ≤ c) (hm : c ≤ maxLen) (hT : Tabs w') => dec_any A l len0 c w' hs HL.out HAb.out hc hm hT)
    have HDR := Lib.hid (fun (A : Option Addr) (c : Nat) (w' : World) (hs : SlB w' w'.heap.size A l) (hc : len0 ≤ c) (hm : c ≤ maxLen) => rdec_any A l len0 c w' hs HL.out HAb.out hc hm)
    generalize decB l = r at *
    go_wp2_with fail
    refine (HDA.out A c wc HSo.out HCo.out.1 HCo.out.2 (HT.out.below HB1.out)).mono ?_
    intro e w2 h2
    obtain ⟨A1, n1, c1, A2, n2, c2, A3, n3, c3, A4, n4, c4, A5, n5, c5, rfl, ho2, hb2⟩ := decP_form h2
    have HBx := Lib.hid ((Below.refl w2.heap.size w2).alloc (Nat.le_refl _) (.cells #[.slice A1 n1 c1, .slice A2 n2 c2, .slice A3 n3 c3, .slice A4 n4 c4, .slice A5 n5 c5] 28))
    have HX2 := Lib.hid (heap_alloc_new w2 (.cells #[.slice A1 n1 c1, .slice A2 n2 c2, .slice A3 n3 c3, .slice A4 n4 c4, .slice A5 n5 c5] 28))
    have HB2 := Lib.hid ((HB1.out.trans (hb2.mono HB1.out.size)).trans (HBx.out.mono (HB1.out.trans (hb2.mono HB1.out.size)).size))
    have HO2 := Lib.hid (ho2.below (Nat.le_refl _) HBx.out)
    have HOs := Lib.hid (show w2.heap.size ≤ (w2.alloc (.cells #[.slice A1 n1 c1, .slice A2 n2 c2, .slice A3 n3 c3, .slice A4 n4 c4, .slice A5 n5 c5] 28)).heap.size from HBx.out.size)
    have HSo2 := Lib.hid (slB_down (slB_down HSo.out (Nat.le_refl _) hb2) (Nat.le_refl _) HBx.out)
    have HS2 := Lib.hid (slB_down (slB_down HS1.out (Nat.le_refl _) hb2) (Nat.le_refl _) HBx.out)
    clear HSo HS1 HBo HB1 HS0 h2 ho2 hb2 HBx
    go_wp2_with fail
    generalize (w2.alloc (.cells #[.slice A1 n1 c1, .slice A2 n2 c2, .slice A3 n3 c3, .slice A4 n4 c4, .slice A5 n5 c5] 28)) = w2a at *
    generalize w2.heap.size = bx at *
    refine (HDR.out a0 cap0 w2a HS2.out HCp.out.1 HCp.out.2).mono ?_
    intro e w3 h3
    obtain ⟨B1, m1, d1, B2, m2, d2, B3, m3, d3, B4, m4, d4, B5, m5, d5, rfl, ho3, hb3⟩ := decP_form h3
    have HBy := Lib.hid ((Below.refl w3.heap.size w3).alloc (Nat.le_refl _) (.cells #[.slice B1 m1 d1, .slice B2 m2 d2, .slice B3 m3 d3, .slice B4 m4 d4, .slice B5 m5 d5] 28))
    have HY3 := Lib.hid (heap_alloc_new w3 (.cells #[.slice B1 m1 d1, .slice B2 m2 d2, .slice B3 m3 d3, .slice B4 m4 d4, .slice B5 m5 d5] 28))
    have HBz := Lib.hid (hb3.trans (HBy.out.mono hb3.size))
    have HX3 := Lib.hid ((HBz.out.block _ (Array.getElem?_eq_some_iff.1 HX2.out).1).trans HX2.out)
    have HB3 := Lib.hid (HB2.out.trans (HBz.out.mono HB2.out.size))
    have HO3 := Lib.hid (HO2.out.below HOs.out HBz.out)
    have HO3s := Lib.hid (Nat.le_trans HOs.out HBz.out.size)
    have HP3 := Lib.hid (ho3.below (Nat.le_refl _) HBy.out)
    have HP3s := Lib.hid HBy.out.size
    have HSo3 := Lib.hid (slB_down HSo2.out (Nat.le_refl _) HBz.out)
    have HS3 := Lib.hid (slB_down HS2.out (Nat.le_refl _) HBz.out)
    clear HX2 HB2 HO2 HOs HSo2 HS2 h3 ho3 hb3 HBz HBy
    obtain ⟨⟨x0, x1, x2, x3, x4⟩, _⟩ := row_cells5 HX3.out
    obtain ⟨⟨y0, y1, y2, y3, y4⟩, _⟩ := row_cells5 HY3.out
    go_wp2_with fail
    refine (rsame_any _ _ _ _ _ _ _ _ _ HO3.out HP3.out HO3s.out HP3s.out HDB.out.1 HDB.out.1).mono ?_
    rintro e w4 ⟨rfl, hb⟩
    rw [sameD_iff.2 rfl]
    have HB4 := Lib.hid (HB3.out.trans (hb.mono HB3.out.size))
    have HX4 := Lib.hid ((hb.block _ (Array.getElem?_eq_some_iff.1 HX3.out).1).trans HX3.out)
    have HO4 := Lib.hid (HO3.out.below HO3s.out hb)
    have HO4s := Lib.hid (Nat.le_trans HO3s.out hb.size)
    have HSo4 := Lib.hid (slB_down HSo3.out (Nat.le_refl _) hb)
    have HS4 := Lib.hid (slB_down HS3.out (Nat.le_refl _) hb)
    clear hb x0 x1 x2 x3 x4 y0 y1 y2 y3 y4 HX3 HY3 HB3 HO3 HO3s HP3 HP3s HSo3 HS3
    go_wp2_with fail
    refine (same_any A a0 l l len0 len0 c cap0 w4 (slB_sl HSo4.out) (slB_sl HS4.out) HL.out HL.out (by omega)).mono ?_
    rintro e w5 ⟨rfl, kq, rfl⟩
    rw [show (l == l) = true by simp]
    have HB5 := Lib.hid (HB4.out.trans ((belq (Below.refl w4.heap.size w4) kq).mono HB4.out.size))
    have HX5 := Lib.hid (((belq (Below.refl w4.heap.size w4) kq).block _ (Array.getElem?_eq_some_iff.1 HX4.out).1).trans HX4.out)
    have HO5 := Lib.hid (HO4.out.below HO4s.out (belq (Below.refl w4.heap.size w4) kq))
    have HS5 := Lib.hid (slB_down HS4.out (Nat.le_refl _) (belq (Below.refl w4.heap.size w4) kq))
    have HO5s := Lib.hid (Nat.le_trans HO4s.out (belq (Below.refl w4.heap.size w4) kq).size)
    clear HX4 HB4 HO4 HO4s HSo4 HS4
    generalize w4.drewN kq = w5 at *
    cases r with
    | none =>
      rw [show dZ (none : Option ObjD) = 3 from rfl]
      go_wp2
      go_ret
      exact ⟨rfl, HB5.out⟩
    | some d =>
      rw [show dZ (some d) = 0 from rfl]
      obtain ⟨hF, hm, he⟩ := HDB.out.2 d rfl
      have HF := Lib.hid hF
      have HM := Lib.hid hm
      have HEn := Lib.hid he
      clear hF hm he HDB
      obtain ⟨⟨x0, x1, x2, x3, x4⟩, _⟩ := row_cells5 HX5.out
      go_wp2_with fail
      refine (enc_any d (fits_W HF.out) _ _ _ w5 (HT.out.below HB5.out) HO5.out HO5s.out).mono ?_
      intro e w6 h6
      obtain ⟨hb, _, hy⟩ := h6
      obtain ⟨Z, cz, rfl, hsz, _⟩ := hy HM.out
      have HB6 := Lib.hid (HB5.out.trans (hb.mono HB5.out.size))
      have HS6 := Lib.hid (slB_down HS5.out (Nat.le_refl _) hb)
      have HZ6 := Lib.hid hsz
      rw [HEn.out]
      have HZ7 := Lib.hid (show Sl w6 Z l from by have h := slB_sl HZ6.out; rw [HEn.out] at h; exact h)
      rw [HL.out]
      clear hb hy hsz x0 x1 x2 x3 x4
      go_wp2_with fail
      refine (same_any a0 Z l l len0 len0 cap0 cz w6 (slB_sl HS6.out) HZ7.out HL.out HL.out (by omega)).mono ?_
      rintro e w7 ⟨rfl, kr, rfl⟩
      rw [show (l == l) = true by simp]
      have HB7 := Lib.hid (HB6.out.trans ((belq (Below.refl w6.heap.size w6) kr).mono HB6.out.size))
      generalize w6.drewN kr = w7 at *
      go_wp2
      go_ret
      exact ⟨rfl, HB7.out⟩
end Go.Proofs.YtmpieeadkkeniaaGreatDoor.ObjDecodesWalk
