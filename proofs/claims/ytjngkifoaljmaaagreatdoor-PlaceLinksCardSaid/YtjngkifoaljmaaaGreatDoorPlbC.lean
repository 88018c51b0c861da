/- Layer 8: a text word by word, plainly. No condition.
   Layer 8: the reference's Link. No condition.
   Layer 8: Sizes of whatever list, the program's and the reference's. No condition. -/
import Derived.Test.YtjngkifoaljmaaaGreatDoorPlaX
import Derived.Test.YtjngkifoaljmaaaGreatDoorPlaI
import Derived.Deep.QuietTactic
import Derived.BigQuiet
namespace Go.Proofs.YtjngkifoaljmaaaGreatDoor
set_option maxRecDepth 100000
open Go.RowKit
set_option linter.unusedVariables false
set_option linter.unusedSimpArgs false
/-- word p of an object's text, the first relocations done -/
def wordF (l : List ObjD) (xs : List (Int × Int)) (i : Nat) (D : ObjD) (p : Nat) : Nat → Option Int
  | 0 => some (D.text.getD p 0)
  | m + 1 => match wordF l xs i D p m with
    | none => none
    | some y => if posR D m = p then relX l xs i D m else some y
section
variable {l : List ObjD} {xs : List (Int × Int)} {i : Nat} {D : ObjD} {p : Nat}
theorem word_go {m : Nat} {y : Int} (h : wordF l xs i D p m = some y) (hp : posR D m ≠ p) : wordF l xs i D p (m + 1) = some y := by
  unfold wordF; rw [h]; simp only; rw [if_neg hp]
theorem word_do {m : Nat} {y : Int} (h : wordF l xs i D p m = some y) (hp : posR D m = p) : wordF l xs i D p (m + 1) = relX l xs i D m := by
  unfold wordF; rw [h]; simp only; rw [if_pos hp]
theorem word_same : ∀ {m : Nat}, (∀ q, q < m → posR D q ≠ p) → wordF l xs i D p m = some (D.text.getD p 0)
  | 0, _ => rfl
  | m + 1, h => word_go (word_same fun q hq => h q (by omega)) (h m (by omega))
theorem word_none {j : Nat} (h : wordF l xs i D p j = none) : ∀ {m : Nat}, j ≤ m → wordF l xs i D p m = none
  | 0, hm => by have : j = 0 := by omega
                subst this; exact h
  | m + 1, hm => by
    by_cases e : j = m + 1
    · subst e; exact h
    · unfold wordF
      rw [word_none h (m := m) (by omega)]
theorem word_relT : ∀ {j : Nat} {t : List Int}, relT l xs i D j = some t → p < D.text.length → wordF l xs i D p j = some (t.getD p 0)
  | 0, t, h, _ => by cases h; rfl
  | j + 1, t, h, hp => by
    unfold relT at h
    cases e : relT l xs i D j with
    | none => rw [e] at h; cases h
    | some t' =>
      rw [e] at h
      cases e2 : relX l xs i D j with
      | none => rw [e2] at h; cases h
      | some y =>
        rw [e2] at h
        simp only [Option.some.injEq] at h
        subst h
        have ih := word_relT e hp
        have hl := relT_len e
        by_cases hj : posR D j = p
        · rw [word_do ih hj, e2, hj]
          simp [List.getD_eq_getElem?_getD, hl, hp]
        · rw [word_go ih hj]
          simp only [List.getD_eq_getElem?_getD]
          rw [List.getElem?_set_ne hj]
theorem relT_fails : ∀ {j : Nat}, relT l xs i D j = none → ∃ q, q < j ∧ relX l xs i D q = none
  | 0, h => by cases h
  | j + 1, h => by
    unfold relT at h
    cases e : relT l xs i D j with
    | none => obtain ⟨q, h1, h2⟩ := relT_fails e; exact ⟨q, by omega, h2⟩
    | some t =>
      rw [e] at h
      cases e2 : relX l xs i D j with
      | none => exact ⟨j, by omega, e2⟩
      | some y => rw [e2] at h; cases h
/-- where all words are there, so is the text -/
theorem words_relT {n4 : Nat} {tk : List Int} (hl : tk.length = D.text.length) (hp : ∀ q, q < n4 → posR D q < D.text.length) (h : ∀ q (hq : q < tk.length), wordF l xs i D q n4 = some tk[q]) : relT l xs i D n4 = some tk := by
  cases e : relT l xs i D n4 with
  | none =>
    exfalso
    obtain ⟨q, hq, hx⟩ := relT_fails e
    have hlt := hp q hq
    have h1 := h (posR D q) (by omega)
    cases h2 : wordF l xs i D (posR D q) q with
    | none => rw [word_none h2 (Nat.le_of_lt hq)] at h1; cases h1
    | some y =>
      have h3 := word_do h2 rfl
      rw [hx] at h3
      rw [word_none h3 (by omega)] at h1; cases h1
  | some t =>
    have hlt := relT_len e
    congr 1
    apply List.ext_getElem (by omega)
    intro q h1 h2
    have h3 := word_relT (p := q) e (by omega)
    rw [h q h2] at h3
    have h4 := Option.some.inj h3
    rw [h4, List.getD_eq_getElem?_getD, List.getElem?_eq_getElem h1]
    rfl
end
end Go.Proofs.YtjngkifoaljmaaaGreatDoor
namespace Go.Proofs.YtjngkifoaljmaaaGreatDoor
set_option maxRecDepth 100000
open Go.RowKit
set_option linter.unusedVariables false
/-- what Relocate's arguments are read from -/
abbrev S9 (w : World) (kr b5 o : Nat) (v0 v1 v2 v3 v4 : Value) (w' : World) : Prop := (w'.cell? ⟨kr, 0, none⟩ = some v0 ∧ w'.cell? ⟨kr, 1, none⟩ = some v1 ∧ w'.cell? ⟨kr, 2, none⟩ = some v2 ∧ w'.cell? ⟨kr, 3, none⟩ = some v3 ∧ w'.cell? ⟨b5, o, none⟩ = some v4) ∧ Hid (Below w.heap.size w w')
theorem s9_below {w : World} {kr b5 o : Nat} {v0 v1 v2 v3 v4 : Value} {w1 w2 : World} (h : S9 w kr b5 o v0 v1 v2 v3 v4 w1) (hb : Below w1.heap.size w1 w2) : S9 w kr b5 o v0 v1 v2 v3 v4 w2 := by
  obtain ⟨⟨h0, h1, h2, h3, h4⟩, h5⟩ := h
  exact ⟨⟨(hb.cell (p := ⟨kr, 0, none⟩) (block_lt h0)).trans h0, (hb.cell (p := ⟨kr, 1, none⟩) (block_lt h1)).trans h1, (hb.cell (p := ⟨kr, 2, none⟩) (block_lt h2)).trans h2, (hb.cell (p := ⟨kr, 3, none⟩) (block_lt h3)).trans h3, (hb.cell (p := ⟨b5, o, none⟩) (block_lt h4)).trans h4⟩, Lib.hid (h5.out.trans (hb.mono h5.out.size))⟩
theorem s9_drew {w : World} {kr b5 o : Nat} {v0 v1 v2 v3 v4 : Value} {w1 : World} (h : S9 w kr b5 o v0 v1 v2 v3 v4 w1) : S9 w kr b5 o v0 v1 v2 v3 v4 w1.drew := s9_below h (Below.refl _ _).drew
set_option maxHeartbeats 8000000 in
theorem rlink_any (l : List ObjD) (hW : ∀ d ∈ l, ObjW d) (A : Option Addr) (n c lo hi : Nat) (hn : l.length = n) (hnc : n ≤ c) (hmx : n ≤ 1000000) (t d : Int) (ht : IsU t) (hd : IsU d) (w : World) (hA : ObjsAt w lo hi l A) (hh : hi ≤ w.heap.size) :
    Calls Tryz.prog 13 #[.slice A n c, .int .u64 t, .int .u64 d] w (LinkP l t d n w) := by
  have HS := Lib.hid (rspots_any l hW A n c lo hi hn hnc hmx t d ht hd w hA hh)
  have HW := Lib.hid hW
  have HN := Lib.hid hn
  have HA := Lib.hid hA
  have HH := Lib.hid hh
  clear hW hn hA hh hnc hmx ht hd
  go_enter Tryz.func13, Tryz.ntmps13
  go_wp2_with fail
  refine HS.out.mono ?_
  rintro e w1 ⟨hb, v, rfl, h1, h2⟩
  have HB1 := Lib.hid hb
  clear hb HS
  by_cases h0 : spC l t d = 0
  case neg =>
    have HK := Lib.hid h0
    have HC := Lib.hid (show lkC l t d n = spC l t d from by unfold lkC; rw [if_pos h0])
    obtain ⟨k, hk⟩ : ∃ k, spC l t d = k := ⟨_, rfl⟩
    have h2' := h2 h0
    subst h2'
    rw [hk] at HK HC ⊢
    have k1 : (k != (0 : Int)) = true := by simpa using HK.out
    clear h1 h2 h0 hk
    go_wp2
    refine bodyPost_ret (v := .tuple #[.slice none 0 0, .slice none 0 0, .int .i64 k]) ?_ rfl (LinkP.no HC.out HK.out HB1.out)
    simp [results, Tryz.results13, go_sem]
  have hs := h1 h0
  obtain ⟨As, cs, rfl⟩ := hs.slice
  rw [spL_len] at hs ⊢
  rw [h0]
  have hck : (chkF l).2 = 0 := by
    by_cases h : (chkF l).2 = 0
    · exact h
    · unfold spC at h0
      rw [if_pos h] at h0
      exact h0
  have HCk := Lib.hid hck
  have HM := Lib.hid (chkF_may hck)
  have hn16 : n ≤ 16 := by rw [← HN.out]; exact mayLs_len HM.out
  have HL0 := Lib.hid (show lkC l t d n = if (txT l (spL l t d n) n).isSome then 0 else 5 from by unfold lkC; rw [if_neg (by rw [h0]; simp)])
  obtain ⟨xs, hxs⟩ : ∃ xs, xs = spL l t d n := ⟨_, rfl⟩
  rw [← hxs] at hs HL0
  have HXs := Lib.hid hxs
  have HSp := Lib.hid hs
  have HT0 := Lib.hid (show TxAt w1 w.heap.size [] (.slice none 0 0) from ⟨none, 0, rfl, World.ownsRow_nil _ _ _ _⟩)
  have HG0 := Lib.hid (show LgAt w1 w.heap.size (daT l 0) (.slice none 0 0) from ⟨none, 0, rfl, World.ownsRow_nil _ _ _ _⟩)
  clear h1 h2 h0 hs hck hxs
  go_wp2
  go_loopw [11, 12, 13] (fun va vb i wr => ∃ (k : Nat) (ya : List Int), k ≤ n ∧ i = .int .i64 k ∧ Hid (txT l xs k = some ya) ∧ Hid (TxAt wr w.heap.size ya va) ∧ Hid (LgAt wr w.heap.size (daT l k) vb) ∧ Hid (SpAt wr w.heap.size xs (.slice As n cs)) ∧ Hid (Below w.heap.size w wr)) (fun _ _ i _ => n - (intOf i).toNat)
  case atStart => exact ⟨0, [], by omega, rfl, Lib.hid rfl, HT0, HG0, HSp, HB1⟩
  case round =>
    clear HT0 HG0 HSp HB1
    obtain ⟨k, ya, hk, rfl, HTx, HT, HG, HSp, HB⟩ := hrel
    by_cases hlt : k < n
    · have k0 : (0 : Int) ≤ k := by omega
      have k1 : (k : Int) < n := by omega
      have hlk : k < l.length := by rw [HN.out]; exact hlt
      obtain ⟨b, o, A1, n1, c1, A2, n2, c2, A3, n3, c3, A4, n4, c4, A5, n5, c5, rfl, hb, ⟨x0, x1, x2, x3, x4⟩, f1, f2, f3, f4, r1, r2⟩ := HA.out.td hlk
      have hfw := may_few HM.out hlk
      rw [f1, f2, f4] at hfw
      have hn1 : n1 ≤ 4096 := hfw.1
      have hn2 : n2 ≤ 1024 := hfw.2.1
      have hn4 : n4 ≤ 16384 := hfw.2.2.2
      obtain ⟨D, hD⟩ : ∃ D, l[k] = D := ⟨_, rfl⟩
      rw [hD] at f1 f2 f4 r1 r2
      have HD := Lib.hid hD
      have HF := Lib.hid (And.intro f1 (And.intro f2 f4))
      have HR1 := Lib.hid r1
      have HR2 := Lib.hid r2
      have HC := Lib.hid (And.intro x0 (And.intro x1 x3))
      have HHb := Lib.hid hb
      clear hfw hD f1 f2 f3 f4 r1 r2 x2 x4 hb
      replace x0 := (HB.out.cell (p := ⟨b, o + k * 5, none⟩) (block_lt x0)).trans x0
      replace x1 := (HB.out.cell (p := ⟨b, o + k * 5 + 1, none⟩) (block_lt x1)).trans x1
      replace x3 := (HB.out.cell (p := ⟨b, o + k * 5 + 3, none⟩) (block_lt x3)).trans x3
      go_wp2
      go_loopw [11, 14] (fun va j wx => ∃ (p : Nat) (tk : List Int), p ≤ n1 ∧ j = .int .i64 p ∧ Hid (tk.length = p ∧ ∀ q (h : q < tk.length), wordF l xs k D q n4 = some tk[q]) ∧ Hid (TxAt wx w.heap.size (ya ++ tk) va) ∧ Hid (LgAt wx w.heap.size (daT l k) u12) ∧ Hid (SpAt wx w.heap.size xs (.slice As n cs)) ∧ Hid (Below w.heap.size w wx)) (fun _ j _ => n1 - (intOf j).toNat)
      case atStart => exact ⟨0, [], by omega, rfl, Lib.hid ⟨rfl, fun q h => by cases h⟩, by rw [List.append_nil]; exact HT, HG, HSp, HB⟩
      case round =>
        clear HT HG HSp HB x0 x1 x3
        obtain ⟨p, tk, hp, rfl, HTk, HT, HG, HSp, HB⟩ := hrel
        have x0 := (HB.out.cell (p := ⟨b, o + k * 5, none⟩) (block_lt HC.out.1)).trans HC.out.1
        by_cases hlp : p < n1
        · have p0 : (0 : Int) ≤ p := by omega
          have p1 : (p : Int) < n1 := by omega
          have hpl : p < D.text.length := by rw [HF.out.1]; exact hlp
          rcases HR1.out with e0 | ⟨b1, o1, rfl, _, _, hc1⟩
          · have h := enc32_at hpl
            rw [e0] at h; cases h
          have v0 := hc1 p _ (enc32_at hpl)
          have v1 := (HB.out.cell (p := ⟨b1, o1 + p, none⟩) (block_lt v0)).trans v0
          have HY0 := Lib.hid (show wordF l xs k D p 0 = some D.text[p] from by
            show some (D.text.getD p 0) = _
            rw [List.getD_eq_getElem?_getD, List.getElem?_eq_getElem hpl]; rfl)
          generalize D.text[p] = Y0 at *
          clear v0 hc1
          go_wp2
          go_loopw [15, 16] (fun wv j wy => ∃ (q : Nat) (y : Int), q ≤ n4 ∧ j = .int .i64 q ∧ wv = .int .u32 y ∧ Hid (wordF l xs k D p q = some y) ∧ Hid (TxAt wy w.heap.size (ya ++ tk) u11) ∧ Hid (LgAt wy w.heap.size (daT l k) u12) ∧ Hid (SpAt wy w.heap.size xs (.slice As n cs)) ∧ Hid (Below w.heap.size w wy)) (fun _ j _ => n4 - (intOf j).toNat)
          case atStart => exact ⟨0, Y0, by omega, rfl, rfl, HY0, HT, HG, HSp, HB⟩
          case round =>
            clear HT HG HSp HB x0 v1 HY0
            obtain ⟨q, y, hq, rfl, rfl, HY, HT, HG, HSp, HB⟩ := hrel
            have x3 := (HB.out.cell (p := ⟨b, o + k * 5 + 3, none⟩) (block_lt HC.out.2.2)).trans HC.out.2.2
            by_cases hlq : q < n4
            · have q0 : (0 : Int) ≤ q := by omega
              have q1 : (q : Int) < n4 := by omega
              have hDk := HD.out
              have hql : q < l[k].rels.length := by rw [hDk, HF.out.2.2]; exact hlq
              obtain ⟨b', o', n4', c4', b4, o4, eA, yA, hn4', z0, z1, z2, z3⟩ := (HA.out.below HH.out HB.out).relAt hlk hql
              cases eA
              have eS := x3.symm.trans yA
              cases eS
              have hok := (may_rel HM.out hlk hql).1
              have hops := (may_rel HM.out hlk hql).2
              have hall : ∀ j, j < q → relOkB D j = true := fun j hj => by
                have h := (may_rel HM.out hlk (j := j) (by omega)).1
                rw [hDk] at h; exact h
              obtain ⟨k', hk', j', hj', hfnd⟩ := chk_found HCk.out hlk (List.getElem_mem hql)
              have hrW := (HW.out _ (List.getElem_mem hlk)).rels _ (List.getElem_mem hql)
              have hrel : relAt D q = l[k].rels[q] := by
                unfold relAt
                rw [← hDk]
                simp [hql]
              rw [hDk] at hok hops
              obtain ⟨⟨ra, rk, rn, rd⟩, hr⟩ : ∃ r, l[k].rels[q] = r := ⟨_, rfl⟩
              rw [hr] at z0 z1 z2 z3 hfnd hrW hrel
              simp only at z0 z1 z2 z3 hfnd hrW
              obtain ⟨g0, g1, g2, hpl2, huq, hsu⟩ := rel_spot hok
              rw [hrel] at g0 g1 g2 hsu
              simp only at g0 g1 g2 hsu
              obtain ⟨P, hP⟩ : ∃ P, posR D q = P := ⟨_, rfl⟩
              rw [hP] at g2 hpl2 hsu
              subst g2
              have HPq := Lib.hid hP
              have hPb : P ≤ 4096 := by have := HF.out.1; omega
              by_cases hPp : P = p
              case neg =>
                have g : ((4 * (P : Int)) == 4 * (p : Int)) = false := by simp; omega
                have HY2 := Lib.hid (word_go HY.out (m := q) (by rw [hP]; exact hPp))
                clear hok hops hall hfnd hrW hrel hr hpl2 huq hsu hP hPp g0 g1 hql hn4' yA hk' hj'
                have hba := (Below.refl wr.heap.size wr).alloc (Nat.le_refl _) (.cells #[.int .i64 (4 * (P : Int)), .int .i64 rk, .string rn, .int .i64 rd] 55)
                have HT2 := Lib.hid (HT.out.below hba)
                have HG2 := Lib.hid (HG.out.below hba)
                have HS2 := Lib.hid (HSp.out.below hba)
                have HB2 := Lib.hid (HB.out.trans (hba.mono HB.out.size))
                clear hba HT HG HSp HB
                go_wp2
                go_roundw
                case rel => exact ⟨q + 1, y, by omega, by go_num, rfl, HY2, HT2, HG2, HS2, HB2⟩
                case measure => simp [intOf]; omega
              subst hPp
              have hns : ∀ j, j < q → posR D j ≠ P := fun j hj => by
                rcases huq j hj with h | h
                · rw [hP] at h; exact h
                · exact absurd (hall j hj) h
              have hy := (word_same (l := l) (xs := xs) (i := k) hns).symm.trans HY.out
              have hye : D.text.getD P 0 = y := Option.some.inj hy
              have hwm : y ∈ D.text := by rw [← hye]; exact getD_mem hpl2
              have hwW : IsW y := (HW.out D (by rw [← hDk]; exact List.getElem_mem hlk)).text _ hwm
              have hwO := hops _ hwm
              obtain ⟨nn, hnn⟩ := Option.isSome_iff_exists.1 hwO
              have hsu2 : suitB rk nn = true := by
                have e : nth (opsL D.text) P = (nn : Int) := by
                  unfold opsL nth
                  rw [List.getD_eq_getElem?_getD, List.getElem?_map, List.getElem?_eq_getElem hpl2]
                  rw [List.getD_eq_getElem?_getD, List.getElem?_eq_getElem hpl2] at hye
                  have hye : D.text[P] = y := hye
                  rw [hye]
                  simp [hnn]
                rw [e, Int.toNat_natCast] at hsu
                exact hsu
              have hkx : k < xs.length := by rw [HXs.out, spL_len]; omega
              have hkx' : k' < xs.length := by rw [HXs.out, spL_len]; have := HN.out; omega
              have hjm := (may_few HM.out hk').2.2.1
              have htg : tgV (adr1 xs[k'] l[k'].syms[j'].2.1 l[k'].syms[j'].2.2.1) rd = tgD l xs k rn rd := by
                unfold tgD
                rw [hfnd]
                unfold adrD symAt
                simp [nAt_get hk', hkx', hj']
              have HXq := Lib.hid (show relX l xs k D q = doneV y rk (IntKind.u64.wrap (xs[k].1 + IntKind.u64.wrap (4 * (P : Int)))) (tgV (adr1 xs[k'] l[k'].syms[j'].2.1 l[k'].syms[j'].2.2.1) rd) from by
                unfold relX
                rw [hP, hrel, htg, hye]
                simp [hkx])
              obtain ⟨xk, hxk⟩ : ∃ xk, xs[k].1 = xk := ⟨_, rfl⟩
              have HXk := Lib.hid (show ∀ h : k < xs.length, (xs[k]'h).1 = xk from fun _ => hxk)
              rw [hxk] at HXq
              obtain ⟨b5, o5, rfl, s0, -⟩ := HSp.out.at_ hkx
              rw [hxk] at s0
              have hba := (Below.refl wr.heap.size wr).alloc (Nat.le_refl _) (.cells #[.int .i64 (4 * (P : Int)), .int .i64 rk, .string rn, .int .i64 rd] 55)
              have hBa := HB.out.trans (hba.mono HB.out.size)
              have HFn := Lib.hid (rfind7_any l (some ⟨b, o, none⟩) n c lo hi HN.out (by omega) (by have := (may_sums HM.out).2.1; omega) k (by omega) rn _ (HA.out.below HH.out hBa) (Nat.le_trans HH.out hBa.size))
              have HFe := Lib.hid (show findP l k rn = some ((k' : Int), (j' : Int)) from by rw [← fnd_plain hlk]; exact hfnd)
              have HAd := Lib.hid (fun (W : World) (hb : Below w.heap.size w W) (hS : SpAt W w.heap.size xs (.slice (some ⟨b5, o5, none⟩) n cs)) => raddr_yes l (some ⟨b, o, none⟩) n c lo hi HN.out (by omega) xs (some ⟨b5, o5, none⟩) cs w.heap.size W (HA.out.below HH.out hb) (Nat.le_trans HH.out hb.size) hS k' j' hk' hj' hjm hkx')
              obtain ⟨va, hva⟩ : ∃ va, adr1 xs[k'] l[k'].syms[j'].2.1 l[k'].syms[j'].2.2.1 = va := ⟨_, rfl⟩
              rw [hva] at HXq HAd
              have HRl := Lib.hid (rreloc_any y rk (IntKind.u64.wrap (xk + IntKind.u64.wrap (4 * (P : Int)))) (IntKind.u64.wrap (va + IntKind.u64.wrap rd)) nn hwW hnn hsu2 (wrU _) (wrU _))
              have HT2 := Lib.hid (HT.out.below hba)
              have HG2 := Lib.hid (HG.out.below hba)
              have HS2 := Lib.hid (HSp.out.below hba)
              have HB2 := Lib.hid hBa
              have HX0 := Lib.hid (heap_alloc_new wr (.cells #[.int .i64 (4 * (P : Int)), .int .i64 rk, .string rn, .int .i64 rd] 55))
              have HS0 := Lib.hid s0
              have HHq := Lib.hid hq
              have Hhk := Lib.hid (And.intro hk hlk)
              clear hba hBa hxk hva htg hkx hkx' hjm hsu2 hnn hwO hwW hwm hye hy hns hok hops hall hfnd hrW hrel hr huq hsu g0 g1 hql hn4' HT HG HSp HB s0 hDk hk' hj'
              go_wp2_with fail
              refine HFn.out.mono ?_
              rintro e w5 ⟨rfl, hb5⟩
              rw [HFe.out, show defV (some ((k' : Int), (j' : Int))) = .agg #[.int .i64 k', .int .i64 j'] from rfl, show (some ((k' : Int), (j' : Int))).isSome = true from rfl]
              have hbl := (Below.refl w5.heap.size w5).alloc (Nat.le_refl _) (.cells #[.int .i64 k', .int .i64 j'] 27)
              have hb8 := hb5.trans (hbl.mono hb5.size)
              have HT3 := Lib.hid (HT2.out.below hb8)
              have HG3 := Lib.hid (HG2.out.below hb8)
              have HS3 := Lib.hid (HS2.out.below hb8)
              have HB3 := Lib.hid (HB2.out.trans (hb8.mono HB2.out.size))
              have HX3 := Lib.hid ((hb8.block _ (Array.getElem?_eq_some_iff.1 HX0.out).1).trans HX0.out)
              have HD3 := Lib.hid (heap_alloc_new w5 (.cells #[.int .i64 k', .int .i64 j'] 27))
              obtain ⟨e0, e1, e2, e3, ef⟩ := row4 HX3.out
              obtain ⟨d0, d1, df⟩ := row2 HD3.out
              clear hb5 hbl hb8 HT2 HG2 HS2 HB2 HX0 z0 z1 z2 z3 x3
              go_wp2_with fail
              refine (HAd.out _ HB3.out HS3.out).mono ?_
              rintro e w6 ⟨hb6, he⟩
              have he : e = .returned (.tuple #[.int .u64 va, .bool true]) := he
              subst he
              have HT4 := Lib.hid (HT3.out.below hb6)
              have HG4 := Lib.hid (HG3.out.below hb6)
              have HS4 := Lib.hid (HS3.out.below hb6)
              have HB4 := Lib.hid (HB3.out.trans (hb6.mono HB3.out.size))
              have HX4 := Lib.hid ((hb6.block _ (Array.getElem?_eq_some_iff.1 HX3.out).1).trans HX3.out)
              obtain ⟨b5', o5', e5, s4, -⟩ := HS4.out.at_ (i := k) (by rw [HXs.out, spL_len]; exact hlt)
              cases e5
              rw [HXk.out] at s4
              clear e0 e1 e2 e3 ef d0 d1 df hb6 HT3 HG3 HS3 HB3 HX3 HD3
              obtain ⟨e0, e1, e2, e3, ef⟩ := row4 HX4.out
              have hS9 : S9 w6 wr.heap.size b5 (o5 + k * 2) (.int .i64 (4 * (P : Int))) (.int .i64 rk) (.string rn) (.int .i64 rd) (.int .u64 xk) w6 := ⟨⟨e0, e1, e2, e3, s4⟩, Lib.hid (Below.refl _ _)⟩
              generalize wr.heap.size = kr at *
              clear e0 e1 e2 e3 ef s4
              obtain ⟨rX, hrX⟩ : ∃ rX, doneV y rk (IntKind.u64.wrap (xk + IntKind.u64.wrap (4 * (P : Int)))) (IntKind.u64.wrap (va + IntKind.u64.wrap rd)) = rX := ⟨_, rfl⟩
              have HXr := Lib.hid (show relX l xs k D q = rX from by rw [← hrX]; exact HXq.out)
              rw [hrX] at HRl
              clear hrX HXq HAd HFn HFe HX4
              cases rX
              case none =>
                have HC5 := Lib.hid (show lkC l t d n = 5 from by
                  rw [HL0.out, txT_bad (k := k) (j := q) (by rw [nAt_get Hhk.out.2, HD.out, HF.out.2.2]; exact hlq) (by rw [nAt_get Hhk.out.2, HD.out]; exact HXr.out) hlt]; rfl)
                simp only [Option.isSome_none, Option.getD_none] at HRl
                unfold RRel at HRl
                go_wp2_with fail
                go_region_held3 (fun w' => S9 w6 kr b5 (o5 + k * 2) (.int .i64 (4 * (P : Int))) (.int .i64 rk) (.string rn) (.int .i64 rd) (.int .u64 xk) w') (first | (with_reducible assumption) | ((with_reducible apply s9_drew); (with_reducible assumption)) | ((with_reducible apply s9_below); (with_reducible assumption); (with_reducible assumption)))
                  (first
                  | (go_at_call 29; (with_reducible refine (HRl.out _).mono ?_); rintro e w' ⟨hb, rfl⟩))
                all_goals
                  rename_i hhx
                  have HHx := Lib.hid hhx.2.out
                  clear hhx hS9
                  have HBz := Lib.hid (HB4.out.trans (HHx.out.mono HB4.out.size))
                  go_wp2
                  refine bodyPost_ret (v := .tuple #[.slice none 0 0, .slice none 0 0, .int .i64 5]) ?_ rfl (LinkP.no HC5.out (by omega) HBz.out)
                  simp [results, Tryz.results13, go_sem]
              case some y2 =>
                have HY2 := Lib.hid ((word_do HY.out HPq.out).trans HXr.out)
                simp only [Option.isSome_some, Option.getD_some] at HRl
                unfold RRel at HRl
                go_wp2_with fail
                go_region_held3 (fun w' => S9 w6 kr b5 (o5 + k * 2) (.int .i64 (4 * (P : Int))) (.int .i64 rk) (.string rn) (.int .i64 rd) (.int .u64 xk) w') (first | (with_reducible assumption) | ((with_reducible apply s9_drew); (with_reducible assumption)) | ((with_reducible apply s9_below); (with_reducible assumption); (with_reducible assumption)))
                  (first
                  | (go_at_call 29; (with_reducible refine (HRl.out _).mono ?_); rintro e w' ⟨hb, rfl⟩))
                all_goals
                  rename_i hhx
                  have HHx := Lib.hid hhx.2.out
                  clear hhx hS9
                  have HT5 := Lib.hid (HT4.out.below HHx.out)
                  have HG5 := Lib.hid (HG4.out.below HHx.out)
                  have HS5 := Lib.hid (HS4.out.below HHx.out)
                  have HB5 := Lib.hid (HB4.out.trans (HHx.out.mono HB4.out.size))
                  go_wp2
                  go_roundw
                  case rel => exact ⟨q + 1, y2, by have := HHq.out; omega, by go_num, rfl, HY2, HT5, HG5, HS5, HB5⟩
                  case measure => simp [intOf]; omega
            · have hqn : q = n4 := by omega
              have q1 : ¬ (q : Int) < n4 := by omega
              subst hqn
              obtain ⟨i0, hi0, hz0, hz1, hz2⟩ := info_parts info_u32
              obtain ⟨Av, cv, rfl, hown⟩ := HT.out
              have hba := (Below.refl wr.heap.size wr).alloc (Nat.le_refl _) (.cells #[.int .u32 y] 45)
              have hyl := txT_len (Nat.le_of_lt hlk) HTx.out
              have hsl := sumT_le l k
              have hts := (may_sumTD HM.out).1
              have htl : (ya ++ tk).length = ya.length + p := by rw [List.length_append, HTk.out.1]
              rw [htl] at hown ⊢
              have hyb : ya.length ≤ 65536 := by omega
              have HWa := Lib.hid (rowO_below hown hba)
              have HG2 := Lib.hid (HG.out.below hba)
              have HS2 := Lib.hid (HSp.out.below hba)
              have HB2 := Lib.hid (HB.out.trans (hba.mono HB.out.size))
              have HNa := Lib.hid (news_at (w := wr) (w2 := wr.alloc (.cells #[.int .u32 y] 45)) (cs := encU32 y) (ty := 45) rfl)
              have H1s := Lib.hid (one_u32v y)
              have HMl := Lib.hid (show ya.length + p + 1 ≤ maxLen by unfold maxLen; omega)
              have HBy := Lib.hid (show (ya.length + p + 1) * 4 ≤ 140737488355328 by omega)
              have HZ := Lib.hid HB2.out.size
              clear hba hown htl hyl hsl hts HT HG HSp HB
              go_wp2_with (at_builtin; (refine wpList_append_at6 rfl _ _ 38 rfl w.heap.size 45 i0 (.int .u32 0) 1 4 Tryz.underlying38 hi0 hz0 hz1 hz2 rfl (by decide) (.slice Av (ya.length + p) cv) (ya.length + p) ((ya ++ tk).flatMap encU32) ?hs HWa.out ⟨wr.heap.size, 0, none⟩ 1 1 (encU32 y) ?hx rfl HNa.out H1s.out HMl.out HBy.out HZ.out ?_; (case hs => rfl); (case hx => rfl); intro v' w7 hr hg hv'))
              have hge := own_ge HWa.out
              have HT7 := Lib.hid (show TxAt w7 w.heap.size (ya ++ (tk ++ [y])) v' from by
                obtain ⟨A3, e3, rfl⟩ := ownO_slice hr
                refine ⟨A3, e3, by rw [List.length_append, List.length_append, HTk.out.1]; rfl, ?_⟩
                rw [← List.append_assoc, List.length_append, List.length_append, HTk.out.1, List.flatMap_append, List.flatMap_cons, List.flatMap_nil, List.append_nil]
                exact hr)
              have HG7 := Lib.hid (show LgAt w7 w.heap.size (daT l k) u12 from by
                obtain ⟨A3, e3, e4, ho⟩ := HG2.out
                exact ⟨A3, e3, e4, rowO_other ho HWa.out (by decide) hg⟩)
              have HS7 := Lib.hid (show SpAt w7 w.heap.size xs (.slice As n cs) from by
                obtain ⟨A3, e3, e4, ho⟩ := HS2.out
                exact ⟨A3, e3, e4, rowO_other ho HWa.out (by decide) hg⟩)
              have HB7 := Lib.hid (HB2.out.grown hg HB2.out.size hge)
              have HTk7 := Lib.hid (show (tk ++ [y]).length = p + 1 ∧ ∀ q' (h : q' < (tk ++ [y]).length), wordF l xs k D q' q = some (tk ++ [y])[q'] from by
                refine ⟨by rw [List.length_append, HTk.out.1]; rfl, fun q' h => ?_⟩
                by_cases e : q' < tk.length
                · rw [List.getElem_append_left e]; exact HTk.out.2 q' e
                · have e2 : q' = tk.length := by rw [List.length_append] at h; simp at h; omega
                  subst e2
                  rw [List.getElem_append_right (by omega)]
                  simp only [Nat.sub_self, List.getElem_cons_zero]
                  rw [HTk.out.1]; exact HY.out)
              clear hr hg hv' hge HTk HWa HG2 HS2 HB2
              go_roundw
              case rel => exact ⟨p + 1, tk ++ [y], by omega, by go_num, HTk7, HT7, HG7, HS7, HB7⟩
              case measure => simp [intOf]; omega
        · have hpn : p = n1 := by omega
          have p1 : ¬ (p : Int) < n1 := by omega
          subst hpn
          have hDk := HD.out
          have hrT := words_relT (l := l) (xs := xs) (i := k) (D := D) (n4 := n4) (tk := tk) (by rw [HTk.out.1, HF.out.1]) (fun q hq => by
            have h := (may_rel HM.out hlk (j := q) (by rw [hDk, HF.out.2.2]; exact hq)).1
            rw [hDk] at h
            exact (rel_spot h).2.2.2.1) HTk.out.2
          have HTx2 := Lib.hid (show txT l xs (k + 1) = some (ya ++ tk) from txT_go HTx.out (by rw [nAt_get hlk, hDk, HF.out.2.2]; exact hrT))
          have HDa := Lib.hid (show daT l (k + 1) = daT l k ++ D.data from by rw [daT_go hlk, hDk])
          have x1 := (HB.out.cell (p := ⟨b, o + k * 5 + 1, none⟩) (block_lt HC.out.2.1)).trans HC.out.2.1
          obtain ⟨i0, hi0, hz0, hz1, hz2⟩ := info_parts info_u64k
          obtain ⟨Au, cu, rfl, hown⟩ := HG.out
          have hal := daT_len l k (Nat.le_of_lt hlk)
          have hts := (may_sumTD HM.out).2
          have hsl := sumD_le l k
          obtain ⟨a, ha⟩ : ∃ a, daT l k = a := ⟨_, rfl⟩
          rw [ha] at hown hal HDa ⊢
          have ham : a.length + n2 ≤ 65536 := by omega
          have HOw := Lib.hid hown
          have HRc := Lib.hid (HR2.out.move (lo' := lo) (hi' := hi) (w' := wr) (Nat.le_refl _) (Nat.le_refl _) (fun b' _ hb' => HB.out.block b' (Nat.lt_of_lt_of_le hb' HH.out)))
          have HLn := Lib.hid (show (D.data.flatMap encU64).length = n2 by rw [enc64_len]; exact HF.out.2.1)
          have H1c := Lib.hid (one_l8 D.data)
          have HMl := Lib.hid (show a.length + n2 ≤ maxLen by unfold maxLen; omega)
          have HBy := Lib.hid (show (a.length + n2) * 8 ≤ 140737488355328 by omega)
          have HSz1 := Lib.hid HB.out.size
          clear hown hal hts hsl hDk hrT HG
          go_wp2_with (at_builtin; (refine wpList_append_any8 rfl _ _ 39 rfl w.heap.size 23 i0 (.int .u64 0) 8 Tryz.underlying39 hi0 hz0 hz1 hz2 rfl (.slice Au a.length cu) a.length (a.flatMap encU64) ?hs HOw.out A2 n2 c2 lo hi (D.data.flatMap encU64) ?hx HLn.out HRc.out H1c.out HMl.out HBy.out HSz1.out ?_; (case hs => rfl); (case hx => rfl); intro v' w7 hr hg))
          have hge := own_ge HOw.out
          have HT7 := Lib.hid (show TxAt w7 w.heap.size (ya ++ tk) u11 from by
            obtain ⟨A3, e3, e4, ho⟩ := HT.out
            exact ⟨A3, e3, e4, rowO_other ho HOw.out (by decide) hg⟩)
          have HG7 := Lib.hid (show LgAt w7 w.heap.size (daT l (k + 1)) v' from by
            obtain ⟨A3, e3, rfl⟩ := ownO_slice hr
            refine ⟨A3, e3, by rw [HDa.out, List.length_append, HF.out.2.1], ?_⟩
            rw [HDa.out, List.length_append, HF.out.2.1, List.flatMap_append]
            exact hr)
          have HS7 := Lib.hid (show SpAt w7 w.heap.size xs (.slice As n cs) from by
            obtain ⟨A3, e3, e4, ho⟩ := HSp.out
            exact ⟨A3, e3, e4, rowO_other ho HOw.out (by decide) hg⟩)
          have HB7 := Lib.hid (HB.out.grown hg HB.out.size hge)
          clear hr hg hge HOw HRc HT HSp HB
          go_roundw
          case rel => exact ⟨k + 1, ya ++ tk, by omega, by go_num, HTx2, HT7, HG7, HS7, HB7⟩
          case measure => simp [intOf]; omega
    · have hkn : k = n := by omega
      have k1 : ¬ (k : Int) < n := by omega
      subst hkn
      have HC := Lib.hid (show lkC l t d k = 0 from by rw [HL0.out, HTx.out]; rfl)
      have HT2 := Lib.hid HT.out
      have HG2 := Lib.hid HG.out
      have HQ := Lib.hid (show txT l (spL l t d k) k = some ya from by rw [← HXs.out]; exact HTx.out)
      obtain ⟨Av, cv, rfl, -⟩ := HT.out
      obtain ⟨Au, cu, rfl, -⟩ := HG.out
      clear HT HG
      go_wp2
      refine bodyPost_ret (v := .tuple #[.slice Av ya.length cv, .slice Au (daT l k).length cu, .int .i64 0]) ?_ rfl (LinkP.yes HC.out HQ.out HT2.out HG2.out HB.out)
      simp [results, Tryz.results13, go_sem]
end Go.Proofs.YtjngkifoaljmaaaGreatDoor
namespace Go.Proofs.YtjngkifoaljmaaaGreatDoor
set_option maxRecDepth 100000
open Go.RowKit
set_option linter.unusedVariables false
/-- how many words the first k have, as the machine reckons it -/
def wT8 (l : List ObjD) : Nat → Int
  | 0 => 0
  | k + 1 => wrap64 (wT8 l k + ((nAt l k).text.length : Int))
def wD8 (l : List ObjD) : Nat → Int
  | 0 => 0
  | k + 1 => wrap64 (wD8 l k + ((nAt l k).data.length : Int))
theorem wT8_go {l : List ObjD} {k n : Nat} (h : k < l.length) (hn : l[k].text.length = n) : wT8 l (k + 1) = wrap64 (wT8 l k + (n : Int)) := by
  show wrap64 (wT8 l k + ((nAt l k).text.length : Int)) = _
  rw [nAt_get h, hn]
theorem wD8_go {l : List ObjD} {k n : Nat} (h : k < l.length) (hn : l[k].data.length = n) : wD8 l (k + 1) = wrap64 (wD8 l k + (n : Int)) := by
  show wrap64 (wD8 l k + ((nAt l k).data.length : Int)) = _
  rw [nAt_get h, hn]
set_option maxHeartbeats 2000000 in
theorem rsizes_w (l : List ObjD) (A : Option Addr) (i c lo hi : Nat) (hil : i ≤ l.length) (hmx : l.length ≤ 1000000) (w : World) (hA : ObjsAt w lo hi l A) (hh : hi ≤ w.heap.size) :
    Calls Tryz.prog 11 #[.slice A i c] w fun e w' => e = .returned (.tuple #[.int .i64 (wT8 l i), .int .i64 (wD8 l i)]) ∧ w' = w := by
  have HI := Lib.hid hil
  have HA := Lib.hid hA
  have him : i ≤ 1000000 := by omega
  clear hil hA hh hmx
  go_enter Tryz.func11, Tryz.ntmps11
  go_wp2
  go_loopw [4, 5, 6] (fun x y j wr => ∃ k : Nat, k ≤ i ∧ j = .int .i64 k ∧ x = .int .i64 (wT8 l k) ∧ y = .int .i64 (wD8 l k) ∧ Hid (wr = w)) (fun _ _ j _ => i - (intOf j).toNat)
  case atStart => exact ⟨0, by omega, rfl, rfl, rfl, Lib.hid rfl⟩
  case round =>
    obtain ⟨k, hk, rfl, rfl, rfl, HW⟩ := hrel
    have hw := HW.out
    clear HW
    subst hw
    by_cases hlt : k < i
    · have k0 : (0 : Int) ≤ k := by omega
      have k1 : (k : Int) < i := by omega
      have hlk : k < l.length := by have := HI.out; omega
      obtain ⟨b, o, A1, n1, c1, A2, n2, c2, A3, n3, c3, A4, n4, c4, A5, n5, c5, rfl, hb, ⟨x0, x1, x2, x3, x4⟩, h1, h2, -⟩ := HA.out.td hlk
      have HE := Lib.hid (And.intro (wT8_go hlk h1) (wD8_go hlk h2))
      clear h1 h2 hb x2 x3 x4
      generalize wT8 l k = a at *
      generalize wD8 l k = b' at *
      go_wp2
      go_roundw
      case rel => exact ⟨k + 1, by omega, by go_num, by rw [HE.out.1], by rw [HE.out.2], Lib.hid trivial⟩
      case measure => simp [intOf]; omega
    · have hkn : k = i := by omega
      have k1 : ¬ (k : Int) < i := by omega
      subst hkn
      go_wp2
      go_ret2
      exact ⟨rfl, rfl⟩
set_option maxHeartbeats 2000000 in
theorem psizes_w (l : List ObjD) (A : Option Addr) (n c lo hi : Nat) (hn : l.length = n) (hmx : n ≤ 1000000) (w : World) (hA : ObjsAt w lo hi l A) (hh : hi ≤ w.heap.size) :
    Calls Tryz.prog 10 #[.slice A n c] w fun e w' => e = .returned (.tuple #[.int .i64 (wT8 l n), .int .i64 (wD8 l n)]) ∧ Below w.heap.size w w' := by
  have HN := Lib.hid hn
  have HA := Lib.hid hA
  have HH := Lib.hid hh
  clear hn hA hh
  go_enter Tryz.func10, Tryz.ntmps10
  go_wp2
  go_loopw [10, 4, 5] (fun i x y wr => ∃ k : Nat, k ≤ n ∧ i = .int .i64 k ∧ x = .int .i64 (wT8 l k) ∧ y = .int .i64 (wD8 l k) ∧ Hid (Below w.heap.size w wr)) (fun i _ _ _ => n - (intOf i).toNat)
  case atStart => exact ⟨0, by omega, rfl, rfl, rfl, Lib.hid (Below.refl _ _)⟩
  case round =>
    obtain ⟨k, hk, rfl, rfl, rfl, HB⟩ := hrel
    by_cases hlt : k < n
    · have k0 : (0 : Int) ≤ k := by omega
      have k1 : (k : Int) < n := by omega
      have HLk := Lib.hid (show k < l.length by rw [HN.out]; exact hlt)
      obtain ⟨b, o, A1, n1, c1, A2, n2, c2, A3, n3, c3, A4, n4, c4, A5, n5, c5, rfl, hb, ⟨x0, x1, x2, x3, x4⟩, h1, h2, -⟩ := (HA.out.below HH.out HB.out).td HLk.out
      have HE := Lib.hid (And.intro (wT8_go HLk.out h1) (wD8_go HLk.out h2))
      have HBx := Lib.hid (HB.out.trans (((Below.refl wr.heap.size wr).alloc (Nat.le_refl _) (.cells #[.slice A1 n1 c1, .slice A2 n2 c2, .slice A3 n3 c3, .slice A4 n4 c4, .slice A5 n5 c5] 59)).mono HB.out.size))
      clear h1 h2 hb
      generalize wT8 l k = a at *
      generalize wD8 l k = b at *
      go_wp2
      go_roundw
      case rel => exact ⟨k + 1, by omega, by go_num, by rw [HE.out.1], by rw [HE.out.2], HBx⟩
      case measure => simp [intOf]; omega
    · have hkn : k = n := by omega
      have k1 : ¬ (k : Int) < n := by omega
      subst hkn
      go_wp2
      go_ret2
      exact ⟨rfl, HB.out⟩
end Go.Proofs.YtjngkifoaljmaaaGreatDoor
