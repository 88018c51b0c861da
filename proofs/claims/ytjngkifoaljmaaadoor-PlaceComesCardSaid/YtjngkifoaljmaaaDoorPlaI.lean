/- Layer 8: all texts, walked. Condition: the tables of package ins read as they should.
   Layer 8: all data. Condition: the tables of package ins read as they should.
   Layer 8: Link, behind allText's contract. Condition: the tables of package ins read as they should.
   Layer 8: what awake asks, plainly. No condition.
   Layer 8: what the document fixes, behind Link's contract. Condition: the tables of package ins read as they should.
   Layer 8: what the document fixes of it; Link of any list. Condition: the tables of package ins read as they should. -/
import Derived.Test.YtjngkifoaljmaaaDoorPlaF
import Derived.Deep.RegionHeldLaw
import Derived.Test.YtjngkifoaljmaaaDoorInsE
namespace Go.Proofs.YtjngkifoaljmaaaDoor
set_option maxRecDepth 100000
open Go.RowKit
set_option linter.unusedVariables false
set_option linter.unusedSimpArgs false
theorem calls_target (args : Array Value) (w : World) : (callFunc 48 args).run Tryd.prog w = .ok (.enter 48 args) w := by kernel_rfl
theorem calls_done (args : Array Value) (w : World) : (callFunc 27 args).run Tryd.prog w = .ok (.enter 27 args) w := by kernel_rfl
theorem step_call8 {P : Program} {ops : Array Oper} {o : Oper} {a : Act} {w : World} {K : Act → World → Prop} {Q : Exit → Act → World → Prop} {E : Prop} (hgd : o.guard = none) (f : FuncId) (args : Array Operand) (tys : Array TypeId)
    (ho : o.op = .call { callee := .value (.func f), args := args, argTypes := tys }) (vals : Array Value) (hv : args.map a.eval = vals) (hf : ∀ (args : Array Value) (w : World), (callFunc f args).run P w = .ok (.enter f args) w) {post : Ending → World → Prop} (hc : Calls P f vals w post)
    (h : ∀ e w', post e w' → (∃ ch, e = .panicked ch ∧ Q (.panic ch) a w') ∨ ∃ v, e = .returned v ∧ K (a.put o.dst v) w') : if Region.wanted o (yielded ops a.tmps) = true then Oper.wp P o a w K Q else E := by
  have hw : Region.wanted o (yielded ops a.tmps) = true := by simp [Region.wanted, hgd]
  rw [if_pos hw]
  subst hv
  unfold Oper.wp
  have hr : (execOp a.eval o).run P w = .ok (.enter f (args.map a.eval)) w := by
    simp [execOp, ho, resolve, Act.eval, Deferred.ofValue, invoke, hf]
  rw [hr, Oper.upon_enter]
  refine hc.mono ?_
  intro e w' hp
  rcases h e w' hp with ⟨v, rfl, hk⟩ | ⟨v, rfl, hk⟩
  · exact hk
  · exact hk
/-- what a round's loads read, and that the row's block lies there -/
abbrev S8 (w : World) (kr b5 o g : Nat) (v0 v1 v2 v3 v4 : Value) (w' : World) : Prop := (w'.cell? ⟨kr, 0, none⟩ = some v0 ∧ w'.cell? ⟨kr, 1, none⟩ = some v1 ∧ w'.cell? ⟨kr, 2, none⟩ = some v2 ∧ w'.cell? ⟨kr, 3, none⟩ = some v3 ∧ w'.cell? ⟨b5, o, none⟩ = some v4) ∧ Hid (Below w.heap.size w w' ∧ kr ≠ g ∧ b5 ≠ g ∧ w.heap.size ≤ g)
theorem s8_below {w : World} {kr b5 o g : Nat} {v0 v1 v2 v3 v4 : Value} {w1 w2 : World} (h : S8 w kr b5 o g v0 v1 v2 v3 v4 w1) (hb : Below w1.heap.size w1 w2) : S8 w kr b5 o g v0 v1 v2 v3 v4 w2 := by
  obtain ⟨⟨h0, h1, h2, h3, h4⟩, h5⟩ := h
  obtain ⟨h5, h6⟩ := h5.out
  exact ⟨⟨(hb.cell (p := ⟨kr, 0, none⟩) (block_lt h0)).trans h0, (hb.cell (p := ⟨kr, 1, none⟩) (block_lt h1)).trans h1, (hb.cell (p := ⟨kr, 2, none⟩) (block_lt h2)).trans h2, (hb.cell (p := ⟨kr, 3, none⟩) (block_lt h3)).trans h3, (hb.cell (p := ⟨b5, o, none⟩) (block_lt h4)).trans h4⟩, Lib.hid ⟨h5.trans (hb.mono h5.size), h6⟩⟩
theorem s8_drew {w : World} {kr b5 o g : Nat} {v0 v1 v2 v3 v4 : Value} {w1 : World} (h : S8 w kr b5 o g v0 v1 v2 v3 v4 w1) : S8 w kr b5 o g v0 v1 v2 v3 v4 w1.drew := s8_below h (Below.refl _ _).drew
theorem s8_set {w : World} {kr b5 o g j : Nat} {v0 v1 v2 v3 v4 u : Value} {w1 : World} (h : S8 w kr b5 o g v0 v1 v2 v3 v4 w1) : S8 w kr b5 o g v0 v1 v2 v3 v4 (w1.setCell ⟨g, j, none⟩ u) := by
  obtain ⟨⟨h0, h1, h2, h3, h4⟩, h5⟩ := h
  obtain ⟨h5, h6, h7, h8⟩ := h5.out
  have e : ∀ {b k : Nat}, b ≠ g → (w1.setCell ⟨g, j, none⟩ u).cell? ⟨b, k, none⟩ = w1.cell? ⟨b, k, none⟩ := fun {b k} hb => World.cell?_of_block (setNew_row hb)
  exact ⟨⟨(e h6).trans h0, (e h6).trans h1, (e h6).trans h2, (e h6).trans h3, (e h7).trans h4⟩, Lib.hid ⟨below_setNew h5 h8, h6, h7, h8⟩⟩
theorem DonP.split {r : Option Int} {w w' : World} {e : Ending} (h : DonP r w e w') : (r = none ∧ e = misP ∧ Below w.heap.size w w') ∨ ∃ y, r = some y ∧ e = .returned (.int .u32 y) ∧ Below w.heap.size w w' := by
  obtain ⟨hb, h⟩ := h
  cases r with
  | none => exact .inl ⟨rfl, h, hb⟩
  | some y => exact .inr ⟨y, rfl, h, hb⟩
theorem one_w8 (xs : List Int) : ∀ u ∈ xs.flatMap encU32, u.oneCell' = true := fun u hu => by
  obtain ⟨x, _, hx⟩ := List.mem_flatMap.1 hu
  unfold encU32 at hx
  simp only [List.mem_cons, List.not_mem_nil, or_false] at hx
  subst hx; rfl
/-- an operation that yields its value in every world that meets S is taken first: by its number -/
theorem take_num8 {P : Program} {ops : Array Oper} {Q : Exit → Act → World → Prop} {md : Region.Mode} {S : World → Prop} {i : Nat} {v : Value} {fuel : Nat} {listed : Array Bool} {a : Act} {w : World} (hi : i < ops.size)
    (hs : Region.noSelect ops = true) (hf : Region.free md ops listed i = true) (hr : (Region.ready md ops listed).contains i = true)
    (hQ : ∀ c a w, Q (.panic c) (a.put ops[i].dst v) w → Q (.panic c) a w) (hy : YieldsIf P ops S ops[i] v a) (hS : S w)
    (h : wpAnyH P md ops Q S fuel (listed.setIfInBounds i true) (a.put ops[i].dst v) w) : wpAnyH P md ops Q S (fuel + 1) listed a w :=
  wpAnyH_take (by simp [hi]) hs hf hr hQ hy hS h
set_option maxHeartbeats 4000000 in
theorem all_any (l : List ObjD) (hW : ∀ d ∈ l, ObjW d) (hck : (chkF l).2 = 0) (A : Option Addr) (n c lo hi : Nat) (hn : l.length = n) (t d : Int) (xs : List (Int × Int)) (hxs : xs = spL l t d n) (As : Option Addr) (cs base : Nat) (w : World) (hT : Tabs w) (hA : ObjsAt w lo hi l A) (hh : hi ≤ w.heap.size) (hS : SpAt w base xs (.slice As n cs)) :
    Calls Tryd.prog 32 #[.slice A n c, .slice As n cs] w (AllP (txT l xs n) w) := by
  have hm := chkF_may hck
  have hL := mayLs_len hm
  obtain ⟨i0, hi0, hz0, hz1, hz2⟩ := info_parts info_u32
  have HW := Lib.hid hW
  have HCk := Lib.hid hck
  have HN := Lib.hid hn
  have HXs := Lib.hid hxs
  have HT := Lib.hid hT
  have HA := Lib.hid hA
  have HH := Lib.hid hh
  have HS := Lib.hid hS
  have HM := Lib.hid hm
  have hmx : n ≤ 16 := by omega
  have HMx := Lib.hid hmx
  clear hW hck hn hxs hT hA hh hS hm hL
  go_enter Tryd.func32, Tryd.ntmps32
  go_wp2
  go_loopw [14, 5] (fun i v wr => ∃ (k : Nat) (a : List Int), k ≤ n ∧ i = .int .i64 k ∧ Hid (txT l xs k = some a) ∧ Hid (TxAt wr w.heap.size a v) ∧ Hid (Below w.heap.size w wr)) (fun i _ _ => n - (intOf i).toNat)
  case atStart => exact ⟨0, [], by omega, rfl, Lib.hid rfl, Lib.hid ⟨none, 0, rfl, World.ownsRow_nil _ _ _ _⟩, Lib.hid (Below.refl _ _)⟩
  case round =>
    obtain ⟨k, a, hk, rfl, HTx, HR, HB⟩ := hrel
    by_cases hlt : k < n
    · have k0 : (0 : Int) ≤ k := by omega
      have k1 : (k : Int) < n := by omega
      have hlk : k < l.length := by rw [HN.out]; exact hlt
      obtain ⟨b, o, A1, n1, c1, A2, n2, c2, A3, n3, c3, A4, n4, c4, A5, n5, c5, rfl, hb, ⟨v0, v1, v2, xw, v4⟩, h1, h2, h3, h4, hr1, -⟩ := HA.out.td hlk
      have x0 := (HB.out.cell (p := ⟨b, o + k * 5, none⟩) (block_lt v0)).trans v0
      have x1 := (HB.out.cell (p := ⟨b, o + k * 5 + 1, none⟩) (block_lt v1)).trans v1
      have x2 := (HB.out.cell (p := ⟨b, o + k * 5 + 2, none⟩) (block_lt v2)).trans v2
      have x3 := (HB.out.cell (p := ⟨b, o + k * 5 + 3, none⟩) (block_lt xw)).trans xw
      have x4 := (HB.out.cell (p := ⟨b, o + k * 5 + 4, none⟩) (block_lt v4)).trans v4
      have hsg := sumT_go hlk
      obtain ⟨D, hD⟩ : ∃ D, l[k] = D := ⟨_, rfl⟩
      have HXw := Lib.hid xw
      rw [hD] at h1 h2 h3 h4 hr1 hsg
      have HD := Lib.hid (show nAt l k = D from (nAt_get hlk).trans hD)
      clear hD
      have b1 := (Below.refl wr.heap.size wr).alloc (Nat.le_refl _) (.cells #[.slice A1 n1 c1, .slice A2 n2 c2, .slice A3 n3 c3, .slice A4 n4 c4, .slice A5 n5 c5] 45)
      have HB1 := Lib.hid (HB.out.trans (b1.mono HB.out.size))
      have HO1 := Lib.hid (heap_alloc_new wr (.cells #[.slice A1 n1 c1, .slice A2 n2 c2, .slice A3 n3 c3, .slice A4 n4 c4, .slice A5 n5 c5] 45))
      have HR1 := Lib.hid (HR.out.below b1)
      obtain ⟨Av, cv, rfl, hown⟩ := HR1.out
      have HOw := Lib.hid hown
      have HRc := Lib.hid ((hr1.move (lo' := lo) (hi' := hi) (w' := wr) (Nat.le_refl _) (Nat.le_refl _) (fun b' _ hb' => HB.out.block b' (Nat.lt_of_lt_of_le hb' HH.out))).move (lo' := lo) (hi' := hi) (w' := wr.alloc (.cells #[.slice A1 n1 c1, .slice A2 n2 c2, .slice A3 n3 c3, .slice A4 n4 c4, .slice A5 n5 c5] 45)) (Nat.le_refl _) (Nat.le_refl _) (fun b' _ hb' => b1.block b' (Nat.lt_of_lt_of_le hb' (Nat.le_trans HH.out HB.out.size))))
      have HLn := Lib.hid (show (D.text.flatMap encU32).length = n1 by rw [enc32_len]; exact h1)
      have hts := may_sumTD HM.out
      have hal := txT_len (Nat.le_of_lt hlk) HTx.out
      have hsl := sumT_le l (k + 1)
      rw [h1] at hsg
      have ham : a.length + n1 ≤ 65536 := by omega
      have HAm := Lib.hid ham
      have H1c := Lib.hid (one_w8 D.text)
      have HMl := Lib.hid (show a.length + n1 ≤ maxLen by unfold maxLen; omega)
      have HBy := Lib.hid (show (a.length + n1) * 4 ≤ 140737488355328 by omega)
      have HSz1 := Lib.hid HB1.out.size
      have HRl := Lib.hid h4
      clear b1 hts hal hsl hsg h1 h2 h3 h4 hr1 hown hb HR HB v0 v1 v2 xw v4
      obtain ⟨y0, y1, y2, y3, y4, yf⟩ := row5 HO1.out
      go_upto_region 6 with fail
      generalize (wr.alloc (.cells #[.slice A1 n1 c1, .slice A2 n2 c2, .slice A3 n3 c3, .slice A4 n4 c4, .slice A5 n5 c5] 45)) = W at *
      generalize wr.heap.size = ko at *
      clear x0 x1 x2 x3 x4
      go_wp2_with (at_builtin; (refine wpList_append_any8 rfl _ _ 36 rfl w.heap.size 22 i0 (.int .u32 0) 4 Tryd.underlying36 hi0 hz0 hz1 hz2 rfl (.slice Av a.length cv) a.length (a.flatMap encU32) ?hs HOw.out A1 n1 c1 lo hi (D.text.flatMap encU32) ?hx HLn.out HRc.out H1c.out HMl.out HBy.out HSz1.out ?_; (case hs => rfl); (case hx => rfl); intro v' w7 hr hg; obtain ⟨A3', e3', rfl⟩ := ownO_slice hr; have HO7 := Lib.hid (blk_other HOw.out HO1.out (by decide) hg); obtain ⟨r0, r1, r2, r3, r4, rf⟩ := row5 HO7.out))
      have hTn : D.text.length = n1 := by rw [← enc32_len]; exact HLn.out
      have HT7 := Lib.hid (show TxAt w7 w.heap.size (a ++ D.text) (.slice A3' (a.length + n1) e3') from ⟨A3', e3', by rw [List.length_append, hTn], by
        rw [List.length_append, List.flatMap_append, hTn]; exact hr⟩)
      have HB7 := Lib.hid (HB1.out.grown hg HB1.out.size (fun g e => by have := own_ge HOw.out g e; omega))
      clear hr hg y0 y1 y2 y3 y4 yf HO1 HOw HR1 HRc
      have HX3 := Lib.hid (show n4 ≤ 16384 from by
        have h := HM.out
        unfold mayLs at h
        simp only [Bool.and_eq_true] at h
        have h1 := List.all_eq_true.1 h.2 D (by rw [← HD.out, nAt_get hlk]; exact List.getElem_mem hlk)
        rw [mayO_eq] at h1
        simp only [Bool.and_eq_true] at h1
        have h2 := (few_of h1.1.1).2.2.2.1
        rw [HRl.out] at h2
        omega)
      have hn4 := HX3.out
      go_wp2
      go_loopw [28] (fun j wx => ∃ (q : Nat) (tt : List Int), q ≤ n4 ∧ j = .int .i64 q ∧ Hid (relT l xs k D q = some tt) ∧ Hid (TxAt wx w.heap.size (a ++ tt) (.slice A3' (a.length + n1) e3')) ∧ Hid (Below w.heap.size w wx)) (fun j _ => n4 - (intOf j).toNat)
      case atStart => exact ⟨0, D.text, by omega, rfl, Lib.hid rfl, HT7, HB7⟩
      case round =>
        obtain ⟨q, tt, hq4, rfl, HRq, HTq, HBq⟩ := hrel
        by_cases hq : q < n4
        · have q0 : (0 : Int) ≤ q := by omega
          have q1 : (q : Int) < n4 := by omega
          have hDk : l[k] = D := by rw [← HD.out, nAt_get hlk]
          have hql : q < l[k].rels.length := by rw [hDk, HRl.out]; exact hq
          obtain ⟨b', o', n4', c4', b4, o4, eA, yA, hn4', z0, z1, z2, z3⟩ := HA.out.relAt hlk hql
          cases eA
          have eS := HXw.out.symm.trans yA
          cases eS
          have hok := (may_rel HM.out hlk hql).1
          have hops := (may_rel HM.out hlk hql).2
          have hprev : ∀ j, j < q → posR D j ≠ posR D q := fun j hj => by
            have hj2 := (may_rel HM.out hlk (j := j) (by omega)).1
            rw [hDk] at hj2 hok
            rcases (rel_spot hok).2.2.2.2.1 j hj with h | h
            · exact h
            · exact absurd hj2 h
          obtain ⟨k', hk', j', hj', hfnd⟩ := chk_found HCk.out hlk (List.getElem_mem hql)
          have hrW := (HW.out _ (List.getElem_mem hlk)).rels _ (List.getElem_mem hql)
          have hrel : relAt D q = l[k].rels[q] := by
            unfold relAt
            rw [← hDk]
            simp [hql]
          rw [hDk] at hok hops
          obtain ⟨⟨ra, rk, rn, rd⟩, hr⟩ : ∃ r, l[k].rels[q] = r := ⟨_, rfl⟩
          rw [hr] at z0 z1 z2 z3 hfnd hrW hrel
          simp only at z0 z1 z2 z3 hfnd hrW
          obtain ⟨g0, g1, g2, hpl, -, hsu⟩ := rel_spot hok
          rw [hrel] at g0 g1 g2 hsu
          simp only at g0 g1 g2 hsu
          obtain ⟨p, hp⟩ : ∃ p, posR D q = p := ⟨_, rfl⟩
          rw [hp] at g2 hpl hsu hprev
          subst g2
          have hal := txT_len (Nat.le_of_lt hlk) HTx.out
          have hw := relT_same HRq.out hprev
          have htl := relT_len HRq.out
          have hpt : p < tt.length := by omega
          obtain ⟨g, eg, hbg, hcell, -⟩ := HTq.out.at_ (i := a.length + p) (by rw [List.length_append]; omega)
          subst eg
          rw [show (a ++ tt)[a.length + p]'(by rw [List.length_append]; omega) = D.text.getD p 0 from by
            rw [List.getElem_append_right (by omega), ← hw]
            simp [hpt]] at hcell
          have hwm : D.text.getD p 0 ∈ D.text := getD_mem hpl
          have hwW : IsW (D.text.getD p 0) := (HW.out D (by rw [← hDk]; exact List.getElem_mem hlk)).text _ hwm
          have hwO := hops _ hwm
          have hxl : xs.length = n := by rw [HXs.out, spL_len]
          have hkx : k < xs.length := by omega
          have hkx' : k' < xs.length := by have := HN.out; omega
          obtain ⟨b5, o5, eAs, s0, s1⟩ := HS.out.at_ hkx
          subst eAs
          have hms := may_sums HM.out
          have hjm : l[k'].syms.length ≤ 1000000 := by
            have h := HM.out
            unfold mayLs at h
            simp only [Bool.and_eq_true] at h
            have h1 := List.all_eq_true.1 h.2 l[k'] (List.getElem_mem hk')
            rw [mayO_eq] at h1
            simp only [Bool.and_eq_true] at h1
            have h2 := (few_of h1.1.1).2.2.1
            omega
          have htg : tgV (adr1 xs[k'] l[k'].syms[j'].2.1 l[k'].syms[j'].2.2.1) rd = tgD l xs k rn rd := by
            unfold tgD
            rw [hfnd]
            unfold adrD symAt
            simp [nAt_get hk', hkx', hj']
          have HTg := Lib.hid (fun (W' : World) (hb : Below w.heap.size w W') => htg ▸ target_any l HW.out (some ⟨b, o, none⟩) n c lo hi HN.out (Nat.le_trans HMx.out (by decide)) (by omega) xs (some ⟨b5, o5, none⟩) cs base W' (HA.out.below HH.out hb) (Nat.le_trans HH.out hb.size) (HS.out.below hb) (k : Int) ⟨by omega, by omega⟩ (4 * (p : Int)) rk rd rn hrW.2.2.1 k' j' hfnd hk' hj' hjm hkx')
          have htU : IsU (tgD l xs k rn rd) := by rw [← htg]; exact wrU _
          have HDn := Lib.hid (fun (W' : World) (hb : Below w.heap.size w W') => done_any (D.text.getD p 0) rk (IntKind.u64.wrap (xs[k].1 + IntKind.u64.wrap (4 * (p : Int)))) (tgD l xs k rn rd) hwW hwO (wrU _) htU W' (HT.out.below hb))
          have HRx := Lib.hid (show relX l xs k D q = doneV (D.text.getD p 0) rk (IntKind.u64.wrap (xs[k].1 + IntKind.u64.wrap (4 * (p : Int)))) (tgD l xs k rn rd) from by
            unfold relX
            rw [hp, hrel]
            simp [hkx])
          obtain ⟨tg, htge⟩ : ∃ tg, tgD l xs k rn rd = tg := ⟨_, rfl⟩
          obtain ⟨wd, hwd⟩ : ∃ wd, D.text.getD p 0 = wd := ⟨_, rfl⟩
          obtain ⟨xk, hxk⟩ : ∃ xk, xs[k].1 = xk := ⟨_, rfl⟩
          rw [htge] at HTg HDn HRx
          rw [hwd] at HDn HRx hcell
          rw [hxk] at HDn HRx s0
          have HPp := Lib.hid hp
          have hp4 : (4 * (p : Int)).tdiv 4 = p := tdiv4 p
          have hpb : (p : Int) ≤ 4096000 := by omega
          have hlen : (a.length : Int) + p < a.length + n1 := by omega
          have z0b := (HBq.out.cell (p := ⟨b4, o4 + q * 4, none⟩) (block_lt z0)).trans z0
          have z1b := (HBq.out.cell (p := ⟨b4, o4 + q * 4 + 1, none⟩) (block_lt z1)).trans z1
          have z2b := (HBq.out.cell (p := ⟨b4, o4 + q * 4 + 2, none⟩) (block_lt z2)).trans z2
          have z3b := (HBq.out.cell (p := ⟨b4, o4 + q * 4 + 3, none⟩) (block_lt z3)).trans z3
          have HSp := Lib.hid s0
          clear hw htl hwm hwW hwO hops hok hprev hrW hrel hfnd hr hsu hpl hpt hp g0 g1 z0 z1 z2 z3 s0 s1 hms hjm htg htU htge hwd hxk hxl hn4' hql hk' hj' hkx'
          have hal' : (a.length : Int) ≤ 65536 := by omega
          have hbA := (Below.refl wr.heap.size wr).alloc (Nat.le_refl _) (.cells #[.int .i64 (4 * (p : Int)), .int .i64 rk, .string rn, .int .i64 rd] 47)
          have HBr := Lib.hid (HBq.out.trans (hbA.mono HBq.out.size))
          have HTr := Lib.hid (HTq.out.below hbA)
          have HOr := Lib.hid (heap_alloc_new wr (.cells #[.int .i64 (4 * (p : Int)), .int .i64 rk, .string rn, .int .i64 rd] 47))
          have hcr := (hbA.cell (p := ⟨g, a.length + p, none⟩) (block_lt hcell)).trans hcell
          have hsp := (HBr.out.cell (p := ⟨b5, o5 + k * 2, none⟩) (block_lt HSp.out)).trans HSp.out
          have HKg := Lib.hid (show wr.heap.size ≠ g from by have h := block_lt hcell; have h : g < wr.heap.size := h; omega)
          have HBg := Lib.hid (show b5 ≠ g from by have h := block_lt HSp.out; have h : b5 < w.heap.size := h; omega)
          clear hbA hcell hal
          obtain ⟨y0, y1, y2, y3, yf⟩ := row4 HOr.out
          go_upto_region 11 with fail
          generalize (wr.alloc (.cells #[.int .i64 (4 * (p : Int)), .int .i64 rk, .string rn, .int .i64 rd] 47)) = W at *
          generalize wr.heap.size = kr at *
          have HTg1 := Lib.hid (HTg.out W.drew HBr.out.drew)
          have hpn : a.length + p < a.length + n1 := by omega
          rw [show (a.length : Int) + (p : Int) = ((a.length + p : Nat) : Int) from by omega]
          clear hlen
          generalize hmm : a.length + p = m at *
          generalize hNN : a.length + n1 = N at *
          have hm0 : (0 : Int) ≤ (m : Int) := by omega
          have hm1 : (m : Int) < (N : Int) := by omega
          have HMm := Lib.hid (And.intro hmm hNN)
          clear hmm hNN
          have HNo := Lib.hid (fun (h : relX l xs k D q = none) => (show txT l xs n = none from txT_bad (k := k) (j := q) (by rw [HD.out, HRl.out]; exact hq) (by rw [HD.out]; exact h) hlt))
          rw [← HRx.out] at HDn
          obtain ⟨cur, hcur⟩ : ∃ cur, W.heap[g]? = some (.cells cur 22 (0, 0)) := by
            obtain ⟨g', e', _, _, cur, cp, h, _⟩ := HTr.out.at_ (i := m) (by rw [HTr.out.len]; omega)
            cases e'
            exact ⟨cur, h⟩
          have HCu := Lib.hid hcur
          clear hcur
          have hkg : kr ≠ g := HKg.out
          have h5g : b5 ≠ g := HBg.out
          have hS8 : S8 w kr b5 (o5 + k * 2) g (.int .i64 (4 * (p : Int))) (.int .i64 rk) (.string rn) (.int .i64 rd) (.int .u64 xk) W := ⟨⟨y0, y1, y2, y3, hsp⟩, Lib.hid ⟨HBr.out, hkg, h5g, hbg⟩⟩
          clear y0 y1 y2 y3 yf hsp
          refine wp_region_held_drew (S := (fun w' => S8 w kr b5 (o5 + k * 2) g (.int .i64 (4 * (p : Int))) (.int .i64 rk) (.string rn) (.int .i64 rd) (.int .u64 xk) w')) (by kernel_rfl) (s8_drew hS8) (fun hHeld => ?_)
          refine take_num8 (i := 0) (v := ?v1) (by decide) (by kernel_rfl) (by kernel_rfl) (by kernel_rfl) (fun _ _ _ h => h) (Or.inl ⟨by rfl, ?hy1⟩) (by assumption) ?rest1
          case hy1 =>
            intro w hSw
            try dsimp only at hSw
            simp only [List.getElem_toArray, List.getElem_cons_zero, List.getElem_cons_succ]
            go_simp
            try with_reducible rfl
          simp only [List.getElem_toArray, List.getElem_cons_zero, List.getElem_cons_succ, Act.put, List.setIfInBounds_toArray, List.set_cons_zero, List.set_cons_succ]
          refine take_num8 (i := 1) (v := ?v2) (by decide) (by kernel_rfl) (by kernel_rfl) (by kernel_rfl) (fun _ _ _ h => h) (Or.inl ⟨by rfl, ?hy2⟩) (by assumption) ?rest2
          case hy2 =>
            intro w hSw
            try dsimp only at hSw
            simp only [List.getElem_toArray, List.getElem_cons_zero, List.getElem_cons_succ]
            go_simp
            try with_reducible rfl
          simp only [List.getElem_toArray, List.getElem_cons_zero, List.getElem_cons_succ, Act.put, List.setIfInBounds_toArray, List.set_cons_zero, List.set_cons_succ]
          refine take_num8 (i := 2) (v := ?v3) (by decide) (by kernel_rfl) (by kernel_rfl) (by kernel_rfl) (fun _ _ _ h => h) (Or.inl ⟨by rfl, ?hy3⟩) (by assumption) ?rest3
          case hy3 =>
            intro w hSw
            try dsimp only at hSw
            simp only [List.getElem_toArray, List.getElem_cons_zero, List.getElem_cons_succ]
            go_simp
            try with_reducible rfl
          simp only [List.getElem_toArray, List.getElem_cons_zero, List.getElem_cons_succ, Act.put, List.setIfInBounds_toArray, List.set_cons_zero, List.set_cons_succ]
          refine take_num8 (i := 3) (v := ?v4) (by decide) (by kernel_rfl) (by kernel_rfl) (by kernel_rfl) (fun _ _ _ h => h) (Or.inl ⟨by rfl, ?hy4⟩) (by assumption) ?rest4
          case hy4 =>
            intro w hSw
            try dsimp only at hSw
            simp only [List.getElem_toArray, List.getElem_cons_zero, List.getElem_cons_succ]
            go_simp
            try with_reducible rfl
          simp only [List.getElem_toArray, List.getElem_cons_zero, List.getElem_cons_succ, Act.put, List.setIfInBounds_toArray, List.set_cons_zero, List.set_cons_succ]
          refine take_num8 (i := 4) (v := ?v5) (by decide) (by kernel_rfl) (by kernel_rfl) (by kernel_rfl) (fun _ _ _ h => h) (Or.inl ⟨by rfl, ?hy5⟩) (by assumption) ?rest5
          case hy5 =>
            intro w hSw
            try dsimp only at hSw
            simp only [List.getElem_toArray, List.getElem_cons_zero, List.getElem_cons_succ]
            go_simp
            try with_reducible rfl
          simp only [List.getElem_toArray, List.getElem_cons_zero, List.getElem_cons_succ, Act.put, List.setIfInBounds_toArray, List.set_cons_zero, List.set_cons_succ]
          refine take_num8 (i := 6) (v := ?v6) (by decide) (by kernel_rfl) (by kernel_rfl) (by kernel_rfl) (fun _ _ _ h => h) (Or.inl ⟨by rfl, ?hy6⟩) (by assumption) ?rest6
          case hy6 =>
            intro w hSw
            try dsimp only at hSw
            simp only [List.getElem_toArray, List.getElem_cons_zero, List.getElem_cons_succ]
            go_simp
            try with_reducible rfl
          simp only [List.getElem_toArray, List.getElem_cons_zero, List.getElem_cons_succ, Act.put, List.setIfInBounds_toArray, List.set_cons_zero, List.set_cons_succ]
          refine take_num8 (i := 7) (v := ?v7) (by decide) (by kernel_rfl) (by kernel_rfl) (by kernel_rfl) (fun _ _ _ h => h) (Or.inl ⟨by rfl, ?hy7⟩) (by assumption) ?rest7
          case hy7 =>
            intro w hSw
            try dsimp only at hSw
            simp only [List.getElem_toArray, List.getElem_cons_zero, List.getElem_cons_succ]
            go_simp
            try with_reducible rfl
          simp only [List.getElem_toArray, List.getElem_cons_zero, List.getElem_cons_succ, Act.put, List.setIfInBounds_toArray, List.set_cons_zero, List.set_cons_succ]
          refine take_num8 (i := 8) (v := ?v8) (by decide) (by kernel_rfl) (by kernel_rfl) (by kernel_rfl) (fun _ _ _ h => h) (Or.inl ⟨by rfl, ?hy8⟩) (by assumption) ?rest8
          case hy8 =>
            intro w hSw
            try dsimp only at hSw
            simp only [List.getElem_toArray, List.getElem_cons_zero, List.getElem_cons_succ]
            go_simp
            try with_reducible rfl
          simp only [List.getElem_toArray, List.getElem_cons_zero, List.getElem_cons_succ, Act.put, List.setIfInBounds_toArray, List.set_cons_zero, List.set_cons_succ]
          refine take_num8 (i := 9) (v := ?v9) (by decide) (by kernel_rfl) (by kernel_rfl) (by kernel_rfl) (fun _ _ _ h => h) (Or.inl ⟨by rfl, ?hy9⟩) (by assumption) ?rest9
          case hy9 =>
            intro w hSw
            try dsimp only at hSw
            simp only [List.getElem_toArray, List.getElem_cons_zero, List.getElem_cons_succ]
            go_simp
            try with_reducible rfl
          simp only [List.getElem_toArray, List.getElem_cons_zero, List.getElem_cons_succ, Act.put, List.setIfInBounds_toArray, List.set_cons_zero, List.set_cons_succ]
          refine take_num8 (i := 10) (v := ?v10) (by decide) (by kernel_rfl) (by kernel_rfl) (by kernel_rfl) (fun _ _ _ h => h) (Or.inl ⟨by rfl, ?hy10⟩) (by assumption) ?rest10
          case hy10 =>
            intro w hSw
            try dsimp only at hSw
            simp only [List.getElem_toArray, List.getElem_cons_zero, List.getElem_cons_succ]
            go_simp
            try with_reducible rfl
          simp only [List.getElem_toArray, List.getElem_cons_zero, List.getElem_cons_succ, Act.put, List.setIfInBounds_toArray, List.set_cons_zero, List.set_cons_succ]
          refine take_num8 (i := 11) (v := ?v11) (by decide) (by kernel_rfl) (by kernel_rfl) (by kernel_rfl) (fun _ _ _ h => h) (Or.inl ⟨by rfl, ?hy11⟩) (by assumption) ?rest11
          case hy11 =>
            intro w hSw
            try dsimp only at hSw
            simp only [List.getElem_toArray, List.getElem_cons_zero, List.getElem_cons_succ]
            go_simp
            try with_reducible rfl
          simp only [List.getElem_toArray, List.getElem_cons_zero, List.getElem_cons_succ, Act.put, List.setIfInBounds_toArray, List.set_cons_zero, List.set_cons_succ]
          refine take_num8 (i := 12) (v := ?v12) (by decide) (by kernel_rfl) (by kernel_rfl) (by kernel_rfl) (fun _ _ _ h => h) (Or.inl ⟨by rfl, ?hy12⟩) (by assumption) ?rest12
          case hy12 =>
            intro w hSw
            try dsimp only at hSw
            simp only [List.getElem_toArray, List.getElem_cons_zero, List.getElem_cons_succ]
            go_simp
            try with_reducible rfl
          simp only [List.getElem_toArray, List.getElem_cons_zero, List.getElem_cons_succ, Act.put, List.setIfInBounds_toArray, List.set_cons_zero, List.set_cons_succ]
          refine take_num8 (i := 13) (v := ?v13) (by decide) (by kernel_rfl) (by kernel_rfl) (by kernel_rfl) (fun _ _ _ h => h) (Or.inl ⟨by rfl, ?hy13⟩) (by assumption) ?rest13
          case hy13 =>
            intro w hSw
            try dsimp only at hSw
            simp only [List.getElem_toArray, List.getElem_cons_zero, List.getElem_cons_succ]
            go_simp
            try with_reducible rfl
          simp only [List.getElem_toArray, List.getElem_cons_zero, List.getElem_cons_succ, Act.put, List.setIfInBounds_toArray, List.set_cons_zero, List.set_cons_succ]
          refine take_num8 (i := 14) (v := ?v14) (by decide) (by kernel_rfl) (by kernel_rfl) (by kernel_rfl) (fun _ _ _ h => h) (Or.inl ⟨by rfl, ?hy14⟩) (by assumption) ?rest14
          case hy14 =>
            intro w hSw
            try dsimp only at hSw
            simp only [List.getElem_toArray, List.getElem_cons_zero, List.getElem_cons_succ]
            go_simp
            try with_reducible rfl
          simp only [List.getElem_toArray, List.getElem_cons_zero, List.getElem_cons_succ, Act.put, List.setIfInBounds_toArray, List.set_cons_zero, List.set_cons_succ]
          refine take_num8 (i := 15) (v := ?v15) (by decide) (by kernel_rfl) (by kernel_rfl) (by kernel_rfl) (fun _ _ _ h => h) (Or.inl ⟨by rfl, ?hy15⟩) (by assumption) ?rest15
          case hy15 =>
            intro w hSw
            try dsimp only at hSw
            simp only [List.getElem_toArray, List.getElem_cons_zero, List.getElem_cons_succ]
            go_simp
            try with_reducible rfl
          simp only [List.getElem_toArray, List.getElem_cons_zero, List.getElem_cons_succ, Act.put, List.setIfInBounds_toArray, List.set_cons_zero, List.set_cons_succ]
          refine take_num8 (i := 16) (v := ?v16) (by decide) (by kernel_rfl) (by kernel_rfl) (by kernel_rfl) (fun _ _ _ h => h) (Or.inl ⟨by rfl, ?hy16⟩) (by assumption) ?rest16
          case hy16 =>
            intro w hSw
            try dsimp only at hSw
            simp only [List.getElem_toArray, List.getElem_cons_zero, List.getElem_cons_succ]
            go_simp
            try with_reducible rfl
          simp only [List.getElem_toArray, List.getElem_cons_zero, List.getElem_cons_succ, Act.put, List.setIfInBounds_toArray, List.set_cons_zero, List.set_cons_succ]
          refine take_num8 (i := 17) (v := ?v17) (by decide) (by kernel_rfl) (by kernel_rfl) (by kernel_rfl) (fun _ _ _ h => h) (Or.inl ⟨by rfl, ?hy17⟩) (by assumption) ?rest17
          case hy17 =>
            intro w hSw
            try dsimp only at hSw
            simp only [List.getElem_toArray, List.getElem_cons_zero, List.getElem_cons_succ]
            go_simp
            try with_reducible rfl
          simp only [List.getElem_toArray, List.getElem_cons_zero, List.getElem_cons_succ, Act.put, List.setIfInBounds_toArray, List.set_cons_zero, List.set_cons_succ]
          refine take_num8 (i := 18) (v := ?v18) (by decide) (by kernel_rfl) (by kernel_rfl) (by kernel_rfl) (fun _ _ _ h => h) (Or.inl ⟨by rfl, ?hy18⟩) (by assumption) ?rest18
          case hy18 =>
            intro w hSw
            try dsimp only at hSw
            simp only [List.getElem_toArray, List.getElem_cons_zero, List.getElem_cons_succ]
            go_simp
            try with_reducible rfl
          simp only [List.getElem_toArray, List.getElem_cons_zero, List.getElem_cons_succ, Act.put, List.setIfInBounds_toArray, List.set_cons_zero, List.set_cons_succ]
          refine take_num8 (i := 19) (v := ?v19) (by decide) (by kernel_rfl) (by kernel_rfl) (by kernel_rfl) (fun _ _ _ h => h) (Or.inl ⟨by rfl, ?hy19⟩) (by assumption) ?rest19
          case hy19 =>
            intro w hSw
            try dsimp only at hSw
            simp only [List.getElem_toArray, List.getElem_cons_zero, List.getElem_cons_succ]
            go_simp
            try with_reducible rfl
          simp only [List.getElem_toArray, List.getElem_cons_zero, List.getElem_cons_succ, Act.put, List.setIfInBounds_toArray, List.set_cons_zero, List.set_cons_succ]
          refine take_num8 (i := 20) (v := ?v20) (by decide) (by kernel_rfl) (by kernel_rfl) (by kernel_rfl) (fun _ _ _ h => h) (Or.inl ⟨by rfl, ?hy20⟩) (by assumption) ?rest20
          case hy20 =>
            intro w hSw
            try dsimp only at hSw
            simp only [List.getElem_toArray, List.getElem_cons_zero, List.getElem_cons_succ]
            go_simp
            try with_reducible rfl
          simp only [List.getElem_toArray, List.getElem_cons_zero, List.getElem_cons_succ, Act.put, List.setIfInBounds_toArray, List.set_cons_zero, List.set_cons_succ]
          refine wpAnyH_ready (rs := [5, 21]) (by kernel_rfl) (by simp) ?_
          refine AllReadyH.cons rfl (fun K hK => ?c5) (AllReadyH.cons rfl (fun K hK => ?c21) AllReadyH.nil)
          case c5 =>
            go_simp
            refine hK.out _ _ (by assumption) (fun hHeld5 => ?_)
            clear hK K
            try simp only [Act.put, List.setIfInBounds_toArray, List.set_cons_zero, List.set_cons_succ]
            refine wpAnyH_ready (rs := [21]) (by kernel_rfl) (by simp) ?_
            refine AllReadyH.cons rfl (fun K hK => ?_) AllReadyH.nil
            refine step_call6 rfl 48 _ _ rfl #[.slice (some ⟨b, o, none⟩) n c, .slice (some ⟨b5, o5, none⟩) n cs, .int .i64 k, .agg #[.int .i64 (4 * (p : Int)), .int .i64 rk, .string rn, .int .i64 rd]] ?hv21 calls_target HTg1.out ?_
            (case hv21 => simp [go_sem])
            rintro e w2 ⟨rfl, hb⟩
            refine ⟨_, rfl, ?_⟩
            have hb' := (Below.refl W.heap.size W).drew.trans hb
            have HB2 := Lib.hid (HBr.out.trans (hb'.mono HBr.out.size))
            have hcr2 := (hb'.cell (p := ⟨g, m, none⟩) (block_lt hcr)).trans hcr
            have HDn2 := Lib.hid (HDn.out w2 HB2.out)
            have HCu2 := Lib.hid ((hb'.block _ (Array.getElem?_eq_some_iff.1 HCu.out).1).trans HCu.out)
            have HTr2 := Lib.hid (HTr.out.below hb')
            clear hb'
            refine hK.out _ _ (s8_below (by assumption) hb) (fun hHeld2 => ?_)
            clear hK K hb
            try simp only [Act.put, List.setIfInBounds_toArray, List.set_cons_zero, List.set_cons_succ]
            refine wpAnyH_ready (rs := [22]) (by kernel_rfl) (by simp) ?_
            refine AllReadyH.cons rfl (fun K hK => ?_) AllReadyH.nil
            refine step_call8 rfl 27 _ _ rfl #[.int .u32 wd, .int .i64 rk, .int .u64 (IntKind.u64.wrap (xk + IntKind.u64.wrap (4 * (p : Int)))), .int .u64 tg] ?hv22 calls_done HDn2.out ?_
            (case hv22 => simp [go_sem])
            intro e w3 h3
            rcases DonP.split h3 with ⟨hn, rfl, hb3⟩ | ⟨y, hy, rfl, hb3⟩
            · exact .inl ⟨_, rfl, rfl, AllP.no (HNo.out hn) (HB2.out.trans (hb3.mono HB2.out.size))⟩
            refine .inr ⟨_, rfl, ?_⟩
            have hcr3 := (hb3.cell (p := ⟨g, m, none⟩) (block_lt hcr2)).trans hcr2
            have hfr3 := frozen_of_row w3 g m _ _ ((hb3.block _ (Array.getElem?_eq_some_iff.1 HCu2.out).1).trans HCu2.out)
            have HY := Lib.hid hy
            have HB3 := Lib.hid (HB2.out.trans (hb3.mono HB2.out.size))
            have HTr3 := Lib.hid (HTr2.out.below hb3)
            clear h3 hy
            refine hK.out _ _ (s8_below (by assumption) hb3) (fun hHeld3 => ?_)
            clear hK K hb3
            try simp only [Act.put, List.setIfInBounds_toArray, List.set_cons_zero, List.set_cons_succ]
            refine take_num8 (i := 23) (v := ?v23) (by decide) (by kernel_rfl) (by kernel_rfl) (by kernel_rfl) (fun _ _ _ h => h) (Or.inl ⟨by rfl, ?hy23⟩) (by assumption) ?rest23
            case hy23 =>
              intro w hSw
              try dsimp only at hSw
              simp only [List.getElem_toArray, List.getElem_cons_zero, List.getElem_cons_succ]
              go_simp
              try with_reducible rfl
            simp only [List.getElem_toArray, List.getElem_cons_zero, List.getElem_cons_succ, Act.put, List.setIfInBounds_toArray, List.set_cons_zero, List.set_cons_succ]
            refine wpAnyH_ready (rs := [24]) (by kernel_rfl) (by simp) ?_
            refine AllReadyH.cons rfl (fun K hK => ?_) AllReadyH.nil
            go_simp
            refine hK.out _ _ (s8_set (by assumption)) (fun hHeld4 => ?_)
            clear hK K
            refine wpAnyH_done (by kernel_rfl) ?_ _
            obtain ⟨e1, e2⟩ := HMm.out
            subst e2
            have HT4 := Lib.hid (show TxAt (w3.setCell ⟨g, m, none⟩ (.int .u32 y)) w.heap.size (a ++ tt.set p y) (.slice (some ⟨g, 0, none⟩) (a.length + n1) e3') from by
              have h := HTr3.out.write (j := m) (y := y)
              rw [← e1, List.set_append_right _ _ (by omega), show a.length + p - a.length = p from by omega, e1] at h
              exact h)
            have HB4 := Lib.hid (show Below w.heap.size w (w3.setCell ⟨g, m, none⟩ (.int .u32 y)) from below_setNew HB3.out hbg)
            go_wp2
            go_roundw
            case rel => exact ⟨q + 1, tt.set p y, by omega, by go_num, Lib.hid (by have h := relT_go HRq.out HY.out; rw [HPp.out] at h; exact h), HT4, HB4⟩
            case measure => simp [intOf]; omega
          case c21 =>
            refine step_call6 rfl 48 _ _ rfl #[.slice (some ⟨b, o, none⟩) n c, .slice (some ⟨b5, o5, none⟩) n cs, .int .i64 k, .agg #[.int .i64 (4 * (p : Int)), .int .i64 rk, .string rn, .int .i64 rd]] ?hv24 calls_target HTg1.out ?_
            (case hv24 => simp [go_sem])
            rintro e w2 ⟨rfl, hb⟩
            refine ⟨_, rfl, ?_⟩
            have hb' := (Below.refl W.heap.size W).drew.trans hb
            have HB2 := Lib.hid (HBr.out.trans (hb'.mono HBr.out.size))
            have hcr2 := (hb'.cell (p := ⟨g, m, none⟩) (block_lt hcr)).trans hcr
            have HDn2 := Lib.hid (HDn.out w2 HB2.out)
            have HCu2 := Lib.hid ((hb'.block _ (Array.getElem?_eq_some_iff.1 HCu.out).1).trans HCu.out)
            have HTr2 := Lib.hid (HTr.out.below hb')
            clear hb'
            refine hK.out _ _ (s8_below (by assumption) hb) (fun hHeld2 => ?_)
            clear hK K hb
            try simp only [Act.put, List.setIfInBounds_toArray, List.set_cons_zero, List.set_cons_succ]
            refine wpAnyH_ready (rs := [5]) (by kernel_rfl) (by simp) ?_
            refine AllReadyH.cons rfl (fun K hK => ?_) AllReadyH.nil
            go_simp
            refine hK.out _ _ (by assumption) (fun hHeld5 => ?_)
            clear hK K
            try simp only [Act.put, List.setIfInBounds_toArray, List.set_cons_zero, List.set_cons_succ]
            refine wpAnyH_ready (rs := [22]) (by kernel_rfl) (by simp) ?_
            refine AllReadyH.cons rfl (fun K hK => ?_) AllReadyH.nil
            refine step_call8 rfl 27 _ _ rfl #[.int .u32 wd, .int .i64 rk, .int .u64 (IntKind.u64.wrap (xk + IntKind.u64.wrap (4 * (p : Int)))), .int .u64 tg] ?hv25 calls_done HDn2.out ?_
            (case hv25 => simp [go_sem])
            intro e w3 h3
            rcases DonP.split h3 with ⟨hn, rfl, hb3⟩ | ⟨y, hy, rfl, hb3⟩
            · exact .inl ⟨_, rfl, rfl, AllP.no (HNo.out hn) (HB2.out.trans (hb3.mono HB2.out.size))⟩
            refine .inr ⟨_, rfl, ?_⟩
            have hcr3 := (hb3.cell (p := ⟨g, m, none⟩) (block_lt hcr2)).trans hcr2
            have hfr3 := frozen_of_row w3 g m _ _ ((hb3.block _ (Array.getElem?_eq_some_iff.1 HCu2.out).1).trans HCu2.out)
            have HY := Lib.hid hy
            have HB3 := Lib.hid (HB2.out.trans (hb3.mono HB2.out.size))
            have HTr3 := Lib.hid (HTr2.out.below hb3)
            clear h3 hy
            refine hK.out _ _ (s8_below (by assumption) hb3) (fun hHeld3 => ?_)
            clear hK K hb3
            try simp only [Act.put, List.setIfInBounds_toArray, List.set_cons_zero, List.set_cons_succ]
            refine take_num8 (i := 23) (v := ?v26) (by decide) (by kernel_rfl) (by kernel_rfl) (by kernel_rfl) (fun _ _ _ h => h) (Or.inl ⟨by rfl, ?hy26⟩) (by assumption) ?rest26
            case hy26 =>
              intro w hSw
              try dsimp only at hSw
              simp only [List.getElem_toArray, List.getElem_cons_zero, List.getElem_cons_succ]
              go_simp
              try with_reducible rfl
            simp only [List.getElem_toArray, List.getElem_cons_zero, List.getElem_cons_succ, Act.put, List.setIfInBounds_toArray, List.set_cons_zero, List.set_cons_succ]
            refine wpAnyH_ready (rs := [24]) (by kernel_rfl) (by simp) ?_
            refine AllReadyH.cons rfl (fun K hK => ?_) AllReadyH.nil
            go_simp
            refine hK.out _ _ (s8_set (by assumption)) (fun hHeld4 => ?_)
            clear hK K
            refine wpAnyH_done (by kernel_rfl) ?_ _
            obtain ⟨e1, e2⟩ := HMm.out
            subst e2
            have HT4 := Lib.hid (show TxAt (w3.setCell ⟨g, m, none⟩ (.int .u32 y)) w.heap.size (a ++ tt.set p y) (.slice (some ⟨g, 0, none⟩) (a.length + n1) e3') from by
              have h := HTr3.out.write (j := m) (y := y)
              rw [← e1, List.set_append_right _ _ (by omega), show a.length + p - a.length = p from by omega, e1] at h
              exact h)
            have HB4 := Lib.hid (show Below w.heap.size w (w3.setCell ⟨g, m, none⟩ (.int .u32 y)) from below_setNew HB3.out hbg)
            go_wp2
            go_roundw
            case rel => exact ⟨q + 1, tt.set p y, by omega, by go_num, Lib.hid (by have h := relT_go HRq.out HY.out; rw [HPp.out] at h; exact h), HT4, HB4⟩
            case measure => simp [intOf]; omega
        · have hqn : q = n4 := by omega
          have q1 : ¬ (q : Int) < n4 := by omega
          subst hqn
          go_wp2
          go_roundw
          case rel => exact ⟨k + 1, a ++ tt, by omega, by go_num, Lib.hid (txT_go HTx.out (by rw [HD.out, HRl.out]; exact HRq.out)), HTq, HBq⟩
          case measure => simp [intOf]; omega
    · have hkn : k = n := by omega
      have k1 : ¬ (k : Int) < n := by omega
      subst hkn
      obtain ⟨A7, c7, rfl, -⟩ := HR.out
      go_wp2
      go_ret
      exact AllP.yes HTx.out HB.out HR.out
end Go.Proofs.YtjngkifoaljmaaaDoor
namespace Go.Proofs.YtjngkifoaljmaaaDoor
set_option maxRecDepth 100000
open Go.RowKit
set_option linter.unusedVariables false
/-- all data of the first objects -/
def daT (l : List ObjD) (k : Nat) : List Int := (l.take k).flatMap fun d => d.data
theorem daT_go {l : List ObjD} {k : Nat} (h : k < l.length) : daT l (k + 1) = daT l k ++ l[k].data := by
  unfold daT
  rw [List.take_succ_eq_append_getElem h, List.flatMap_append]
  simp
theorem daT_len (l : List ObjD) : ∀ k, k ≤ l.length → (daT l k).length = sumD l k
  | 0, _ => by simp [daT, sumD]
  | k + 1, h => by rw [daT_go (by omega), List.length_append, daT_len l k (by omega), sumD_go (by omega)]
/-- a row of long words of the call's own -/
def LgAt (w : World) (base : Nat) (xs : List Int) (v : Value) : Prop := ∃ A c, v = .slice A xs.length c ∧ w.ownsRow base 24 1 v xs.length (xs.flatMap encU64)
theorem LgAt.below {w w' : World} {b : Nat} {xs : List Int} {v : Value} (h : LgAt w b xs v) (hb : Below w.heap.size w w') : LgAt w' b xs v := by
  obtain ⟨A, c, e, h⟩ := h; exact ⟨A, c, e, rowO_below h hb⟩
theorem enc64_len (xs : List Int) : (xs.flatMap encU64).length = xs.length := by
  induction xs with
  | nil => rfl
  | cons x xs ih => rw [List.flatMap_cons, List.length_append, ih]; simp [encU64]; omega
theorem info_u64k : (Tryd.prog.info? 24).map (fun i => (i.zero, i.size, i.bytes)) = some (some (.int .u64 0), 1, 8) := by kernel_rfl
theorem one_l8 (xs : List Int) : ∀ u ∈ xs.flatMap encU64, u.oneCell' = true := fun u hu => by
  obtain ⟨x, _, hx⟩ := List.mem_flatMap.1 hu
  unfold encU64 at hx
  simp only [List.mem_cons, List.not_mem_nil, or_false] at hx
  subst hx; rfl
set_option maxHeartbeats 4000000 in
theorem data_any (l : List ObjD) (A : Option Addr) (n c lo hi : Nat) (hn : l.length = n) (hm : mayLs l = true) (w : World) (hA : ObjsAt w lo hi l A) (hh : hi ≤ w.heap.size) :
    Calls Tryd.prog 33 #[.slice A n c] w fun e w' => ∃ v, e = .returned v ∧ LgAt w' w.heap.size (daT l n) v ∧ Below w.heap.size w w' := by
  have hL := mayLs_len hm
  obtain ⟨i0, hi0, hz0, hz1, hz2⟩ := info_parts info_u64k
  have HN := Lib.hid hn
  have HA := Lib.hid hA
  have HH := Lib.hid hh
  have HM := Lib.hid hm
  have hmx : n ≤ 16 := by omega
  clear hn hA hh hm hL
  go_enter Tryd.func33, Tryd.ntmps33
  go_wp2
  go_loopw [8, 3] (fun i v wr => ∃ (k : Nat), k ≤ n ∧ i = .int .i64 k ∧ Hid (LgAt wr w.heap.size (daT l k) v) ∧ Hid (Below w.heap.size w wr)) (fun i _ _ => n - (intOf i).toNat)
  case atStart => exact ⟨0, by omega, rfl, Lib.hid ⟨none, 0, rfl, World.ownsRow_nil _ _ _ _⟩, Lib.hid (Below.refl _ _)⟩
  case round =>
    obtain ⟨k, hk, rfl, HR, HB⟩ := hrel
    by_cases hlt : k < n
    · have k0 : (0 : Int) ≤ k := by omega
      have k1 : (k : Int) < n := by omega
      have hlk : k < l.length := by rw [HN.out]; exact hlt
      obtain ⟨b, o, A1, n1, c1, A2, n2, c2, A3, n3, c3, A4, n4, c4, A5, n5, c5, rfl, hb, ⟨v0, v1, v2, xw, v4⟩, h1, h2, h3, h4, hr0, hr1⟩ := HA.out.td hlk
      have x0 := (HB.out.cell (p := ⟨b, o + k * 5, none⟩) (block_lt v0)).trans v0
      have x1 := (HB.out.cell (p := ⟨b, o + k * 5 + 1, none⟩) (block_lt v1)).trans v1
      have x2 := (HB.out.cell (p := ⟨b, o + k * 5 + 2, none⟩) (block_lt v2)).trans v2
      have x3 := (HB.out.cell (p := ⟨b, o + k * 5 + 3, none⟩) (block_lt xw)).trans xw
      have x4 := (HB.out.cell (p := ⟨b, o + k * 5 + 4, none⟩) (block_lt v4)).trans v4
      have hsg := sumD_go hlk
      obtain ⟨D, hD⟩ : ∃ D, l[k] = D := ⟨_, rfl⟩
      rw [hD] at h1 h2 h3 h4 hr1 hsg
      have hdg := daT_go hlk
      rw [hD] at hdg
      have HD := Lib.hid hdg
      have hal := daT_len l k (Nat.le_of_lt hlk)
      obtain ⟨a, ha⟩ : ∃ a, daT l k = a := ⟨_, rfl⟩
      rw [ha] at HR hal hdg HD
      clear hD
      have b1 := (Below.refl wr.heap.size wr).alloc (Nat.le_refl _) (.cells #[.slice A1 n1 c1, .slice A2 n2 c2, .slice A3 n3 c3, .slice A4 n4 c4, .slice A5 n5 c5] 45)
      have HB1 := Lib.hid (HB.out.trans (b1.mono HB.out.size))
      have HO1 := Lib.hid (heap_alloc_new wr (.cells #[.slice A1 n1 c1, .slice A2 n2 c2, .slice A3 n3 c3, .slice A4 n4 c4, .slice A5 n5 c5] 45))
      have HR1 := Lib.hid (HR.out.below b1)
      obtain ⟨Av, cv, rfl, hown⟩ := HR1.out
      have HOw := Lib.hid hown
      have HRc := Lib.hid ((hr1.move (lo' := lo) (hi' := hi) (w' := wr) (Nat.le_refl _) (Nat.le_refl _) (fun b' _ hb' => HB.out.block b' (Nat.lt_of_lt_of_le hb' HH.out))).move (lo' := lo) (hi' := hi) (w' := wr.alloc (.cells #[.slice A1 n1 c1, .slice A2 n2 c2, .slice A3 n3 c3, .slice A4 n4 c4, .slice A5 n5 c5] 45)) (Nat.le_refl _) (Nat.le_refl _) (fun b' _ hb' => b1.block b' (Nat.lt_of_lt_of_le hb' (Nat.le_trans HH.out HB.out.size))))
      have HLn := Lib.hid (show (D.data.flatMap encU64).length = n2 by rw [enc64_len]; exact h2)
      have hts := may_sumTD HM.out
      have hsl := sumD_le l (k + 1)
      rw [h2] at hsg
      have ham : a.length + n2 ≤ 65536 := by omega
      have HAm := Lib.hid ham
      have H1c := Lib.hid (one_l8 D.data)
      have HMl := Lib.hid (show a.length + n2 ≤ maxLen by unfold maxLen; omega)
      have HBy := Lib.hid (show (a.length + n2) * 8 ≤ 140737488355328 by omega)
      have HSz1 := Lib.hid HB1.out.size
      clear hr0 hdg b1 hts hal hsl hsg h1 h2 h3 h4 hr1 hown hb HR HB v0 v1 v2 xw v4
      obtain ⟨y0, y1, y2, y3, y4, yf⟩ := row5 HO1.out
      go_upto_region 5 with fail
      generalize (wr.alloc (.cells #[.slice A1 n1 c1, .slice A2 n2 c2, .slice A3 n3 c3, .slice A4 n4 c4, .slice A5 n5 c5] 45)) = W at *
      generalize wr.heap.size = ko at *
      clear x0 x1 x2 x3 x4
      go_wp2_with (at_builtin; (refine wpList_append_any8 rfl _ _ 37 rfl w.heap.size 24 i0 (.int .u64 0) 8 Tryd.underlying37 hi0 hz0 hz1 hz2 rfl (.slice Av a.length cv) a.length (a.flatMap encU64) ?hs HOw.out A2 n2 c2 lo hi (D.data.flatMap encU64) ?hx HLn.out HRc.out H1c.out HMl.out HBy.out HSz1.out ?_; (case hs => rfl); (case hx => rfl); intro v' w7 hr hg; obtain ⟨A3', e3', rfl⟩ := ownO_slice hr; have HO7 := Lib.hid (blk_other HOw.out HO1.out (by decide) hg); obtain ⟨r0, r1, r2, r3, r4, rf⟩ := row5 HO7.out))
      have hTn : D.data.length = n2 := by rw [← enc64_len]; exact HLn.out
      have HT7 := Lib.hid (show LgAt w7 w.heap.size (a ++ D.data) (.slice A3' (a.length + n2) e3') from ⟨A3', e3', by rw [List.length_append, hTn], by
        rw [List.length_append, List.flatMap_append, hTn]; exact hr⟩)
      have HB7 := Lib.hid (HB1.out.grown hg HB1.out.size (fun g e => by have := own_ge HOw.out g e; omega))
      clear hr hg y0 y1 y2 y3 y4 yf HO1 HOw HR1 HRc
      go_wp2
      go_roundw
      case rel => exact ⟨k + 1, by omega, by go_num, by rw [HD.out]; exact HT7, HB7⟩
      case measure => simp [intOf]; omega
    · have hkn : k = n := by omega
      have k1 : ¬ (k : Int) < n := by omega
      subst hkn
      have HV := Lib.hid HR.out
      obtain ⟨A7, c7, rfl, -⟩ := HR.out
      go_wp2
      go_ret
      exact ⟨_, rfl, HV.out, HB.out⟩
end Go.Proofs.YtjngkifoaljmaaaDoor
namespace Go.Proofs.YtjngkifoaljmaaaDoor
set_option maxRecDepth 100000
open Go.RowKit
set_option linter.unusedVariables false
set_option maxHeartbeats 2000000 in
theorem boxed_all (b0 b1 : Nat) (v0 v1 : Value) (r : Option (List Int)) (w : World) (h0 : w.cell? ⟨b0, 0, none⟩ = some v0) (h1 : w.cell? ⟨b1, 0, none⟩ = some v1) (hc : Calls Tryd.prog 32 #[v0, v1] w (AllP r w)) :
    Calls Tryd.prog 31 #[.pointer (some ⟨b0, 0, none⟩), .pointer (some ⟨b1, 0, none⟩)] w (AllP r w) := by
  have HC := Lib.hid hc
  clear hc
  go_enter Tryd.func31, Tryd.ntmps31
  go_wp2_with fail
  refine HC.out.mono ?_
  intro e w1 h
  cases r with
  | none =>
    obtain ⟨hb, rfl⟩ := h
    exact ⟨rfl, hb, rfl⟩
  | some xs =>
    obtain ⟨hb, v, rfl, hv⟩ := h
    have HB := Lib.hid hb
    have HV := Lib.hid hv
    obtain ⟨Av, cv, rfl, -⟩ := hv
    clear hb
    go_wp2
    go_ret
    exact ⟨HB.out, _, rfl, HV.out⟩
/-- the code of Link -/
def lkC (l : List ObjD) (t d : Int) (n : Nat) : Int := if spC l t d ≠ 0 then spC l t d else if (txT l (spL l t d n) n).isSome then 0 else 5
def LinkP (l : List ObjD) (t d : Int) (n : Nat) (w : World) (e : Ending) (w' : World) : Prop :=
  Below w.heap.size w w' ∧ ∃ v u, e = .returned (.tuple #[v, u, .int .i64 (lkC l t d n)]) ∧ (lkC l t d n ≠ 0 → v = .slice none 0 0 ∧ u = .slice none 0 0) ∧
    (lkC l t d n = 0 → ∃ xs, txT l (spL l t d n) n = some xs ∧ TxAt w' w.heap.size xs v ∧ LgAt w' w.heap.size (daT l n) u)
theorem LinkP.no {l : List ObjD} {t d k : Int} {n : Nat} {w w' : World} (h : lkC l t d n = k) (hk : k ≠ 0) (hb : Below w.heap.size w w') : LinkP l t d n w (.returned (.tuple #[.slice none 0 0, .slice none 0 0, .int .i64 k])) w' := by
  subst h
  exact ⟨hb, _, _, rfl, fun _ => ⟨rfl, rfl⟩, fun h => absurd h hk⟩
theorem LinkP.yes {l : List ObjD} {t d : Int} {n : Nat} {w w' : World} {v u : Value} {xs : List Int} (h : lkC l t d n = 0) (hx : txT l (spL l t d n) n = some xs) (h1 : TxAt w' w.heap.size xs v) (h2 : LgAt w' w.heap.size (daT l n) u) (hb : Below w.heap.size w w') : LinkP l t d n w (.returned (.tuple #[v, u, .int .i64 0])) w' :=
  ⟨hb, v, u, by rw [h], fun k => absurd h k, fun _ => ⟨xs, hx, h1, h2⟩⟩
theorem SpAt.slice {w : World} {b : Nat} {xs : List (Int × Int)} {v : Value} (h : SpAt w b xs v) : ∃ A c, v = .slice A xs.length c := by
  obtain ⟨A, c, e, _⟩ := h; exact ⟨A, c, e⟩
theorem LgAt.low {w : World} {b b' : Nat} {xs : List Int} {v : Value} (h : LgAt w b xs v) (hb : b' ≤ b) : LgAt w b' xs v := by
  obtain ⟨A, c, e, ho⟩ := h
  exact ⟨A, c, e, kn_base ho hb⟩
theorem below_link {w w1 : World} (h : Below w.heap.size w w1) {o : Obj} : Below w.heap.size w (w1.alloc o) := h.trans (((Below.refl w1.heap.size w1).alloc (Nat.le_refl _) o).mono h.size)
set_option maxHeartbeats 4000000 in
/-- hAll: what allText does -/
theorem link_of (l : List ObjD) (hW : ∀ d ∈ l, ObjW d) (A : Option Addr) (n c lo hi : Nat) (hn : l.length = n) (hmx : n ≤ 1000000) (t d : Int) (ht : IsU t) (hd : IsU d) (w : World) (hT : Tabs w) (hA : ObjsAt w lo hi l A) (hh : hi ≤ w.heap.size)
    (hAll : ∀ (As : Option Addr) (cs base : Nat) (W : World), (chkF l).2 = 0 → Tabs W → ObjsAt W lo hi l A → hi ≤ W.heap.size → SpAt W base (spL l t d n) (.slice As n cs) → Calls Tryd.prog 32 #[.slice A n c, .slice As n cs] W (AllP (txT l (spL l t d n) n) W)) :
    Calls Tryd.prog 12 #[.slice A n c, .int .u64 t, .int .u64 d] w (LinkP l t d n w) := by
  have hmf : ∀ (fn : Fn) (first cap : Array Value) (w : World), (Instr.makeFunc fn first cap).run Tryd.prog w = .ok (.func fn first cap) w := fun _ _ _ _ => rfl
  have hb0 := (Below.refl w.heap.size w).alloc (Nat.le_refl _) (.cells #[.slice A n c] 34)
  have HB0 := Lib.hid hb0
  have HX0 := Lib.hid (heap_alloc_new w (.cells #[.slice A n c] 34))
  have HSp := Lib.hid (spots_any l hW A n c lo hi hn hmx t d ht hd (w.alloc (.cells #[.slice A n c] 34)) (hT.below hb0) (hA.below hh hb0) (Nat.le_trans hh hb0.size))
  have HAll := Lib.hid hAll
  have HA := Lib.hid hA
  have HH := Lib.hid hh
  have HT := Lib.hid hT
  have HN := Lib.hid hn
  obtain ⟨x0, xf⟩ := row1 HX0.out
  clear hb0 hAll hA hh hT hn hW ht hd
  go_enter Tryd.func12, Tryd.ntmps12
  go_wp2_with fail
  refine HSp.out.mono ?_
  rintro e w1 ⟨hb, v, rfl, h1, h2⟩
  have HB1 := Lib.hid (HB0.out.trans (hb.mono HB0.out.size))
  have HX1 := Lib.hid ((hb.block _ (Array.getElem?_eq_some_iff.1 HX0.out).1).trans HX0.out)
  have HSz := Lib.hid hb.size
  clear hb
  by_cases h0 : spC l t d = 0
  · have hck : (chkF l).2 = 0 := by
      by_cases h : (chkF l).2 = 0
      · exact h
      · unfold spC at h0
        rw [if_pos h] at h0
        exact h0
    have HCk := Lib.hid hck
    have hs := h1 h0
    obtain ⟨As, cs, rfl⟩ := hs.slice
    rw [spL_len] at hs ⊢
    have HS := Lib.hid hs
    have HL := Lib.hid (show lkC l t d n = if (txT l (spL l t d n) n).isSome then 0 else 5 from by unfold lkC; rw [if_neg (by rw [h0]; simp)])
    rw [h0]
    have hb2 := (Below.refl w1.heap.size w1).alloc (Nat.le_refl _) (.cells #[.slice As n cs] 57)
    have HB2 := Lib.hid (HB1.out.trans (hb2.mono HB1.out.size))
    have HX2 := Lib.hid ((hb2.block _ (Array.getElem?_eq_some_iff.1 HX1.out).1).trans HX1.out)
    have HY2 := Lib.hid (heap_alloc_new w1 (.cells #[.slice As n cs] 57))
    have HS2 := Lib.hid (HS.out.below hb2)
    clear hb2 hs h1 h2 h0 hck x0 xf
    obtain ⟨x0, xf⟩ := row1 HX2.out
    obtain ⟨y0, yf⟩ := row1 HY2.out
    have hb3 := (Below.refl (w1.alloc (.cells #[.slice As n cs] 57)).heap.size (w1.alloc (.cells #[.slice As n cs] 57))).alloc (Nat.le_refl _) (.cells #[.int .i64 0] 25)
    have HF := Lib.hid (fit_any2 (.pointer (some ⟨w.heap.size, 0, none⟩)) (.pointer (some ⟨w1.heap.size, 0, none⟩)) (txT l (spL l t d n) n) (w1.alloc (.cells #[.slice As n cs] 57))
      (boxed_all _ _ (.slice A n c) (.slice As n cs) _ _ ((hb3.cell (p := ⟨w.heap.size, 0, none⟩) (block_lt x0)).trans x0) ((hb3.cell (p := ⟨w1.heap.size, 0, none⟩) (block_lt y0)).trans y0)
        (HAll.out As cs _ _ HCk.out ((HT.out.below HB2.out).below hb3) ((HA.out.below HH.out HB2.out).below (Nat.le_trans HH.out HB2.out.size) hb3) (Nat.le_trans (Nat.le_trans HH.out HB2.out.size) hb3.size) (HS2.out.below hb3))))
    clear hb3
    go_wp2_with fail
    refine HF.out.mono ?_
    rintro e w3 ⟨hb, h⟩
    have HB3 := Lib.hid (HB2.out.trans (hb.mono HB2.out.size))
    have HX3 := Lib.hid ((hb.block _ (Array.getElem?_eq_some_iff.1 HX2.out).1).trans HX2.out)
    clear hb x0 xf y0 yf
    cases hx : txT l (spL l t d n) n with
    | none =>
      rw [hx] at h
      have h : e = .returned (.tuple #[.slice none 0 0, .int .i64 5]) := h
      subst h
      have HC := Lib.hid (show lkC l t d n = 5 from by rw [HL.out, hx]; rfl)
      clear hx
      go_wp2
      refine bodyPost_ret (v := .tuple #[.slice none 0 0, .slice none 0 0, .int .i64 5]) ?_ rfl (LinkP.no HC.out (by omega) HB3.out)
      simp [results, Tryd.results12, go_sem]
    | some xs =>
      rw [hx] at h
      obtain ⟨v, he, hv⟩ : ∃ v, e = .returned (.tuple #[v, .int .i64 0]) ∧ TxAt w3 (w1.alloc (.cells #[.slice As n cs] 57)).heap.size xs v := h
      subst he
      have HC := Lib.hid (show lkC l t d n = 0 from by rw [HL.out, hx]; rfl)
      have HQ := Lib.hid hx
      have HV := Lib.hid (hv.low (b' := w.heap.size) HB2.out.size)
      obtain ⟨Av, cv, rfl, -⟩ := hv
      have HDt := Lib.hid (data_any l A n c lo hi HN.out (chkF_may HCk.out) w3 (HA.out.below HH.out HB3.out) (Nat.le_trans HH.out HB3.out.size))
      clear hx
      obtain ⟨x0, xf⟩ := row1 HX3.out
      go_wp2_with fail
      refine HDt.out.mono ?_
      rintro e w4 ⟨u, rfl, hu, hb⟩
      have HB4 := Lib.hid (HB3.out.trans (hb.mono HB3.out.size))
      have HV4 := Lib.hid (HV.out.below hb)
      have HU := Lib.hid (hu.low (b' := w.heap.size) HB3.out.size)
      obtain ⟨Au, cu, rfl, -⟩ := hu
      clear hb x0 xf
      go_wp2
      refine bodyPost_ret (v := .tuple #[.slice Av xs.length cv, .slice Au (daT l n).length cu, .int .i64 0]) ?_ rfl (LinkP.yes HC.out HQ.out HV4.out HU.out HB4.out)
      simp [results, Tryd.results12, go_sem]
  · have HK := Lib.hid h0
    have HC := Lib.hid (show lkC l t d n = spC l t d from by unfold lkC; rw [if_pos h0])
    obtain ⟨k, hk⟩ : ∃ k, spC l t d = k := ⟨_, rfl⟩
    have h2' := h2 h0
    subst h2'
    rw [hk] at HK HC ⊢
    have k0 : (k == (0 : Int)) = false := by simpa using HK.out
    have k1 : ¬ k = 0 := HK.out
    clear h1 h2 h0 hk x0 xf
    go_wp2
    refine bodyPost_ret (v := .tuple #[.slice none 0 0, .slice none 0 0, .int .i64 k]) ?_ rfl (LinkP.no HC.out HK.out (below_link HB1.out))
    simp [results, Tryd.results12, go_sem]
end Go.Proofs.YtjngkifoaljmaaaDoor
namespace Go.Proofs.YtjngkifoaljmaaaDoor
set_option maxRecDepth 100000
open Go.RowKit
set_option linter.unusedVariables false
/-- the object that awake links twice -/
def wkO : ObjD := ⟨[695, 111], [7], [(⟨#[100]⟩, true, 0, false), (⟨#[102]⟩, false, 4, false)], [(0, 0, ⟨#[100]⟩, 0), (4, 2, ⟨#[102]⟩, 0)], []⟩
theorem wk_enc : encI 38 5 0 0 0 = 695 := by decide +kernel
theorem wk_hi : relV 695 0 0 77823 = (78519, 0) := by decide +kernel
theorem wk_lo : relV 695 1 0 0 = (0, 1) := by decide +kernel
theorem wk_chk : chkF [wkO, wkO] = (⟨#[]⟩, 0) := by decide +kernel
theorem wk_sp : spC [wkO, wkO] 4096 77824 = 0 := by decide +kernel
theorem wk_tx : txT [wkO, wkO] (spL [wkO, wkO] 4096 77824 2) 2 = some [78519, 111, 78519, 111] := by decide +kernel
theorem wk_da : daT [wkO, wkO] 2 = [7, 7] := by decide +kernel
theorem wk_lk : lkC [wkO, wkO] 4096 77824 2 = 0 := by decide +kernel
theorem wk_w : ObjW wkO where
  text := fun x hx => by simp only [wkO, List.mem_cons, List.not_mem_nil, or_false] at hx; rcases hx with rfl | rfl <;> (unfold IsW; omega)
  data := fun x hx => by simp only [wkO, List.mem_cons, List.not_mem_nil, or_false] at hx; subst hx; exact ⟨by omega, by omega⟩
  syms := fun x hx => by
    simp only [wkO, List.mem_cons, List.not_mem_nil, or_false] at hx
    rcases hx with rfl | rfl <;> exact ⟨show 1 ≤ maxLen from by unfold maxLen; omega, by unfold IsI; simp⟩
  rels := fun x hx => by
    simp only [wkO, List.mem_cons, List.not_mem_nil, or_false] at hx
    rcases hx with rfl | rfl <;> exact ⟨by unfold IsI; simp, by unfold IsI; simp, show 1 ≤ maxLen from by unfold maxLen; omega, by unfold IsI; simp⟩
  ents := by simp [wkO]
theorem wk_at {w : World} {b1 b2 b3 b4 K : Nat} {T1 T2 T3 T4 : TypeId} (h1 : w.heap[b1]? = some (.cells #[.int .u32 695, .int .u32 111] T1 (0, 0))) (h2 : w.heap[b2]? = some (.cells #[.int .u64 7] T2 (0, 0)))
    (h3 : w.heap[b3]? = some (.cells #[.string ⟨#[100]⟩, .bool true, .int .i64 0, .bool false, .string ⟨#[102]⟩, .bool false, .int .i64 4, .bool false] T3 (0, 0)))
    (h4 : w.heap[b4]? = some (.cells #[.int .i64 0, .int .i64 0, .string ⟨#[100]⟩, .int .i64 0, .int .i64 4, .int .i64 2, .string ⟨#[102]⟩, .int .i64 0] T4 (0, 0))) (k1 : b1 < K) (k2 : b2 < K) (k3 : b3 < K) (k4 : b4 < K) :
    ObjAt w 0 K wkO (.agg #[.slice (some ⟨b1, 0, none⟩) 2 2, .slice (some ⟨b2, 0, none⟩) 1 1, .slice (some ⟨b3, 0, none⟩) 2 2, .slice (some ⟨b4, 0, none⟩) 2 2, .slice none 0 0]) :=
  ⟨_, 2, _, 1, _, 2, _, 2, none, 0, [], rfl, rowC_one h1 k1, rowC_one h2 k2, rowC_one h3 k3, rowC_one h4 k4, .inl rfl, rfl⟩
end Go.Proofs.YtjngkifoaljmaaaDoor
namespace Go.Proofs.YtjngkifoaljmaaaDoor
set_option maxRecDepth 100000
open Go.RowKit
set_option linter.unusedVariables false
theorem wk_ws : ∀ d ∈ [wkO, wkO], ObjW d := fun d hd => by
  simp only [List.mem_cons, List.not_mem_nil, or_false] at hd
  rcases hd with rfl | rfl <;> exact wk_w
theorem five_boxes (w : World) (o0 o1 o2 o3 o4 : Array Value) (t0 t1 t2 t3 t4 : TypeId) : ∃ W, ((((w.alloc (.cells o0 t0)).alloc (.cells o1 t1)).alloc (.cells o2 t2)).alloc (.cells o3 t3)).alloc (.cells o4 t4) = W ∧ W.heap[w.heap.size]? = some (.cells o0 t0 (0, 0)) ∧ W.heap[w.heap.size + 1]? = some (.cells o1 t1 (0, 0)) ∧ W.heap[w.heap.size + 1 + 1]? = some (.cells o2 t2 (0, 0)) ∧ W.heap[w.heap.size + 1 + 1 + 1]? = some (.cells o3 t3 (0, 0)) ∧ W.heap[w.heap.size + 1 + 1 + 1 + 1]? = some (.cells o4 t4 (0, 0)) ∧ Below w.heap.size w W ∧ W.heap.size = w.heap.size + 1 + 1 + 1 + 1 + 1 := by
  have s1 : (w.alloc (.cells o0 t0)).heap.size = w.heap.size + 1 := by simp
  have s2 : ((w.alloc (.cells o0 t0)).alloc (.cells o1 t1)).heap.size = w.heap.size + 1 + 1 := by simp
  have s3 : (((w.alloc (.cells o0 t0)).alloc (.cells o1 t1)).alloc (.cells o2 t2)).heap.size = w.heap.size + 1 + 1 + 1 := by simp
  have s4 : ((((w.alloc (.cells o0 t0)).alloc (.cells o1 t1)).alloc (.cells o2 t2)).alloc (.cells o3 t3)).heap.size = w.heap.size + 1 + 1 + 1 + 1 := by simp
  have g0 := heap_alloc_new w (.cells o0 t0)
  have g1 := heap_alloc_new (w.alloc (.cells o0 t0)) (.cells o1 t1)
  have g2 := heap_alloc_new ((w.alloc (.cells o0 t0)).alloc (.cells o1 t1)) (.cells o2 t2)
  have g3 := heap_alloc_new (((w.alloc (.cells o0 t0)).alloc (.cells o1 t1)).alloc (.cells o2 t2)) (.cells o3 t3)
  have g4 := heap_alloc_new ((((w.alloc (.cells o0 t0)).alloc (.cells o1 t1)).alloc (.cells o2 t2)).alloc (.cells o3 t3)) (.cells o4 t4)
  rw [s1] at g1
  rw [s2] at g2
  rw [s3] at g3
  rw [s4] at g4
  refine ⟨_, rfl, ?_, ?_, ?_, ?_, g4, ((((((Below.refl _ w).alloc (Nat.le_refl _) _).alloc (by omega) _).alloc (by omega) _).alloc (by omega) _).alloc (by omega) _), by simp⟩
  · rw [heap_alloc_old _ _ (by omega), heap_alloc_old _ _ (by omega), heap_alloc_old _ _ (by omega), heap_alloc_old _ _ (by omega)]; exact g0
  · rw [heap_alloc_old _ _ (by omega), heap_alloc_old _ _ (by omega), heap_alloc_old _ _ (by omega)]; exact g1
  · rw [heap_alloc_old _ _ (by omega), heap_alloc_old _ _ (by omega)]; exact g2
  · rw [heap_alloc_old _ _ (by omega)]; exact g3
theorem wk_may : mayB 38 5 0 0 0 = true := by decide +kernel
set_option maxHeartbeats 4000000 in
theorem awake8_of (w : World) (hT : Tabs w) (hL : ∀ (A : Option Addr) (c lo hi : Nat) (W : World), Tabs W → ObjsAt W lo hi [wkO, wkO] A → hi ≤ W.heap.size → Calls Tryd.prog 12 #[.slice A 2 c, .int .u64 4096, .int .u64 77824] W (LinkP [wkO, wkO] 4096 77824 2 W)) :
    Calls Tryd.prog 7 #[] w fun e w' => e = .returned (.bool true) ∧ Below w.heap.size w w' := by
  have HT := Lib.hid hT
  have HL := Lib.hid hL
  clear hT hL
  go_enter Tryd.func7, Tryd.ntmps7
  go_wp2_with fail
  refine (renc_yes 38 5 0 0 0 w (by omega) ⟨by omega, by omega⟩ wk_may).mono ?_
  rintro e w1 ⟨rfl, hb⟩
  rw [wk_enc]
  have HB1 := Lib.hid hb
  clear hb
  go_wp2_with fail
  refine (relocate_any 695 0 0 77823 ⟨by omega, by omega⟩ ⟨by omega, by omega⟩ ⟨by omega, by omega⟩ ⟨by omega, by omega⟩ w1 (HT.out.below HB1.out)).mono ?_
  rintro e w2 ⟨hb, rfl⟩
  rw [wk_hi]
  have HB2 := Lib.hid (HB1.out.trans (hb.mono HB1.out.size))
  clear hb
  go_wp2_with fail
  refine (relocate_any 695 1 0 0 ⟨by omega, by omega⟩ ⟨by omega, by omega⟩ ⟨by omega, by omega⟩ ⟨by omega, by omega⟩ w2 (HT.out.below HB2.out)).mono ?_
  rintro e w3 ⟨hb, rfl⟩
  rw [wk_lo]
  have HB3 := Lib.hid (HB2.out.trans (hb.mono HB2.out.size))
  clear hb
  go_upto_region 5 with fail
  obtain ⟨W, hWe, e0, e1, e2, e3, e4, hbW, hsz⟩ := five_boxes w3 #[.int .u32 695, .int .u32 111] #[.int .u64 7] #[.string ⟨#[100]⟩, .bool true, .int .i64 0, .bool false, .string ⟨#[102]⟩, .bool false, .int .i64 4, .bool false] #[.int .i64 0, .int .i64 0, .string ⟨#[100]⟩, .int .i64 0, .int .i64 4, .int .i64 2, .string ⟨#[102]⟩, .int .i64 0]
    #[.slice (some ⟨w3.heap.size, 0, none⟩) 2 2, .slice (some ⟨w3.heap.size + 1, 0, none⟩) 1 1, .slice (some ⟨w3.heap.size + 1 + 1, 0, none⟩) 2 2, .slice (some ⟨w3.heap.size + 1 + 1 + 1, 0, none⟩) 2 2, .slice none 0 0] 22 24 53 47 45
  have HB4 := Lib.hid (HB3.out.trans (hbW.mono HB3.out.size))
  have hO := wk_at (K := W.heap.size) e0 e1 e2 e3 (by omega) (by omega) (by omega) (by omega)
  have HO := Lib.hid hO
  have HX := Lib.hid e4
  rw [hWe]
  clear hWe e0 e1 e2 e3 hbW hO e4 hsz
  obtain ⟨x0, x1, x2, x3, x4, xf⟩ := row5 HX.out
  generalize w3.heap.size + 1 + 1 + 1 + 1 = k4 at *
  generalize w3.heap.size + 1 + 1 + 1 = k3 at *
  generalize w3.heap.size + 1 + 1 = k2 at *
  generalize w3.heap.size + 1 = k1 at *
  generalize w3.heap.size = k0 at *
  have hbx := (Below.refl W.heap.size W).alloc (Nat.le_refl _) (.cells #[.slice (some ⟨k0, 0, none⟩) 2 2, .slice (some ⟨k1, 0, none⟩) 1 1, .slice (some ⟨k2, 0, none⟩) 2 2, .slice (some ⟨k3, 0, none⟩) 2 2, .slice none 0 0, .slice (some ⟨k0, 0, none⟩) 2 2, .slice (some ⟨k1, 0, none⟩) 1 1, .slice (some ⟨k2, 0, none⟩) 2 2, .slice (some ⟨k3, 0, none⟩) 2 2, .slice none 0 0] 45)
  have HB5 := Lib.hid (HB4.out.trans (hbx.mono HB4.out.size))
  have HLk := Lib.hid (HL.out (some ⟨W.heap.size, 0, none⟩) 2 0 (W.heap.size + 1) _ (HT.out.below HB5.out) (objs_two (T := 45) (Nat.le_refl _) HO.out HO.out) (by simp))
  clear hbx
  go_wp2_with fail
  refine HLk.out.mono ?_
  rintro e w5 ⟨hb, v, u, rfl, -, h2⟩
  rw [wk_lk]
  obtain ⟨xs, hx, htx, hlg⟩ := h2 wk_lk
  rw [wk_tx] at hx
  cases hx
  have HB6 := Lib.hid (HB5.out.trans (hb.mono HB5.out.size))
  obtain ⟨Av, cv, rfl, hown⟩ := htx
  have htx : TxAt w5 _ [78519, 111, 78519, 111] (.slice Av 4 cv) := ⟨Av, cv, rfl, hown⟩
  obtain ⟨g, eg, -, c0, -⟩ := htx.at_ (i := 0) (by simp)
  subst eg
  obtain ⟨g', eg, -, c3, -⟩ := htx.at_ (i := 3) (by simp)
  cases eg
  obtain ⟨Au, cu, rfl, -⟩ := hlg
  rw [wk_da]
  have c0 : w5.cell? ⟨g, 0, none⟩ = some (.int .u32 78519) := c0
  have c3 : w5.cell? ⟨g, 3, none⟩ = some (.int .u32 111) := c3
  clear hb h2 hown htx x0 x1 x2 x3 x4 xf
  go_wp2
  go_ret
  exact ⟨rfl, HB6.out⟩
end Go.Proofs.YtjngkifoaljmaaaDoor
namespace Go.Proofs.YtjngkifoaljmaaaDoor
set_option maxRecDepth 100000
open Go.RowKit
set_option linter.unusedVariables false
theorem link_any (l : List ObjD) (hW : ∀ d ∈ l, ObjW d) (A : Option Addr) (n c lo hi : Nat) (hn : l.length = n) (hmx : n ≤ 1000000) (t d : Int) (ht : IsU t) (hd : IsU d) (w : World) (hT : Tabs w) (hA : ObjsAt w lo hi l A) (hh : hi ≤ w.heap.size) :
    Calls Tryd.prog 12 #[.slice A n c, .int .u64 t, .int .u64 d] w (LinkP l t d n w) :=
  link_of l hW A n c lo hi hn hmx t d ht hd w hT hA hh (fun As cs base W hck hT' hA' hh' hS => all_any l hW hck A n c lo hi hn t d _ rfl As cs base W hT' hA' hh' hS)
theorem awake8_yes (w : World) (hT : Tabs w) : Calls Tryd.prog 7 #[] w fun e w' => e = .returned (.bool true) ∧ Below w.heap.size w w' :=
  awake8_of w hT (fun A c lo hi W hT' hA' hh' => link_any [wkO, wkO] wk_ws A 2 c lo hi rfl (by omega) 4096 77824 ⟨by omega, by omega⟩ ⟨by omega, by omega⟩ W hT' hA' hh')
end Go.Proofs.YtjngkifoaljmaaaDoor
