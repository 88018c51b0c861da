/- Layer 5's statements: CpuRuns. -/
import Derived.Test.YtoeagbcjnffpaaaGreatDoorCpuStepsPure
import Derived.Test.YtoeagbcjnffpaaaGreatDoorCpuSmall
import Derived.Test.YtoeagbcjnffpaaaGreatDoorCpuEq
import Derived.Test.YtoeagbcjnffpaaaGreatDoorCpuEvs
import Derived.Test.YtoeagbcjnffpaaaGreatDoorRCpuG
import Derived.Test.YtoeagbcjnffpaaaGreatDoorRPeek
import Derived.Deep.QuietTactic
import Derived.Deep.RegionHeld3
import Derived.BigQuiet
import Derived.IntWalk
namespace Go.Proofs.YtoeagbcjnffpaaaGreatDoor
set_option maxRecDepth 100000
open Go.RowKit Go.Maps
set_option linter.unusedVariables false
namespace CpuRunsWalk
attribute [local go_sem ↓] loadAt_st loadAt_wd build_st build_wd
theorem rows_at {w : World} {A : Option Addr} {n c : Nat} {rows : List (List Int)} (h : IsRows w A n rows) (hn : n ≤ 20) (hl : ∀ i, i < n → (rowK rows i).length ≤ 20000) (hlt : ∀ i A' c' b off, A = some ⟨b, off, none⟩ → i < n → w.cell? ⟨b, off + i, none⟩ = some (.slice A' (rowK rows i).length c') → Sl w A' (rowK rows i) → 0 < (rowK rows i).length → ∀ a, A' = some a → a.block < w.heap.size) :
    ((∃ A' c', (Value.slice A n c) = .slice A' 0 c') ∧ n = 0) ∨ ∃ b off, (Value.slice A n c) = .slice (some ⟨b, off, none⟩) n c ∧ RowsAt w b off rows := by
  by_cases h0 : n = 0
  · subst h0; exact .inl ⟨⟨A, c, rfl⟩, rfl⟩
  · obtain ⟨b, off, rfl, hr⟩ := h.2.2 (by omega)
    refine .inr ⟨b, off, rfl, fun i hi => ?_⟩
    rw [h.1] at hi
    obtain ⟨A', c', q0, q1, q2, q3⟩ := hr i hi
    exact ⟨A', c', q0, q1, q2, by have := hl i hi; omega, fun hp a ha => hlt i A' c' b off rfl hi q0 q1 hp a ha⟩
theorem sl_block {w : World} {A : Option Addr} {l : List Int} (h : Sl w A l) (hl : 0 < l.length) : ∀ a, A = some a → a.block < w.heap.size := by
  rcases h with h | ⟨b, off, rfl, hc⟩
  · subst h; simp at hl
  · intro a ha; cases ha; exact block_lt (hc 0 hl)
theorem run_rows (T : List Rg) (E : List Int) : ∀ (n : Nat) (st : St), (runC T E n st).2.ev.length ≤ st.ev.length + n ∧ (runC T E n st).2.lk.length ≤ st.lk.length + 2 * n := by
  intro n
  induction n with
  | zero => intro st; exact ⟨Nat.le_refl _, Nat.le_refl _⟩
  | succ n ih =>
    intro st
    by_cases hd : st.s.dn = 0
    · rw [runC_succ _ _ _ _ hd]
      have h1 := ih (stepC T E st)
      have h2 := stepC_rows T E st
      exact ⟨by simp only; omega, by simp only; omega⟩
    · rw [runC_stop _ _ _ _ hd]; exact ⟨by simp only; omega, by simp only; omega⟩
section
variable {w w' : World}
theorem ne_row {b g k : Nat} {L : List Int} {v : Value} (h : Row w g L) (hc : w.cell? ⟨b, k, none⟩ = some v) (hv : ∀ x, v ≠ .int .u8 x) : b ≠ g := by
  intro e
  subst e
  rw [cell_of_row w b k _ _ _ h] at hc
  simp at hc
  obtain ⟨x, _, hx⟩ := hc
  exact hv x hx.symm
theorem RMem.sameB {r tb to tc bb bc n : Nat} {T : List Rg} {L : List Int} (h : RMem w r tb to tc bb bc n T L) (h0 : SameB w w' r) (h1 : SameB w w' tb) (h2 : SameB w w' bb) : RMem w' r tb to tc bb bc n T L := by
  refine ⟨by rw [h0.cell]; exact h.c0, by rw [h0.cell]; exact h.c1, fun i hi => ?_, h2.trans h.row, h.len, h.may, h.tabw, h.llen, h.all, h.apart, h.cap⟩
  obtain ⟨c0, c1, c2, c3⟩ := h.tab i hi
  exact ⟨by rw [h1.cell]; exact c0, by rw [h1.cell]; exact c1, by rw [h1.cell]; exact c2, by rw [h1.cell]; exact c3⟩
/-- another run goes on: this one is as it was, and owns no more than it did -/
theorem RCpuAt.move {K : RK} {F F2 : Nat → Prop} {st : St} (h : RCpuAt w K F st) (hO : Out F2 w w') (hd : ∀ b, b < w.heap.size → F b → ¬ F2 b) (h1 : ¬ F2 K.r) (h2 : ¬ F2 K.tb) (h8 : ∀ a, K.EA = some a → K.E = [] ∨ (a.block < w.heap.size ∧ ¬ F2 a.block)) : RCpuAt w' K (Cut F w.heap.size w'.heap.size) st := by
  obtain ⟨ve, vl, hC, hF⟩ := h
  obtain ⟨f0, f1, f2, f3, f4⟩ := hF
  have lc := hC.blk.lt
  obtain ⟨l0, l1, l2⟩ := hC.low
  have t6 := fun b hb => (ownBlock_lt hC.evr (b := b) hb).1
  have t7 := fun b hb => (ownBlock_lt hC.lkr (b := b) hb).1
  have hs : ∀ b, b < w.heap.size → ¬ F2 b → SameB w w' b := fun b hb hn => hO.block b hb hn
  refine ⟨ve, vl, ?_, .inl ⟨f0, lc⟩, .inl ⟨f1, by omega⟩, fun b hb => .inl ⟨f2 b hb, t6 b hb⟩, fun b hb => .inl ⟨f3 b hb, t7 b hb⟩, fun b hb => .inr hb⟩
  refine ⟨⟨(hs _ lc (hd _ lc f0)).trans hC.blk.1, hC.blk.2⟩, row_sameB hC.evr (fun b hb => hs b (t6 b hb) (hd b (t6 b hb) (f2 b hb))), row_sameB hC.lkr (fun b hb => hs b (t7 b hb) (hd b (t7 b hb) (f3 b hb))),
    ⟨RMem.sameB hC.mem.1 (hs _ (by omega) h1) (hs _ (by omega) h2) (hs _ (by omega) (hd _ (by omega) f1)), hC.mem.2⟩, ⟨hC.ent.1, hC.ent.2.1, ?_⟩, hC.wf, hC.low, hC.few⟩
  rcases hC.ent.2.2 with e | ⟨b, off, q1, q2, q3, q4⟩
  · exact .inl e
  · rcases h8 _ q1 with e | ⟨e1, e2⟩
    · exact .inl e
    · exact .inr ⟨b, off, q1, q2, q3, fun k hk => by rw [(hs b e1 e2).cell]; exact q4 k hk⟩
theorem RCpuB.loadS {c m : Nat} {vE : Value} {s : CS} {ve vl : Value} (h : RCpuB w c m vE s ve vl) : (stLoad (.pointer (some ⟨c, 2, none⟩))).run Tryz.prog w = .ok (.agg (stateL s).toArray) w := by
  unfold stLoad
  simp only [Instr.loadAt, Instr.sureAddr, Sem.run_bind, Sem.run_pure, Result.andThen_ok]
  refine run_load_state (stateL_len h.2) (fun j v hv => ?_)
  have hj : j < 35 := by have := (List.getElem?_eq_some_iff.1 hv).1; rw [stateL_len h.2] at this; exact this
  rw [h.st hj, hv]
end
theorem setR_len (s : CS) (r v : Int) : (setR s r v).R.length = s.R.length := by unfold setR; split <;> simp
theorem showC_s (st : St) (k a b : Int) : (showC st k a b).s = st.s := by unfold showC; split <;> rfl
theorem exec_len (T : List Rg) (x : X) (st : St) : (execC T x st).s.R.length = st.s.R.length := by
  unfold execC
  repeat' split
  all_goals simp [writeC, leapC, withS, withB, goTo, doneS, broke, setR_len, showC_s]
theorem step_len (T : List Rg) (E : List Int) (st : St) : (stepC T E st).s.R.length = st.s.R.length := by
  unfold stepC
  split
  · rfl
  · cases hf : fetchC T E st with
    | none => rfl
    | some p =>
      obtain ⟨v, st1⟩ := p
      have h1 : st1.s.R = st.s.R := by
        unfold fetchC at hf
        split at hf
        · cases hf; rfl
        · split at hf
          · split at hf
            · cases hf; rfl
            · cases hf
          · cases hf
      simp only
      cases decI v with
      | none => show st1.s.R.length = _; rw [h1]
      | some x => simp only; rw [exec_len, showC_s, h1]
theorem ev8_run (T : List Rg) (E : List Int) : ∀ (n : Nat) (st : St), st.s.R.length = 32 → Ev8 st.ev → Ev8 (runC T E n st).2.ev := by
  intro n
  induction n with
  | zero => intro st _ h; exact h
  | succ n ih =>
    intro st hR h
    by_cases hd : st.s.dn = 0
    · rw [runC_succ _ _ _ _ hd]; exact ih _ (by rw [step_len]; exact hR) (ev8_step hR h)
    · rw [runC_stop _ _ _ _ hd]; exact h
theorem rlen_back (T : List Rg) (E : List Int) : ∀ (n : Nat) (st : St), (ranS T E n st).s.R.length = 32 → st.s.R.length = 32 := by
  intro n
  induction n with
  | zero => intro st h; exact h
  | succ n ih =>
    intro st h
    unfold ranS at h
    by_cases hd : st.s.dn = 0
    · rw [runC_succ _ _ _ _ hd] at h
      have := ih (stepC T E st) h
      rw [step_len] at this
      exact this
    · rw [runC_stop _ _ _ _ hd] at h; exact h
/-- behind both runs: both memories, the table, the world that came in -/
structure PL (w wr : World) (tb0 to0 c0 n0 : Nat) (bS eS : Value) (s : CS) (T : List Rg) (tc n : Nat) (G : Nat → Nat) (m tb hb r rb rto rtc rbc : Nat) (B : Nat → List Int) : Prop where
  mem : MemIs wr 0 m tb tc hb n T G B
  rmem : RFl wr r tb0 rto rtc rb rbc n0 T B
  tab : TabAt wr tb0 to0 T
  wd : WdB wr w.heap.size (.slice (some ⟨tb0, to0, none⟩) n0 c0) bS eS s
  bel : Below w.heap.size w wr
section
variable {w wr w' : World} {tb0 to0 c0 n0 : Nat} {bS eS : Value} {s : CS} {T : List Rg} {tc n : Nat} {G : Nat → Nat} {m tb hb r rb rto rtc rbc : Nat} {B : Nat → List Int}
theorem PL.below (h : PL w wr tb0 to0 c0 n0 bS eS s T tc n G m tb hb r rb rto rtc rbc B) (hb' : Below wr.heap.size wr w') : PL w w' tb0 to0 c0 n0 bS eS s T tc n G m tb hb r rb rto rtc rbc B :=
  ⟨h.mem.below hb', h.rmem.below hb', h.tab.below hb', h.wd.below hb', h.bel.trans (hb'.mono h.bel.size)⟩
/-- the cells that a round reads -/
abbrev PT (w' : World) (g tb0 to0 c0 n0 j : Nat) (R : Rg) : Prop := w'.cell? ⟨g, 0, none⟩ = some (.slice (some ⟨tb0, to0, none⟩) n0 c0) ∧ w'.cell? ⟨tb0, to0 + j * 4, none⟩ = some (.int .u64 (rlo R)) ∧ w'.cell? ⟨tb0, to0 + j * 4 + 1, none⟩ = some (.int .u64 (rhi R))
theorem pl_three (h : PL w wr tb0 to0 c0 n0 bS eS s T tc n G m tb hb r rb rto rtc rbc B) {j : Nat} (hj : j < T.length) : PT wr w.heap.size tb0 to0 c0 n0 j (nthR T j) := by
  obtain ⟨t0, t1, _, _⟩ := h.tab j hj
  have hcT := h.wd.cell 0
  exact ⟨hcT, t0, t1⟩
end
/-- what the comparison asks of each world in it -/
abbrev SQ (w0 : World) (K : CK) (F : Nat → Prop) (K2 : RK) (ve vl : Value) (fin : St) (w : World) : Prop :=
  (w.cell? ⟨K2.c, 37, none⟩ = some ve ∧ w.cell? ⟨K2.c, 38, none⟩ = some vl ∧ (stLoad (.pointer (some ⟨K2.c, 2, none⟩))).run Tryz.prog w = .ok (.agg (stateL fin.s).toArray) w) ∧ CpuAt w K F fin ∧ RCpuIs w K2 ve vl fin ∧ Below w0.heap.size w0 w
section
variable {w0 w w' : World} {K : CK} {F : Nat → Prop} {K2 : RK} {ve vl : Value} {fin : St}
theorem sq_of (h2 : CpuAt w K F fin) (h3 : RCpuIs w K2 ve vl fin) (h4 : Below w0.heap.size w0 w) : SQ w0 K F K2 ve vl fin w := ⟨⟨h3.blk.evs, h3.blk.lks, RCpuB.loadS h3.blk⟩, h2, h3, h4⟩
theorem sq_below (h : SQ w0 K F K2 ve vl fin w) (hb : Below w.heap.size w w') : SQ w0 K F K2 ve vl fin w' := sq_of (h.2.1.below hb) (h.2.2.1.below hb) (h.2.2.2.trans (hb.mono h.2.2.2.size))
theorem sq_drewN (h : SQ w0 K F K2 ve vl fin w) (n : Nat) : SQ w0 K F K2 ve vl fin (w.drewN n) := sq_below h (bel_drewN (Below.refl _ _) n)
theorem sq_drew (h : SQ w0 K F K2 ve vl fin w) : SQ w0 K F K2 ve vl fin w.drew := sq_drewN h 1
theorem sq_cpu (h : SQ w0 K F K2 ve vl fin w) : CpuAt w K F fin := h.2.1
theorem sq_cpu' (h : SQ w0 K F K2 ve vl fin w) : CpuAt w.drew K F fin := (sq_drew h).2.1
theorem sq_ev (h : SQ w0 K F K2 ve vl fin w) : w.ownsRow (K2.c + 1) 88 10 ve fin.ev.length (evsL fin.ev) := h.2.2.1.evr
theorem sq_lk (h : SQ w0 K F K2 ve vl fin w) : w.ownsRow (K2.c + 1) 91 3 vl fin.lk.length (lksL fin.lk) := h.2.2.1.lkr
end
set_option maxHeartbeats 8000000 in
theorem walk (A0 : Option Addr) (n0 c0 : Nat) (T : List Rg) (A1 : Option Addr) (n1 c1 : Nat) (rows : List (List Int)) (A2 : Option Addr) (c2 : Nat) (E : List Int) (s : CS) (a1 : Int) (w : World)
    (hTb : IsTab w A0 n0 T) (hn0 : n0 ≤ maxLen) (hRw : IsRows w A1 n1 rows) (hEn : IsEnts w A2 E.length c2 E) (hSt : StW s) (w1 : (Lit.int .u16 a1).wf = true) (hT : Tabs w) (hA : TabA w) :
    Calls Tryz.prog 3 #[.agg (worldL (.slice A0 n0 c0) (.slice A1 n1 c1) (.slice A2 E.length c2) s).toArray, .int .u16 a1] w fun e w' => e = .returned (.bool true) ∧ Below w.heap.size w w' := by
  have b1 := bounds_u16 w1
  have hwd0 := WdB.new (w := w) (tS := .slice A0 n0 c0) (bS := .slice A1 n1 c1) (eS := .slice A2 E.length c2) s hSt.1
  have hb0 : Below w.heap.size w (w.alloc (.cells (worldL (.slice A0 n0 c0) (.slice A1 n1 c1) (.slice A2 E.length c2) s).toArray 30)) := (Below.refl _ _).alloc (Nat.le_refl _) _
  have hz0 : (w.alloc (.cells (worldL (.slice A0 n0 c0) (.slice A1 n1 c1) (.slice A2 E.length c2) s).toArray 30)).heap.size = w.heap.size + 1 := by simp
  have HT := Lib.hid (And.intro (hT.below hb0) (hA.below hb0))
  have HA := Lib.hid (And.intro (hTb.below hb0) (hRw.below hb0))
  have HN0 := Lib.hid hn0
  have HE := Lib.hid (show IsEnts (w.alloc (.cells (worldL (.slice A0 n0 c0) (.slice A1 n1 c1) (.slice A2 E.length c2) s).toArray 30)) A2 E.length c2 E from ⟨hEn.1, hEn.2.1, hEn.2.2.1, hEn.2.2.2.1.later hb0, hEn.2.2.2.2⟩)
  have HS := Lib.hid hSt
  have HW := Lib.hid hwd0
  have HB0 := Lib.hid hb0
  have HZ0 := Lib.hid hz0
  clear hTb hn0 hRw hEn hSt w1 hT hA hwd0 hb0 hz0
  go_enter Tryz.func3, Tryz.ntmps3
  go_wp2_with fail
  generalize (w.alloc (.cells (worldL (.slice A0 n0 c0) (.slice A1 n1 c1) (.slice A2 E.length c2) s).toArray 30)) = w1 at *
  refine (awake5 _ HT.out.1 HT.out.2).mono ?_
  rintro e u1 ⟨rfl, hb1⟩
  have HB1 := Lib.hid (HB0.out.trans (hb1.mono HB0.out.size))
  have HT1 := Lib.hid (And.intro (HT.out.1.below hb1) (HT.out.2.below hb1))
  have HA1 := Lib.hid (And.intro (HA.out.1.below hb1) (HA.out.2.below hb1))
  have HE1 := Lib.hid (show IsEnts u1 A2 E.length c2 E from ⟨HE.out.1, HE.out.2.1, HE.out.2.2.1, HE.out.2.2.2.1.later hb1, HE.out.2.2.2.2⟩)
  have HW1 := Lib.hid (HW.out.below hb1)
  have hld := HW1.out.load
  clear hb1 HT HA HE HW HB0
  go_wp2_with fail
  refine (small_any5 A0 n0 c0 T A1 n1 c1 rows A2 E.length c2 s u1 HA1.out.1 HN0.out HA1.out.2 HE1.out.2.1 HS.out.1).mono ?_
  rintro e u2 ⟨bb, rfl, hbb, hb2⟩
  have HB2 := Lib.hid (HB1.out.trans (hb2.mono HB1.out.size))
  cases bb with
  | false =>
    clear hbb hb2 hld
    go_wp2
    go_ret
    exact ⟨rfl, HB2.out⟩
  | true =>
    obtain ⟨hm, hn1, hn2, hrl⟩ := hbb rfl
    have HT2 := Lib.hid (And.intro (HT1.out.1.below hb2) (HT1.out.2.below hb2))
    have HA2 := Lib.hid (And.intro (HA1.out.1.below hb2) (HA1.out.2.below hb2))
    have HE2 := Lib.hid (show IsEnts u2 A2 E.length c2 E from ⟨HE1.out.1, HE1.out.2.1, HE1.out.2.2.1, HE1.out.2.2.2.1.later hb2, HE1.out.2.2.2.2⟩)
    have HW2 := Lib.hid (HW1.out.below hb2)
    have HM := Lib.hid (And.intro hm (And.intro hn1 (And.intro hn2 hrl)))
    have HbS := Lib.hid (rows_at (c := c1) HA2.out.2 hn1 hrl (fun i A' c' b off _ _ _ hsl hp => sl_block hsl hp))
    have h0 : 0 < n0 := by have := (mayB_to hm).1; rw [HA2.out.1.1] at this; omega
    obtain ⟨tb0, to0, rfl, htab⟩ := HA2.out.1.2.2.2 h0
    have HTab := Lib.hid htab
    replace hld := HW2.out.load
    clear hbb hb2 hm hn1 hn2 hrl htab HT1 HA1 HE1 HW1 HB1
    go_wp2_with fail
    have hbs : ∃ bbB bo, ((∃ A c, (Value.slice A1 n1 c1) = .slice A 0 c) ∧ n1 = 0 ∨ (Value.slice A1 n1 c1) = .slice (some ⟨bbB, bo, none⟩) n1 c1 ∧ RowsAt u2 bbB bo rows) := by
      rcases HbS.out with h | ⟨b, off, h1, h2⟩
      · exact ⟨0, 0, .inl h⟩
      · exact ⟨b, off, .inr ⟨h1, h2⟩⟩
    obtain ⟨bbB, bo, hbs⟩ := hbs
    have Hbs := Lib.hid hbs
    clear hbs
    refine (build_yes tb0 to0 c0 n0 bbB bo n1 c1 T rows _ _ s HS.out.1 HA2.out.1.1 HA2.out.1.2.1 HM.out.1 HA2.out.2.1 (by have := HM.out.2.1; omega) u2 HTab.out Hbs.out).mono ?_
    rintro e u3 ⟨m, tb, tc, hq, G, r, rb, rc, rfl, hM, hR, hr1, hr2, hGr, hb3⟩
    have HMm := Lib.hid hM
    have HRm := Lib.hid (show RFl u3 r tb0 to0 c0 rb rc n0 T (bB T rows (min n0 rows.length)) from ⟨by rw [← flat_bL HA2.out.1.1 _ (Nat.min_le_left _ _)]; exact hR, lens_bB T rows n0 _⟩)
    have HGr := Lib.hid (And.intro hr1 (And.intro hr2 hGr))
    have HB3 := Lib.hid (And.intro hb3 (HB2.out.trans (hb3.mono HB2.out.size)))
    have HW3 := Lib.hid (HW2.out.below hb3)
    have HE3 := Lib.hid (show IsEnts u3 A2 E.length c2 E from ⟨HE2.out.1, HE2.out.2.1, HE2.out.2.2.1, HE2.out.2.2.2.1.later hb3, HE2.out.2.2.2.2⟩)
    have HTab3 := Lib.hid (HTab.out.below hb3)
    have hnn : 1 ≤ n0 := by omega
    have HGm := Lib.hid (show m < u3.heap.size ∧ tb < u3.heap.size ∧ hq < u3.heap.size ∧ ∀ i, i < n0 → G i < u3.heap.size from by
      have h := HMm.out
      exact ⟨block_lt h.toH.c0, block_lt (h.toH.tab 0 (by rw [h.toH.len]; omega)).1, h.toH.held.lt, fun i hi => (h.rows i hi).lt⟩)
    have HGn := Lib.hid (show m ≠ rb ∧ tb ≠ rb ∧ hq ≠ rb from by
      have h := HMm.out
      refine ⟨ne_row hR.row h.toH.c0 (fun x e => by cases e), ne_row hR.row (h.toH.tab 0 (by rw [h.toH.len]; omega)).1 (fun x e => by cases e), fun e => ?_⟩
      obtain ⟨D, ⟨es, clock, q1, q2⟩, q3⟩ := h.toH.held
      have q4 : u3.heap[rb]? = some (.cells ((bL T rows (min n0 rows.length)).map (Value.int .u8)).toArray 5 (0, 0)) := hR.row
      rw [e, q4] at q1
      cases q1)
    have HGb := Lib.hid (show r < u3.heap.size ∧ rb < u3.heap.size ∧ tb0 < u2.heap.size ∧ ∀ i, i < n0 → u2.heap.size ≤ G i from
      ⟨block_lt hR.c0, hR.row.lt, block_lt (HTab.out 0 (by rw [HA2.out.1.1]; omega)).1, fun i hi => HMm.out.from_ i hi⟩)
    clear hM hR hr1 hr2 hGr hb3
    have hS := HW3.out.loadS
    have hEl := HW3.out.ents
    clear hld
    go_wp2_with fail
    refine (new_cpu m tb tc hq n0 T G _ A2 c2 E (Foot G n0 u3.heap.size) s u3 ⟨HMm.out.rebase (Nat.zero_le _), HE3.out.2.2.2.1, (fun h => (HE3.out.2.2.2.2 h).1), (by have := HM.out.2.2.1; omega), HE3.out.2.2.1, HS.out.1, HS.out.2.1, HS.out.2.2.1, hnn⟩ (fun i hi => .inl ⟨i, hi, rfl⟩) (fun b hb => .inr hb)).mono ?_
    rintro e u4 ⟨K, rfl, k1, k2, k3, k4, k5, k6, k7, k8, k9, hA4, hb4⟩
    have HA4 := Lib.hid hA4
    have HK := Lib.hid (And.intro k1 (And.intro k2 (And.intro k3 (And.intro k5 (And.intro k7 (And.intro k9.1 k9.2))))))
    have HB4 := Lib.hid (And.intro (HB3.out.1.trans (hb4.mono HB3.out.1.size)) (HB3.out.2.trans (hb4.mono HB3.out.2.size)))
    have HZ34 := Lib.hid hb4.size
    have HW4 := Lib.hid (HW3.out.below hb4)
    have HR4 := Lib.hid (HRm.out.below hb4)
    have HE4 := Lib.hid (show IsEnts u4 A2 E.length c2 E from ⟨HE3.out.1, HE3.out.2.1, HE3.out.2.2.1, HE3.out.2.2.2.1.later hb4, HE3.out.2.2.2.2⟩)
    have HTab4 := Lib.hid (HTab3.out.below hb4)
    have HEb := Lib.hid (show E = [] ∨ ∀ a, A2 = some a → a.block < u2.heap.size from by
      by_cases hE : E = []
      · exact .inl hE
      · exact .inr (HE2.out.2.2.2.1.lt (List.length_pos_iff.2 hE)))
    replace hS := HW4.out.loadS
    replace hEl := HW4.out.ents
    clear hA4 hb4 k1 k2 k3 k4 k5 k6 k7 k8 k9 HW3 HE3 HRm HTab3
    go_wp2_with fail
    refine (rnew_cpu r tb0 to0 c0 rb rc n0 T (bB T rows (min n0 rows.length)) A2 c2 E (fun b => b = rb ∨ u4.heap.size ≤ b) s u4 ⟨HR4.out, HE4.out.2.2.2.1, (by have := HM.out.2.2.1; omega), HE4.out.2.2.1, HEb.out.imp id (fun h a ha => by have := h a ha; have := HGr.out.2.1; omega), HS.out.1, HS.out.2.1, HS.out.2.2.1, hnn⟩ (.inl rfl) (fun b hb => .inr hb)).mono ?_
    rintro e u5 ⟨K2, rfl, k1, k2, k3, k4, k5, k6, k7, k8, hA5, hb5⟩
    have HA5 := Lib.hid hA5
    have HK2 := Lib.hid (And.intro k1 (And.intro k2 (And.intro k3 (And.intro k4 (And.intro k5 (And.intro k6 (And.intro k7 k8)))))))
    have HB5 := Lib.hid (And.intro (HB4.out.1.trans (hb5.mono HB4.out.1.size)) (HB4.out.2.trans (hb5.mono HB4.out.2.size)))
    have HZ45 := Lib.hid hb5.size
    have HC5 := Lib.hid (HA4.out.cut hb5)
    have HW5 := Lib.hid (HW4.out.below hb5)
    have HTab5 := Lib.hid (HTab4.out.below hb5)
    have HEn5 := Lib.hid (HA4.out.ents)
    have HMd := Lib.hid (HA4.out.mdlt)
    obtain ⟨k, hk, ek⟩ : ∃ k : Nat, k < 300 ∧ a1 % 300 = k := ⟨(a1 % 300).toNat, by omega, by omega⟩
    have ek2 : a1.tmod 300 = k := by rw [Int.tmod_eq_emod_of_nonneg b1.1]; exact ek
    have kk0 : (0 : Int) ≤ k := by omega
    have kk1 : (k : Int) < 300 := by omega
    clear hA5 hb5 k1 k2 k3 k4 k5 k6 k7 k8 hS hEl HW4 HE4 HR4 HTab4
    obtain ⟨st0, hst0⟩ : ∃ st0 : St, st0 = { s := newS s, ev := [], lk := [], B := bB T rows (min n0 rows.length) } := ⟨_, rfl⟩
    have HC := Lib.hid (show CpuAt u5 K (Cut (Foot G n0 u3.heap.size) u4.heap.size u5.heap.size) st0 from by rw [hst0]; exact HC5.out)
    have HD := Lib.hid (show RCpuAt u5 K2 (fun b => b = rb ∨ u4.heap.size ≤ b) st0 from by rw [hst0]; exact HA5.out)
    have HSt := Lib.hid (show st0.ev = [] ∧ st0.lk = [] from by rw [hst0]; exact ⟨rfl, rfl⟩)
    generalize hFF : Cut (Foot G n0 u3.heap.size) u4.heap.size u5.heap.size = F at *
    have HFF := Lib.hid hFF
    have HFge := Lib.hid (show ∀ b, F b → u2.heap.size ≤ b from by
      have g1 := HGb.out.2.2.2
      have z1 := HB3.out.1.size
      have z2 := HZ34.out
      have z5 := HZ45.out
      rw [← hFF]
      rintro b (⟨⟨i, hi, h⟩ | h, _⟩ | h)
      · have := g1 i hi; omega
      · omega
      · omega)
    have HEv := Lib.hid (show Env u5 F from (env_of HT2.out.1 HT2.out.2 HB5.out.1).sub HFge.out)
    have HFn := Lib.hid (show ∀ b, F b → b ≠ rb ∧ ¬ (u4.heap.size ≤ b ∧ b < u5.heap.size) ∧ b ≠ r ∧ b ≠ tb0 ∧ (u3.heap.size ≤ b ∨ u2.heap.size ≤ b) from by
      have g1 := HGb.out
      have g2 := HGr.out.2.2
      have z1 := HB3.out.1.size
      have z2 := HZ34.out
      have z5 := HZ45.out
      rw [← hFF]
      rintro b (⟨⟨i, hi, h⟩ | h, h2⟩ | h)
      · have := g2 i hi; have := g1.2.2.2 i hi; exact ⟨by omega, by omega, by omega, by omega, by omega⟩
      · exact ⟨by omega, by omega, by omega, by omega, by omega⟩
      · exact ⟨by omega, by omega, by omega, by omega, by omega⟩)
    have HL0 := Lib.hid (show st0.ev.length = 0 ∧ st0.lk.length = 0 from by rw [HSt.out.1, HSt.out.2]; exact ⟨rfl, rfl⟩)
    clear hst0 hFF HC5 HA5
    go_wp2_with fail
    refine (run_any K F st0 u5 k HC.out HEv.out (by have := HL0.out; omega) (by have := HL0.out; omega)).mono ?_
    rw [HK.out.2.2.2.1, HK.out.2.2.2.2.1]
    rintro e u6 ⟨rfl, hA6, hO6⟩
    have HC6 := Lib.hid hA6
    have HO6 := Lib.hid hO6
    have HD6 := Lib.hid (RCpuAt.move HD.out hO6 (fun b hb h hf => by
        have h1 := HFn.out b hf
        rcases h with h | h
        · exact h1.1 h
        · exact h1.2.1 ⟨h, hb⟩)
      (by rw [HK2.out.1]; exact fun hf => (HFn.out _ hf).2.2.1 rfl) (by rw [HK2.out.2.1]; exact fun hf => (HFn.out _ hf).2.2.2.1 rfl)
      (fun a ha => by
        rw [HK2.out.2.2.2.2.2.1]
        rw [HK2.out.2.2.2.2.2.2.1] at ha
        rcases HEb.out with h | h
        · exact .inl h
        · have h1 := h a ha
          have z := HB5.out.1.size
          exact .inr ⟨by omega, fun hf => by have := HFge.out _ hf; omega⟩))
    generalize hFD : Cut (fun b => b = rb ∨ u4.heap.size ≤ b) u5.heap.size u6.heap.size = FD at *
    have HFD := Lib.hid hFD
    clear hA6 hO6 hFD HD HC
    go_wp2_with fail
    refine (rrun_any K2 FD st0 u6 k HD6.out (by have := HL0.out; omega) (by have := HL0.out; omega)).mono ?_
    rw [HK2.out.2.2.2.2.1, HK2.out.2.2.2.2.2.1]
    rintro e u7 ⟨rfl, hA7, hO7⟩
    have HD7 := Lib.hid hA7
    have HRs := Lib.hid (run_rows T E k st0)
    have HRp := Lib.hid (ev8_run T E k st0 (by obtain ⟨_, _, hC, _⟩ := HC6.out; exact rlen_back T E k st0 hC.wf.1) (by rw [HSt.out.1]; intro e he; simp at he))
    generalize hNf : ranN T E k st0 = Nf at *
    obtain ⟨stF, hstF⟩ : ∃ stF, ranS T E k st0 = stF := ⟨_, rfl⟩
    rw [hstF] at HC6 HD7
    have HFin := Lib.hid (show stF.ev.length ≤ 300 ∧ stF.lk.length ≤ 600 ∧ Ev8 stF.ev from by
      have h1 := HRs.out
      have h2 := HL0.out
      rw [← hstF]
      unfold ranS
      exact ⟨by omega, by omega, HRp.out⟩)
    have HFDn := Lib.hid (show ∀ b, FD b → u2.heap.size ≤ b ∧ (b = rb ∨ (u4.heap.size ≤ b ∧ b < u5.heap.size) ∨ u6.heap.size ≤ b) from by
      have g2 := HGr.out.2.1
      have z1 := HB3.out.1.size
      have z2 := HZ34.out
      have z5 := HZ45.out
      have z6 := HO6.out.size
      rw [← HFD.out]
      rintro b (⟨h | h, h2⟩ | h)
      · exact ⟨by omega, .inl h⟩
      · exact ⟨by omega, .inr (.inl ⟨h, h2⟩)⟩
      · exact ⟨by omega, .inr (.inr h)⟩)
    have HC7 := Lib.hid (show CpuAt u7 K F stF from by
      obtain ⟨q1, q2, q3, q4, q5, q6, q7⟩ := HK.out
      have z2 := HZ34.out
      have z5 := HZ45.out
      have z6 := HO6.out.size
      have lt := HGm.out
      have nq := HGn.out
      have lb := HGb.out.2.1
      have hmd := HMd.out
      have nD : ∀ b, b < u6.heap.size → b ≠ rb → ¬ (u4.heap.size ≤ b ∧ b < u5.heap.size) → ¬ FD b := by
        intro b hb h1 h2 hf
        rcases (HFDn.out b hf).2 with h | h | h
        · exact h1 h
        · exact h2 h
        · omega
      refine HC6.out.apart hO7 (fun b hb hf => nD b hb (HFn.out b hf).1 (HFn.out b hf).2.1) ?_ ?_ ?_ ?_ ?_
      · rw [q1]; exact nD _ (by omega) nq.1 (by omega)
      · rw [q2]; exact nD _ (by omega) nq.2.1 (by omega)
      · rw [q3]; exact nD _ (by omega) nq.2.2 (by omega)
      · exact nD _ (by omega) (by omega) (by omega)
      · intro a ha
        rcases HEn5.out a ha with h | h
        · exact .inl h
        · rcases q7 a ha with h' | h'
          · exact .inl (q5.trans h')
          · exact .inr ⟨by omega, nD _ (by omega) (by omega) (by omega)⟩)
    have HB7 := Lib.hid (show Below u2.heap.size u2 u7 from by
      have h1 : Out (fun b => u2.heap.size ≤ b) u5 u7 := (HO6.out.sub HFge.out).trans (hO7.sub (fun b hb => (HFDn.out b hb).1))
      exact HB5.out.1.trans (h1.to_below HB5.out.1.size))
    clear hA7 hO7 hNf hstF HC6 HD6 HRs HRp
    obtain ⟨ve, vl, hD, hDF⟩ := HD7.out
    have hS : SQ u7 K F K2 ve vl stF u7 := sq_of HC7.out hD (Below.refl _ _)
    have HSl := Lib.hid (show stF.s.R.length = 32 from hD.wf.1)
    have hne := neqS stF.s HSl.out
    have hgs := eqGuardSt
    have HEvs := Lib.hid (fun (v1 : Value) (base1 : Nat) (w : World) (h1 : w.ownsRow base1 88 10 v1 stF.ev.length (evsL stF.ev)) (h2 : SQ u7 K F K2 ve vl stF w) => evs_same v1 ve stF.ev base1 (K2.c + 1) w h1 (sq_ev h2) HFin.out.2.2 (by have := HFin.out.1; omega))
    have HLks := Lib.hid (fun (v1 : Value) (base1 : Nat) (w : World) (h1 : w.ownsRow base1 91 3 v1 stF.lk.length (lksL stF.lk)) (h2 : SQ u7 K F K2 ve vl stF w) => lks_same v1 vl stF.lk base1 (K2.c + 1) w h1 (sq_lk h2) (by have := HFin.out.2.1; omega))
    have HSta := Lib.hid (fun (w : World) (h2 : SQ u7 K F K2 ve vl stF w) => state_any K F stF w h2.2.1)
    have HEva := Lib.hid (fun (w : World) (h2 : SQ u7 K F K2 ve vl stF w) => events_any K F stF w h2.2.1)
    have HLka := Lib.hid (fun (w : World) (h2 : SQ u7 K F K2 ve vl stF w) => leaks_any K F stF w h2.2.1)
    clear hD hDF
    go_wp2
    go_region_held3 (fun w' => SQ u7 K F K2 ve vl stF w') (first | (with_reducible assumption) | ((with_reducible apply sq_drew); (with_reducible assumption)) | ((with_reducible apply sq_drewN); (with_reducible assumption)) | ((with_reducible apply sq_below); (with_reducible assumption); (with_reducible assumption)))
      (first
      | (go_at_call 13; (with_reducible refine (HSta.out _ ?hm).mono ?_); (case hm => (first | (with_reducible assumption) | ((with_reducible apply sq_drew); (with_reducible assumption)))); rintro e w' ⟨rfl, hb⟩)
      | (go_at_call 15; (with_reducible refine (HEva.out _ ?hm).mono ?_); (case hm => (first | (with_reducible assumption) | ((with_reducible apply sq_drew); (with_reducible assumption)))); rintro e w' ⟨v, rfl, hov, hb⟩; obtain ⟨Av, cv, rfl⟩ := row_len hov)
      | (go_at_call 17; (with_reducible refine (HLka.out _ ?hm).mono ?_); (case hm => (first | (with_reducible assumption) | ((with_reducible apply sq_drew); (with_reducible assumption)))); rintro e w' ⟨v, rfl, hov, hb⟩; obtain ⟨Av, cv, rfl⟩ := row_len hov)
      | (go_at_call 16; (refine (HLks.out _ _ _ hov ?hm).mono ?_); (case hm => (first | (with_reducible assumption) | ((with_reducible apply sq_drew); (with_reducible assumption)) | ((with_reducible apply sq_drewN); (with_reducible assumption)))); rintro e w' ⟨rfl, q, rfl⟩)
      | (go_at_call 14; (refine (HEvs.out _ _ _ hov ?hm).mono ?_); (case hm => (first | (with_reducible assumption) | ((with_reducible apply sq_drew); (with_reducible assumption)) | ((with_reducible apply sq_drewN); (with_reducible assumption)))); rintro e w' ⟨rfl, q, rfl⟩))
    rename_i hh
    generalize w'.drewN q = u8 at hh ⊢
    have HP8 := Lib.hid (show PL w u8 tb0 to0 c0 n0 (Value.slice A1 n1 c1) (Value.slice A2 E.length c2) s T K.tc K.n K.G m tb hq r rb K2.to K2.tc K2.bc stF.B from by
      obtain ⟨q1, q2, q3, q4, q5, q6, q7⟩ := HK.out
      obtain ⟨p1, p2, p3, p4, p5, p6, p7, p8⟩ := HK2.out
      have hb8 : Below u2.heap.size u2 u8 := HB7.out.trans (hh.2.2.2.mono HB7.out.size)
      refine ⟨?_, ?_, HTab.out.below hb8, HW2.out.below hb8, HB2.out.trans (hb8.mono HB2.out.size)⟩
      · obtain ⟨_, _, hC, _⟩ := hh.2.1
        have h := hC.mem
        rw [q1, q2, q3, q4] at h
        exact h
      · have h := hh.2.2.1.mem
        rw [p1, p2, p3, p4, p5] at h
        exact h)
    have HMay := Lib.hid (mayB_to HM.out.1)
    have HTl := Lib.hid (show T.length = n0 ∧ n0 ≤ 16 from ⟨HA2.out.1.1, by have := (mayB_to HM.out.1).2.1; rw [HA2.out.1.1] at this; exact this⟩)
    have HTw := Lib.hid HA2.out.1.2.1
    clear hh hov hb hne hgs hS
    go_wp2
    go_loopw [11] (fun i wr => ∃ j : Nat, j ≤ n0 ∧ i = .int .i64 j ∧ PL w wr tb0 to0 c0 n0 (Value.slice A1 n1 c1) (Value.slice A2 E.length c2) s T K.tc K.n K.G m tb hq r rb K2.to K2.tc K2.bc stF.B) (fun i _ => n0 - (intOf i).toNat)
    case atStart => exact ⟨0, by omega, rfl, HP8.out⟩
    case round =>
      obtain ⟨j, hj, rfl, hP⟩ := hrel
      have HP := Lib.hid hP
      clear hP HP8
      have hcT := HP.out.wd.cell 0
      rw [show ∀ (tS bS eS : Value), (worldL tS bS eS s)[0]? = some tS from fun _ _ _ => rfl] at hcT
      by_cases hlt : j < n0
      · have hkT : j < T.length := by rw [HTl.out.1]; exact hlt
        have HkT := Lib.hid hkT
        have HJ := Lib.hid hlt
        obtain ⟨t0, t1, t2, t3⟩ := HP.out.tab j hkT
        obtain ⟨⟨l0, l1⟩, ⟨v0, v1⟩, _⟩ := HTw.out j hkT
        have hok := okB_iff.1 (HMay.out.2.2.1 j hkT)
        obtain ⟨L, hL⟩ : ∃ L : Nat, lenR (nthR T j) = L := ⟨_, rfl⟩
        have HLi := Lib.hid (show rhi (nthR T j) - rlo (nthR T j) = (L : Int) from by rw [← hL]; unfold lenR; omega)
        have hLb : L ≤ 65536 ∧ 0 < L := by rw [← hL]; exact lenR_le HMay.out hkT
        have HLn := Lib.hid (And.intro hL hLb)
        have hwr : IntKind.u64.wrap (rhi (nthR T j) - rlo (nthR T j)) = (L : Int) := by rw [IntKind.wrap_u64, HLi.out]; omega
        have hwr2 : IntKind.i64.wrap (L : Int) = (L : Int) := by rw [IntKind.wrap_i64]; omega
        have HLO := Lib.hid (show IsU (rlo (nthR T j)) from ⟨l0, l1⟩)
        have HLI := Lib.hid (show IsI (L : Int) from ⟨by omega, by omega⟩)
        have HL6 := Lib.hid (show (L : Int) ≤ 1000000 from by omega)
        have HFW := Lib.hid (show FindYes T (rlo (nthR T j)) (L : Int) j from find_lo HMay.out hkT (by omega) (by rw [hL]; exact Nat.le_refl _))
        have j0 : (0 : Int) ≤ j := by omega
        have j1 : (j : Int) < n0 := by omega
        clear t2 t3 hok hkT hL hLb
        have HPd := Lib.hid (show PL w wr.drew tb0 to0 c0 n0 (Value.slice A1 n1 c1) (Value.slice A2 E.length c2) s T K.tc K.n K.G m tb hq r rb K2.to K2.tc K2.bc stF.B from HP.out.below (bel_drewN (Below.refl _ _) 1))
        have HPK := Lib.hid (peek_yes 0 m tb K.tc hq K.n T K.G stF.B (rlo (nthR T j)) (L : Int) j HLO.out HLI.out wr.drew HPd.out.mem HFW.out HL6.out)
        have HKB := Lib.hid (fun w' (hb' : Below wr.drew.heap.size wr.drew w') => pl_three (HPd.out.below hb') HkT.out)
        have K6 := Lib.hid (pl_three HPd.out HkT.out)
        go_wp2
        go_region_held3 (fun w' => PT w' w.heap.size tb0 to0 c0 n0 j (nthR T j)) (first | exact K6.out | (apply HKB.out; assumption))
          (first
          | (go_at_call 18; (with_reducible refine HPK.out.mono ?_); rintro e w7 ⟨g7, c7, rfl, hs7, hg7, hb7⟩))
        have HP7 := Lib.hid (HPd.out.below hb7)
        have HP7d := Lib.hid (show PL w w7.drew tb0 to0 c0 n0 (Value.slice A1 n1 c1) (Value.slice A2 E.length c2) s T K.tc K.n K.G m tb hq r rb K2.to K2.tc K2.bc stF.B from HP7.out.below (bel_drewN (Below.refl _ _) 1))
        have HS7 := Lib.hid (show Sl w7.drew (some ⟨g7, 0, none⟩) (cut T stF.B (rlo (nthR T j)) (L : Int) j) from hs7.below (bel_drewN (Below.refl _ _) 1))
        have HPK2 := Lib.hid (rpeek_yes r tb0 K2.to K2.tc rb K2.bc n0 T (flatB stF.B n0) (rlo (nthR T j)) L j HLO.out (by have := HLn.out.2.1; omega) w7.drew HP7d.out.rmem.1 HFW.out)
        have HCu := Lib.hid (show ((flatB stF.B n0).drop (placeT T (rlo (nthR T j)) j)).take L = cut T stF.B (rlo (nthR T j)) (L : Int) j from by
          have h := HP7d.out.rmem.cut_eq HFW.out
          simpa using h)
        rw [HCu.out] at HPK2
        have HCl := Lib.hid (show (cut T stF.B (rlo (nthR T j)) (L : Int) j).length = L from by
          have h := cut_length HP7d.out.mem HFW.out
          simpa using h)
        have HKB2 := Lib.hid (fun w' (hb' : Below w7.drew.heap.size w7.drew w') => pl_three (HP7d.out.below hb') HkT.out)
        have K7 := Lib.hid (pl_three HP7d.out HkT.out)
        generalize cut T stF.B (rlo (nthR T j)) (L : Int) j = lst at *
        clear hs7 hg7 hb7 K6 HKB HPK HPd t0 t1 hcT
        have hcT := HP7.out.wd.cell 0
        rw [show ∀ (tS bS eS : Value), (worldL tS bS eS s)[0]? = some tS from fun _ _ _ => rfl] at hcT
        obtain ⟨t0, t1, t2, t3⟩ := HP7.out.tab j HkT.out
        clear t2 t3
        go_wp2
        go_region_held3 (fun w' => PT w' w.heap.size tb0 to0 c0 n0 j (nthR T j)) (first | exact K7.out | (apply HKB2.out; assumption))
          (first
          | (go_at_call 19; (with_reducible refine HPK2.out.mono ?_); rintro e w8 ⟨A8, c8, rfl, hs8, hb8⟩))
        have HP8 := Lib.hid (HP7d.out.below hb8)
        have HS8 := Lib.hid (HS7.out.below hb8)
        have HS9 := Lib.hid hs8
        clear hs8 hb8 K7 HKB2 HPK2 HP7d HP7 HS7 t0 t1 hcT
        go_wp2_with fail
        refine (same_any _ _ lst lst _ _ _ _ w8 HS8.out HS9.out (by rw [HCl.out]) (by rw [HCl.out]) (by have := HLn.out.2.1; simp; omega)).mono ?_
        rw [show (lst == lst) = true from beq_self_eq_true lst]
        rintro e w9 ⟨rfl, q9, rfl⟩
        have HP9 := Lib.hid (HP8.out.below (bel_drewN (Below.refl _ _) q9))
        have hjn := HJ.out
        have hn16 := HTl.out.2
        have j16 : (j : Int) < 16 := by omega
        go_wp2
        go_roundw
        case rel => exact ⟨j + 1, by omega, by go_num, HP9.out⟩
        case measure => simp [intOf]; omega
      · obtain rfl : j = n0 := by omega
        clear hlt hj
        go_wp2
        go_ret
        exact ⟨rfl, HP.out.bel⟩
end CpuRunsWalk
end Go.Proofs.YtoeagbcjnffpaaaGreatDoor
