/- Layer 5's statements: CpuSteps. -/
import Derived.Test.YthnhopmbefgmgaaGreatDoorCpuStepsPure
import Derived.Test.YthnhopmbefgmgaaGreatDoorCpuSmall
import Derived.Test.YthnhopmbefgmgaaGreatDoorCpuEq
import Derived.Test.YthnhopmbefgmgaaGreatDoorCpuEvs
import Derived.Deep.QuietTactic
import Derived.BigQuiet
import Derived.IntWalk
namespace Go.Proofs.YthnhopmbefgmgaaGreatDoor
set_option maxRecDepth 100000
open Go.RowKit Go.Maps
set_option linter.unusedVariables false
namespace CpuStepsWalk
attribute [local go_sem ↓] loadAt_st loadAt_wd build_st build_wd
theorem rows_at {w : World} {A : Option Addr} {n c : Nat} {rows : List (List Int)} (h : IsRows w A n rows) (hn : n ≤ 20) (hl : ∀ i, i < n → (rowK rows i).length ≤ 20000) (hlt : ∀ i A' c' b off, A = some ⟨b, off, none⟩ → i < n → w.cell? ⟨b, off + i, none⟩ = some (.slice A' (rowK rows i).length c') → Sl w A' (rowK rows i) → 0 < (rowK rows i).length → ∀ a, A' = some a → a.block < w.heap.size) :
    ((∃ A' c', (Value.slice A n c) = .slice A' 0 c') ∧ n = 0) ∨ ∃ b off, (Value.slice A n c) = .slice (some ⟨b, off, none⟩) n c ∧ RowsAt w b off rows := by
  by_cases h0 : n = 0
  · subst h0; exact .inl ⟨⟨A, c, rfl⟩, rfl⟩
  · obtain ⟨b, off, rfl, hr⟩ := h.2.2 (by omega)
    refine .inr ⟨b, off, rfl, fun i hi => ?_⟩
    rw [h.1] at hi
    obtain ⟨A', c', q0, q1, q2, q3⟩ := hr i hi
    exact ⟨A', c', q0, q1, q2, by have := hl i hi; omega, fun hp a ha => hlt i A' c' b off rfl hi q0 q1 hp a ha⟩
theorem sl_block {w : World} {A : Option Addr} {l : List Int} (h : Sl w A l) (hl : 0 < l.length) : ∀ a, A = some a → a.block < w.heap.size := by
  rcases h with h | ⟨b, off, rfl, hc⟩
  · subst h; simp at hl
  · intro a ha; cases ha; exact block_lt (hc 0 hl)
/-- under way: behind j of k steps -/
structure SL (w0 wr : World) (K : CK) (F : Nat → Prop) (own : Bool) (st : St) (k j : Nat) (stj : St) : Prop where
  cpu : CpuAt wr K F stj
  out : Out F w0 wr
  env : Env wr F
  fin : (runC K.T K.E (k - j) stj).2 = (runC K.T K.E k st).2
  turn : TurnOk own stj
  ev : stj.ev.length ≤ j
  lk : stj.lk.length ≤ 2 * j
  ev8 : Ev8 stj.ev
/-- behind the loop -/
structure FX (w0 wr : World) (K : CK) (F : Nat → Prop) (own : Bool) (st : St) (k : Nat) (stj : St) : Prop where
  cpu : CpuAt wr K F stj
  out : Out F w0 wr
  env : Env wr F
  fin : stj = (runC K.T K.E k st).2
  turn : TurnOk own stj
  ev : stj.ev.length ≤ 300
  lk : stj.lk.length ≤ 600
  ev8 : Ev8 stj.ev
theorem run_rows (T : List Rg) (E : List Int) : ∀ (n : Nat) (st : St), (runC T E n st).2.ev.length ≤ st.ev.length + n ∧ (runC T E n st).2.lk.length ≤ st.lk.length + 2 * n := by
  intro n
  induction n with
  | zero => intro st; exact ⟨Nat.le_refl _, Nat.le_refl _⟩
  | succ n ih =>
    intro st
    by_cases hd : st.s.dn = 0
    · rw [runC_succ _ _ _ _ hd]
      have h1 := ih (stepC T E st)
      have h2 := stepC_rows T E st
      exact ⟨by simp only; omega, by simp only; omega⟩
    · rw [runC_stop _ _ _ _ hd]; exact ⟨by simp only; omega, by simp only; omega⟩
theorem SL.drewN {w0 wr : World} {K : CK} {F : Nat → Prop} {own : Bool} {st : St} {k j : Nat} {stj : St} (h : SL w0 wr K F own st k j stj) (n : Nat) : SL w0 (wr.drewN n) K F own st k j stj :=
  ⟨h.cpu.below (bel_drewN (Below.refl _ _) n), h.out.trans (Out.of_below (bel_drewN (Below.refl _ _) n)), h.env.out (Out.of_below (bel_drewN (Below.refl _ _) n)), h.fin, h.turn, h.ev, h.lk, h.ev8⟩
set_option maxHeartbeats 8000000 in
theorem walk (A0 : Option Addr) (n0 c0 : Nat) (T : List Rg) (A1 : Option Addr) (n1 c1 : Nat) (rows : List (List Int)) (A2 : Option Addr) (c2 : Nat) (E : List Int) (s : CS) (a1 a2 : Int) (w : World)
    (hTb : IsTab w A0 n0 T) (hn0 : n0 ≤ maxLen) (hRw : IsRows w A1 n1 rows) (hEn : IsEnts w A2 E.length c2 E) (hSt : StW s) (w1 : (Lit.int .u16 a1).wf = true) (w2 : (Lit.int .u16 a2).wf = true) (hT : Tabs w) (hA : TabA w) :
    Calls Tryz.prog 4 #[.agg (worldL (.slice A0 n0 c0) (.slice A1 n1 c1) (.slice A2 E.length c2) s).toArray, .int .u16 a1, .int .u16 a2] w fun e w' => e = .returned (.bool true) ∧ Below w.heap.size w w' := by
  have b1 := bounds_u16 w1
  have b2 := bounds_u16 w2
  have hwd0 := WdB.new (w := w) (tS := .slice A0 n0 c0) (bS := .slice A1 n1 c1) (eS := .slice A2 E.length c2) s hSt.1
  have hb0 : Below w.heap.size w (w.alloc (.cells (worldL (.slice A0 n0 c0) (.slice A1 n1 c1) (.slice A2 E.length c2) s).toArray 30)) := (Below.refl _ _).alloc (Nat.le_refl _) _
  have hz0 : (w.alloc (.cells (worldL (.slice A0 n0 c0) (.slice A1 n1 c1) (.slice A2 E.length c2) s).toArray 30)).heap.size = w.heap.size + 1 := by simp
  have HT := Lib.hid (And.intro (hT.below hb0) (hA.below hb0))
  have HA := Lib.hid (And.intro (hTb.below hb0) (hRw.below hb0))
  have HN0 := Lib.hid hn0
  have HE := Lib.hid (show IsEnts (w.alloc (.cells (worldL (.slice A0 n0 c0) (.slice A1 n1 c1) (.slice A2 E.length c2) s).toArray 30)) A2 E.length c2 E from ⟨hEn.1, hEn.2.1, hEn.2.2.1, hEn.2.2.2.1.later hb0, hEn.2.2.2.2⟩)
  have HS := Lib.hid hSt
  have HW := Lib.hid hwd0
  have HB0 := Lib.hid hb0
  have HZ0 := Lib.hid hz0
  clear hTb hn0 hRw hEn hSt w1 w2 hT hA hwd0 hb0 hz0
  go_enter Tryz.func4, Tryz.ntmps4
  go_wp2_with fail
  generalize (w.alloc (.cells (worldL (.slice A0 n0 c0) (.slice A1 n1 c1) (.slice A2 E.length c2) s).toArray 30)) = w1 at *
  refine (awake5 _ HT.out.1 HT.out.2).mono ?_
  rintro e u1 ⟨rfl, hb1⟩
  have HB1 := Lib.hid (HB0.out.trans (hb1.mono HB0.out.size))
  have HT1 := Lib.hid (And.intro (HT.out.1.below hb1) (HT.out.2.below hb1))
  have HA1 := Lib.hid (And.intro (HA.out.1.below hb1) (HA.out.2.below hb1))
  have HE1 := Lib.hid (show IsEnts u1 A2 E.length c2 E from ⟨HE.out.1, HE.out.2.1, HE.out.2.2.1, HE.out.2.2.2.1.later hb1, HE.out.2.2.2.2⟩)
  have HW1 := Lib.hid (HW.out.below hb1)
  have hld := HW1.out.load
  clear hb1 HT HA HE HW HB0
  go_wp2_with fail
  refine (small_any5 A0 n0 c0 T A1 n1 c1 rows A2 E.length c2 s u1 HA1.out.1 HN0.out HA1.out.2 HE1.out.2.1 HS.out.1).mono ?_
  rintro e u2 ⟨bb, rfl, hbb, hb2⟩
  have HB2 := Lib.hid (HB1.out.trans (hb2.mono HB1.out.size))
  cases bb with
  | false =>
    clear hbb hb2 hld
    go_wp2
    go_ret
    exact ⟨rfl, HB2.out⟩
  | true =>
    obtain ⟨hm, hn1, hn2, hrl⟩ := hbb rfl
    have HT2 := Lib.hid (And.intro (HT1.out.1.below hb2) (HT1.out.2.below hb2))
    have HA2 := Lib.hid (And.intro (HA1.out.1.below hb2) (HA1.out.2.below hb2))
    have HE2 := Lib.hid (show IsEnts u2 A2 E.length c2 E from ⟨HE1.out.1, HE1.out.2.1, HE1.out.2.2.1, HE1.out.2.2.2.1.later hb2, HE1.out.2.2.2.2⟩)
    have HW2 := Lib.hid (HW1.out.below hb2)
    have HM := Lib.hid (And.intro hm (And.intro hn1 (And.intro hn2 hrl)))
    have HbS := Lib.hid (rows_at (c := c1) HA2.out.2 hn1 hrl (fun i A' c' b off _ _ _ hsl hp => sl_block hsl hp))
    have h0 : 0 < n0 := by have := (mayB_to hm).1; rw [HA2.out.1.1] at this; omega
    obtain ⟨tb0, to0, rfl, htab⟩ := HA2.out.1.2.2.2 h0
    have HTab := Lib.hid htab
    replace hld := HW2.out.load
    clear hbb hb2 hm hn1 hn2 hrl htab HT1 HA1 HE1 HW1 HB1
    go_wp2_with fail
    have hbs : ∃ bbB bo, ((∃ A c, (Value.slice A1 n1 c1) = .slice A 0 c) ∧ n1 = 0 ∨ (Value.slice A1 n1 c1) = .slice (some ⟨bbB, bo, none⟩) n1 c1 ∧ RowsAt u2 bbB bo rows) := by
      rcases HbS.out with h | ⟨b, off, h1, h2⟩
      · exact ⟨0, 0, .inl h⟩
      · exact ⟨b, off, .inr ⟨h1, h2⟩⟩
    obtain ⟨bbB, bo, hbs⟩ := hbs
    have Hbs := Lib.hid hbs
    clear hbs
    refine (build_yes tb0 to0 c0 n0 bbB bo n1 c1 T rows _ _ s HS.out.1 HA2.out.1.1 HA2.out.1.2.1 HM.out.1 HA2.out.2.1 (by have := HM.out.2.1; omega) u2 HTab.out Hbs.out).mono ?_
    rintro e u3 ⟨m, tb, tc, hb, G, r, rb, rc, rfl, hM, hR, _, _, _, hb3⟩
    have HMm := Lib.hid hM
    have HB3 := Lib.hid (And.intro hb3 (HB2.out.trans (hb3.mono HB2.out.size)))
    have HW3 := Lib.hid (HW2.out.below hb3)
    replace hld := HW3.out.load
    clear hM hR hb3
    go_wp2_with fail
    refine (build_yes tb0 to0 c0 n0 bbB bo n1 c1 T rows _ _ s HS.out.1 HA2.out.1.1 HA2.out.1.2.1 HM.out.1 HA2.out.2.1 (by have := HM.out.2.1; omega) u3 (HTab.out.below HB3.out.1) (Hbs.out.imp id (fun h => ⟨h.1, h.2.below HB3.out.1⟩))).mono ?_
    rintro e u4 ⟨m', tb', tc', hb', G', r', rb', rc', rfl, hM, hR, _, _, _, hb4⟩
    have HMm' := Lib.hid hM
    have HMm2 := Lib.hid (show ∀ i, i < n0 → u2.heap.size ≤ G i from fun i hi => HMm.out.from_ i hi)
    have HM4 := Lib.hid (HMm.out.below hb4)
    have HB4 := Lib.hid (And.intro (HB3.out.1.trans (hb4.mono HB3.out.1.size)) (HB3.out.2.trans (hb4.mono HB3.out.2.size)))
    have HW4 := Lib.hid (HW3.out.below hb4)
    have HE4 := Lib.hid (show IsEnts u4 A2 E.length c2 E from ⟨HE2.out.1, HE2.out.2.1, HE2.out.2.2.1, HE2.out.2.2.2.1.later (HB3.out.1.trans (hb4.mono HB3.out.1.size)), HE2.out.2.2.2.2⟩)
    have hnn : 1 ≤ n0 := by omega
    have HGm := Lib.hid (show m < u3.heap.size ∧ tb < u3.heap.size ∧ hb < u3.heap.size ∧ ∀ i, i < n0 → G i < u3.heap.size from by
      have h := HMm.out
      exact ⟨block_lt h.toH.c0, block_lt (h.toH.tab 0 (by rw [h.toH.len]; omega)).1, h.toH.held.lt, fun i hi => (h.rows i hi).lt⟩)
    have HGm' := Lib.hid (show m' < u4.heap.size ∧ tb' < u4.heap.size ∧ hb' < u4.heap.size ∧ ∀ i, i < n0 → G' i < u4.heap.size from by
      have h := hM
      exact ⟨block_lt h.toH.c0, block_lt (h.toH.tab 0 (by rw [h.toH.len]; omega)).1, h.toH.held.lt, fun i hi => (h.rows i hi).lt⟩)
    have HZ4 := Lib.hid hb4.size
    have hS := HW4.out.loadS
    have hEl := HW4.out.ents
    clear hM hR hb4 hld HW2 HW3 HE2 HTab Hbs HbS HMm
    go_wp2_with fail
    refine (new_cpu m tb tc hb n0 T G _ A2 c2 E (Foot G n0 u4.heap.size) s u4 ⟨HM4.out.rebase (Nat.zero_le _), HE4.out.2.2.2.1, (fun h => (HE4.out.2.2.2.2 h).1), (by have := HM.out.2.2.1; omega), HE4.out.2.2.1, HS.out.1, HS.out.2.1, HS.out.2.2.1, hnn⟩ (fun i hi => .inl ⟨i, hi, rfl⟩) (fun b hb => .inr hb)).mono ?_
    rintro e u5 ⟨K, rfl, k1, k2, k3, k4, k5, k6, k7, k8, k9, hA5, hb5⟩
    have HA5 := Lib.hid hA5
    have HK := Lib.hid (And.intro k1 (And.intro k2 (And.intro k3 (And.intro k5 (And.intro k7 (And.intro k9.1 k9.2))))))
    have HB5 := Lib.hid (And.intro hb5 (And.intro (HB4.out.1.trans (hb5.mono HB4.out.1.size)) (HB4.out.2.trans (hb5.mono HB4.out.2.size))))
    have HW5 := Lib.hid (HW4.out.below hb5)
    have HM5 := Lib.hid (HMm'.out.below hb5)
    have HE5 := Lib.hid (show IsEnts u5 A2 E.length c2 E from ⟨HE4.out.1, HE4.out.2.1, HE4.out.2.2.1, HE4.out.2.2.2.1.later hb5, HE4.out.2.2.2.2⟩)
    replace hS := HW5.out.loadS
    replace hEl := HW5.out.ents
    clear hA5 hb5 k1 k2 k3 k4 k5 k6 k7 k8 k9 HW4 HE4 HM4
    go_wp2_with fail
    refine (new_cpu m' tb' tc' hb' n0 T G' _ A2 c2 E (Foot G' n0 u5.heap.size) s u5 ⟨HM5.out.rebase (Nat.zero_le _), HE5.out.2.2.2.1, (fun h => (HE5.out.2.2.2.2 h).1), (by have := HM.out.2.2.1; omega), HE5.out.2.2.1, HS.out.1, HS.out.2.1, HS.out.2.2.1, hnn⟩ (fun i hi => .inl ⟨i, hi, rfl⟩) (fun b hb => .inr hb)).mono ?_
    rintro e y6 ⟨K2, rfl, k1, k2, k3, k4, k5, k6, k7, k8, k9, hA6, hb6⟩
    have HA6 := Lib.hid hA6
    have HK2 := Lib.hid (And.intro k1 (And.intro k2 (And.intro k3 (And.intro k5 (And.intro k7 (And.intro k9.1 k9.2))))))
    have HB4b := Lib.hid (HB5.out.2.1)
    have HB6b := Lib.hid hb6
    have HB6 := Lib.hid (And.intro hb6 (And.intro (HB5.out.2.1.trans (hb6.mono HB5.out.2.1.size)) (HB5.out.2.2.trans (hb6.mono HB5.out.2.2.size))))
    have HC6 := Lib.hid (HA5.out.cut hb6)
    have HW6 := Lib.hid (HW5.out.below hb6)
    have hown := HW6.out.cell 36
    rw [show ∀ (tS bS eS : Value), (worldL tS bS eS s)[36]? = some (.bool s.own) from fun _ _ _ => by
      show (stateL s)[33]? = _
      rw [show (33 : Nat) = 32 + 1 from rfl, stateL_at HS.out.1 1]; rfl] at hown
    obtain ⟨k, hk, ek⟩ : ∃ k : Nat, k < 300 ∧ a1 % 300 = k := ⟨(a1 % 300).toNat, by omega, by omega⟩
    have ek2 : a1.tmod 300 = k := by rw [Int.tmod_eq_emod_of_nonneg b1.1]; exact ek
    have kk0 : (0 : Int) ≤ k := by omega
    have kk1 : (k : Int) < 300 := by omega
    clear hA6 hb6 k1 k2 k3 k4 k5 k6 k7 k8 k9 hS hEl HW5 HE5
    obtain ⟨st0, hst0⟩ : ∃ st0 : St, st0 = { s := newS s, ev := [], lk := [], B := bB T rows (min n0 rows.length) } := ⟨_, rfl⟩
    have HC := Lib.hid (show CpuAt y6 K (Cut (Foot G n0 u4.heap.size) u5.heap.size y6.heap.size) st0 from by rw [hst0]; exact HC6.out)
    have HD := Lib.hid (show CpuAt y6 K2 (Foot G' n0 u5.heap.size) st0 from by rw [hst0]; exact HA6.out)
    have HSt := Lib.hid (show st0.s.own = s.own ∧ st0.ev = [] ∧ st0.lk = [] from by rw [hst0]; exact ⟨rfl, rfl, rfl⟩)
    have hFge : ∀ b, Cut (Foot G n0 u4.heap.size) u5.heap.size y6.heap.size b → u2.heap.size ≤ b := by
      have g1 := fun i hi => HMm2.out i hi
      have z1 := HB3.out.1.size
      have z2 := HZ4.out
      have z5 := HB5.out.1.size
      have z6 := HB6.out.1.size
      rintro b (⟨⟨i, hi, h⟩ | h, _⟩ | h)
      · have := g1 i hi; omega
      · omega
      · omega
    have HF := Lib.hid hFge
    generalize hFF : Cut (Foot G n0 u4.heap.size) u5.heap.size y6.heap.size = F at *
    have HFF := Lib.hid hFF
    have HFs := Lib.hid (show ∀ b, y6.heap.size ≤ b → F b from fun b hb => by rw [← hFF]; exact .inr hb)
    have HEv := Lib.hid (show Env y6 F from (env_of HT2.out.1 HT2.out.2 (HB4b.out.trans (HB6b.out.mono HB4b.out.size))).sub HF.out)
    have HSL := Lib.hid (show SL y6 y6 K F s.own st0 k 0 st0 from ⟨HC.out, .refl _ _, HEv.out, rfl, ⟨fun i e hi => by rw [HSt.out.2.1] at hi; simp at hi, by rw [HSt.out.2.1, HSt.out.1]; rfl⟩, by rw [HSt.out.2.1]; simp, by rw [HSt.out.2.2]; simp, fun e he => by rw [HSt.out.2.1] at he; simp at he⟩)
    clear hst0 hFge hFF HC6 HA6 HC HEv
    go_wp2
    go_loopw [15] (fun i wr => ∃ (j : Nat) (stj : St), j ≤ k ∧ i = .int .i64 j ∧ SL y6 wr K F s.own st0 k j stj) (fun i _ => k - (intOf i).toNat)
    case atStart => exact ⟨0, st0, by omega, rfl, HSL.out⟩
    case round =>
      obtain ⟨j, stj, hj, rfl, hSL⟩ := hrel
      have HL := Lib.hid hSL
      clear hSL HSL hown
      by_cases hlt : j < k
      · have j0 : (0 : Int) ≤ j := by omega
        have j1 : (j : Int) < k := by omega
        have HJ := Lib.hid hlt
        have hLen : stj.s.R.length = 32 := by obtain ⟨_, _, hC, _⟩ := HL.out.cpu; exact hC.wf.1
        have HLen := Lib.hid hLen
        clear hlt hLen
        go_wp2_with fail
        refine (state_any K F stj wr HL.out.cpu).mono ?_
        rintro e wa ⟨rfl, hba⟩
        have hbx : Below wa.heap.size wa (wa.alloc (.cells (stateL stj.s).toArray 28)) := (Below.refl _ _).alloc (Nat.le_refl _) _
        have HBb := Lib.hid (hba.trans (hbx.mono hba.size))
        have HSb := Lib.hid (StB.new (w := wa) stj.s HLen.out)
        have HZa := Lib.hid hba.size
        clear hba hbx
        go_wp2_with (first | (refine wpList_store_new rfl 28 _ _ rfl _ _ _ _ rfl rfl ?hi ?hs ?h1 rfl ?hg ?_; (case hi => (rw [stateInfo]; simp [stateL_len HLen.out])); (case hs => simp [stateL_len HLen.out]); (case h1 => exact stateL_one _); (case hg => rfl); (generalize (wa.alloc (.cells (stateL stj.s).toArray 28)) = wb at *)))
        refine (events_any K F stj wb (HL.out.cpu.below HBb.out)).mono ?_
        rintro e wc ⟨v, rfl, hov, hbc⟩
        obtain ⟨Av, cv, rfl⟩ := row_len hov
        have HBc := Lib.hid (HBb.out.trans (hbc.mono HBb.out.size))
        have HSc := Lib.hid (HSb.out.below hbc)
        clear hov hbc HBb HSb
        go_wp2_with fail
        have HFsub := Lib.hid (show ∀ b, Cut F wr.heap.size wc.heap.size b → F b from by
          rintro b (h | h)
          · exact h.1
          · exact HFs.out b (by have := HL.out.out.size; have := HBc.out.size; omega))
        have HStp := Lib.hid (step_any K (Cut F wr.heap.size wc.heap.size) stj wc (HL.out.cpu.cut HBc.out) ((HL.out.env.out (Out.of_below HBc.out)).sub HFsub.out) (by have := HL.out.ev; have := HJ.out; omega) (by have := HL.out.lk; have := HJ.out; omega))
        by_cases hd : stj.s.dn = 0
        · rw [show decide (stj.s.dn = 0) = true by simpa using hd] at HStp
          have HDn := Lib.hid hd
          clear hd
          refine HStp.out.mono ?_
          rintro e wd ⟨rfl, hAd, hOd⟩
          obtain ⟨stn, hstn⟩ : ∃ stn, stn = stepC K.T K.E stj := ⟨_, rfl⟩
          rw [← hstn] at hAd
          have HLn := Lib.hid (show SL y6 wd K F s.own st0 k (j + 1) stn from by
            obtain ⟨r1, r2, r3, r4, r5, r6, r7, r8⟩ := HL.out
            have hr := stepC_rows K.T K.E stj
            have ho : Out F wr wd := (Out.of_below HBc.out).trans (hOd.sub HFsub.out)
            rw [show k - j = (k - (j + 1)) + 1 by have := HJ.out; omega, runC_succ _ _ _ _ HDn.out] at r4
            rw [hstn]
            rw [hstn] at hAd
            exact ⟨hAd.sub HFsub.out, r2.trans ho, r3.out ho, r4, turn_step HLen.out r5, by omega, by omega, ev8_step HLen.out r8⟩)
          have HAll := Lib.hid (show OneSet stj.s.R stn.s.R ∧ EvStep stj stn from by rw [hstn]; exact stepC_all K.T K.E stj HLen.out)
          have HSd := Lib.hid (show StB wd wa.heap.size stj.s from ⟨by
            rw [hOd.block _ HSc.out.lt (by
              rintro (⟨_, h⟩ | h)
              · have := HZa.out; omega
              · have := HSc.out.lt; omega)]
            exact HSc.out.1, HSc.out.2⟩)
          have HLen2 := Lib.hid (show stn.s.R.length = 32 from by obtain ⟨_, _, hC, _⟩ := hAd; exact hC.wf.1)
          have HEvl := Lib.hid HL.out.ev
          have HR0 := Lib.hid (show nth stn.s.R 0 = 0 from by obtain ⟨_, _, hC, _⟩ := hAd; exact hC.wf.2.2.1)
          clear hAd hOd hstn HStp HSc HBc HL
          go_wp2_with fail
          refine (state_any K F stn wd HLn.out.cpu).mono ?_
          rintro e we ⟨rfl, hbe⟩
          have hbx : Below we.heap.size we (we.alloc (.cells (stateL stn.s).toArray 28)) := (Below.refl _ _).alloc (Nat.le_refl _) _
          have HBf := Lib.hid (hbe.trans (hbx.mono hbe.size))
          have HSf := Lib.hid (StB.new (w := we) stn.s HLen2.out)
          have HSg := Lib.hid ((HSd.out.below hbe).below hbx)
          clear hbe hbx HSd
          go_wp2_with (first | (refine wpList_store_new rfl 28 _ _ rfl _ _ _ _ rfl rfl ?hi ?hs ?h1 rfl ?hg ?_; (case hi => (rw [stateInfo]; simp [stateL_len HLen2.out])); (case hs => simp [stateL_len HLen2.out]); (case h1 => exact stateL_one _); (case hg => rfl); (generalize (we.alloc (.cells (stateL stn.s).toArray 28)) = wf at *)))
          go_loopw [19, 20] (fun c i wr' => ∃ (jj q : Nat), jj ≤ 32 ∧ i = .int .i64 jj ∧ c = .int .i64 (diffN stj.s.R stn.s.R jj) ∧ wr' = wf.drewN q) (fun _ i _ => 32 - (intOf i).toNat)
          case atStart => exact ⟨0, 0, by omega, rfl, rfl, rfl⟩
          case round =>
            obtain ⟨jj, q, hjj, rfl, rfl, rfl⟩ := hrel
            by_cases hlt : jj < 32
            · have jj0 : (0 : Int) ≤ jj := by omega
              have jj1 : (jj : Int) < 32 := by omega
              have w1c := HSg.out.cell jj
              have w2c := HSf.out.cell jj
              rw [stateL_reg HLen.out hlt] at w1c
              rw [stateL_reg HLen2.out hlt] at w2c
              have HDif := Lib.hid (diffN_succ stj.s.R stn.s.R jj)
              have hd1 := diffN_one HAll.out.1 jj
              have d0 : (0 : Int) ≤ diffN stj.s.R stn.s.R jj := by omega
              have d1 : (diffN stj.s.R stn.s.R jj : Int) ≤ 1 := by omega
              clear hd1
              by_cases he : nth stj.s.R jj = nth stn.s.R jj
              · have he2 : (nth stj.s.R jj != nth stn.s.R jj) = false := by rw [he]; simp
                have HE9 := Lib.hid he
                clear he hlt
                go_wp2_with fail
                go_quiet (fail)
                go_wp2
                go_roundw
                case rel => exact ⟨jj + 1, _, by omega, by go_num, by rw [HDif.out, if_pos HE9.out]; rfl, rfl⟩
                case measure => simp [intOf]; omega
              · have he2 : (nth stj.s.R jj != nth stn.s.R jj) = true := by rw [bne_iff_ne]; exact he
                have HE9 := Lib.hid he
                clear he hlt
                go_wp2_with fail
                go_quiet (fail)
                go_wp2
                go_roundw
                case rel => exact ⟨jj + 1, _, by omega, by go_num, by rw [HDif.out, if_neg HE9.out]; go_num, rfl⟩
                case measure => simp [intOf]; omega
            · obtain rfl : jj = 32 := by omega
              have hdn := diffN_one HAll.out.1 32
              obtain ⟨D, hD⟩ : ∃ D : Nat, diffN stj.s.R stn.s.R 32 = D := ⟨_, rfl⟩
              rw [hD] at hdn ⊢
              have dd0 : ¬ (1 : Int) < D := by omega
              have dd1 : decide ((1 : Int) < D) = false := by rw [decide_eq_false_iff_not]; omega
              obtain ⟨N, hN⟩ : ∃ N : Nat, stj.ev.length = N := ⟨_, rfl⟩
              rw [hN]
              have HN := Lib.hid (And.intro hN (show N ≤ 300 by have := HEvl.out; have := HJ.out; omega))
              clear hlt hjj hD hdn hN
              go_wp2_with fail
              refine (events_any K F stn _ ((HLn.out.cpu.below HBf.out).below (bel_drewN (Below.refl _ _) q))).mono ?_
              rintro e wg ⟨v, rfl, hov, hbg⟩
              have HG := Lib.hid ((HSg.out.below (bel_drewN (Below.refl _ _) q)).below hbg)
              have HH := Lib.hid ((HSf.out.below (bel_drewN (Below.refl _ _) q)).below hbg)
              have HBg := Lib.hid (HBf.out.trans (((bel_drewN (Below.refl wf.heap.size wf) q).trans hbg).mono HBf.out.size))
              have z0 := HH.out.cell 0
              rw [stateL_reg HLen2.out (by omega), HR0.out] at z0
              have z33 := HH.out.cell 33
              rw [show (33 : Nat) = 32 + 1 from rfl, stateL_at HLen2.out 1] at z33
              have y33 := HG.out.cell 33
              rw [show (33 : Nat) = 32 + 1 from rfl, stateL_at HLen.out 1] at y33
              simp only [Nat.reduceAdd, List.getElem?_cons_zero, List.getElem?_cons_succ] at z33 y33
              have hw1 : IntKind.i64.wrap ((N : Int) + 1) = N + 1 := IntWalk.i64_in _ (by have := HN.out.2; omega)
              have HLz := Lib.hid (show SL y6 wg K F s.own st0 k (j + 1) stn from by
                obtain ⟨r1, r2, r3, r4, r5, r6, r7, r8⟩ := HLn.out
                exact ⟨r1.below HBg.out, r2.trans (Out.of_below HBg.out), r3.out (Out.of_below HBg.out), r4, r5, r6, r7, r8⟩)
              rcases HAll.out.2 with ⟨e1, e2⟩ | ⟨p, A, h8, e1, e2⟩
              · rw [show stn.ev.length = N by rw [e1]; exact HN.out.1] at hov
                obtain ⟨Av', cv', rfl⟩ := row_len hov
                rw [e2] at z33
                have t1 : ¬ (N : Int) + 1 < N := by omega
                have t2 : decide ((N : Int) + 1 < N) = false := by rw [decide_eq_false_iff_not]; omega
                have t3 : ¬ (N : Int) < N := by omega
                have t4 : decide ((N : Int) < N) = false := by rw [decide_eq_false_iff_not]; omega
                generalize stj.s.own = o at *
                clear hov hbg e1 e2
                cases o
                all_goals
                  go_wp2_with fail
                  go_quiet (fail)
                  go_wp2
                  go_roundw
                  case rel => exact ⟨j + 1, stn, by have := HJ.out; omega, by go_num, by first | exact HLz.out | exact HLz.out.drewN _⟩
                  case measure => simp [intOf]; omega
              · obtain ⟨M, hM⟩ : ∃ M : Nat, M = N + 1 := ⟨_, rfl⟩
                rw [show stn.ev.length = M by rw [e1, hM, List.length_append, HN.out.1]; rfl] at hov
                obtain ⟨gv, cv', rfl⟩ := row_pos hov (by omega)
                have yc := hov.cellAt (N * 10) (by omega)
                rw [evs_flat stn.ev N (!stj.s.own, p, A) HLn.out.ev8 (by rw [e1, List.getElem?_append_right (by rw [HN.out.1]; omega), HN.out.1]; simp)] at yc
                rw [e2] at z33
                have t0 : (0 : Int) ≤ N := by omega
                have t1 : ¬ (N : Int) + 1 < M := by omega
                have t2 : decide ((N : Int) + 1 < M) = false := by rw [decide_eq_false_iff_not]; omega
                have t3 : (N : Int) < M := by omega
                have t4 : decide ((N : Int) < M) = true := by rw [decide_eq_true_iff]; omega
                have t5 : ((M : Int) == N) = false := by rw [beq_eq_false_iff_ne]; omega
                have HMm9 := Lib.hid hM
                generalize stj.s.own = o at *
                clear hov hbg e1 e2 hM h8
                cases o
                all_goals
                  simp only [Bool.not_true, Bool.not_false] at z33 yc
                  go_wp2_with fail
                  go_quiet (fail)
                  go_wp2
                  go_roundw
                  case rel => exact ⟨j + 1, stn, by have := HJ.out; omega, by go_num, by first | exact HLz.out | exact HLz.out.drewN _⟩
                  case measure => simp [intOf]; omega
        · rw [show decide (stj.s.dn = 0) = false by simpa using hd] at HStp
          have HDn := Lib.hid hd
          clear hd
          refine HStp.out.mono ?_
          rintro e wd ⟨rfl, hAd, hOd⟩
          have HX := Lib.hid (show FX y6 wd K F s.own st0 k stj from by
            obtain ⟨r1, r2, r3, r4, r5, r6, r7, r8⟩ := HL.out
            have ho : Out F wr wd := (Out.of_below HBc.out).trans (hOd.sub HFsub.out)
            rw [runC_stop _ _ _ _ HDn.out] at r4
            rw [show stepC K.T K.E stj = stj by unfold stepC; rw [if_pos HDn.out]] at hAd
            exact ⟨hAd.sub HFsub.out, r2.trans ho, r3.out ho, r4, r5, by have := HJ.out; omega, by have := HJ.out; omega, r8⟩)
          obtain ⟨stF, hstF⟩ : ∃ stF, stF = stj := ⟨_, rfl⟩
          rw [← hstF] at HX
          clear hAd hOd HStp HL HBc HSc HJ HDn HLen hstF j0 j1 HFsub
          obtain ⟨f, hf, ef⟩ : ∃ f : Nat, f < 300 ∧ a2 % 300 = f := ⟨(a2 % 300).toNat, by omega, by omega⟩
          have ef2 : a2.tmod 300 = f := by rw [Int.tmod_eq_emod_of_nonneg b2.1]; exact ef
          have nF : ∀ b, b < y6.heap.size → (u3.heap.size ≤ b ∧ b < u4.heap.size ∨ u5.heap.size ≤ b) → ¬ F b := by
            have z1 := HZ4.out
            have z2 := HB5.out.1.size
            have z3 := HB6.out.1.size
            intro b hb hc hf
            rw [← HFF.out] at hf
            rcases hf with ⟨⟨i, hi, h⟩ | h, h2⟩ | h
            · have := HGm.out.2.2.2 i hi; omega
            · omega
            · omega
          have HBX := Lib.hid (show Below u2.heap.size u2 wd from (HB4b.out.trans (HB6b.out.mono HB4b.out.size)).trans ((HX.out.out.sub HF.out).to_below (Nat.le_trans HB4b.out.size HB6b.out.size)))
          have HDX := Lib.hid (show CpuAt wd K2 (Cut (Foot G' n0 u5.heap.size) y6.heap.size wd.heap.size) st0 from by
            obtain ⟨q1, q2, q3, q4, q5, q6, q7⟩ := HK2.out
            have z1 := HZ4.out
            have z2 := HB5.out.1.size
            have z3 := HB6.out.1.size
            have ow := HMm'.out.own
            have lt := HGm'.out
            have hmd := HD.out.mdlt
            refine HD.out.move HX.out.out ?_ ?_ ?_ ?_ ?_ ?_
            · rintro b hb (⟨i, hi, h⟩ | h)
              · exact nF b hb (.inl ⟨by have := HMm'.out.from_ i hi; omega, by have := lt.2.2.2 i hi; omega⟩)
              · exact nF b hb (.inr h)
            · rw [q1]; exact nF _ (by omega) (.inl ⟨ow.1, lt.1⟩)
            · rw [q2]; exact nF _ (by omega) (.inl ⟨ow.2.1, lt.2.1⟩)
            · rw [q3]; exact nF _ (by omega) (.inl ⟨ow.2.2, lt.2.2.1⟩)
            · exact nF _ hmd (.inr q6)
            · intro a ha
              rcases HD.out.ents a ha with h | h
              · exact .inl h
              · rcases q7 a ha with h' | h'
                · exact .inl (q5.trans h')
                · exact .inr ⟨h, nF _ h (.inr h')⟩)
          obtain ⟨FD, hFD⟩ : ∃ FD, FD = Cut (Foot G' n0 u5.heap.size) y6.heap.size wd.heap.size := ⟨_, rfl⟩
          rw [← hFD] at HDX
          have HFD := Lib.hid hFD
          have HFDge := Lib.hid (show ∀ b, FD b → u2.heap.size ≤ b from by
            have z0 := HB3.out.1.size
            have z1 := HZ4.out
            have z2 := HB5.out.1.size
            have z3 := HX.out.out.size
            have z4 := HB6.out.1.size
            rw [hFD]
            rintro b (⟨⟨i, hi, h⟩ | h, _⟩ | h)
            · have := HMm'.out.from_ i hi; omega
            · omega
            · omega)
          have HEnvX := Lib.hid (show Env wd FD from (env_of HT2.out.1 HT2.out.2 HBX.out).sub HFDge.out)
          clear nF hFD
          go_wp2_with fail
          refine (run_any K2 FD st0 wd f HDX.out HEnvX.out (by rw [HSt.out.2.1]; show 0 + f < _; omega) (by rw [HSt.out.2.2]; show 0 + 2 * f < _; omega)).mono ?_
          obtain ⟨x, hx⟩ : ∃ x, ranN T E f st0 = x := ⟨_, rfl⟩
          rw [HK2.out.2.2.2.1, HK2.out.2.2.2.2.1, hx]
          rintro e wY ⟨rfl, hAY, hOY⟩
          have HX2 := Lib.hid (And.intro hx (runC_le T E f st0))
          have HAY := Lib.hid hAY
          have HOY := Lib.hid hOY
          have HEnvY := Lib.hid (HEnvX.out.out hOY)
          have x0 : (0 : Int) ≤ x := by omega
          have hxf : x ≤ f := by have := runC_le T E f st0; unfold ranN at hx; omega
          have hrs := run_rows T E f st0
          have HRs := Lib.hid hrs
          clear hAY hOY hx hrs
          by_cases hxk : x ≤ k
          · have xk1 : (x : Int) ≤ k := by omega
            have xk2 : ¬ (k : Int) < x := by omega
            have HXK := Lib.hid hxk
            clear hxk
            go_wp2_with fail
            rw [show (k : Int) - x = ((k - x : Nat) : Int) by omega]
            refine (run_any K2 FD (ranS T E f st0) wY (k - x) HAY.out HEnvY.out (by have h := HRs.out.1; rw [HSt.out.2.1] at h; unfold ranS; simp only [List.length_nil] at h; omega) (by have h := HRs.out.2; rw [HSt.out.2.2] at h; unfold ranS; simp only [List.length_nil] at h; omega)).mono ?_
            rw [HK2.out.2.2.2.1, HK2.out.2.2.2.2.1]
            have htwo : ranS T E (k - x) (ranS T E f st0) = stF := by
              have h := two_goes T E f k st0 (by rw [HX2.out.1]; exact HXK.out)
              rw [HX2.out.1] at h
              rw [h, HX.out.fin, HK.out.2.2.2.1, HK.out.2.2.2.2.1]; rfl
            rw [htwo]
            rintro e wZ ⟨rfl, hAZ, hOZ⟩
            have HAZ := Lib.hid hAZ
            have HAc := Lib.hid (show CpuAt wZ K F stF from by
              obtain ⟨q1, q2, q3, q4, q5, q6, q7⟩ := HK.out
              have z1 := HZ4.out
              have z2 := HB5.out.1.size
              have z3 := HB6.out.1.size
              have z4 := HX.out.out.size
              have lt := HGm.out
              have lt' := HGm'.out
              have fr' := fun i hi => HMm'.out.from_ i hi
              have hmd := HA5.out.mdlt
              have nD : ∀ b, b < wd.heap.size → (b < u3.heap.size ∨ u4.heap.size ≤ b ∧ b < u5.heap.size ∨ y6.heap.size ≤ b) → ¬ FD b := by
                intro b hb hc hf
                rw [HFD.out] at hf
                rcases hf with ⟨⟨i, hi, h⟩ | h, h2⟩ | h
                · have := fr' i hi; have := lt'.2.2.2 i hi; omega
                · omega
                · omega
              refine HX.out.cpu.apart (HOY.out.trans hOZ) ?_ ?_ ?_ ?_ ?_ ?_
              · intro b hb hf
                rw [← HFF.out] at hf
                rcases hf with ⟨⟨i, hi, h⟩ | h, h2⟩ | h
                · exact nD b hb (.inl (by have := lt.2.2.2 i hi; omega))
                · exact nD b hb (.inr (.inl ⟨h, h2⟩))
                · exact nD b hb (.inr (.inr h))
              · rw [q1]; exact nD _ (by omega) (.inl lt.1)
              · rw [q2]; exact nD _ (by omega) (.inl lt.2.1)
              · rw [q3]; exact nD _ (by omega) (.inl lt.2.2.1)
              · exact nD _ (by omega) (.inr (.inl ⟨q6, hmd⟩))
              · intro a ha
                rcases HA5.out.ents a ha with h | h
                · exact .inl h
                · rcases q7 a ha with h' | h'
                  · exact .inl (q5.trans h')
                  · exact .inr ⟨by omega, nD _ (by omega) (.inr (.inl ⟨h', h⟩))⟩)
            have HBZ := Lib.hid (show Below w.heap.size w wZ from by
              have h1 := HBX.out.trans ((((HOY.out.trans hOZ).sub HFDge.out).to_below HBX.out.size).mono (Nat.le_refl _))
              exact HB2.out.trans (h1.mono HB2.out.size))
            clear hAZ hOZ htwo
            go_wp2_with fail
            refine (events_any K F stF wZ HAc.out).mono ?_
            rintro e wE ⟨v, rfl, hov, hbE⟩
            obtain ⟨NE, hNE⟩ : ∃ NE, stF.ev.length = NE := ⟨_, rfl⟩
            rw [hNE] at hov
            obtain ⟨Av, cv, rfl⟩ := row_len hov
            have HOv := Lib.hid hov
            have HNE := Lib.hid (And.intro hNE (show NE ≤ 300 by have := HX.out.ev; omega))
            have HAc2 := Lib.hid (HAc.out.below hbE)
            have HAZ2 := Lib.hid (HAZ.out.below hbE)
            have HBE := Lib.hid (HBZ.out.trans (hbE.mono HBZ.out.size))
            have hNE3 : NE ≤ 300 := by have := HX.out.ev; omega
            clear hov hbE HAc HAZ hNE
            go_wp2
            go_loop [14, 24] (fun o i => ∃ n : Nat, n ≤ NE ∧ i = .int .i64 n ∧ o = .bool (turnB s.own n)) (fun _ i => NE - (intOf i).toNat)
            case atStart => exact ⟨0, by omega, rfl, rfl⟩
            case round =>
              obtain ⟨n, hn, rfl, rfl⟩ := hrel
              by_cases hlt2 : n < NE
              · have n0' : (0 : Int) ≤ n := by omega
                have n1' : (n : Int) < NE := by omega
                obtain ⟨gv, cv', hv⟩ := row_pos HOv.out (by omega)
                injection hv with hv1 hv2 hv3
                subst hv1
                have hov := HOv.out
                have yc := hov.cellAt (n * 10) (by omega)
                obtain ⟨x9, hx9⟩ : ∃ x9, stF.ev[n]? = some x9 := ⟨_, List.getElem?_eq_getElem (by rw [HNE.out.1]; exact hlt2)⟩
                rw [evs_flat stF.ev n x9 HX.out.ev8 hx9, HX.out.turn.1 n x9 hx9] at yc
                have HTs := Lib.hid (turn_succ s.own n)
                generalize turnB s.own n = tb9 at *
                clear hov hx9 hlt2 hn
                cases tb9
                all_goals
                  simp only [Bool.not_true, Bool.not_false] at yc
                  go_wp2
                  go_round
                  case rel => exact ⟨n + 1, by omega, by go_num, by rw [HTs.out]; rfl⟩
                  case measure => simp [intOf]; omega
              · obtain rfl : n = NE := by omega
                clear hlt2 hn
                have HSF := Lib.hid (show stF.s.R.length = 32 from by obtain ⟨_, _, hC, _⟩ := HX.out.cpu; exact hC.wf.1)
                have heq := eqlS stF.s HSF.out
                have hgs := eqGuardSt
                go_wp2_with fail
                refine (state_any K F stF wE HAc2.out).mono ?_
                rintro e wa ⟨rfl, hba⟩
                have HAc3 := Lib.hid (HAc2.out.below hba)
                have HAZ3 := Lib.hid (HAZ2.out.below hba)
                have HOv3 := Lib.hid (row_below HOv.out hba)
                have HBa := Lib.hid (HBE.out.trans (hba.mono HBE.out.size))
                clear hba
                go_wp2_with fail
                refine (state_any K2 FD stF wa HAZ3.out).mono ?_
                rintro e wb ⟨rfl, hba⟩
                have HAc4 := Lib.hid (HAc3.out.below hba)
                have HAZ4 := Lib.hid (HAZ3.out.below hba)
                have HOv4 := Lib.hid (row_below HOv3.out hba)
                have HBb := Lib.hid (HBa.out.trans (hba.mono HBa.out.size))
                clear hba
                go_wp2_with fail
                refine (events_any K2 FD stF wb HAZ4.out).mono ?_
                rintro e wc ⟨v2, rfl, hov2, hba⟩
                have HAc5 := Lib.hid (HAc4.out.below hba)
                have HAZ5 := Lib.hid (HAZ4.out.below hba)
                have HOv5 := Lib.hid (row_below HOv4.out hba)
                have HBc := Lib.hid (HBb.out.trans (hba.mono HBb.out.size))
                have HOw := Lib.hid hov2
                obtain ⟨Aw, cw, rfl⟩ := row_len hov2
                clear hba hov2
                go_wp2_with fail
                have hce : stF.ev.length = n := HNE.out.1
                refine (evs_same _ _ stF.ev _ _ wc (by rw [hce]; exact HOv5.out) HOw.out HX.out.ev8 (by have := HNE.out.2; omega)).mono ?_
                rintro e wd9 ⟨rfl, q9, rfl⟩
                have HAc6 := Lib.hid (HAc5.out.below (bel_drewN (Below.refl _ _) q9))
                have HAZ6 := Lib.hid (HAZ5.out.below (bel_drewN (Below.refl _ _) q9))
                have HBd := Lib.hid (bel_drewN HBc.out q9)
                clear hce
                go_wp2_with fail
                refine (leaks_any K F stF _ HAc6.out).mono ?_
                rintro e wl ⟨v3, rfl, hov3, hba⟩
                have HAZ7 := Lib.hid (HAZ6.out.below hba)
                have HOx := Lib.hid hov3
                obtain ⟨Ax, cx, rfl⟩ := row_len hov3
                have HBl := Lib.hid (HBd.out.trans (hba.mono HBd.out.size))
                clear hba hov3
                go_wp2_with fail
                refine (leaks_any K2 FD stF _ HAZ7.out).mono ?_
                rintro e wm ⟨v4, rfl, hov4, hba⟩
                have HOx2 := Lib.hid (row_below HOx.out hba)
                have HOy := Lib.hid hov4
                obtain ⟨Ay, cy, rfl⟩ := row_len hov4
                have HBm := Lib.hid (HBl.out.trans (hba.mono HBl.out.size))
                clear hba hov4
                go_wp2_with fail
                refine (lks_same _ _ stF.lk _ _ wm HOx2.out HOy.out (by have := HX.out.lk; omega)).mono ?_
                rintro e wn ⟨rfl, q8, rfl⟩
                have HBn := Lib.hid (bel_drewN HBm.out q8)
                go_wp2
                go_ret
                exact ⟨rfl, HBn.out⟩
          · have xk1 : (k : Int) < x := by omega
            have xk2 : ¬ (x : Int) ≤ k := by omega
            have xk3 : ¬ (x : Int) < k := by omega
            clear hxk
            go_wp2_with fail
            refine (run_any K2 FD (ranS T E f st0) wY 0 HAY.out HEnvY.out (by have h := HRs.out.1; rw [HSt.out.2.1] at h; unfold ranS; simp only [List.length_nil] at h; omega) (by have h := HRs.out.2; rw [HSt.out.2.2] at h; unfold ranS; simp only [List.length_nil] at h; omega)).mono ?_
            rintro e wZ ⟨rfl, hAZ, hOZ⟩
            have HBZ := Lib.hid (show Below w.heap.size w wZ from by
              have h1 := HBX.out.trans ((((HOY.out.trans hOZ).sub HFDge.out).to_below HBX.out.size).mono (Nat.le_refl _))
              exact HB2.out.trans (h1.mono HB2.out.size))
            clear hAZ hOZ
            go_wp2
            go_ret
            exact ⟨rfl, HBZ.out⟩
      · obtain rfl : k = j := by omega
        have HX := Lib.hid (show FX y6 wr K F s.own st0 k stj from by
          obtain ⟨r1, r2, r3, r4, r5, r6, r7, r8⟩ := HL.out
          rw [Nat.sub_self, runC_zero] at r4
          exact ⟨r1, r2, r3, r4, r5, by omega, by omega, r8⟩)
        obtain ⟨stF, hstF⟩ : ∃ stF, stF = stj := ⟨_, rfl⟩
        rw [← hstF] at HX
        clear HL hlt hj hstF
        obtain ⟨f, hf, ef⟩ : ∃ f : Nat, f < 300 ∧ a2 % 300 = f := ⟨(a2 % 300).toNat, by omega, by omega⟩
        have ef2 : a2.tmod 300 = f := by rw [Int.tmod_eq_emod_of_nonneg b2.1]; exact ef
        have nF : ∀ b, b < y6.heap.size → (u3.heap.size ≤ b ∧ b < u4.heap.size ∨ u5.heap.size ≤ b) → ¬ F b := by
          have z1 := HZ4.out
          have z2 := HB5.out.1.size
          have z3 := HB6.out.1.size
          intro b hb hc hf
          rw [← HFF.out] at hf
          rcases hf with ⟨⟨i, hi, h⟩ | h, h2⟩ | h
          · have := HGm.out.2.2.2 i hi; omega
          · omega
          · omega
        have HBX := Lib.hid (show Below u2.heap.size u2 wr from (HB4b.out.trans (HB6b.out.mono HB4b.out.size)).trans ((HX.out.out.sub HF.out).to_below (Nat.le_trans HB4b.out.size HB6b.out.size)))
        have HDX := Lib.hid (show CpuAt wr K2 (Cut (Foot G' n0 u5.heap.size) y6.heap.size wr.heap.size) st0 from by
          obtain ⟨q1, q2, q3, q4, q5, q6, q7⟩ := HK2.out
          have z1 := HZ4.out
          have z2 := HB5.out.1.size
          have z3 := HB6.out.1.size
          have ow := HMm'.out.own
          have lt := HGm'.out
          have hmd := HD.out.mdlt
          refine HD.out.move HX.out.out ?_ ?_ ?_ ?_ ?_ ?_
          · rintro b hb (⟨i, hi, h⟩ | h)
            · exact nF b hb (.inl ⟨by have := HMm'.out.from_ i hi; omega, by have := lt.2.2.2 i hi; omega⟩)
            · exact nF b hb (.inr h)
          · rw [q1]; exact nF _ (by omega) (.inl ⟨ow.1, lt.1⟩)
          · rw [q2]; exact nF _ (by omega) (.inl ⟨ow.2.1, lt.2.1⟩)
          · rw [q3]; exact nF _ (by omega) (.inl ⟨ow.2.2, lt.2.2.1⟩)
          · exact nF _ hmd (.inr q6)
          · intro a ha
            rcases HD.out.ents a ha with h | h
            · exact .inl h
            · rcases q7 a ha with h' | h'
              · exact .inl (q5.trans h')
              · exact .inr ⟨h, nF _ h (.inr h')⟩)
        obtain ⟨FD, hFD⟩ : ∃ FD, FD = Cut (Foot G' n0 u5.heap.size) y6.heap.size wr.heap.size := ⟨_, rfl⟩
        rw [← hFD] at HDX
        have HFD := Lib.hid hFD
        have HFDge := Lib.hid (show ∀ b, FD b → u2.heap.size ≤ b from by
          have z0 := HB3.out.1.size
          have z1 := HZ4.out
          have z2 := HB5.out.1.size
          have z3 := HX.out.out.size
          have z4 := HB6.out.1.size
          rw [hFD]
          rintro b (⟨⟨i, hi, h⟩ | h, _⟩ | h)
          · have := HMm'.out.from_ i hi; omega
          · omega
          · omega)
        have HEnvX := Lib.hid (show Env wr FD from (env_of HT2.out.1 HT2.out.2 HBX.out).sub HFDge.out)
        clear nF hFD
        go_wp2_with fail
        refine (run_any K2 FD st0 wr f HDX.out HEnvX.out (by rw [HSt.out.2.1]; show 0 + f < _; omega) (by rw [HSt.out.2.2]; show 0 + 2 * f < _; omega)).mono ?_
        obtain ⟨x, hx⟩ : ∃ x, ranN T E f st0 = x := ⟨_, rfl⟩
        rw [HK2.out.2.2.2.1, HK2.out.2.2.2.2.1, hx]
        rintro e wY ⟨rfl, hAY, hOY⟩
        have HX2 := Lib.hid (And.intro hx (runC_le T E f st0))
        have HAY := Lib.hid hAY
        have HOY := Lib.hid hOY
        have HEnvY := Lib.hid (HEnvX.out.out hOY)
        have x0 : (0 : Int) ≤ x := by omega
        have hxf : x ≤ f := by have := runC_le T E f st0; unfold ranN at hx; omega
        have hrs := run_rows T E f st0
        have HRs := Lib.hid hrs
        clear hAY hOY hx hrs
        by_cases hxk : x ≤ k
        · have xk1 : (x : Int) ≤ k := by omega
          have xk2 : ¬ (k : Int) < x := by omega
          have HXK := Lib.hid hxk
          clear hxk
          go_wp2_with fail
          rw [show (k : Int) - x = ((k - x : Nat) : Int) by omega]
          refine (run_any K2 FD (ranS T E f st0) wY (k - x) HAY.out HEnvY.out (by have h := HRs.out.1; rw [HSt.out.2.1] at h; unfold ranS; simp only [List.length_nil] at h; omega) (by have h := HRs.out.2; rw [HSt.out.2.2] at h; unfold ranS; simp only [List.length_nil] at h; omega)).mono ?_
          rw [HK2.out.2.2.2.1, HK2.out.2.2.2.2.1]
          have htwo : ranS T E (k - x) (ranS T E f st0) = stF := by
            have h := two_goes T E f k st0 (by rw [HX2.out.1]; exact HXK.out)
            rw [HX2.out.1] at h
            rw [h, HX.out.fin, HK.out.2.2.2.1, HK.out.2.2.2.2.1]; rfl
          rw [htwo]
          rintro e wZ ⟨rfl, hAZ, hOZ⟩
          have HAZ := Lib.hid hAZ
          have HAc := Lib.hid (show CpuAt wZ K F stF from by
            obtain ⟨q1, q2, q3, q4, q5, q6, q7⟩ := HK.out
            have z1 := HZ4.out
            have z2 := HB5.out.1.size
            have z3 := HB6.out.1.size
            have z4 := HX.out.out.size
            have lt := HGm.out
            have lt' := HGm'.out
            have fr' := fun i hi => HMm'.out.from_ i hi
            have hmd := HA5.out.mdlt
            have nD : ∀ b, b < wr.heap.size → (b < u3.heap.size ∨ u4.heap.size ≤ b ∧ b < u5.heap.size ∨ y6.heap.size ≤ b) → ¬ FD b := by
              intro b hb hc hf
              rw [HFD.out] at hf
              rcases hf with ⟨⟨i, hi, h⟩ | h, h2⟩ | h
              · have := fr' i hi; have := lt'.2.2.2 i hi; omega
              · omega
              · omega
            refine HX.out.cpu.apart (HOY.out.trans hOZ) ?_ ?_ ?_ ?_ ?_ ?_
            · intro b hb hf
              rw [← HFF.out] at hf
              rcases hf with ⟨⟨i, hi, h⟩ | h, h2⟩ | h
              · exact nD b hb (.inl (by have := lt.2.2.2 i hi; omega))
              · exact nD b hb (.inr (.inl ⟨h, h2⟩))
              · exact nD b hb (.inr (.inr h))
            · rw [q1]; exact nD _ (by omega) (.inl lt.1)
            · rw [q2]; exact nD _ (by omega) (.inl lt.2.1)
            · rw [q3]; exact nD _ (by omega) (.inl lt.2.2.1)
            · exact nD _ (by omega) (.inr (.inl ⟨q6, hmd⟩))
            · intro a ha
              rcases HA5.out.ents a ha with h | h
              · exact .inl h
              · rcases q7 a ha with h' | h'
                · exact .inl (q5.trans h')
                · exact .inr ⟨by omega, nD _ (by omega) (.inr (.inl ⟨h', h⟩))⟩)
          have HBZ := Lib.hid (show Below w.heap.size w wZ from by
            have h1 := HBX.out.trans ((((HOY.out.trans hOZ).sub HFDge.out).to_below HBX.out.size).mono (Nat.le_refl _))
            exact HB2.out.trans (h1.mono HB2.out.size))
          clear hAZ hOZ htwo
          go_wp2_with fail
          refine (events_any K F stF wZ HAc.out).mono ?_
          rintro e wE ⟨v, rfl, hov, hbE⟩
          obtain ⟨NE, hNE⟩ : ∃ NE, stF.ev.length = NE := ⟨_, rfl⟩
          rw [hNE] at hov
          obtain ⟨Av, cv, rfl⟩ := row_len hov
          have HOv := Lib.hid hov
          have HNE := Lib.hid (And.intro hNE (show NE ≤ 300 by have := HX.out.ev; omega))
          have HAc2 := Lib.hid (HAc.out.below hbE)
          have HAZ2 := Lib.hid (HAZ.out.below hbE)
          have HBE := Lib.hid (HBZ.out.trans (hbE.mono HBZ.out.size))
          have hNE3 : NE ≤ 300 := by have := HX.out.ev; omega
          clear hov hbE HAc HAZ hNE
          go_wp2
          go_loop [14, 24] (fun o i => ∃ n : Nat, n ≤ NE ∧ i = .int .i64 n ∧ o = .bool (turnB s.own n)) (fun _ i => NE - (intOf i).toNat)
          case atStart => exact ⟨0, by omega, rfl, rfl⟩
          case round =>
            obtain ⟨n, hn, rfl, rfl⟩ := hrel
            by_cases hlt2 : n < NE
            · have n0' : (0 : Int) ≤ n := by omega
              have n1' : (n : Int) < NE := by omega
              obtain ⟨gv, cv', hv⟩ := row_pos HOv.out (by omega)
              injection hv with hv1 hv2 hv3
              subst hv1
              have hov := HOv.out
              have yc := hov.cellAt (n * 10) (by omega)
              obtain ⟨x9, hx9⟩ : ∃ x9, stF.ev[n]? = some x9 := ⟨_, List.getElem?_eq_getElem (by rw [HNE.out.1]; exact hlt2)⟩
              rw [evs_flat stF.ev n x9 HX.out.ev8 hx9, HX.out.turn.1 n x9 hx9] at yc
              have HTs := Lib.hid (turn_succ s.own n)
              generalize turnB s.own n = tb9 at *
              clear hov hx9 hlt2 hn
              cases tb9
              all_goals
                simp only [Bool.not_true, Bool.not_false] at yc
                go_wp2
                go_round
                case rel => exact ⟨n + 1, by omega, by go_num, by rw [HTs.out]; rfl⟩
                case measure => simp [intOf]; omega
            · obtain rfl : n = NE := by omega
              clear hlt2 hn
              have HSF := Lib.hid (show stF.s.R.length = 32 from by obtain ⟨_, _, hC, _⟩ := HX.out.cpu; exact hC.wf.1)
              have heq := eqlS stF.s HSF.out
              have hgs := eqGuardSt
              go_wp2_with fail
              refine (state_any K F stF wE HAc2.out).mono ?_
              rintro e wa ⟨rfl, hba⟩
              have HAc3 := Lib.hid (HAc2.out.below hba)
              have HAZ3 := Lib.hid (HAZ2.out.below hba)
              have HOv3 := Lib.hid (row_below HOv.out hba)
              have HBa := Lib.hid (HBE.out.trans (hba.mono HBE.out.size))
              clear hba
              go_wp2_with fail
              refine (state_any K2 FD stF wa HAZ3.out).mono ?_
              rintro e wb ⟨rfl, hba⟩
              have HAc4 := Lib.hid (HAc3.out.below hba)
              have HAZ4 := Lib.hid (HAZ3.out.below hba)
              have HOv4 := Lib.hid (row_below HOv3.out hba)
              have HBb := Lib.hid (HBa.out.trans (hba.mono HBa.out.size))
              clear hba
              go_wp2_with fail
              refine (events_any K2 FD stF wb HAZ4.out).mono ?_
              rintro e wc ⟨v2, rfl, hov2, hba⟩
              have HAc5 := Lib.hid (HAc4.out.below hba)
              have HAZ5 := Lib.hid (HAZ4.out.below hba)
              have HOv5 := Lib.hid (row_below HOv4.out hba)
              have HBc := Lib.hid (HBb.out.trans (hba.mono HBb.out.size))
              have HOw := Lib.hid hov2
              obtain ⟨Aw, cw, rfl⟩ := row_len hov2
              clear hba hov2
              go_wp2_with fail
              have hce : stF.ev.length = n := HNE.out.1
              refine (evs_same _ _ stF.ev _ _ wc (by rw [hce]; exact HOv5.out) HOw.out HX.out.ev8 (by have := HNE.out.2; omega)).mono ?_
              rintro e wd9 ⟨rfl, q9, rfl⟩
              have HAc6 := Lib.hid (HAc5.out.below (bel_drewN (Below.refl _ _) q9))
              have HAZ6 := Lib.hid (HAZ5.out.below (bel_drewN (Below.refl _ _) q9))
              have HBd := Lib.hid (bel_drewN HBc.out q9)
              clear hce
              go_wp2_with fail
              refine (leaks_any K F stF _ HAc6.out).mono ?_
              rintro e wl ⟨v3, rfl, hov3, hba⟩
              have HAZ7 := Lib.hid (HAZ6.out.below hba)
              have HOx := Lib.hid hov3
              obtain ⟨Ax, cx, rfl⟩ := row_len hov3
              have HBl := Lib.hid (HBd.out.trans (hba.mono HBd.out.size))
              clear hba hov3
              go_wp2_with fail
              refine (leaks_any K2 FD stF _ HAZ7.out).mono ?_
              rintro e wm ⟨v4, rfl, hov4, hba⟩
              have HOx2 := Lib.hid (row_below HOx.out hba)
              have HOy := Lib.hid hov4
              obtain ⟨Ay, cy, rfl⟩ := row_len hov4
              have HBm := Lib.hid (HBl.out.trans (hba.mono HBl.out.size))
              clear hba hov4
              go_wp2_with fail
              refine (lks_same _ _ stF.lk _ _ wm HOx2.out HOy.out (by have := HX.out.lk; omega)).mono ?_
              rintro e wn ⟨rfl, q8, rfl⟩
              have HBn := Lib.hid (bel_drewN HBm.out q8)
              go_wp2
              go_ret
              exact ⟨rfl, HBn.out⟩
        · have xk1 : (k : Int) < x := by omega
          have xk2 : ¬ (x : Int) ≤ k := by omega
          have xk3 : ¬ (x : Int) < k := by omega
          clear hxk
          go_wp2_with fail
          refine (run_any K2 FD (ranS T E f st0) wY 0 HAY.out HEnvY.out (by have h := HRs.out.1; rw [HSt.out.2.1] at h; unfold ranS; simp only [List.length_nil] at h; omega) (by have h := HRs.out.2; rw [HSt.out.2.2] at h; unfold ranS; simp only [List.length_nil] at h; omega)).mono ?_
          rintro e wZ ⟨rfl, hAZ, hOZ⟩
          have HBZ := Lib.hid (show Below w.heap.size w wZ from by
            have h1 := HBX.out.trans ((((HOY.out.trans hOZ).sub HFDge.out).to_below HBX.out.size).mono (Nat.le_refl _))
            exact HB2.out.trans (h1.mono HB2.out.size))
          clear hAZ hOZ
          go_wp2
          go_ret
          exact ⟨rfl, HBZ.out⟩
end CpuStepsWalk
end Go.Proofs.YthnhopmbefgmgaaGreatDoor
