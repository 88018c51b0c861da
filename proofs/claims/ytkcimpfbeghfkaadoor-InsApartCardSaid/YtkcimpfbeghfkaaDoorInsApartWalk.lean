/- The walk of the statement InsApart: it returns true, and writes nothing that was there. Condition: the two tables of package ins read as they should. -/
import Derived.Test.YtkcimpfbeghfkaaDoorInsAwake
import Derived.Test.YtkcimpfbeghfkaaDoorInsBack
import Derived.Test.YtkcimpfbeghfkaaDoorInsOpen
import Derived.Test.YtkcimpfbeghfkaaDoorInsLaid
import Derived.Test.YtkcimpfbeghfkaaDoorInsRMayAll
namespace Go.Proofs.YtkcimpfbeghfkaaDoor.InsApartWalk
open Go.RowKit
set_option linter.unusedVariables false
theorem same_of_word {m n : Nat} {rd r1 r2 imm rd' r1' r2' imm' : Int} (hm : m < 43) (hn : n < 43) (h : mayB m rd r1 r2 imm = true) (h' : mayB n rd' r1' r2' imm' = true) (e : encI m rd r1 r2 imm = encI n rd' r1' r2' imm') : m = n ∧ rd = rd' ∧ r1 = r1' ∧ r2 = r2' ∧ imm = imm' := by
  obtain ⟨_, a0, a1, a2, a3, a4⟩ := enc_read hm h
  obtain ⟨_, b0, b1, b2, b3, b4⟩ := enc_read hn h'
  rw [e] at a0 a1 a2 a3 a4
  have := Match.one hm hn a0 b0
  subst this
  exact ⟨rfl, a1.symm.trans b1, a2.symm.trans b2, a3.symm.trans b3, a4.symm.trans b4⟩

theorem two_boxes {w W : World} {op rd r1 r2 imm op' rd' r1' r2' imm' : Int} (hb : Below ((w.alloc (.cells #[.int .i64 op, .int .i64 rd, .int .i64 r1, .int .i64 r2, .int .i64 imm] 23)).alloc (.cells #[.int .i64 op', .int .i64 rd', .int .i64 r1', .int .i64 r2', .int .i64 imm'] 23)).heap.size ((w.alloc (.cells #[.int .i64 op, .int .i64 rd, .int .i64 r1, .int .i64 r2, .int .i64 imm] 23)).alloc (.cells #[.int .i64 op', .int .i64 rd', .int .i64 r1', .int .i64 r2', .int .i64 imm'] 23)) W) : InsC W w.heap.size op rd r1 r2 imm ∧ InsC W (w.heap.size + 1) op' rd' r1' r2' imm' ∧ Below w.heap.size w W := by
  have a := insC_new (w := w) (op := op) (rd := rd) (r1 := r1) (r2 := r2) (imm := imm) (t := 23)
  have b := insC_new (w := w.alloc (.cells #[.int .i64 op, .int .i64 rd, .int .i64 r1, .int .i64 r2, .int .i64 imm] 23)) (op := op') (rd := rd') (r1 := r1') (r2 := r2') (imm := imm') (t := 23)
  have a' := InsC.below a ((Below.refl _ _).alloc (Nat.le_refl _) (.cells #[.int .i64 op', .int .i64 rd', .int .i64 r1', .int .i64 r2', .int .i64 imm'] 23))
  unfold insA at a' b
  have b' := InsC.below b hb
  have e : (w.alloc (.cells #[.int .i64 op, .int .i64 rd, .int .i64 r1, .int .i64 r2, .int .i64 imm] 23)).heap.size = w.heap.size + 1 := by simp
  rw [e] at b'
  exact ⟨InsC.below a' (hb.mono (by simp)), b', (((Below.refl w.heap.size w).alloc (Nat.le_refl _) _).alloc (by simp) _).trans (hb.mono (by simp; omega))⟩

set_option maxHeartbeats 2000000 in
theorem walk_ok (op rd r1 r2 imm op' rd' r1' r2' imm' v v' : Int) (w : World) (hT : Tabs w)
    (HE : ∀ w : World, Tabs w → Calls Tryd.prog 10 #[.agg (insA op rd r1 r2 imm)] w fun e w' => e = .returned (.tuple #[.int .u32 v, .int .i64 0]) ∧ Below w.heap.size w w')
    (HF : ∀ w : World, Tabs w → Calls Tryd.prog 10 #[.agg (insA op' rd' r1' r2' imm')] w fun e w' => e = .returned (.tuple #[.int .u32 v', .int .i64 0]) ∧ Below w.heap.size w w')
    (hv : v = v' ↔ (op = op' ∧ rd = rd' ∧ r1 = r1' ∧ r2 = r2' ∧ imm = imm')) :
    Calls Tryd.prog 5 #[.agg (insA op rd r1 r2 imm), .agg (insA op' rd' r1' r2' imm')] w fun e w' => e = .returned (.bool true) ∧ Below w.heap.size w w' := by
  unfold insA at HE HF ⊢
  have HT := Lib.hid ((hT.alloc (.cells #[.int .i64 op, .int .i64 rd, .int .i64 r1, .int .i64 r2, .int .i64 imm] 23)).alloc (.cells #[.int .i64 op', .int .i64 rd', .int .i64 r1', .int .i64 r2', .int .i64 imm'] 23))
  have HE2 := Lib.hid HE
  have HF2 := Lib.hid HF
  have HV := Lib.hid hv
  clear hT HE HF hv
  go_enter Tryd.func5, Tryd.ntmps5
  go_wp2_with fail
  refine (awake_any _ HT.out).mono ?_
  rintro e w1 ⟨rfl, t1, hb⟩
  obtain ⟨hx, hy, hc⟩ := two_boxes hb
  have H1 := Lib.hid (And.intro t1 (And.intro hx (And.intro hy hc)))
  clear t1 hb hc HT
  obtain ⟨x0, x1, x2, x3, x4⟩ := hx
  clear hy
  go_wp2_with fail
  refine (HE2.out _ H1.out.1).mono ?_
  rintro e w2 ⟨rfl, hb⟩
  have H2 := Lib.hid (And.intro (H1.out.1.below hb) (And.intro (H1.out.2.1.below hb) (And.intro (H1.out.2.2.1.below hb) (H1.out.2.2.2.trans (hb.mono H1.out.2.2.2.size)))))
  clear hb H1 x0 x1 x2 x3 x4
  obtain ⟨y0, y1, y2, y3, y4⟩ := H2.out.2.2.1
  go_wp2_with fail
  refine (HF2.out _ H2.out.1).mono ?_
  rintro e w3 ⟨rfl, hb⟩
  have H3 := Lib.hid (And.intro (H2.out.1.below hb) (And.intro (H2.out.2.1.below hb) (And.intro (H2.out.2.2.1.below hb) (H2.out.2.2.2.trans (hb.mono H2.out.2.2.2.size)))))
  clear hb H2 y0 y1 y2 y3 y4
  obtain ⟨x0, x1, x2, x3, x4⟩ := H3.out.2.1
  obtain ⟨y0, y1, y2, y3, y4⟩ := H3.out.2.2.1
  go_wp2
  all_goals
    go_ret
    refine ⟨ret_bool ?_, H3.out.2.2.2⟩
    have hv := HV.out
    clear HV H3
    (by_cases e : v = v' <;> simp_all)

set_option maxHeartbeats 2000000 in
theorem walk_half (op rd r1 r2 imm op' rd' r1' r2' imm' v v' : Int) (w : World) (hT : Tabs w)
    (HE : ∀ w : World, Tabs w → Calls Tryd.prog 10 #[.agg (insA op rd r1 r2 imm)] w fun e w' => e = .returned (.tuple #[.int .u32 v, .int .i64 0]) ∧ Below w.heap.size w w')
    (HF : ∀ w : World, Tabs w → Calls Tryd.prog 10 #[.agg (insA op' rd' r1' r2' imm')] w fun e w' => e = .returned (.tuple #[.int .u32 v', .int .i64 1]) ∧ Below w.heap.size w w') :
    Calls Tryd.prog 5 #[.agg (insA op rd r1 r2 imm), .agg (insA op' rd' r1' r2' imm')] w fun e w' => e = .returned (.bool true) ∧ Below w.heap.size w w' := by
  unfold insA at HE HF ⊢
  have HT := Lib.hid ((hT.alloc (.cells #[.int .i64 op, .int .i64 rd, .int .i64 r1, .int .i64 r2, .int .i64 imm] 23)).alloc (.cells #[.int .i64 op', .int .i64 rd', .int .i64 r1', .int .i64 r2', .int .i64 imm'] 23))
  have HE2 := Lib.hid HE
  have HF2 := Lib.hid HF
  skip
  clear hT HE HF 
  go_enter Tryd.func5, Tryd.ntmps5
  go_wp2_with fail
  refine (awake_any _ HT.out).mono ?_
  rintro e w1 ⟨rfl, t1, hb⟩
  obtain ⟨hx, hy, hc⟩ := two_boxes hb
  have H1 := Lib.hid (And.intro t1 (And.intro hx (And.intro hy hc)))
  clear t1 hb hc HT
  obtain ⟨x0, x1, x2, x3, x4⟩ := hx
  clear hy
  go_wp2_with fail
  refine (HE2.out _ H1.out.1).mono ?_
  rintro e w2 ⟨rfl, hb⟩
  have H2 := Lib.hid (And.intro (H1.out.1.below hb) (And.intro (H1.out.2.1.below hb) (And.intro (H1.out.2.2.1.below hb) (H1.out.2.2.2.trans (hb.mono H1.out.2.2.2.size)))))
  clear hb H1 x0 x1 x2 x3 x4
  obtain ⟨y0, y1, y2, y3, y4⟩ := H2.out.2.2.1
  go_wp2_with fail
  refine (HF2.out _ H2.out.1).mono ?_
  rintro e w3 ⟨rfl, hb⟩
  have H3 := Lib.hid (And.intro (H2.out.1.below hb) (And.intro (H2.out.2.1.below hb) (And.intro (H2.out.2.2.1.below hb) (H2.out.2.2.2.trans (hb.mono H2.out.2.2.2.size)))))
  clear hb H2 y0 y1 y2 y3 y4
  obtain ⟨x0, x1, x2, x3, x4⟩ := H3.out.2.1
  obtain ⟨y0, y1, y2, y3, y4⟩ := H3.out.2.2.1
  go_wp2
  go_ret
  exact ⟨rfl, H3.out.2.2.2⟩

set_option maxHeartbeats 2000000 in
theorem walk_bad0 (op rd r1 r2 imm op' rd' r1' r2' imm' v v' : Int) (w : World) (hT : Tabs w)
    (HE : ∀ w : World, Tabs w → Calls Tryd.prog 10 #[.agg (insA op rd r1 r2 imm)] w fun e w' => e = .returned (.tuple #[.int .u32 v, .int .i64 1]) ∧ Below w.heap.size w w')
    (HF : ∀ w : World, Tabs w → Calls Tryd.prog 10 #[.agg (insA op' rd' r1' r2' imm')] w fun e w' => e = .returned (.tuple #[.int .u32 v', .int .i64 0]) ∧ Below w.heap.size w w')
    (HM : ∀ w : World, Calls Tryd.prog 13 #[.agg (insA op rd r1 r2 imm)] w fun e w' => e = .returned (.bool false) ∧ Below w.heap.size w w') :
    Calls Tryd.prog 5 #[.agg (insA op rd r1 r2 imm), .agg (insA op' rd' r1' r2' imm')] w fun e w' => e = .returned (.bool true) ∧ Below w.heap.size w w' := by
  unfold insA at HE HF HM ⊢
  have HT := Lib.hid ((hT.alloc (.cells #[.int .i64 op, .int .i64 rd, .int .i64 r1, .int .i64 r2, .int .i64 imm] 23)).alloc (.cells #[.int .i64 op', .int .i64 rd', .int .i64 r1', .int .i64 r2', .int .i64 imm'] 23))
  have HE2 := Lib.hid HE
  have HF2 := Lib.hid HF
  have HM2 := Lib.hid HM
  clear hT HE HF HM
  go_enter Tryd.func5, Tryd.ntmps5
  go_wp2_with fail
  refine (awake_any _ HT.out).mono ?_
  rintro e w1 ⟨rfl, t1, hb⟩
  obtain ⟨hx, hy, hc⟩ := two_boxes hb
  have H1 := Lib.hid (And.intro t1 (And.intro hx (And.intro hy hc)))
  clear t1 hb hc HT
  obtain ⟨x0, x1, x2, x3, x4⟩ := hx
  clear hy
  go_wp2_with fail
  refine (HE2.out _ H1.out.1).mono ?_
  rintro e w2 ⟨rfl, hb⟩
  have H2 := Lib.hid (And.intro (H1.out.1.below hb) (And.intro (H1.out.2.1.below hb) (And.intro (H1.out.2.2.1.below hb) (H1.out.2.2.2.trans (hb.mono H1.out.2.2.2.size)))))
  clear hb H1 x0 x1 x2 x3 x4
  obtain ⟨y0, y1, y2, y3, y4⟩ := H2.out.2.2.1
  go_wp2_with fail
  refine (HF2.out _ H2.out.1).mono ?_
  rintro e w3 ⟨rfl, hb⟩
  have H3 := Lib.hid (And.intro (H2.out.1.below hb) (And.intro (H2.out.2.1.below hb) (And.intro (H2.out.2.2.1.below hb) (H2.out.2.2.2.trans (hb.mono H2.out.2.2.2.size)))))
  clear hb H2 y0 y1 y2 y3 y4
  obtain ⟨x0, x1, x2, x3, x4⟩ := H3.out.2.1
  obtain ⟨y0, y1, y2, y3, y4⟩ := H3.out.2.2.1
  go_wp2_with fail
  refine (HM2.out _).mono ?_
  rintro e w4 ⟨rfl, hb⟩
  have H4 := Lib.hid (H3.out.2.2.2.trans (hb.mono H3.out.2.2.2.size))
  clear hb H3
  go_wp2
  go_ret
  exact ⟨rfl, H4.out⟩

set_option maxHeartbeats 2000000 in
theorem walk_bad1 (op rd r1 r2 imm op' rd' r1' r2' imm' v v' : Int) (w : World) (hT : Tabs w)
    (HE : ∀ w : World, Tabs w → Calls Tryd.prog 10 #[.agg (insA op rd r1 r2 imm)] w fun e w' => e = .returned (.tuple #[.int .u32 v, .int .i64 1]) ∧ Below w.heap.size w w')
    (HF : ∀ w : World, Tabs w → Calls Tryd.prog 10 #[.agg (insA op' rd' r1' r2' imm')] w fun e w' => e = .returned (.tuple #[.int .u32 v', .int .i64 1]) ∧ Below w.heap.size w w')
    (HM : ∀ w : World, Calls Tryd.prog 13 #[.agg (insA op rd r1 r2 imm)] w fun e w' => e = .returned (.bool false) ∧ Below w.heap.size w w') :
    Calls Tryd.prog 5 #[.agg (insA op rd r1 r2 imm), .agg (insA op' rd' r1' r2' imm')] w fun e w' => e = .returned (.bool true) ∧ Below w.heap.size w w' := by
  unfold insA at HE HF HM ⊢
  have HT := Lib.hid ((hT.alloc (.cells #[.int .i64 op, .int .i64 rd, .int .i64 r1, .int .i64 r2, .int .i64 imm] 23)).alloc (.cells #[.int .i64 op', .int .i64 rd', .int .i64 r1', .int .i64 r2', .int .i64 imm'] 23))
  have HE2 := Lib.hid HE
  have HF2 := Lib.hid HF
  have HM2 := Lib.hid HM
  clear hT HE HF HM
  go_enter Tryd.func5, Tryd.ntmps5
  go_wp2_with fail
  refine (awake_any _ HT.out).mono ?_
  rintro e w1 ⟨rfl, t1, hb⟩
  obtain ⟨hx, hy, hc⟩ := two_boxes hb
  have H1 := Lib.hid (And.intro t1 (And.intro hx (And.intro hy hc)))
  clear t1 hb hc HT
  obtain ⟨x0, x1, x2, x3, x4⟩ := hx
  clear hy
  go_wp2_with fail
  refine (HE2.out _ H1.out.1).mono ?_
  rintro e w2 ⟨rfl, hb⟩
  have H2 := Lib.hid (And.intro (H1.out.1.below hb) (And.intro (H1.out.2.1.below hb) (And.intro (H1.out.2.2.1.below hb) (H1.out.2.2.2.trans (hb.mono H1.out.2.2.2.size)))))
  clear hb H1 x0 x1 x2 x3 x4
  obtain ⟨y0, y1, y2, y3, y4⟩ := H2.out.2.2.1
  go_wp2_with fail
  refine (HF2.out _ H2.out.1).mono ?_
  rintro e w3 ⟨rfl, hb⟩
  have H3 := Lib.hid (And.intro (H2.out.1.below hb) (And.intro (H2.out.2.1.below hb) (And.intro (H2.out.2.2.1.below hb) (H2.out.2.2.2.trans (hb.mono H2.out.2.2.2.size)))))
  clear hb H2 y0 y1 y2 y3 y4
  obtain ⟨x0, x1, x2, x3, x4⟩ := H3.out.2.1
  obtain ⟨y0, y1, y2, y3, y4⟩ := H3.out.2.2.1
  go_wp2_with fail
  refine (HM2.out _).mono ?_
  rintro e w4 ⟨rfl, hb⟩
  have H4 := Lib.hid (H3.out.2.2.2.trans (hb.mono H3.out.2.2.2.size))
  clear hb H3
  go_wp2
  go_ret
  exact ⟨rfl, H4.out⟩

theorem walk (a0 a1 a2 a3 a4 b0 b1 b2 b3 b4 : Int) (w : World) (w0 : (Lit.int .i64 a0).wf = true) (w1 : (Lit.int .i64 a1).wf = true) (w2 : (Lit.int .i64 a2).wf = true) (w3 : (Lit.int .i64 a3).wf = true) (w4 : (Lit.int .i64 a4).wf = true) (v0 : (Lit.int .i64 b0).wf = true) (v1 : (Lit.int .i64 b1).wf = true) (v2 : (Lit.int .i64 b2).wf = true) (v3 : (Lit.int .i64 b3).wf = true) (v4 : (Lit.int .i64 b4).wf = true) (hT : Tabs w) :
    Calls Tryd.prog 5 #[.agg (insA a0 a1 a2 a3 a4), .agg (insA b0 b1 b2 b3 b4)] w fun e w' => e = .returned (.bool true) ∧ Below w.heap.size w w' := by
  obtain ⟨i1, i2, i3, i4⟩ : IsI a1 ∧ IsI a2 ∧ IsI a3 ∧ IsI a4 := by
    have := bounds_i64 w1
    have := bounds_i64 w2
    have := bounds_i64 w3
    have := bounds_i64 w4
    exact ⟨⟨by omega, by omega⟩, ⟨by omega, by omega⟩, ⟨by omega, by omega⟩, ⟨by omega, by omega⟩⟩
  obtain ⟨j1, j2, j3, j4⟩ : IsI b1 ∧ IsI b2 ∧ IsI b3 ∧ IsI b4 := by
    have := bounds_i64 v1
    have := bounds_i64 v2
    have := bounds_i64 v3
    have := bounds_i64 v4
    exact ⟨⟨by omega, by omega⟩, ⟨by omega, by omega⟩, ⟨by omega, by omega⟩, ⟨by omega, by omega⟩⟩
  have key (op rd r1 r2 imm : Int) (i1 : IsI rd) (i2 : IsI r1) (i3 : IsI r2) (i4 : IsI imm) :
      (∃ n : Nat, op = n ∧ n < 43 ∧ mayB n rd r1 r2 imm = true) ∨ ((∀ w : World, Tabs w → Calls Tryd.prog 10 #[.agg (insA op rd r1 r2 imm)] w fun e w' => e = .returned (.tuple #[.int .u32 0, .int .i64 1]) ∧ Below w.heap.size w w') ∧ (∀ w : World, Calls Tryd.prog 13 #[.agg (insA op rd r1 r2 imm)] w fun e w' => e = .returned (.bool false) ∧ Below w.heap.size w w')) := by
    by_cases h : 0 ≤ op ∧ op < 43
    · obtain ⟨n, rfl⟩ := Int.eq_ofNat_of_zero_le h.1
      have hn : n < 43 := by omega
      cases hM : mayB n rd r1 r2 imm with
      | true => exact .inl ⟨n, rfl, hn, hM⟩
      | false => exact .inr ⟨fun w hT => encode_no n rd r1 r2 imm w hn hT i1 i2 i3 hM, fun w => hM ▸ rmay_in n rd r1 r2 imm w hn i4⟩
    · exact .inr ⟨fun w _ => encode_out op rd r1 r2 imm w (by omega), fun w => rmay_out op rd r1 r2 imm w (by omega)⟩
  rcases key a0 a1 a2 a3 a4 i1 i2 i3 i4 with ⟨n, rfl, hn, hM⟩ | ⟨hE, hM⟩
  · rcases key b0 b1 b2 b3 b4 j1 j2 j3 j4 with ⟨m, rfl, hm, hN⟩ | ⟨hF, hN⟩
    · refine walk_ok _ _ _ _ _ _ _ _ _ _ _ _ w hT (fun w hT => encode_yes n a1 a2 a3 a4 w hn hT i1 i2 i3 hM) (fun w hT => encode_yes m b1 b2 b3 b4 w hm hT j1 j2 j3 hN) ⟨fun e => ?_, ?_⟩
      · obtain ⟨rfl, a, b, c, d⟩ := same_of_word hn hm hM hN e
        exact ⟨rfl, a, b, c, d⟩
      · rintro ⟨e, rfl, rfl, rfl, rfl⟩
        have : n = m := by omega
        subst this
        rfl
    · exact walk_half _ _ _ _ _ _ _ _ _ _ _ _ w hT (fun w hT => encode_yes n a1 a2 a3 a4 w hn hT i1 i2 i3 hM) hF
  · rcases key b0 b1 b2 b3 b4 j1 j2 j3 j4 with ⟨m, rfl, hm, hN⟩ | ⟨hF, hN⟩
    · exact walk_bad0 _ _ _ _ _ _ _ _ _ _ _ _ w hT hE (fun w hT => encode_yes m b1 b2 b3 b4 w hm hT j1 j2 j3 hN) hM
    · exact walk_bad1 _ _ _ _ _ _ _ _ _ _ _ _ w hT hE hF hM
end Go.Proofs.YtkcimpfbeghfkaaDoor.InsApartWalk
