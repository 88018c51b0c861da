/- The walk of the statement InsEncodes: it returns true, and writes nothing that was there. Condition: the two tables of package ins read as they should. -/
import Derived.Test.YtkcimpfbeghfkaaDoorInsAwake
import Derived.Test.YtkcimpfbeghfkaaDoorInsDec
import Derived.Test.YtkcimpfbeghfkaaDoorInsBack
import Derived.Test.YtkcimpfbeghfkaaDoorInsOpen
import Derived.Test.YtkcimpfbeghfkaaDoorInsLaid
import Derived.Test.YtkcimpfbeghfkaaDoorInsREncAll
namespace Go.Proofs.YtkcimpfbeghfkaaDoor.InsEncodesWalk
open Go.RowKit
set_option linter.unusedVariables false
abbrev Enc0 (w0 w : World) (op rd r1 r2 imm : Int) : Prop := Tabs w ∧ InsC w w0.heap.size op rd r1 r2 imm ∧ Below w0.heap.size w0 w
theorem enc0_new {w : World} {op rd r1 r2 imm : Int} (hT : Tabs w) : Enc0 w (w.alloc (.cells #[.int .i64 op, .int .i64 rd, .int .i64 r1, .int .i64 r2, .int .i64 imm] 23)) op rd r1 r2 imm :=
  ⟨hT.alloc _, insC_new (t := 23), (Below.refl w.heap.size w).alloc (Nat.le_refl _) _⟩
theorem enc0_below {w0 w w' : World} {op rd r1 r2 imm : Int} (h : Enc0 w0 w op rd r1 r2 imm) (hb : Below w.heap.size w w') : Enc0 w0 w' op rd r1 r2 imm :=
  ⟨h.1.below hb, h.2.1.below hb, h.2.2.trans (hb.mono h.2.2.size)⟩
theorem enc0_tabs {w0 w : World} {op rd r1 r2 imm : Int} (h : Enc0 w0 w op rd r1 r2 imm) : Tabs w := h.1
theorem enc0_drew {w0 w : World} {op rd r1 r2 imm : Int} (h : Enc0 w0 w op rd r1 r2 imm) : Enc0 w0 w.drew op rd r1 r2 imm :=
  enc0_below h (Below.drew (Below.refl _ _))
theorem enc0_drewN {w0 w : World} {op rd r1 r2 imm : Int} (h : Enc0 w0 w op rd r1 r2 imm) (n : Nat) : Enc0 w0 (w.drewN n) op rd r1 r2 imm :=
  enc0_below h (below_drewN (Below.refl _ _) n)
set_option maxRecDepth 100000 in
set_option maxHeartbeats 2000000 in
theorem walk_ok (op rd r1 r2 imm v : Int) (L : ByteArray) (w : World) (hT : Tabs w)
    (HE : ∀ w : World, Tabs w → Calls Tryd.prog 10 #[.agg #[.int .i64 op, .int .i64 rd, .int .i64 r1, .int .i64 r2, .int .i64 imm]] w fun e w' => e = .returned (.tuple #[.int .u32 v, .int .i64 0]) ∧ Below w.heap.size w w')
    (HR : ∀ w : World, Calls Tryd.prog 11 #[.agg #[.int .i64 op, .int .i64 rd, .int .i64 r1, .int .i64 r2, .int .i64 imm]] w fun e w' => e = .returned (.tuple #[.int .u32 v, .int .i64 0]) ∧ Below w.heap.size w w')
    (HM : ∀ w : World, Tabs w → Calls Tryd.prog 12 #[.agg #[.int .i64 op, .int .i64 rd, .int .i64 r1, .int .i64 r2, .int .i64 imm]] w fun e w' => e = .returned (.bool true) ∧ Below w.heap.size w w')
    (HN : ∀ w : World, Calls Tryd.prog 13 #[.agg #[.int .i64 op, .int .i64 rd, .int .i64 r1, .int .i64 r2, .int .i64 imm]] w fun e w' => e = .returned (.bool true) ∧ Below w.heap.size w w')
    (HF : ∀ w : World, Tabs w → Calls Tryd.prog 14 #[.int .i64 op] w fun e w' => e = .returned (.string L) ∧ w = w')
    (HG : ∀ w : World, Calls Tryd.prog 15 #[.int .i64 op] w fun e w' => e = .returned (.string L) ∧ w = w')
    (HD : ∀ w : World, Tabs w → Calls Tryd.prog 16 #[.int .u32 v] w fun e w' => e = .returned (.tuple #[.agg #[.int .i64 op, .int .i64 rd, .int .i64 r1, .int .i64 r2, .int .i64 imm], .int .i64 0]) ∧ Below w.heap.size w w') :
    Calls Tryd.prog 3 #[.agg #[.int .i64 op, .int .i64 rd, .int .i64 r1, .int .i64 r2, .int .i64 imm]] w fun e w' => e = .returned (.bool true) ∧ Below w.heap.size w w' := by
  have h0 : Enc0 w (w.alloc (.cells #[.int .i64 op, .int .i64 rd, .int .i64 r1, .int .i64 r2, .int .i64 imm] 23)) op rd r1 r2 imm := enc0_new hT
  have KHE := Lib.hid HE
  have KHR := Lib.hid HR
  have KHM := Lib.hid HM
  have KHN := Lib.hid HN
  have KHF := Lib.hid HF
  have KHG := Lib.hid HG
  have KHD := Lib.hid HD
  clear hT HE HR HM HN HF HG HD
  have H1 := Lib.hid h0
  clear h0
  go_enter Tryd.func3, Tryd.ntmps3
  go_wp2_with fail
  refine (awake_any _ H1.out.1).mono ?_
  rintro e w' ⟨rfl, _, hb⟩
  have hh := enc0_below H1.out hb
  clear H1 hb
  have H1 := Lib.hid hh
  clear hh
  obtain ⟨_, ⟨x0, x1, x2, x3, x4⟩, _⟩ := H1.out
  go_wp2_with fail
  refine (KHE.out _ H1.out.1).mono ?_
  rintro e w' ⟨rfl, hb⟩
  have hh := enc0_below H1.out hb
  clear H1 hb x0 x1 x2 x3 x4
  have H1 := Lib.hid hh
  clear hh
  obtain ⟨_, ⟨x0, x1, x2, x3, x4⟩, _⟩ := H1.out
  go_wp2_with fail
  refine (KHR.out _).mono ?_
  rintro e w' ⟨rfl, hb⟩
  have hh := enc0_below H1.out hb
  clear H1 hb x0 x1 x2 x3 x4
  have H1 := Lib.hid hh
  clear hh
  obtain ⟨_, ⟨x0, x1, x2, x3, x4⟩, _⟩ := H1.out
  go_wp2_with fail
  have hS : Tabs w' ∧ InsC w' w.heap.size op rd r1 r2 imm ∧ Below w.heap.size w w' := H1.out
  clear H1 x0 x1 x2 x3 x4
  go_region_held3 (fun w' => Tabs w' ∧ InsC w' w.heap.size op rd r1 r2 imm ∧ Below w.heap.size w w') (first | (with_reducible assumption) | ((with_reducible apply enc0_drew); (with_reducible assumption)) | ((with_reducible apply enc0_drewN); (with_reducible assumption)) | ((with_reducible apply enc0_below); (with_reducible assumption); (with_reducible assumption)))
    (first
    | (go_at_call 12; (with_reducible refine (KHM.out _ ?ht).mono ?_); (case ht => (first | (with_reducible assumption) | ((with_reducible apply enc0_tabs); (with_reducible assumption)))); rintro e w' ⟨rfl, hb⟩)
    | (go_at_call 13; (with_reducible refine (KHN.out _).mono ?_); rintro e w' ⟨rfl, hb⟩)
    | (go_at_call 14; (with_reducible refine (KHF.out _ ?ht).mono ?_); (case ht => (first | (with_reducible assumption) | ((with_reducible apply enc0_tabs); (with_reducible assumption)))); rintro e w' ⟨rfl, rfl⟩)
    | (go_at_call 15; (with_reducible refine (KHG.out _).mono ?_); rintro e w' ⟨rfl, rfl⟩))
  rename_i hh
  have H1 := Lib.hid hh
  obtain ⟨_, ⟨x0, x1, x2, x3, x4⟩, _⟩ := hh
  clear hS
  go_wp2_with fail
  refine (KHD.out _ H1.out.1).mono ?_
  rintro e w' ⟨rfl, hb⟩
  have hh := enc0_below H1.out hb
  clear H1 hb x0 x1 x2 x3 x4
  have H1 := Lib.hid hh
  clear hh
  obtain ⟨_, ⟨x0, x1, x2, x3, x4⟩, _⟩ := H1.out
  clear x0 x1 x2 x3 x4
  have hz := enc0_below H1.out ((Below.refl w'.heap.size w').alloc (Nat.le_refl _) (.cells #[.int .i64 op, .int .i64 rd, .int .i64 r1, .int .i64 r2, .int .i64 imm] 23))
  clear H1
  have H1 := Lib.hid hz
  obtain ⟨_, ⟨x0, x1, x2, x3, x4⟩, _⟩ := hz
  go_wp2
  go_ret
  exact ⟨rfl, H1.out.2.2⟩
set_option maxRecDepth 100000 in
set_option maxHeartbeats 2000000 in
theorem walk_bad (op rd r1 r2 imm : Int) (L : ByteArray) (w : World) (hT : Tabs w)
    (HE : ∀ w : World, Tabs w → Calls Tryd.prog 10 #[.agg #[.int .i64 op, .int .i64 rd, .int .i64 r1, .int .i64 r2, .int .i64 imm]] w fun e w' => e = .returned (.tuple #[.int .u32 0, .int .i64 1]) ∧ Below w.heap.size w w')
    (HR : ∀ w : World, Calls Tryd.prog 11 #[.agg #[.int .i64 op, .int .i64 rd, .int .i64 r1, .int .i64 r2, .int .i64 imm]] w fun e w' => e = .returned (.tuple #[.int .u32 0, .int .i64 1]) ∧ Below w.heap.size w w')
    (HM : ∀ w : World, Tabs w → Calls Tryd.prog 12 #[.agg #[.int .i64 op, .int .i64 rd, .int .i64 r1, .int .i64 r2, .int .i64 imm]] w fun e w' => e = .returned (.bool false) ∧ Below w.heap.size w w')
    (HN : ∀ w : World, Calls Tryd.prog 13 #[.agg #[.int .i64 op, .int .i64 rd, .int .i64 r1, .int .i64 r2, .int .i64 imm]] w fun e w' => e = .returned (.bool false) ∧ Below w.heap.size w w')
    (HF : ∀ w : World, Tabs w → Calls Tryd.prog 14 #[.int .i64 op] w fun e w' => e = .returned (.string L) ∧ w = w')
    (HG : ∀ w : World, Calls Tryd.prog 15 #[.int .i64 op] w fun e w' => e = .returned (.string L) ∧ w = w') :
    Calls Tryd.prog 3 #[.agg #[.int .i64 op, .int .i64 rd, .int .i64 r1, .int .i64 r2, .int .i64 imm]] w fun e w' => e = .returned (.bool true) ∧ Below w.heap.size w w' := by
  have h0 : Enc0 w (w.alloc (.cells #[.int .i64 op, .int .i64 rd, .int .i64 r1, .int .i64 r2, .int .i64 imm] 23)) op rd r1 r2 imm := enc0_new hT
  have KHE := Lib.hid HE
  have KHR := Lib.hid HR
  have KHM := Lib.hid HM
  have KHN := Lib.hid HN
  have KHF := Lib.hid HF
  have KHG := Lib.hid HG
  clear hT HE HR HM HN HF HG
  have H1 := Lib.hid h0
  clear h0
  go_enter Tryd.func3, Tryd.ntmps3
  go_wp2_with fail
  refine (awake_any _ H1.out.1).mono ?_
  rintro e w' ⟨rfl, _, hb⟩
  have hh := enc0_below H1.out hb
  clear H1 hb
  have H1 := Lib.hid hh
  clear hh
  obtain ⟨_, ⟨x0, x1, x2, x3, x4⟩, _⟩ := H1.out
  go_wp2_with fail
  refine (KHE.out _ H1.out.1).mono ?_
  rintro e w' ⟨rfl, hb⟩
  have hh := enc0_below H1.out hb
  clear H1 hb x0 x1 x2 x3 x4
  have H1 := Lib.hid hh
  clear hh
  obtain ⟨_, ⟨x0, x1, x2, x3, x4⟩, _⟩ := H1.out
  go_wp2_with fail
  refine (KHR.out _).mono ?_
  rintro e w' ⟨rfl, hb⟩
  have hh := enc0_below H1.out hb
  clear H1 hb x0 x1 x2 x3 x4
  have H1 := Lib.hid hh
  clear hh
  obtain ⟨_, ⟨x0, x1, x2, x3, x4⟩, _⟩ := H1.out
  go_wp2_with fail
  have hS : Tabs w' ∧ InsC w' w.heap.size op rd r1 r2 imm ∧ Below w.heap.size w w' := H1.out
  clear H1 x0 x1 x2 x3 x4
  go_region_held3 (fun w' => Tabs w' ∧ InsC w' w.heap.size op rd r1 r2 imm ∧ Below w.heap.size w w') (first | (with_reducible assumption) | ((with_reducible apply enc0_drew); (with_reducible assumption)) | ((with_reducible apply enc0_drewN); (with_reducible assumption)) | ((with_reducible apply enc0_below); (with_reducible assumption); (with_reducible assumption)))
    (first
    | (go_at_call 12; (with_reducible refine (KHM.out _ ?ht).mono ?_); (case ht => (first | (with_reducible assumption) | ((with_reducible apply enc0_tabs); (with_reducible assumption)))); rintro e w' ⟨rfl, hb⟩)
    | (go_at_call 13; (with_reducible refine (KHN.out _).mono ?_); rintro e w' ⟨rfl, hb⟩)
    | (go_at_call 14; (with_reducible refine (KHF.out _ ?ht).mono ?_); (case ht => (first | (with_reducible assumption) | ((with_reducible apply enc0_tabs); (with_reducible assumption)))); rintro e w' ⟨rfl, rfl⟩)
    | (go_at_call 15; (with_reducible refine (KHG.out _).mono ?_); rintro e w' ⟨rfl, rfl⟩))
  rename_i hh
  have H1 := Lib.hid hh
  obtain ⟨_, ⟨x0, x1, x2, x3, x4⟩, _⟩ := hh
  clear hS
  go_wp2
  go_ret
  exact ⟨rfl, H1.out.2.2⟩
theorem walk (a0 a1 a2 a3 a4 : Int) (w : World) (w0 : (Lit.int .i64 a0).wf = true) (w1 : (Lit.int .i64 a1).wf = true) (w2 : (Lit.int .i64 a2).wf = true) (w3 : (Lit.int .i64 a3).wf = true) (w4 : (Lit.int .i64 a4).wf = true) (hT : Tabs w) :
    Calls Tryd.prog 3 #[.agg (insA a0 a1 a2 a3 a4)] w fun e w' => e = .returned (.bool true) ∧ Below w.heap.size w w' := by
  obtain ⟨i1, i2, i3, i4⟩ : IsI a1 ∧ IsI a2 ∧ IsI a3 ∧ IsI a4 := by
    have := bounds_i64 w1
    have := bounds_i64 w2
    have := bounds_i64 w3
    have := bounds_i64 w4
    exact ⟨⟨by omega, by omega⟩, ⟨by omega, by omega⟩, ⟨by omega, by omega⟩, ⟨by omega, by omega⟩⟩
  by_cases h : 0 ≤ a0 ∧ a0 < 43
  · obtain ⟨n, rfl⟩ := Int.eq_ofNat_of_zero_le h.1
    have hn : n < 43 := by omega
    cases hM : mayB n a1 a2 a3 a4 with
    | true =>
      refine walk_ok n a1 a2 a3 a4 (encI n a1 a2 a3 a4) (letS (opS n)) w hT (fun w hT => encode_yes n a1 a2 a3 a4 w hn hT i1 i2 i3 hM) (fun w => renc_yes n a1 a2 a3 a4 w hn i4 hM) (fun w hT => hM ▸ may_any n a1 a2 a3 a4 w hn hT i1 i2 i3) (fun w => hM ▸ rmay_in n a1 a2 a3 a4 w hn i4) (fun w hT => form_yes n w hn hT) (fun w => rform_in n w hn) (fun w hT => ?_)
      obtain ⟨q0, q1, q2, q3, q4, q5⟩ := enc_read hn hM
      have D := decode_yes (encI n a1 a2 a3 a4) n w q0 hT hn q1
      rw [q2, q3, q4, q5] at D
      exact D
    | false =>
      exact walk_bad n a1 a2 a3 a4 (letS (opS n)) w hT (fun w hT => encode_no n a1 a2 a3 a4 w hn hT i1 i2 i3 hM) (fun w => renc_no n a1 a2 a3 a4 w hn i4 hM) (fun w hT => hM ▸ may_any n a1 a2 a3 a4 w hn hT i1 i2 i3) (fun w => hM ▸ rmay_in n a1 a2 a3 a4 w hn i4) (fun w hT => form_yes n w hn hT) (fun w => rform_in n w hn)
  · have h : a0 < 0 ∨ 43 ≤ a0 := by omega
    exact walk_bad a0 a1 a2 a3 a4 ⟨#[]⟩ w hT (fun w _ => encode_out a0 a1 a2 a3 a4 w h) (fun w => renc_out a0 a1 a2 a3 a4 w h) (fun w _ => may_no a0 a1 a2 a3 a4 w h) (fun w => rmay_out a0 a1 a2 a3 a4 w h) (fun w _ => form_no a0 w h) (fun w => rform_out a0 w h)
end Go.Proofs.YtkcimpfbeghfkaaDoor.InsEncodesWalk

