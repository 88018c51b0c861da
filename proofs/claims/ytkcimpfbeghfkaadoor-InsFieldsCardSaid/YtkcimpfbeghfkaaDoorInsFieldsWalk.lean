/- The walk of the statement InsFields: it returns true, and writes nothing that was there. Condition: the two tables of package ins read as they should. -/
import Derived.Test.YtkcimpfbeghfkaaDoorInsAwake
import Derived.Test.YtkcimpfbeghfkaaDoorInsBack
import Derived.Test.YtkcimpfbeghfkaaDoorInsOpen
import Derived.Test.YtkcimpfbeghfkaaDoorInsLaid
namespace Go.Proofs.YtkcimpfbeghfkaaDoor.InsFieldsWalk
open Go.RowKit
set_option linter.unusedVariables false
theorem form_let (n : Nat) (w : World) (h1 : n < 43) (hT : Tabs w) (L : UInt8) (hL : letS (opS n) = ⟨#[L]⟩) :
    Calls Tryd.prog 14 #[.int .i64 n] w fun e w' => e = .returned (.string ⟨#[L]⟩) ∧ w = w' := by
  rw [← hL]; exact form_yes n w h1 hT
theorem fld_int {w : Int} (h : 0 ≤ w) : fld w 7 5 = w / 128 % 32 ∧ fld w 15 5 = w / 32768 % 32 ∧ fld w 20 5 = w / 1048576 % 32 ∧ fld w 0 7 = w % 128 := by
  obtain ⟨k, rfl⟩ := Int.eq_ofNat_of_zero_le h
  refine ⟨?_, ?_, ?_, ?_⟩
  · show ((k / 128 % 32 : Nat) : Int) = _; omega
  · show ((k / 32768 % 32 : Nat) : Int) = _; omega
  · show ((k / 1048576 % 32 : Nat) : Int) = _; omega
  · show ((k / 1 % 128 : Nat) : Int) = _; omega
theorem opF4 {n : Nat} (hn : n < 43) : opF n % 4 = 3 := all43 (p := fun n => opF n % 4 = 3) (by decide +kernel) hn
/-- what the statement reads of the word -/
theorem facts {n : Nat} {rd r1 r2 imm : Int} (hn : n < 43) (h : mayB n rd r1 r2 imm = true) :
    0 ≤ encI n rd r1 r2 imm ∧ encI n rd r1 r2 imm < 4294967296 ∧ encI n rd r1 r2 imm % 4 = 3 ∧ (lRd (opS n) = true → encI n rd r1 r2 imm / 128 % 32 = rd) ∧ (lR1 (opS n) = true → encI n rd r1 r2 imm / 32768 % 32 = r1) ∧ (lR2 (opS n) = true → encI n rd r1 r2 imm / 1048576 % 32 = r2) := by
  obtain ⟨⟨w0, w1⟩, m, a, b, c, _⟩ := enc_read hn h
  obtain ⟨f0, f1, f2, f3⟩ := fld_int w0
  have f := m.1
  rw [f3] at f
  have h4 := opF4 hn
  refine ⟨w0, w1, by omega, fun e => ?_, fun e => ?_, fun e => ?_⟩
  · rw [e] at a; rw [← f0]; exact a
  · rw [e] at b; rw [← f1]; exact b
  · rw [e] at c; rw [← f2]; exact c
set_option maxHeartbeats 2000000 in
theorem walk_ok (n : Nat) (rd r1 r2 imm : Int) (w : World) (hT : Tabs w) (hn : n < 43) (i0 : IsI rd) (i1 : IsI r1) (i2 : IsI r2) (h : mayB n rd r1 r2 imm = true) (s : Nat) (hs : opS n = s) (h8 : s < 8) :
    Calls Tryd.prog 6 #[.agg (insA n rd r1 r2 imm)] w fun e w' => e = .returned (.bool true) ∧ Below w.heap.size w w' := by
  unfold insA
  have HT := Lib.hid (hT.alloc (.cells #[.int .i64 n, .int .i64 rd, .int .i64 r1, .int .i64 r2, .int .i64 imm] 23))
  have HM := Lib.hid h
  obtain ⟨w0, w1, q4, q0, q1, q2⟩ := facts hn h
  have HE (w : World) (hT : Tabs w) := encode_yes n rd r1 r2 imm w hn hT i0 i1 i2 h
  unfold insA at HE
  generalize encI n rd r1 r2 imm = v at *
  have p4 : (v % 4 != 3) = false := by rw [q4]; rfl
  have HE2 := Lib.hid HE
  have n0 : (0 : Int) ≤ n := by omega
  clear h hT q4 HE
  rw [hs] at q0 q1 q2
  have HX (W : World) (hb : Below (w.alloc (.cells #[.int .i64 n, .int .i64 rd, .int .i64 r1, .int .i64 r2, .int .i64 imm] 23)).heap.size (w.alloc (.cells #[.int .i64 n, .int .i64 rd, .int .i64 r1, .int .i64 r2, .int .i64 imm] 23)) W) : InsC W w.heap.size n rd r1 r2 imm := InsC.below (insC_new (t := 23)) hb
  have HX2 := Lib.hid HX
  have HB (W : World) (hb : Below (w.alloc (.cells #[.int .i64 n, .int .i64 rd, .int .i64 r1, .int .i64 r2, .int .i64 imm] 23)).heap.size (w.alloc (.cells #[.int .i64 n, .int .i64 rd, .int .i64 r1, .int .i64 r2, .int .i64 imm] 23)) W) : Below w.heap.size w W := ((Below.refl w.heap.size w).alloc (Nat.le_refl _) _).trans (hb.mono (by simp))
  have HB2 := Lib.hid HB
  clear HX HB
  have hL : letS (opS n) = ⟨#[lLet s]⟩ := by rw [hs]; rfl
  have HL := Lib.hid hL
  clear hL
  go_enter Tryd.func6, Tryd.ntmps6
  go_wp2_with fail
  refine (awake_any _ HT.out).mono ?_
  rintro e w1 ⟨rfl, t1, hb⟩
  have H1 := Lib.hid (And.intro t1 (HB2.out _ hb))
  have HX1 := HX2.out _ hb
  have HX3 := Lib.hid HX1
  obtain ⟨x0, x1, x2, x3, x4⟩ := HX1
  clear t1 hb HT
  go_wp2_with fail
  refine (HE2.out _ H1.out.1).mono ?_
  rintro e w2 ⟨rfl, hb⟩
  have H2 := Lib.hid (step_below H1.out hb)
  have HX4 := HX3.out.below hb
  clear hb x0 x1 x2 x3 x4 H1 HX3 HX2 HB2 HE2
  obtain ⟨x0, x1, x2, x3, x4⟩ := HX4
  go_wp2_with fail
  obtain rfl | rfl | rfl | rfl | rfl | rfl | rfl | rfl : s = 0 ∨ s = 1 ∨ s = 2 ∨ s = 3 ∨ s = 4 ∨ s = 5 ∨ s = 6 ∨ s = 7 := by omega
  all_goals
    first | (refine (form_let n _ hn H2.out.1 82 HL.out).mono ?_) | (refine (form_let n _ hn H2.out.1 73 HL.out).mono ?_) | (refine (form_let n _ hn H2.out.1 83 HL.out).mono ?_) | (refine (form_let n _ hn H2.out.1 66 HL.out).mono ?_) | (refine (form_let n _ hn H2.out.1 85 HL.out).mono ?_) | (refine (form_let n _ hn H2.out.1 74 HL.out).mono ?_) | (refine (form_let n _ hn H2.out.1 69 HL.out).mono ?_)
    rintro e w3 ⟨rfl, rfl⟩
    try have b0 : (v / 128 % 32 != rd) = false := by rw [q0 rfl]; simp
    try have b1 : (v / 32768 % 32 != r1) = false := by rw [q1 rfl]; simp
    try have b2 : (v / 1048576 % 32 == r2) = true := by rw [q2 rfl]; simp
    clear q0 q1 q2 hs
    go_wp2
    go_ret
    exact ⟨rfl, H2.out.2⟩
theorem walk_bad (op rd r1 r2 imm : Int) (w : World) (hT : Tabs w)
    (HE : ∀ w : World, Tabs w → Calls Tryd.prog 10 #[.agg (insA op rd r1 r2 imm)] w fun e w' => e = .returned (.tuple #[.int .u32 0, .int .i64 1]) ∧ Below w.heap.size w w') :
    Calls Tryd.prog 6 #[.agg (insA op rd r1 r2 imm)] w fun e w' => e = .returned (.bool true) ∧ Below w.heap.size w w' := by
  unfold insA at HE ⊢
  have HT := Lib.hid (hT.alloc (.cells #[.int .i64 op, .int .i64 rd, .int .i64 r1, .int .i64 r2, .int .i64 imm] 23))
  have HE2 := Lib.hid HE
  clear hT HE
  go_enter Tryd.func6, Tryd.ntmps6
  go_wp2_with fail
  refine (awake_any _ HT.out).mono ?_
  rintro e w1 ⟨rfl, t1, hb⟩
  have H1 := Lib.hid (show Tabs w1 ∧ Below w.heap.size w w1 from ⟨t1, ((Below.refl w.heap.size w).alloc (Nat.le_refl _) _).trans (hb.mono (by simp))⟩)
  obtain ⟨x0, x1, x2, x3, x4⟩ := InsC.below (insC_new (w := w) (op := op) (rd := rd) (r1 := r1) (r2 := r2) (imm := imm) (t := 23)) hb
  clear t1 hb HT
  go_wp2_with fail
  refine (HE2.out _ H1.out.1).mono ?_
  rintro e w2 ⟨rfl, hb⟩
  have H2 := Lib.hid (step_below H1.out hb)
  clear hb x0 x1 x2 x3 x4 H1
  go_wp2
  go_ret
  exact ⟨rfl, H2.out.2⟩
theorem walk (a0 a1 a2 a3 a4 : Int) (w : World) (w0 : (Lit.int .i64 a0).wf = true) (w1 : (Lit.int .i64 a1).wf = true) (w2 : (Lit.int .i64 a2).wf = true) (w3 : (Lit.int .i64 a3).wf = true) (w4 : (Lit.int .i64 a4).wf = true) (hT : Tabs w) :
    Calls Tryd.prog 6 #[.agg (insA a0 a1 a2 a3 a4)] w fun e w' => e = .returned (.bool true) ∧ Below w.heap.size w w' := by
  have b1 := bounds_i64 w1
  have b2 := bounds_i64 w2
  have b3 := bounds_i64 w3
  have i1 : IsI a1 := ⟨by omega, by omega⟩
  have i2 : IsI a2 := ⟨by omega, by omega⟩
  have i3 : IsI a3 := ⟨by omega, by omega⟩
  by_cases h : 0 ≤ a0 ∧ a0 < 43
  · obtain ⟨n, rfl⟩ := Int.eq_ofNat_of_zero_le h.1
    have hn : n < 43 := by omega
    cases hM : mayB n a1 a2 a3 a4 with
    | true => exact walk_ok n a1 a2 a3 a4 w hT hn i1 i2 i3 hM _ rfl (opS_lt hn)
    | false => exact walk_bad n a1 a2 a3 a4 w hT (fun w hT => encode_no n a1 a2 a3 a4 w hn hT i1 i2 i3 hM)
  · exact walk_bad a0 a1 a2 a3 a4 w hT (fun w _ => encode_out a0 a1 a2 a3 a4 w (by omega))
end Go.Proofs.YtkcimpfbeghfkaaDoor.InsFieldsWalk
