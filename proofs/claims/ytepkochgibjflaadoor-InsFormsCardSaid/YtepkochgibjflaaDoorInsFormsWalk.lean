/- The walk of the statement InsForms: it returns true, and writes nothing that was there. Condition: the two tables of package ins read as they should. -/
import Derived.Test.YtepkochgibjflaaDoorInsAwake
import Derived.Test.YtepkochgibjflaaDoorInsLaid
namespace Go.Proofs.YtepkochgibjflaaDoor.InsFormsWalk
open Go.RowKit
set_option linter.unusedVariables false
theorem may_zero {n : Nat} (hn : n < 43) : mayB n 0 0 0 0 = true := all43 (p := fun n => mayB n 0 0 0 0 = true) (by decide +kernel) hn
theorem may_bad {n : Nat} (r : Int) (h : 32 ≤ r) : mayB n r 0 0 0 = false := by
  unfold mayB fitB regB
  have h1 : decide (0 ≤ r ∧ r < 32) = false := by simp; omega
  have h2 : (r == 0) = false := by rw [beq_eq_false_iff_ne]; omega
  rw [h1, h2]
  cases lRd (opS n) <;> rfl
theorem letS_ne {s : Nat} (hs : s < 8) : (letS s).toList.isEmpty = false := all8 (p := fun s => (letS s).toList.isEmpty = false) (by decide +kernel) hs
theorem end_below {w0 w : World} (h : Tabs w ∧ Below w0.heap.size w0 w) : Below w0.heap.size w0 w := h.2
set_option maxHeartbeats 1000000 in
theorem walk_out (op rd : Int) (w : World) (hT : Tabs w) (h : op < 0 ∨ 43 ≤ op) :
    Calls Tryd.prog 3 #[.int .i64 op, .int .i64 rd] w fun e w' => e = .returned (.bool true) ∧ Below w.heap.size w w' := by
  have HT := Lib.hid hT
  have HO := Lib.hid h
  clear hT
  rcases h with h | h
  all_goals
    try have h' : ¬ op < 0 := by omega
    try have h'' : op > 42 := by omega
    go_enter Tryd.func3, Tryd.ntmps3
    go_wp2_with fail
    refine (awake_any _ HT.out).mono ?_
    rintro e w1 ⟨rfl, t1, hb⟩
    have H1 := Lib.hid (And.intro t1 hb)
    clear t1 hb HT
    go_wp2_with fail
    refine (form_no _ _ HO.out).mono ?_
    rintro e w2 ⟨rfl, rfl⟩
    go_wp2_with fail
    refine (may_out _ _ _ _ _ _ HO.out).mono ?_
    rintro e w3 ⟨rfl, hb⟩
    have H3 := Lib.hid (step_below ⟨(H1.out.1.alloc _).alloc _, (H1.out.2.alloc H1.out.2.size _).alloc (Nat.le_trans H1.out.2.size (by simp)) _⟩ hb)
    clear hb H1
    go_wp2
    go_ret
    exact ⟨rfl, H3.out.2⟩
theorem may_ok {n : Nat} (w : World) (hn : n < 43) (hT : Tabs w) : Calls Tryd.prog 6 #[.agg #[.int .i64 n, .int .i64 0, .int .i64 0, .int .i64 0, .int .i64 0]] w fun e w' => e = .returned (.bool true) ∧ Below w.heap.size w w' :=
  may_at n 0 0 0 0 w hn hT awI0 awI0 awI0 true (may_zero hn)
theorem may_not {n : Nat} (r : Int) (w : World) (hn : n < 43) (hT : Tabs w) (h : 32 ≤ r) (h1 : r ≤ 1000) : Calls Tryd.prog 6 #[.agg #[.int .i64 n, .int .i64 r, .int .i64 0, .int .i64 0, .int .i64 0]] w fun e w' => e = .returned (.bool false) ∧ Below w.heap.size w w' :=
  may_at n r 0 0 0 w hn hT ⟨by omega, by omega⟩ awI0 awI0 false (may_bad r h)
theorem ins_two {w w3 : World} {o : Obj} {t : TypeId} {op rd r1 r2 imm : Int} (hb : Below ((w.alloc o).alloc (.cells #[.int .i64 op, .int .i64 rd, .int .i64 r1, .int .i64 r2, .int .i64 imm] t)).heap.size ((w.alloc o).alloc (.cells #[.int .i64 op, .int .i64 rd, .int .i64 r1, .int .i64 r2, .int .i64 imm] t)) w3) : InsC w3 (w.heap.size + 1) op rd r1 r2 imm := by
  have e : w.heap.size + 1 = (w.alloc o).heap.size := by simp
  rw [e]
  exact InsC.below (insC_new (t := t)) hb
set_option maxHeartbeats 1000000 in
theorem walkYes (n : Nat) (rd : Int) (w : World) (hT : Tabs w) (hn : n < 43) (hr : IsI rd) :
    Calls Tryd.prog 3 #[.int .i64 n, .int .i64 rd] w fun e w' => e = .returned (.bool true) ∧ Below w.heap.size w w' := by
  have HT := Lib.hid hT
  have g0 : (0 : Int) ≤ n := by omega
  have g1 : ¬ (n : Int) < 0 := by omega
  have g2 : ¬ (n : Int) > 42 := by omega
  have hl := letS_ne (opS_lt hn)
  obtain ⟨i0, i1⟩ := hr
  clear hT
  by_cases hrd : rd < 0
  · go_enter Tryd.func3, Tryd.ntmps3
    go_wp2_with fail
    refine (awake_any _ HT.out).mono ?_
    rintro e w1 ⟨rfl, t1, hb⟩
    have H1 := Lib.hid (And.intro t1 hb)
    clear t1 hb HT
    go_wp2_with fail
    refine (form_yes n _ hn H1.out.1).mono ?_
    rintro e w2 ⟨rfl, rfl⟩
    go_wp2_with fail
    refine (may_ok _ hn ((H1.out.1.alloc _).alloc _)).mono ?_
    rintro e w3 ⟨rfl, hb⟩
    have H3 := Lib.hid (step_below ⟨(H1.out.1.alloc _).alloc _, (H1.out.2.alloc H1.out.2.size _).alloc (Nat.le_trans H1.out.2.size (by simp)) _⟩ hb)
    clear hb H1
    go_wp2
    go_ret
    exact ⟨rfl, H3.out.2⟩
  · have hrd' : 0 ≤ rd := by omega
    have hq0 : 0 ≤ rd % 100 := by omega
    have hq1 : rd % 100 < 100 := by omega
    go_enter Tryd.func3, Tryd.ntmps3
    go_wp2_with fail
    refine (awake_any _ HT.out).mono ?_
    rintro e w1 ⟨rfl, t1, hb⟩
    have H1 := Lib.hid (And.intro t1 hb)
    clear t1 hb HT
    go_wp2_with fail
    refine (form_yes n _ hn H1.out.1).mono ?_
    rintro e w2 ⟨rfl, rfl⟩
    go_wp2_with fail
    refine (may_ok _ hn ((H1.out.1.alloc _).alloc _)).mono ?_
    rintro e w3 ⟨rfl, hb⟩
    obtain ⟨x0, x1, x2, x3, x4⟩ := ins_two (op := n) (rd := 32 + rd % 100) (r1 := 0) (r2 := 0) (imm := 0) hb
    have H3 := Lib.hid (step_below ⟨(H1.out.1.alloc _).alloc _, (H1.out.2.alloc H1.out.2.size _).alloc (Nat.le_trans H1.out.2.size (by simp)) _⟩ hb)
    clear hb H1
    go_wp2_with fail
    refine (may_not _ _ hn H3.out.1 (by omega) (by omega)).mono ?_
    rintro e w4 ⟨rfl, hb⟩
    have H4 := Lib.hid (step_below H3.out hb)
    clear hb H3
    go_wp2
    go_ret
    exact ⟨rfl, H4.out.2⟩
theorem walk (a0 a1 : Int) (w : World) (w0 : (Lit.int .i64 a0).wf = true) (w1 : (Lit.int .i64 a1).wf = true) (hT : Tabs w) :
    Calls Tryd.prog 3 #[.int .i64 a0, .int .i64 a1] w fun e w' => e = .returned (.bool true) ∧ Below w.heap.size w w' := by
  have b0 := bounds_i64 w0
  have b1 := bounds_i64 w1
  by_cases h : 0 ≤ a0 ∧ a0 < 43
  · obtain ⟨n, rfl⟩ := Int.eq_ofNat_of_zero_le h.1
    exact walkYes n a1 w hT (by omega) ⟨by omega, by omega⟩
  · exact walk_out a0 a1 w hT (by omega)
end Go.Proofs.YtepkochgibjflaaDoor.InsFormsWalk
