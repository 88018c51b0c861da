/- The walk of the statement MemFetch: it returns true, and writes nothing that was there. -/
import Derived.Test.YtpfohbinjcdcbaaMemOne
namespace Go.Proofs.Ytpfohbinjcdcbaa.MemFetchWalk
open Go.RowKit Go.Maps
set_option linter.unusedVariables false

def BF (x y : Int) : Nat → List Int := setB (zerosB (T1 8 40 x y)) 0 (splice (zerosB (T1 8 40 x y) 0) (8 - rlo (nthR (T1 8 40 x y) 0)).toNat [1, 2, 3, 4, 5, 6, 7, 8, 9, 10, 11, 12])
theorem bf_word {x y a : Int} (h0 : 8 ≤ a) (h1 : a ≤ 36) (h2 : a % 4 = 0) :
    wordI (cut (T1 8 40 x y) (BF x y) a 4 0) = if a < 20 then a - 7 + (a - 7 + 1) * 256 + (a - 7 + 2) * 65536 + (a - 7 + 3) * 16777216 else 0 := by
  have : a = 8 ∨ a = 12 ∨ a = 16 ∨ a = 20 ∨ a = 24 ∨ a = 28 ∨ a = 32 ∨ a = 36 := by omega
  show wordI (((splice (List.replicate 32 (0 : Int)) 0 [1, 2, 3, 4, 5, 6, 7, 8, 9, 10, 11, 12]).drop (a - 8).toNat).take 4) = _
  rcases this with rfl | rfl | rfl | rfl | rfl | rfl | rfl | rfl <;> decide
theorem all12 : AllB [1, 2, 3, 4, 5, 6, 7, 8, 9, 10, 11, 12] := by
  intro x hx
  simp at hx
  omega
/-- may it be fetched? -/
def Good (x y : Int) (own : Bool) (a : Int) : Prop := (if own then x else y) / 4 = 1 ∧ a % 4 = 0 ∧ 8 ≤ a ∧ a ≤ 36
theorem good_yes {x y a : Int} {own : Bool} (hx : 0 ≤ x ∧ x ≤ 7) (hy : 0 ≤ y ∧ y ≤ 7) (h : Good x y own a) : AllYes (T1 8 40 x y) a 4 own 4 0 := by
  obtain ⟨h0, h1, h2, h3⟩ := h
  refine ⟨by unfold accB; rw [decide_eq_true_eq]; omega, t1_f h2 (by omega) (by omega), ?_⟩
  rw [t1_right, has4 (by split <;> omega) (by split <;> omega), decide_eq_true_eq]
  exact h0
theorem good_no {x y a : Int} {own : Bool} (hx : 0 ≤ x ∧ x ≤ 7) (hy : 0 ≤ y ∧ y ≤ 7) (h : ¬ Good x y own a) : AllNo (T1 8 40 x y) a 4 own 4 := by
  by_cases h1 : a % 4 = 0
  · by_cases h2 : 8 ≤ a ∧ a ≤ 36
    · refine .inr (.inr ⟨0, t1_f h2.1 (by omega) (by omega), ?_⟩)
      rw [t1_right, has4 (by split <;> omega) (by split <;> omega), decide_eq_false_iff_not]
      exact fun h0 => h ⟨h0, h1, h2⟩
    · exact .inr (.inl (t1_n (by omega) (by omega)))
  · exact .inl (by unfold accB; rw [decide_eq_false_iff_not]; omega)
set_option maxHeartbeats 1000000 in
theorem walk (a0 : Int) (a1 : Bool) (a2 : Int) (w : World) (w0 : (Lit.int .u8 a0).wf = true) (w2 : (Lit.int .u8 a2).wf = true) :
    Calls Try.prog 7 #[.int .u8 a0, .bool a1, .int .u8 a2] w fun e w' => e = .returned (.bool true) ∧ Below w.heap.size w w' := by
  obtain ⟨p0, p1⟩ := bounds_u8 w0
  obtain ⟨r0, r1⟩ := bounds_u8 w2
  have hx : 0 ≤ a2 % 8 ∧ a2 % 8 ≤ 7 := by omega
  have hy : 0 ≤ a2 / 8 % 8 ∧ a2 / 8 % 8 ≤ 7 := by omega
  have HX := Lib.hid hx
  have HY := Lib.hid hy
  clear w0 w2 hx hy
  go_enter Try.func7, Try.ntmps7
  go_wp2_with fail
  refine (awakeM _).mono ?_
  rintro e w1 ⟨rfl, hb1⟩
  have H1 := Lib.hid hb1
  clear hb1
  go_wp2_with fail
  refine (new_yes _ 0 1 (T1 8 40 (a2 % 8) (a2 / 8 % 8)) 1 rfl (t1_w (by omega) (by omega) (by omega) HX.out HY.out) (t1_may (by omega) (by omega) (by omega) (by omega) (by omega) HX.out HY.out) _ (t1_tab _)).mono ?_
  rintro e w2 ⟨m, tb, tc, hb, G, rfl, hI, hb2⟩
  have HI := Lib.hid (hI.rebase (Nat.le_trans H1.out.size (by simp)))
  have H2 := Lib.hid ((H1.out.alloc H1.out.size _).trans (hb2.mono (Nat.le_trans H1.out.size (by simp))))
  clear hI hb2 H1
  go_wp2_with fail
  have B3 : Below w2.heap.size w2 (w2.alloc (.cells (([1, 2, 3, 4, 5, 6, 7, 8, 9, 10, 11, 12] : List Int).map (Value.int .u8)).toArray 5)) := (Below.refl _ _).alloc (Nat.le_refl _) _
  refine (poke_yes w.heap.size m tb tc hb 1 (T1 8 40 (a2 % 8) (a2 / 8 % 8)) G (zerosB (T1 8 40 (a2 % 8) (a2 / 8 % 8))) 8 ⟨w2.heap.size, 0, none⟩ 12 12 [1, 2, 3, 4, 5, 6, 7, 8, 9, 10, 11, 12] 0 ⟨by omega, by omega⟩ (by omega) _ (HI.out.below B3) (t1_f (by omega) (by omega) (by omega)) rfl all12 (sl_new w2 _)).mono ?_
  rintro e w3 ⟨rfl, hI3, hg3⟩
  have HI3 := Lib.hid (show MemIs w3 w.heap.size m tb tc hb 1 (T1 8 40 (a2 % 8) (a2 / 8 % 8)) G (BF (a2 % 8) (a2 / 8 % 8)) from hI3)
  have H3 := Lib.hid ((H2.out.alloc H2.out.size _).grown hg3 (Nat.le_trans H2.out.size (by simp)) (fun j hj => by cases hj; exact HI.out.from_ 0 (by omega)))
  clear hI3 hg3 B3 HI H2
  go_wp2_with fail
  have m0 : 0 ≤ a0 % 48 := by omega
  have m1 : a0 % 48 < 48 := by omega
  generalize a0 % 48 = a at *
  clear p0 p1
  by_cases hg : Good (a2 % 8) (a2 / 8 % 8) a1 a
  · have HG := Lib.hid hg
    have HW := Lib.hid (bf_word (x := a2 % 8) (y := a2 / 8 % 8) hg.2.2.1 hg.2.2.2 hg.2.1)
    clear hg
    refine (fetch_yes _ m tb tc hb 1 _ G _ a a1 0 ⟨by omega, by omega⟩ _ HI3.out (good_yes HX.out HY.out HG.out)).mono ?_
    rw [HW.out]
    rintro e w4 ⟨rfl, hb4⟩
    have H4 := Lib.hid (H3.out.trans (hb4.mono H3.out.size))
    clear hb4 H3
    cases a1
    all_goals
      by_cases hlt : a < 20
      all_goals
        go_wp2
        all_goals first
          | (exfalso; have hq := HG.out; unfold Good at hq; simp at hq; omega)
          | (go_ret; exact ⟨rfl, H4.out⟩)
  · have HG := Lib.hid hg
    clear hg
    refine (fetch_no _ m tb tc hb 1 _ G _ a a1 ⟨by omega, by omega⟩ _ HI3.out (good_no HX.out HY.out HG.out)).mono ?_
    rintro e w4 ⟨rfl, hb4⟩
    have H4 := Lib.hid (H3.out.trans (hb4.mono H3.out.size))
    clear hb4 H3
    cases a1
    all_goals
      go_wp2
      all_goals first
        | (exfalso; have hq := HG.out; unfold Good at hq; simp at hq; omega)
        | (go_ret; exact ⟨rfl, H4.out⟩)
end Go.Proofs.Ytpfohbinjcdcbaa.MemFetchWalk
