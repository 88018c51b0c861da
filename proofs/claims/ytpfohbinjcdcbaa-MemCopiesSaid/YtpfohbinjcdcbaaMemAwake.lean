/- What the guard of layer 4's statements asks first is true: a few fixed answers of package mem. -/
import Derived.Test.YtpfohbinjcdcbaaMemBlank
namespace Go.Proofs.Ytpfohbinjcdcbaa
open Go.RowKit Go.Maps
set_option linter.unusedVariables false

def TT : List Rg := [(0, 16, 7, 1), (16, 32, 1, 3)]
theorem tt_w : TabW TT := by
  intro i hi
  have : i = 0 ∨ i = 1 := by simp [TT] at hi; omega
  rcases this with rfl | rfl
  · exact ⟨⟨by decide, by decide⟩, ⟨by decide, by decide⟩, ⟨by decide, by decide⟩, ⟨by decide, by decide⟩⟩
  · exact ⟨⟨by decide, by decide⟩, ⟨by decide, by decide⟩, ⟨by decide, by decide⟩, ⟨by decide, by decide⟩⟩
theorem tt_may : mayB TT = true := by decide
theorem table_any (w : World) : Calls Try.prog 22 #[] w fun e w' => e = .returned (.slice (some ⟨w.heap.size, 0, none⟩) 2 2) ∧ TabAt w' w.heap.size 0 TT ∧ Below w.heap.size w w' := by
  go_enter Try.func22, Try.ntmps22
  go_wp2
  go_ret
  refine ⟨rfl, fun i hi => ?_, (Below.refl _ _).alloc (Nat.le_refl _) _⟩
  have : i = 0 ∨ i = 1 := by simp [TT] at hi; omega
  rcases this with rfl | rfl
  · exact ⟨by simp [go_sem]; rfl, by simp [go_sem]; rfl, by simp [go_sem]; rfl, by simp [go_sem]; rfl⟩
  · exact ⟨by simp [go_sem]; rfl, by simp [go_sem]; rfl, by simp [go_sem]; rfl, by simp [go_sem]; rfl⟩
theorem tt_two {P : Nat → Prop} (h0 : P 0) (h1 : P 1) : ∀ j, j < TT.length → P j := by
  intro j hj
  have : j = 0 ∨ j = 1 := by simp [TT] at hj; omega
  rcases this with rfl | rfl
  · exact h0
  · exact h1
theorem tt_f0 : FindNo TT 12 8 := .inr (tt_two (by decide) (by decide))
theorem tt_f (q : Int) (h : q = 1 ∨ q = 4 ∨ q = 8) : FindYes TT 8 q 0 := ⟨by omega, by decide, by rcases h with rfl | rfl | rfl <;> decide, fun j hj => by omega⟩
theorem tt_a1 : AllYes TT 8 8 true 2 0 := ⟨by decide, tt_f 8 (by simp), by decide⟩
theorem tt_a2 : AllYes TT 8 1 false 1 0 := ⟨by decide, tt_f 1 (by simp), by decide⟩
theorem tt_a3 : AllNo TT 8 8 false 2 := .inr (.inr ⟨0, tt_f 8 (by simp), by decide⟩)
theorem tt_a4 : AllYes TT 8 4 true 4 0 := ⟨by decide, tt_f 4 (by simp), by decide⟩
def BB : Nat → List Int := setB (zerosB TT) 0 (splice (zerosB TT 0) (8 - rlo (nthR TT 0)).toNat (bytesL 258 (8 : Int).toNat))
theorem bb_one : wordI (cut TT BB 8 1 0) = 2 := by decide
theorem bb_four : wordI (cut TT BB 8 4 0) = 258 := by decide
set_option maxHeartbeats 1000000 in
theorem awakeM (w : World) : Calls Try.prog 8 #[] w fun e w' => e = .returned (.bool true) ∧ Below w.heap.size w w' := by
  go_enter Try.func8, Try.ntmps8
  go_wp2_with fail
  refine (table_any _).mono ?_
  rintro e w1 ⟨rfl, ht, hb1⟩
  have HT := Lib.hid ht
  have H1 := Lib.hid hb1
  clear ht hb1
  go_wp2_with fail
  refine (new_yes _ 0 2 TT 2 rfl tt_w tt_may _ HT.out).mono ?_
  rintro e w2 ⟨m, tb, tc, hb, G, rfl, hI, hb2⟩
  have HI := Lib.hid (hI.rebase H1.out.size)
  have H2 := Lib.hid (H1.out.trans (hb2.mono H1.out.size))
  clear hI hb2
  go_wp2_with fail
  refine (new_none none 0 _).mono ?_
  rintro e w' ⟨rfl, rfl⟩
  go_wp2_with fail
  refine (find_no m tb tc hb TT 12 8 2 rfl (by omega) ⟨by omega, by omega⟩ ⟨by omega, by omega⟩ tt_w _ HI.out.toH.c0 HI.out.toH.tab tt_f0).mono ?_
  rintro e w3 ⟨rfl, hb3⟩
  have HI3 := Lib.hid (HI.out.below hb3)
  have H3 := Lib.hid (H2.out.trans (hb3.mono H2.out.size))
  clear hb3
  go_wp2_with fail
  refine (store_yes _ m tb tc hb 2 TT G _ 8 8 true 258 0 ⟨by omega, by omega⟩ ⟨by omega, by omega⟩ ⟨by omega, by omega⟩ _ HI3.out tt_a1).mono ?_
  rintro e w4 ⟨rfl, hI4, hg4⟩
  have HI4 := Lib.hid (show MemIs w4 w.heap.size m tb tc hb 2 TT G BB from hI4)
  have H4 := Lib.hid (H3.out.grown hg4 H3.out.size (fun j hj => by cases hj; exact HI3.out.from_ 0 (by omega)))
  clear hI4 hg4
  go_wp2_with fail
  refine (load_yes _ m tb tc hb 2 TT G _ 8 1 false 0 ⟨by omega, by omega⟩ ⟨by omega, by omega⟩ _ HI4.out tt_a2).mono ?_
  rw [bb_one]
  rintro e w5 ⟨rfl, hb5⟩
  have HI5 := Lib.hid (HI4.out.below hb5)
  have H5 := Lib.hid (H4.out.trans (hb5.mono H4.out.size))
  clear hb5
  go_wp2_with fail
  refine (store_no _ m tb tc hb 2 TT G _ 8 8 false 1 ⟨by omega, by omega⟩ ⟨by omega, by omega⟩ _ HI5.out tt_a3).mono ?_
  rintro e w6 ⟨rfl, hb6⟩
  have HI6 := Lib.hid (HI5.out.below hb6)
  have H6 := Lib.hid (H5.out.trans (hb6.mono H5.out.size))
  clear hb6
  go_wp2_with fail
  refine (fetch_yes _ m tb tc hb 2 TT G _ 8 true 0 ⟨by omega, by omega⟩ _ HI6.out tt_a4).mono ?_
  rw [bb_four]
  rintro e w7 ⟨rfl, hb7⟩
  have H7 := Lib.hid (H6.out.trans (hb7.mono H6.out.size))
  clear hb7
  go_wp2_with fail
  refine (table_any _).mono ?_
  rintro e w8 ⟨rfl, ht8, hb8⟩
  have HT8 := Lib.hid ht8
  have H8 := Lib.hid (H7.out.trans (hb8.mono H7.out.size))
  clear ht8 hb8
  go_wp2_with fail
  refine (may_some _ 0 2 TT 2 rfl (by omega) (by omega) tt_w _ HT8.out).mono ?_
  rw [tt_may]
  rintro e w9 ⟨rfl, hb9⟩
  have H9 := Lib.hid (H8.out.trans (hb9.mono H8.out.size))
  clear hb9
  go_wp2
  go_ret
  exact ⟨rfl, H9.out⟩
end Go.Proofs.Ytpfohbinjcdcbaa
