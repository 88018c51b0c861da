/- Layer 5's statements: what CpuFar's run comes to: plain mathematics. -/
import Derived.Test.YthnhopmbefgmgaaGreatDoorCpuH
namespace Go.Proofs.YthnhopmbefgmgaaGreatDoor
set_option maxRecDepth 100000
open Go.RowKit Go.Maps
def fT : List Rg := T1 0 64 7 0
theorem ft_w : TabW fT := tabW_of (by decide +kernel)
theorem ft_may : mayTB fT = true := by decide +kernel
def fX (h l j : Int) : List X := [⟨38, 5, 0, 0, h⟩, ⟨16, 5, 5, 0, l⟩, ⟨39, 6, 0, 0, 8192⟩, ⟨41, 7, 0, 0, j⟩, ⟨16, 8, 0, 0, 1⟩, ⟨42, 0, 0, 0, 0⟩]
structure FOk (h l j : Int) : Prop where
  h : -2147483648 ≤ h ∧ h ≤ 2147483647 ∧ h % 4096 = 0
  l : -2048 < l ∧ l < 2048
  j : j = 20 ∨ j = 21
theorem fx0 {h l j : Int} (H : FOk h l j) : MayX ⟨38, 5, 0, 0, h⟩ := mayX_num (by omega) (by decide +kernel) ⟨by have := H.h; omega, by have := H.h; omega⟩ H.h
theorem fx1 {h l j : Int} (H : FOk h l j) : MayX ⟨16, 5, 5, 0, l⟩ := mayX_num (by omega) (by decide +kernel) ⟨by have := H.l; omega, by have := H.l; omega⟩ ⟨by have := H.l; omega, by have := H.l; omega⟩
theorem fx2 : MayX ⟨39, 6, 0, 0, 8192⟩ := mayX_of (by decide +kernel)
theorem fx3 {h l j : Int} (H : FOk h l j) : MayX ⟨41, 7, 0, 0, j⟩ := by
  rcases H.j with rfl | rfl <;> exact mayX_of (by decide +kernel)
theorem fx4 : MayX ⟨16, 8, 0, 0, 1⟩ := mayX_of (by decide +kernel)
theorem fx5 : MayX ⟨42, 0, 0, 0, 0⟩ := mayX_of (by decide +kernel)
theorem fx_may {h l j : Int} (H : FOk h l j) : ∀ x ∈ fX h l j, MayX x := by
  intro x hx
  simp only [fX, List.mem_cons, List.not_mem_nil, or_false] at hx
  rcases hx with rfl | rfl | rfl | rfl | rfl | rfl
  · exact fx0 H
  · exact fx1 H
  · exact fx2
  · exact fx3 H
  · exact fx4
  · exact fx5
def fSt (h l j : Int) : St := { s := newS (s0 0 true), ev := [], lk := [], B := bB fT [wordsL (fX h l j)] 1 }
def fR (a b c : Int) : List Int := 0 :: 0 :: 0 :: 0 :: 0 :: a :: b :: c :: List.replicate 24 0
def fS (a b c p d : Int) : CS := ⟨fR a b c, p, true, d⟩
theorem fB {h l j : Int} : bB fT [wordsL (fX h l j)] 1 0 = wordsL (fX h l j) ++ List.replicate 40 0 := b_one (n := 64) rfl (by rw [wordsL_len]; show 1 ≤ 4 * 6; omega) (by rw [wordsL_len]; show 4 * 6 ≤ 64; omega)
def fSts (h l j a b c p d : Int) (lk : List Lk) : St := ⟨fS a b c p d, [], lk, bB fT [wordsL (fX h l j)] 1⟩
theorem f_step {h l j a b c p : Int} {lk : List Lk} (k : Nat) (z : X) (hp : p = 4 * k) (hz : (fX h l j)[k]? = some z) (hx : MayX z) (hk : k < 16) : stepC fT [] (fSts h l j a b c p 0 lk) = execC fT z (showC (fSts h l j a b c p 0 lk) 0 p 0) :=
  step_at (E := []) (st := fSts h l j a b c p 0 lk) k z rfl hp fB hz hx (by omega) (show hasB 7 4 = true by decide +kernel)
theorem far_run {h l j : Int} (H : FOk h l j) : ∃ lk, lk.length ≤ 10 ∧ runC fT [] 20 (fSt h l j) = (5, fSts h l j (modU (modU h + modU l)) 8200 16 20 1 lk) := by
  have e0 : fSt h l j = fSts h l j 0 0 0 0 0 [] := rfl
  have e1 : stepC fT [] (fSts h l j 0 0 0 0 0 []) = fSts h l j (modU h) 0 0 4 0 [(0, 0, 0)] := by
    refine (f_step 0 ⟨38, 5, 0, 0, h⟩ rfl rfl (fx0 H) (by omega)).trans ?_; rfl
  have e2 : stepC fT [] (fSts h l j (modU h) 0 0 4 0 [(0, 0, 0)]) = fSts h l j (modU (modU h + modU l)) 0 0 8 0 [(0, 0, 0), (0, 4, 0)] := by
    refine (f_step 1 ⟨16, 5, 5, 0, l⟩ rfl rfl (fx1 H) (by omega)).trans ?_; rfl
  generalize modU (modU h + modU l) = s at *
  have e3 : stepC fT [] (fSts h l j s 0 0 8 0 [(0, 0, 0), (0, 4, 0)]) = fSts h l j s 8200 0 12 0 [(0, 0, 0), (0, 4, 0), (0, 8, 0)] := by
    refine (f_step 2 ⟨39, 6, 0, 0, 8192⟩ rfl rfl fx2 (by omega)).trans ?_; rfl
  have e4 : stepC fT [] (fSts h l j s 8200 0 12 0 [(0, 0, 0), (0, 4, 0), (0, 8, 0)]) = fSts h l j s 8200 16 20 0 [(0, 0, 0), (0, 4, 0), (0, 8, 0), (0, 12, 0)] := by
    refine (f_step 3 ⟨41, 7, 0, 0, j⟩ rfl rfl (fx3 H) (by omega)).trans ?_
    rcases H.j with e | e
    · rw [e]; rfl
    · rw [e]; rfl
  have e5 : stepC fT [] (fSts h l j s 8200 16 20 0 [(0, 0, 0), (0, 4, 0), (0, 8, 0), (0, 12, 0)]) = fSts h l j s 8200 16 20 1 [(0, 0, 0), (0, 4, 0), (0, 8, 0), (0, 12, 0), (0, 20, 0)] := by
    refine (f_step 5 ⟨42, 0, 0, 0, 0⟩ rfl rfl fx5 (by omega)).trans ?_; rfl
  refine ⟨[(0, 0, 0), (0, 4, 0), (0, 8, 0), (0, 12, 0), (0, 20, 0)], by decide, ?_⟩
  rw [e0, runC_succ _ _ _ _ rfl, e1, runC_succ _ _ _ _ rfl, e2, runC_succ _ _ _ _ rfl, e3, runC_succ _ _ _ _ rfl, e4, runC_succ _ _ _ _ rfl, e5, runC_stop _ _ _ _ (show (1 : Int) ≠ 0 by decide)]
end Go.Proofs.YthnhopmbefgmgaaGreatDoor
