/- Layer 5's statements: what CpuCounts' runs come to: plain mathematics. -/
import Derived.Test.YthnhopmbefgmgaaGreatDoorCpuH
namespace Go.Proofs.YthnhopmbefgmgaaGreatDoor
set_option maxRecDepth 100000
open Go.RowKit Go.Maps
def cT : List Rg := T1 0 16 4 0
theorem ct_w : TabW cT := tabW_of (by decide +kernel)
theorem ct_may : mayTB cT = true := by decide +kernel
def cX : List X := [⟨16, 1, 1, 0, -1⟩, ⟨16, 2, 2, 0, 3⟩, ⟨33, 0, 1, 0, -8⟩, ⟨42, 0, 0, 0, 0⟩]
theorem cx_may : cX.all mayXB = true := by decide +kernel
def cB : Nat → List Int := bB cT [wordsL cX] 1
/-- registers 1 and 2, where it goes on, how it stands -/
def cS (a b p d : Int) : CS := ⟨0 :: a :: b :: List.replicate 29 0, p, true, d⟩
def cSt (a b p d : Int) (lk : List Lk) : St := ⟨cS a b p d, [], lk, cB⟩
theorem c_f0 : loadM cT cB 0 4 true 4 = some (encX ⟨16, 1, 1, 0, -1⟩) := by decide +kernel
theorem c_f1 : loadM cT cB 4 4 true 4 = some (encX ⟨16, 2, 2, 0, 3⟩) := by decide +kernel
theorem c_f2 : loadM cT cB 8 4 true 4 = some (encX ⟨33, 0, 1, 0, -8⟩) := by decide +kernel
theorem c_f3 : loadM cT cB 12 4 true 4 = some (encX ⟨42, 0, 0, 0, 0⟩) := by decide +kernel
theorem c_s0 (a b : Int) (lk : List Lk) : stepC cT [] (cSt a b 0 0 lk) = cSt (modU (a + modU (-1))) b 4 0 (lk ++ [(0, 0, 0)]) := by
  rw [step_own (x := ⟨16, 1, 1, 0, -1⟩) rfl c_f0 (mayX_of (by decide +kernel))]
  rfl
theorem c_s1 (a b : Int) (lk : List Lk) : stepC cT [] (cSt a b 4 0 lk) = cSt a (modU (b + modU 3)) 8 0 (lk ++ [(0, 4, 0)]) := by
  rw [step_own (x := ⟨16, 2, 2, 0, 3⟩) rfl c_f1 (mayX_of (by decide +kernel))]
  rfl
theorem c_s2 (a b : Int) (lk : List Lk) : stepC cT [] (cSt a b 8 0 lk) = cSt a b (if a = 0 then 12 else 0) 0 (lk ++ [(0, 8, 0)]) := by
  rw [step_own (x := ⟨33, 0, 1, 0, -8⟩) rfl c_f2 (mayX_of (by decide +kernel))]
  by_cases h : a = 0
  · subst h; rfl
  · rw [if_neg h]
    show St.mk ⟨_, if takV 33 a 0 then 0 else 12, true, 0⟩ _ _ _ = _
    have e : takV 33 a 0 = true := by
      show (if (32 : Int) ≤ 33 ∧ (33 : Int) < 38 then takI 1 a 0 else false) = true
      rw [if_pos (by decide)]
      simp [takI, h]
    rw [e]; rfl
theorem c_s3 (a b : Int) (lk : List Lk) : stepC cT [] (cSt a b 12 0 lk) = cSt a b 12 1 (lk ++ [(0, 12, 0)]) := by
  rw [step_own (x := ⟨42, 0, 0, 0, 0⟩) rfl c_f3 (mayX_of (by decide +kernel))]
  rfl
/-- under way, behind i steps of a count from k -/
def CIn (k i : Nat) (st : St) : Prop := ∃ (j : Nat) (lk : List Lk), lk.length = i ∧ (
  (i = 3 * j ∧ j < k ∧ st = cSt ((k : Int) - j) (3 * j) 0 0 lk) ∨ (i = 3 * j + 1 ∧ j < k ∧ st = cSt ((k : Int) - j - 1) (3 * j) 4 0 lk) ∨
  (i = 3 * j + 2 ∧ j < k ∧ st = cSt ((k : Int) - j - 1) (3 * j + 3) 8 0 lk) ∨ (i = 3 * k ∧ j = k ∧ st = cSt 0 (3 * k) 12 0 lk))
theorem cin_dn {k i : Nat} {st : St} (h : CIn k i st) : st.s.dn = 0 := by
  obtain ⟨j, lk, _, h⟩ := h
  rcases h with ⟨_, _, rfl⟩ | ⟨_, _, rfl⟩ | ⟨_, _, rfl⟩ | ⟨_, _, rfl⟩ <;> rfl
theorem cSt_of {a a' b b' p p' : Int} {lk : List Lk} (h1 : a = a') (h2 : b = b') (h3 : p = p') : cSt a b p 0 lk = cSt a' b' p' 0 lk := by rw [h1, h2, h3]
theorem cin_step {k i : Nat} {st : St} (hk : k ≤ 300) (h : CIn k i st) (hi : i < 3 * k) : CIn k (i + 1) (stepC cT [] st) := by
  obtain ⟨j, lk, hl, h⟩ := h
  rcases h with ⟨h1, h2, rfl⟩ | ⟨h1, h2, rfl⟩ | ⟨h1, h2, rfl⟩ | ⟨h1, h2, rfl⟩
  · rw [c_s0]
    refine ⟨j, _, by simp [hl], .inr (.inl ⟨by omega, h2, cSt_of ?_ rfl rfl⟩)⟩
    unfold modU; omega
  · rw [c_s1]
    refine ⟨j, _, by simp [hl], .inr (.inr (.inl ⟨by omega, h2, cSt_of rfl ?_ rfl⟩))⟩
    unfold modU; omega
  · rw [c_s2]
    by_cases e : j + 1 = k
    · refine ⟨k, _, by simp [hl], .inr (.inr (.inr ⟨by omega, rfl, cSt_of ?_ ?_ ?_⟩))⟩
      · omega
      · omega
      · rw [if_pos (by omega)]
    · refine ⟨j + 1, _, by simp [hl], .inl ⟨by omega, by omega, cSt_of ?_ ?_ ?_⟩⟩
      · omega
      · omega
      · rw [if_neg (by omega)]
  · omega
theorem cin_run {k : Nat} (hk : k ≤ 300) : ∀ (n i : Nat) (st : St), CIn k i st → i + n ≤ 3 * k → (runC cT [] n st).1 = n ∧ CIn k (i + n) (runC cT [] n st).2 := by
  intro n
  induction n with
  | zero => intro i st h _; exact ⟨rfl, h⟩
  | succ n ih =>
    intro i st h hi
    rw [runC_succ _ _ _ _ (cin_dn h)]
    obtain ⟨q1, q2⟩ := ih (i + 1) _ (cin_step hk h (by omega)) (by omega)
    refine ⟨by simp only; omega, ?_⟩
    simp only
    rw [show i + (n + 1) = i + 1 + n by omega]
    exact q2
theorem runC_add (T : List Rg) (E : List Int) : ∀ (a b : Nat) (st : St), (runC T E a st).1 = a → runC T E (a + b) st = (a + (runC T E b (runC T E a st).2).1, (runC T E b (runC T E a st).2).2) := by
  intro a
  induction a with
  | zero => intro b st _; simp [runC_zero]
  | succ a ih =>
    intro b st h
    by_cases hd : st.s.dn = 0
    · rw [runC_succ _ _ _ _ hd] at h ⊢
      have h : (runC T E a (stepC T E st)).1 = a := by simp only at h; omega
      rw [show a + 1 + b = (a + b) + 1 by omega, runC_succ _ _ _ _ hd, ih b _ h]
      simp only [Prod.mk.injEq, and_true]
      omega
    · rw [runC_stop _ _ _ _ hd] at h; simp at h
/-- as it begins -/
def cW (k : Nat) : CS := { s0 0 true with R := zeroR.set 1 k }
def cSt0 (k : Nat) : St := { s := newS (cW k), ev := [], lk := [], B := cB }
theorem c_beg {k : Nat} (hk : 1 ≤ k) : CIn k 0 (cSt0 k) := ⟨0, [], rfl, .inl ⟨rfl, hk, by
  show cSt0 k = cSt ((k : Int) - (0 : Nat)) (3 * (0 : Nat)) 0 0 []
  rw [show ((k : Int) - (0 : Nat)) = k by omega]; rfl⟩⟩
/-- with less fuel than it wants -/
theorem c_less {k n : Nat} (h1 : 1 ≤ k) (hk : k ≤ 300) (hn : n ≤ 3 * k) : ranN cT [] n (cSt0 k) = n ∧ (ranS cT [] n (cSt0 k)).s.dn = 0 ∧ (ranS cT [] n (cSt0 k)).s.R.length = 32 := by
  obtain ⟨q1, q2⟩ := cin_run hk n 0 _ (c_beg h1) (by omega)
  refine ⟨q1, cin_dn q2, ?_⟩
  obtain ⟨j, lk, _, h⟩ := q2
  unfold ranS
  rcases h with ⟨_, _, h⟩ | ⟨_, _, h⟩ | ⟨_, _, h⟩ | ⟨_, _, h⟩ <;> rw [h] <;> rfl
/-- with enough -/
theorem c_all {k n : Nat} (h1 : 1 ≤ k) (hk : k ≤ 300) (hn : 3 * k < n) : ranN cT [] n (cSt0 k) = 3 * k + 1 ∧ ∃ lk : List Lk, lk.length = 3 * k + 1 ∧ ranS cT [] n (cSt0 k) = cSt 0 (3 * k) 12 1 lk := by
  obtain ⟨q1, q2⟩ := cin_run hk (3 * k) 0 _ (c_beg h1) (by omega)
  obtain ⟨j, lk, hl, h⟩ := q2
  have h : (runC cT [] (3 * k) (cSt0 k)).2 = cSt 0 (3 * k) 12 0 lk := by
    rcases h with ⟨_, _, h⟩ | ⟨_, _, h⟩ | ⟨_, _, h⟩ | ⟨_, _, h⟩
    · omega
    · omega
    · omega
    · exact h
  have hr := runC_add cT [] (3 * k) (n - 3 * k) (cSt0 k) q1
  rw [h, show n - 3 * k = (n - 3 * k - 1) + 1 by omega, runC_succ _ _ _ _ rfl, c_s3, runC_stop _ _ _ (cSt 0 (3 * (k : Int)) 12 1 _) (show (1 : Int) ≠ 0 by decide), show 3 * k + (n - 3 * k - 1 + 1) = n by omega] at hr
  unfold ranN ranS
  rw [hr]
  exact ⟨by simp, _, by simp [hl], rfl⟩
end Go.Proofs.YthnhopmbefgmgaaGreatDoor
