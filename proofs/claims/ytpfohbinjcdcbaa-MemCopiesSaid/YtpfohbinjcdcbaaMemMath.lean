/- Layer 4: tables of regions, which may be, where bytes lie, who may do what: plain mathematics. -/
import Derived.Test.YtpfohbinjcdcbaaArgs
namespace Go.Proofs.Ytpfohbinjcdcbaa
open Go.RowKit
set_option linter.unusedVariables false

/-- a region: Lo, Hi, Own, Out -/
abbrev Rg := Int × Int × Int × Int
def rlo (r : Rg) : Int := r.1
def rhi (r : Rg) : Int := r.2.1
def rown (r : Rg) : Int := r.2.2.1
def rout (r : Rg) : Int := r.2.2.2
def nthR (T : List Rg) (i : Nat) : Rg := T.getD i (0, 0, 0, 0)
/-- each number fits its kind -/
def RgW (r : Rg) : Prop := IsU (rlo r) ∧ IsU (rhi r) ∧ IsI (rown r) ∧ IsI (rout r)
def TabW (T : List Rg) : Prop := ∀ i, i < T.length → RgW (nthR T i)
def okB (r : Rg) : Bool := decide (rlo r < rhi r ∧ rhi r - rlo r ≤ 65536 ∧ rlo r % 8 = 0 ∧ rhi r % 8 = 0 ∧ 0 ≤ rown r ∧ rown r ≤ 7 ∧ 0 ≤ rout r ∧ rout r ≤ 7)
theorem okB_iff {r : Rg} : okB r = true ↔ rlo r < rhi r ∧ rhi r - rlo r ≤ 65536 ∧ rlo r % 8 = 0 ∧ rhi r % 8 = 0 ∧ 0 ≤ rown r ∧ rown r ≤ 7 ∧ 0 ≤ rout r ∧ rout r ≤ 7 := by
  unfold okB; exact decide_eq_true_iff
theorem okB_no {r : Rg} : okB r = false ↔ ¬ (rlo r < rhi r ∧ rhi r - rlo r ≤ 65536 ∧ rlo r % 8 = 0 ∧ rhi r % 8 = 0 ∧ 0 ≤ rown r ∧ rown r ≤ 7 ∧ 0 ≤ rout r ∧ rout r ≤ 7) := by
  unfold okB; exact decide_eq_false_iff_not
/-- each may be, and they rise from e on -/
def chk (e : Int) : List Rg → Bool
  | [] => true
  | r :: t => decide (e ≤ rlo r) && okB r && chk (rhi r) t
def mayB (T : List Rg) : Bool := decide (1 ≤ T.length) && decide (T.length ≤ 16) && chk 0 T
theorem drop_nthR {T : List Rg} {k : Nat} (h : k < T.length) : T.drop k = nthR T k :: T.drop (k + 1) := by
  rw [List.drop_eq_getElem_cons h]
  simp [nthR, h]
theorem chk_at {e : Int} {T : List Rg} {k : Nat} (h : k < T.length) : chk e (T.drop k) = (decide (e ≤ rlo (nthR T k)) && okB (nthR T k) && chk (rhi (nthR T k)) (T.drop (k + 1))) := by
  rw [drop_nthR h]; rfl
theorem chk_end {e : Int} {T : List Rg} : chk e (T.drop T.length) = true := by simp [chk]
theorem nthR_cons {r : Rg} {T : List Rg} {i : Nat} : nthR (r :: T) (i + 1) = nthR T i := rfl
theorem nthR_zero {r : Rg} {T : List Rg} : nthR (r :: T) 0 = r := rfl
theorem chk_all {T : List Rg} : ∀ {e : Int}, chk e T = true → ∀ i, i < T.length → okB (nthR T i) = true ∧ e ≤ rlo (nthR T i) := by
  induction T with
  | nil => intro e _ i hi; simp at hi
  | cons r t ih =>
    intro e h i hi
    simp only [chk, Bool.and_eq_true, decide_eq_true_eq] at h
    obtain ⟨⟨h1, h2⟩, h3⟩ := h
    cases i with
    | zero => exact ⟨h2, h1⟩
    | succ i =>
      have := ih h3 i (by simpa using hi)
      rw [nthR_cons]
      refine ⟨this.1, ?_⟩
      have := okB_iff.1 h2
      omega
theorem chk_rise {T : List Rg} : ∀ {e : Int}, chk e T = true → ∀ i j, i < j → j < T.length → rhi (nthR T i) ≤ rlo (nthR T j) := by
  induction T with
  | nil => intro e _ i j _ hj; simp at hj
  | cons r t ih =>
    intro e h i j hij hj
    simp only [chk, Bool.and_eq_true, decide_eq_true_eq] at h
    obtain ⟨⟨h1, h2⟩, h3⟩ := h
    obtain ⟨j, rfl⟩ : ∃ q, j = q + 1 := ⟨j - 1, by omega⟩
    rw [nthR_cons]
    cases i with
    | zero => exact (chk_all h3 j (by simpa using hj)).2
    | succ i => exact ih h3 i j (by omega) (by simpa using hj)
/-- a table that may be -/
def MayT (T : List Rg) : Prop := 1 ≤ T.length ∧ T.length ≤ 16 ∧ (∀ i, i < T.length → okB (nthR T i) = true) ∧ ∀ i j, i < j → j < T.length → rhi (nthR T i) ≤ rlo (nthR T j)
theorem mayB_to {T : List Rg} (h : mayB T = true) : MayT T := by
  simp only [mayB, Bool.and_eq_true, decide_eq_true_eq] at h
  exact ⟨h.1.1, h.1.2, fun i hi => (chk_all h.2 i hi).1, chk_rise h.2⟩
theorem MayT.ne {T : List Rg} (h : MayT T) {i j : Nat} (hi : i < T.length) (hj : j < T.length) (e : nthR T i = nthR T j) : i = j := by
  have go : ∀ i j, i < j → j < T.length → nthR T i = nthR T j → False := fun i j hij hj e => by
    have h1 := h.2.2.2 i j hij hj
    have h2 := okB_iff.1 (h.2.2.1 j hj)
    rw [e] at h1
    omega
  rcases Nat.lt_trichotomy i j with h1 | h1 | h1
  · exact (go i j h1 hj e).elim
  · exact h1
  · exact (go j i h1 hi e.symm).elim

/-- do n bytes from an address on lie in a region? -/
def hitB (r : Rg) (at_ n : Int) : Bool := decide (rlo r ≤ at_ ∧ at_ < rhi r ∧ n ≤ rhi r - at_)
theorem hitB_iff {r : Rg} {p n : Int} : hitB r p n = true ↔ rlo r ≤ p ∧ p < rhi r ∧ n ≤ rhi r - p := by unfold hitB; exact decide_eq_true_iff
theorem hitB_no {r : Rg} {p n : Int} : hitB r p n = false ↔ ¬ (rlo r ≤ p ∧ p < rhi r ∧ n ≤ rhi r - p) := by unfold hitB; exact decide_eq_false_iff_not
def FindYes (T : List Rg) (p n : Int) (i : Nat) : Prop := 1 ≤ n ∧ i < T.length ∧ hitB (nthR T i) p n = true ∧ ∀ j, j < i → hitB (nthR T j) p n = false
def FindNo (T : List Rg) (p n : Int) : Prop := n < 1 ∨ ∀ j, j < T.length → hitB (nthR T j) p n = false
theorem find_or (T : List Rg) (p n : Int) : FindNo T p n ∨ ∃ i, FindYes T p n i := by
  by_cases hn : n < 1
  · exact .inl (.inl hn)
  have go : ∀ k, k ≤ T.length → (∀ j, j < k → hitB (nthR T j) p n = false) ∨ ∃ i, FindYes T p n i := by
    intro k
    induction k with
    | zero => intro _; exact .inl (fun j hj => by omega)
    | succ k ih =>
      intro hk
      rcases ih (by omega) with h | h
      · cases e : hitB (nthR T k) p n with
        | true => exact .inr ⟨k, by omega, by omega, e, h⟩
        | false =>
          refine .inl (fun j hj => ?_)
          by_cases e1 : j = k
          · subst e1; exact e
          · exact h j (by omega)
      · exact .inr h
  rcases go T.length (Nat.le_refl _) with h | h
  · exact .inl (.inr h)
  · exact .inr h
theorem find_one {T : List Rg} {p n : Int} {i : Nat} (h : FindYes T p n i) (h' : FindNo T p n) : False := by
  obtain ⟨h1, h2, h3, h4⟩ := h
  rcases h' with h' | h'
  · omega
  · rw [h' i h2] at h3; cases h3
theorem find_is {T : List Rg} (hT : MayT T) {p n : Int} {i : Nat} (hn : 1 ≤ n) (hi : i < T.length) (h : hitB (nthR T i) p n = true) : FindYes T p n i := by
  refine ⟨hn, hi, h, fun j hj => ?_⟩
  have h1 := hitB_iff.1 h
  have h2 := hT.2.2.2 j i hj hi
  rw [hitB_no]
  omega
/-- what an access may have -/
def accB (p n : Int) : Bool := decide ((n = 1 ∨ n = 4 ∨ n = 8) ∧ p % n = 0)
def rightI (r : Rg) (own : Bool) : Int := if own then rown r else rout r
def hasB (x q : Int) : Bool := bits .and .i64 x q == q
/-- an access is allowed -/
def AllYes (T : List Rg) (p n : Int) (own : Bool) (q : Int) (i : Nat) : Prop := accB p n = true ∧ FindYes T p n i ∧ hasB (rightI (nthR T i) own) q = true
def AllNo (T : List Rg) (p n : Int) (own : Bool) (q : Int) : Prop := accB p n = false ∨ FindNo T p n ∨ ∃ i, FindYes T p n i ∧ hasB (rightI (nthR T i) own) q = false
theorem all_or (T : List Rg) (p n : Int) (own : Bool) (q : Int) : AllNo T p n own q ∨ ∃ i, AllYes T p n own q i := by
  cases ha : accB p n with
  | false => exact .inl (.inl ha)
  | true =>
    rcases find_or T p n with h | ⟨i, h⟩
    · exact .inl (.inr (.inl h))
    · cases hr : hasB (rightI (nthR T i) own) q with
      | false => exact .inl (.inr (.inr ⟨i, h, hr⟩))
      | true => exact .inr ⟨i, ha, h, hr⟩
theorem accB_n {p n : Int} (h : accB p n = true) : n = 1 ∨ n = 4 ∨ n = 8 := by
  unfold accB at h
  simp only [decide_eq_true_eq] at h
  exact h.1
theorem bel_drewN {B : Nat} {a w : World} (h : Below B a w) (n : Nat) : Below B a (w.drewN n) := ⟨h.os, h.tape, h.output, h.size, h.block⟩
end Go.Proofs.Ytpfohbinjcdcbaa
