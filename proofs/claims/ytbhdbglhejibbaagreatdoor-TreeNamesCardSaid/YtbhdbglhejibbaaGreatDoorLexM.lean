/- Layer 9: plain numbers: what is parsed, what is printed, and that the one is the other's end. Of no program. -/
import Derived.Lib.ParseIntB
import Derived.Lib.ItoaNum
import Derived.KernelRfl
namespace Go.Proofs.YtbhdbglhejibbaaGreatDoor
open Go.Lib
set_option linter.unusedVariables false
theorem u8_digit {d : Nat} (h : d < 10) : (UInt8.ofNat (48 + d)).toNat = 48 + d := by
  simp; omega
theorem decDigits_big {u : Nat} (h : ¬ u < 10) : decDigits u = decDigits (u / 10) ++ [UInt8.ofNat (48 + u % 10)] := by
  rw [decDigits, dif_neg h]
theorem parse_append (M acc : Nat) (a b : List UInt8) (u : Nat) (h : parseUintM M acc a = .ok u) : parseUintM M acc (a ++ b) = parseUintM M u b := by
  induction a generalizing acc with
  | nil => simp [parseUintM] at h; subst h; rfl
  | cons c r ih =>
    rw [List.cons_append]
    rw [parseUintM] at h ⊢
    split at h
    · rename_i h1
      rw [if_pos h1]
      split at h
      · cases h
      · rename_i h2
        rw [if_neg h2]
        split at h
        · cases h
        · rename_i h3
          rw [if_neg h3]
          exact ih _ h
    · cases h
theorem parse_dec (u : Nat) (h : u < 18446744073709551616) : parseUintM 18446744073709551615 0 (decDigits u) = .ok u := by
  induction u using Nat.strongRecOn with
  | ind u ih =>
    by_cases h1 : u < 10
    · rw [decDigits_one h1]
      unfold parseUintM
      rw [u8_digit h1, if_pos (by omega), if_neg (by omega), if_neg (by omega)]
      unfold parseUintM
      congr 1; omega
    · rw [decDigits_big h1, parse_append _ _ _ _ _ (ih (u / 10) (by omega) (by omega))]
      unfold parseUintM
      have h2 : u % 10 < 10 := by omega
      rw [u8_digit h2, if_pos (by omega), if_neg (by omega), if_neg (by omega)]
      unfold parseUintM
      congr 1; omega
theorem dec_ne_nil (u : Nat) : decDigits u ≠ [] := by
  by_cases h : u < 10
  · rw [decDigits_one h]; simp
  · rw [decDigits_big h]; simp
theorem parse_le (M acc : Nat) (l : List UInt8) (u : Nat) (h : parseUintM M acc l = .ok u) (ha : acc ≤ M) : u ≤ M := by
  induction l generalizing acc with
  | nil => simp [parseUintM] at h; omega
  | cons c r ih =>
    unfold parseUintM at h
    split at h
    · split at h
      · cases h
      · split at h
        · cases h
        · exact ih _ h (by omega)
    · cases h
/-- the number that a word is -/
def numP (l : List UInt8) : Option Nat := match parseUintB 64 l with
  | .ok u => if decDigits u = l then some u else none
  | _ => none
theorem parseB {l : List UInt8} (h : l ≠ []) : parseUintB 64 l = parseUintM 18446744073709551615 0 l := if_neg h
theorem parseB_nil (u : Nat) : parseUintB 64 [] ≠ .ok u := fun h => by cases h
theorem parseB_le {l : List UInt8} {u : Nat} (h : parseUintB 64 l = .ok u) : u < 18446744073709551616 := by
  by_cases hl : l = []
  · subst hl; exact absurd h (parseB_nil u)
  · rw [parseB hl] at h
    have := parse_le _ _ _ _ h (by omega); omega
theorem numP_dec {u : Nat} (h : u < 18446744073709551616) : numP (decDigits u) = some u := by
  unfold numP
  rw [parseB (dec_ne_nil u), parse_dec u h]
  simp
theorem numP_some {l : List UInt8} {u : Nat} (h : numP l = some u) : l = decDigits u ∧ u < 18446744073709551616 := by
  unfold numP at h
  split at h
  · rename_i v hv
    split at h
    · rename_i e
      cases h
      exact ⟨e.symm, parseB_le hv⟩
    · cases h
  · cases h
theorem numP_iff (l : List UInt8) (u : Nat) : numP l = some u ↔ l = decDigits u ∧ u < 18446744073709551616 :=
  ⟨numP_some, fun ⟨h1, h2⟩ => by rw [h1]; exact numP_dec h2⟩
theorem dec_inj {u v : Nat} (hu : u < 18446744073709551616) (hv : v < 18446744073709551616) (h : decDigits u = decDigits v) : u = v := by
  have h1 := parse_dec u hu
  rw [h, parse_dec v hv] at h1
  cases h1; rfl
/-- a number's first digit is 0 of 0 alone -/
theorem dec_head (u : Nat) (h : 1 ≤ u) : ∃ c r, decDigits u = c :: r ∧ c.toNat ≠ 48 := by
  induction u using Nat.strongRecOn with
  | ind u ih =>
    by_cases h1 : u < 10
    · exact ⟨_, _, decDigits_one h1, by rw [u8_digit h1]; omega⟩
    · obtain ⟨c, r, e, hc⟩ := ih (u / 10) (by omega) (by omega)
      exact ⟨c, r ++ [UInt8.ofNat (48 + u % 10)], by rw [decDigits_big h1, e]; rfl, hc⟩
theorem dec_zero : decDigits 0 = [48] := decDigits_one (by omega)
theorem dec_ahead (n : Nat) : numP (48 :: decDigits n) = none := by
  cases e : numP (48 :: decDigits n) with
  | none => rfl
  | some v =>
    obtain ⟨h1, h2⟩ := numP_some e
    by_cases hv : v = 0
    · subst hv
      rw [dec_zero] at h1
      injection h1 with _ h1
      exact absurd h1 (dec_ne_nil n)
    · obtain ⟨c, r, h3, h4⟩ := dec_head v (by omega)
      rw [h3] at h1
      injection h1 with h1 _
      subst h1
      exact absurd rfl h4
theorem dec_len_small {u : Nat} (h : u < 10) : (decDigits u).length = 1 := by rw [decDigits_one h]; rfl
theorem dec_len_big {u : Nat} (h : ¬ u < 10) : (decDigits u).length = (decDigits (u / 10)).length + 1 := by rw [decDigits_big h]; simp
theorem dec_len_step (u : Nat) : (decDigits (u + 1)).length = (decDigits u).length ∨ (decDigits (u + 1)).length = (decDigits u).length + 1 := by
  induction u using Nat.strongRecOn with
  | ind u ih =>
    by_cases h1 : u + 1 < 10
    · rw [dec_len_small h1, dec_len_small (show u < 10 by omega)]; exact .inl rfl
    · rw [dec_len_big h1]
      by_cases h2 : u < 10
      · rw [dec_len_small h2, show (u + 1) / 10 = 1 by omega, dec_len_small (by omega)]; exact .inr rfl
      · rw [dec_len_big h2]
        by_cases h3 : (u + 1) / 10 = u / 10
        · rw [h3]; exact .inl rfl
        · rw [show (u + 1) / 10 = u / 10 + 1 by omega]
          rcases ih (u / 10) (by omega) with h | h
          · exact .inl (by omega)
          · exact .inr (by omega)
theorem dec_len_lt (k : Nat) : ∀ u, u < 10 ^ k → 1 ≤ k → (decDigits u).length ≤ k := by
  induction k with
  | zero => intro u _ h; omega
  | succ k ih =>
    intro u hu _
    by_cases h1 : u < 10
    · rw [dec_len_small h1]; omega
    · rw [dec_len_big h1]
      by_cases hk : k = 0
      · subst hk; simp at hu; omega
      · have := ih (u / 10) (by rw [Nat.pow_succ] at hu; omega) (by omega)
        omega
theorem dec_len64 {u : Nat} (h : u < 18446744073709551616) : 1 ≤ (decDigits u).length ∧ (decDigits u).length ≤ 20 :=
  ⟨by have := dec_ne_nil u; have := List.length_pos_iff.2 this; omega, dec_len_lt 20 u (by omega) (by omega)⟩
/-- the reference's way: digit by digit -/
def refM (n : Nat) : List UInt8 → Option Nat
  | [] => some n
  | c :: r => if c.toNat < 48 ∨ 57 < c.toNat then none else if 1844674407370955161 < n ∨ n = 1844674407370955161 ∧ 5 < c.toNat - 48 then none else refM (n * 10 + (c.toNat - 48)) r
theorem refM_parse (n : Nat) (l : List UInt8) (u : Nat) : refM n l = some u ↔ parseUintM 18446744073709551615 n l = .ok u := by
  induction l generalizing n with
  | nil => simp [refM, parseUintM]
  | cons c r ih =>
    unfold refM parseUintM
    by_cases h1 : 48 ≤ c.toNat ∧ c.toNat ≤ 57
    · rw [if_neg (by omega), if_pos h1]
      by_cases h2 : 1844674407370955162 ≤ n
      · rw [if_pos (by omega), if_pos h2]; simp
      · rw [if_neg h2]
        by_cases h3 : 18446744073709551615 < n * 10 + (c.toNat - 48)
        · rw [if_pos (by omega), if_pos h3]; simp
        · rw [if_neg (by omega), if_neg h3]; exact ih _
    · rw [if_pos (by omega), if_neg h1]; simp
def refP (l : List UInt8) : Option Nat := if l.length < 1 ∨ 20 < l.length ∨ (1 < l.length ∧ l.getD 0 0 = 48) then none else refM 0 l
theorem snoc_parse (M acc : Nat) (a : List UInt8) (c : UInt8) (v : Nat) (h : parseUintM M acc (a ++ [c]) = .ok v) : ∃ u, parseUintM M acc a = .ok u ∧ 48 ≤ c.toNat ∧ c.toNat ≤ 57 ∧ v = u * 10 + (c.toNat - 48) := by
  induction a generalizing acc with
  | nil =>
    rw [List.nil_append] at h
    unfold parseUintM at h
    split at h
    · rename_i h1
      split at h
      · cases h
      · split at h
        · cases h
        · unfold parseUintM at h
          cases h
          exact ⟨acc, rfl, h1.1, h1.2, rfl⟩
    · cases h
  | cons d r ih =>
    rw [List.cons_append] at h
    unfold parseUintM at h ⊢
    split at h
    · rename_i h1
      rw [if_pos h1]
      split at h
      · cases h
      · rename_i h2
        rw [if_neg h2]
        split at h
        · cases h
        · rename_i h3
          rw [if_neg h3]
          exact ih _ h
    · cases h
theorem dec_of_parse (k : Nat) : ∀ l : List UInt8, l.length = k + 1 → (k = 0 ∨ l.getD 0 0 ≠ 48) → ∀ v, parseUintM 18446744073709551615 0 l = .ok v → decDigits v = l ∧ (1 ≤ k → 1 ≤ v) := by
  induction k with
  | zero =>
    intro l hl _ v h
    match l, hl with
    | [c], _ =>
      obtain ⟨u, h1, h2, h3, rfl⟩ := snoc_parse _ _ [] c v h
      simp [parseUintM] at h1
      subst h1
      refine ⟨?_, fun h => by omega⟩
      rw [decDigits_one (by omega)]
      congr 1
      apply UInt8.toNat_inj.1
      rw [u8_digit (by omega)]; omega
  | succ k ih =>
    intro l hl h0 v h
    have hne : l ≠ [] := by intro e; subst e; simp at hl
    obtain ⟨a, c, rfl⟩ : ∃ a c, l = a ++ [c] := ⟨l.dropLast, l.getLast hne, (List.dropLast_concat_getLast hne).symm⟩
    obtain ⟨u, h1, h2, h3, rfl⟩ := snoc_parse _ _ a c v h
    have hla : a.length = k + 1 := by simp at hl; omega
    have hh : a.getD 0 0 = (a ++ [c]).getD 0 0 := by
      match a, hla with
      | x :: r, _ => rfl
    have hz : a.getD 0 0 ≠ 48 := by rw [hh]; rcases h0 with h | h; omega; exact h
    obtain ⟨e, hu⟩ := ih a hla (.inr hz) u h1
    have hu1 : 1 ≤ u := by
      by_cases hu0 : u = 0
      · subst hu0
        rw [dec_zero] at e
        subst e
        exact absurd rfl hz
      · omega
    refine ⟨?_, fun _ => by omega⟩
    rw [decDigits_big (by omega), show (u * 10 + (c.toNat - 48)) / 10 = u by omega, e, show (u * 10 + (c.toNat - 48)) % 10 = c.toNat - 48 by omega]
    congr 2
    apply UInt8.toNat_inj.1
    rw [u8_digit (by omega)]; omega
theorem refP_num (l : List UInt8) : refP l = numP l := by
  have key : ∀ u, refP l = some u ↔ numP l = some u := by
    intro u
    rw [numP_iff]
    unfold refP
    constructor
    · intro h
      split at h
      · cases h
      · rename_i hc
        have hp := (refM_parse 0 l u).1 h
        have := dec_of_parse (l.length - 1) l (by omega) (by
          by_cases h1 : 1 < l.length
          · exact .inr fun e => hc (.inr (.inr ⟨h1, e⟩))
          · exact .inl (by omega)) u hp
        exact ⟨this.1.symm, by have := parse_le _ _ _ _ hp (by omega); omega⟩
    · rintro ⟨rfl, hu⟩
      have hl := dec_len64 hu
      rw [if_neg]
      · exact (refM_parse 0 _ u).2 (parse_dec u hu)
      · rintro (h | h | ⟨h1, h2⟩)
        · omega
        · omega
        · by_cases hz : u = 0
          · subst hz; rw [dec_zero] at h1; simp at h1
          · obtain ⟨c, r, e, hc⟩ := dec_head u (by omega)
            rw [e] at h2
            simp at h2
            subst h2
            exact hc rfl
  cases h1 : refP l with
  | some u => exact ((key u).1 h1).symm
  | none =>
    cases h2 : numP l with
    | none => rfl
    | some u => rw [(key u).2 h2] at h1; cases h1
theorem numP_beyond : numP [49, 56, 52, 52, 54, 55, 52, 52, 48, 55, 51, 55, 48, 57, 53, 53, 49, 54, 49, 54] = none := by
  unfold numP
  rw [show parseUintB 64 [49, 56, 52, 52, 54, 55, 52, 52, 48, 55, 51, 55, 48, 57, 53, 53, 49, 54, 49, 54] = .range from by rw [parseB (by simp)]; simp [parseUintM]]
theorem numP_top : numP [49, 56, 52, 52, 54, 55, 52, 52, 48, 55, 51, 55, 48, 57, 53, 53, 49, 54, 49, 53] = some 18446744073709551615 := by
  rw [← refP_num]; simp [refP, refM]
theorem numP_zero_one : numP [48, 49] = none := by
  rw [← refP_num]; simp [refP]
end Go.Proofs.YtbhdbglhejibbaaGreatDoor
