/- Plain mathematics of layer 1: fields of words, words with another field, signed words, by quotients and by bits. No program. -/
import Derived.KernelRfl
namespace Go.Proofs.YtepkochgibjflaaDoor
set_option linter.unusedVariables false

def IsU (v : Int) : Prop := 0 ≤ v ∧ v < 18446744073709551616
/-- fits an int -/
def IsI (v : Int) : Prop := -9223372036854775808 ≤ v ∧ v ≤ 9223372036854775807
theorem IsU.mk {v : Int} (h0 : 0 ≤ v) (h1 : v < 18446744073709551616) : IsU v := ⟨h0, h1⟩

def fldN (v f n : Nat) : Nat := v / 2 ^ f % 2 ^ n
def putN (v f n x : Nat) : Nat := 2 ^ f * (2 ^ n * (v / 2 ^ (f + n)) + x % 2 ^ n) + v % 2 ^ f
def fld (v f n : Int) : Int := (fldN v.toNat f.toNat n.toNat : Nat)
def put (v f n x : Int) : Int := (putN v.toNat f.toNat n.toNat x.toNat : Nat)
/-- a word, signed by n bits -/
def sgn (v n : Int) : Int := if 2 * (v.toNat % 2 ^ n.toNat) < 2 ^ n.toNat then ((v.toNat % 2 ^ n.toNat : Nat) : Int) else ((v.toNat % 2 ^ n.toNat : Nat) : Int) - ((2 ^ n.toNat : Nat) : Int)

theorem testBit_fldN (v f n i : Nat) : (fldN v f n).testBit i = (decide (i < n) && v.testBit (f + i)) := by
  unfold fldN
  rw [Nat.testBit_mod_two_pow, Nat.testBit_div_two_pow, Nat.add_comm]

theorem testBit_putN (v f n x i : Nat) : (putN v f n x).testBit i = if f ≤ i ∧ i < f + n then x.testBit (i - f) else v.testBit i := by
  unfold putN
  rw [Nat.testBit_two_pow_mul_add _ (Nat.mod_lt _ (Nat.two_pow_pos f))]
  by_cases h1 : i < f
  · rw [if_pos h1, if_neg (by omega), Nat.testBit_mod_two_pow]; simp [h1]
  · rw [if_neg h1, Nat.testBit_two_pow_mul_add _ (Nat.mod_lt _ (Nat.two_pow_pos n))]
    by_cases h2 : i - f < n
    · rw [if_pos h2, if_pos (by omega), Nat.testBit_mod_two_pow]; simp [h2]
    · rw [if_neg h2, if_neg (by omega), Nat.testBit_div_two_pow]
      congr 1; omega

theorem pow_le64 {k : Nat} (h : k ≤ 64) : 2 ^ k ≤ 18446744073709551616 := by
  have := Nat.pow_le_pow_right (n := 2) (by decide) h
  simpa using this

theorem fldN_lt (v f n : Nat) (h : n ≤ 64) : fldN v f n < 18446744073709551616 :=
  Nat.lt_of_lt_of_le (Nat.mod_lt _ (Nat.two_pow_pos n)) (pow_le64 h)
theorem fldN_lt_pow (v f n : Nat) : fldN v f n < 2 ^ n := Nat.mod_lt _ (Nat.two_pow_pos n)

theorem lt64_of_testBit {x : Nat} (h : ∀ i, 64 ≤ i → x.testBit i = false) : x < 18446744073709551616 := by
  have := Nat.lt_pow_two_of_testBit (n := 64) x h
  simpa using this
theorem testBit_of_lt64 {x : Nat} (h : x < 18446744073709551616) {i : Nat} (hi : 64 ≤ i) : x.testBit i = false :=
  Nat.testBit_lt_two_pow (Nat.lt_of_lt_of_le h (by have := Nat.pow_le_pow_right (n := 2) (by decide) hi; simpa using this))

theorem putN_lt (v f n x : Nat) (hv : v < 18446744073709551616) (h : f + n ≤ 64) : putN v f n x < 18446744073709551616 := by
  refine lt64_of_testBit fun i hi => ?_
  rw [testBit_putN, if_neg (by omega)]
  exact testBit_of_lt64 hv hi

theorem isU_fld (v f n : Int) (h : n ≤ 64) : IsU (fld v f n) := by
  unfold fld IsU
  have := fldN_lt v.toNat f.toNat n.toNat (by omega)
  omega
theorem isU_put {v f n x : Int} (hv : IsU v) (hf : 0 ≤ f) (hn : 0 ≤ n) (h : f + n ≤ 64) : IsU (put v f n x) := by
  unfold put IsU
  have := putN_lt v.toNat f.toNat n.toNat x.toNat (by have := hv.1; have := hv.2; omega) (by omega)
  omega

/-! ### by bits: what the reference's loops add up -/
theorem div_step (W i : Nat) : W / 2 ^ i = 2 * (W / 2 ^ (i + 1)) + W / 2 ^ i % 2 := by
  have : W / 2 ^ (i + 1) = W / 2 ^ i / 2 := by rw [Nat.pow_succ, Nat.div_div_eq_div_mul]
  omega
theorem bit_eq_of_testBit {a b i j : Nat} (h : a.testBit i = b.testBit j) : a / 2 ^ i % 2 = b / 2 ^ j % 2 := by
  rw [Nat.testBit_eq_decide_div_mod_eq, Nat.testBit_eq_decide_div_mod_eq] at h
  have h1 := Nat.mod_two_eq_zero_or_one (a / 2 ^ i)
  have h2 := Nat.mod_two_eq_zero_or_one (b / 2 ^ j)
  have := decide_eq_decide.1 h
  omega

/-! ### laws of fields -/
theorem fld_put_same (v f n x : Int) : fld (put v f n x) f n = fld x 0 n := by
  unfold fld put
  congr 1
  rw [Int.toNat_natCast]
  refine Nat.eq_of_testBit_eq fun i => ?_
  rw [testBit_fldN, testBit_putN, testBit_fldN]
  by_cases h : i < n.toNat
  · rw [if_pos (by omega)]; simp [h]
  · simp [h]
theorem put_back {v f n : Int} (x : Int) (hv : 0 ≤ v) : put (put v f n x) f n (fld v f n) = v := by
  unfold fld put
  rw [Int.toNat_natCast, Int.toNat_natCast]
  have : putN (putN v.toNat f.toNat n.toNat x.toNat) f.toNat n.toNat (fldN v.toNat f.toNat n.toNat) = v.toNat := by
    refine Nat.eq_of_testBit_eq fun i => ?_
    rw [testBit_putN, testBit_putN, testBit_fldN]
    by_cases h : f.toNat ≤ i ∧ i < f.toNat + n.toNat
    · rw [if_pos h]
      have h1 : i - f.toNat < n.toNat := by omega
      have h2 : f.toNat + (i - f.toNat) = i := by omega
      simp [h1, h2]
    · rw [if_neg h, if_neg h]
  rw [this]; omega

/-! ### what the program's text makes -/
theorem low_nat {n : Nat} : ((2 : Int) ^ n % 18446744073709551616 - 1) % 18446744073709551616 = ((2 ^ n - 1 : Nat) : Int) ∨ 64 < n := by
  by_cases h : n ≤ 64
  · left
    have e : (2 : Int) ^ n = ((2 ^ n : Nat) : Int) := by simp
    rw [e]
    have h1 := pow_le64 h
    have h2 := Nat.two_pow_pos n
    by_cases h3 : n = 64
    · subst h3; decide
    · have := pow_le64 (k := n + 1) (by omega)
      rw [Nat.pow_succ] at this
      omega
  · exact .inr (by omega)

theorem put_bits (v f n x : Nat) (hv : v < 18446744073709551616) (h : f + n ≤ 64) :
    (v &&& (18446744073709551615 - ((2 ^ n - 1) * 2 ^ f) % 18446744073709551616)) ||| ((x &&& (2 ^ n - 1)) * 2 ^ f % 18446744073709551616) = putN v f n x := by
  have hp : 2 ^ n * 2 ^ f ≤ 18446744073709551616 := by rw [← Nat.pow_add]; exact pow_le64 (by omega)
  have hn := Nat.two_pow_pos n
  have hf := Nat.two_pow_pos f
  have hm : (2 ^ n - 1) * 2 ^ f < 18446744073709551616 := by
    have : (2 ^ n - 1) * 2 ^ f < 2 ^ n * 2 ^ f := Nat.mul_lt_mul_of_pos_right (by omega) hf
    omega
  have hx : (x &&& (2 ^ n - 1)) * 2 ^ f < 18446744073709551616 := by
    have h1 : x &&& (2 ^ n - 1) ≤ 2 ^ n - 1 := Nat.and_le_right
    have h2 : (x &&& (2 ^ n - 1)) * 2 ^ f ≤ (2 ^ n - 1) * 2 ^ f := Nat.mul_le_mul_right _ h1
    omega
  rw [Nat.mod_eq_of_lt hm, Nat.mod_eq_of_lt hx]
  refine Nat.eq_of_testBit_eq fun i => ?_
  have e : 18446744073709551615 - (2 ^ n - 1) * 2 ^ f = 2 ^ 64 - ((2 ^ n - 1) * 2 ^ f + 1) := by omega
  rw [testBit_putN, Nat.testBit_or, Nat.testBit_and, e, Nat.testBit_two_pow_sub_succ (by simpa using hm), ← Nat.shiftLeft_eq, ← Nat.shiftLeft_eq, Nat.testBit_shiftLeft, Nat.testBit_shiftLeft, Nat.testBit_and, Nat.testBit_two_pow_sub_one]
  by_cases h64 : i < 64
  · by_cases h1 : f ≤ i <;> by_cases h2 : i - f < n
    · rw [if_pos (by omega)]; simp [h1, h2]
    · rw [if_neg (by omega)]; simp [h1, h2, h64]
    · rw [if_neg (by omega)]; simp [h1, h64]
    · rw [if_neg (by omega)]; simp [h1, h64]
  · have := testBit_of_lt64 hv (i := i) (by omega)
    rw [if_neg (by omega)]
    have h2 : ¬ i - f < n := by omega
    simp [this, h2]

/-! ### signs -/
theorem sgn_shift (v k : Nat) (h : k < 64) :
    (((((v * 2 ^ k % 18446744073709551616 : Nat) : Int) + 9223372036854775808) % 18446744073709551616 - 9223372036854775808) / ((2 ^ k : Nat) : Int)) = sgn v ((64 - k : Nat) : Int) := by
  unfold sgn
  rw [Int.toNat_natCast, Int.toNat_natCast]
  have hk := Nat.two_pow_pos k
  have hs : 2 ^ (64 - k) * 2 ^ k = 18446744073709551616 := by rw [← Nat.pow_add, show 64 - k + k = 64 from by omega]
  have h1 : v * 2 ^ k % 18446744073709551616 = v % 2 ^ (64 - k) * 2 ^ k := by rw [← hs, Nat.mul_mod_mul_right]
  rw [h1]
  generalize hm : v % 2 ^ (64 - k) = m
  have hlt : m < 2 ^ (64 - k) := by rw [← hm]; exact Nat.mod_lt _ (Nat.two_pow_pos _)
  generalize hS : 2 ^ (64 - k) = S at *
  generalize hK : 2 ^ k = K at *
  have hSK : m * K < 18446744073709551616 := by rw [← hs]; exact Nat.mul_lt_mul_of_pos_right hlt hk
  by_cases h2 : 2 * m < S
  · rw [if_pos h2]
    have h3 : 2 * m * K < 18446744073709551616 := by rw [← hs]; exact Nat.mul_lt_mul_of_pos_right h2 hk
    rw [Nat.mul_assoc] at h3
    have : (((m * K : Nat) : Int) + 9223372036854775808) % 18446744073709551616 - 9223372036854775808 = ((m * K : Nat) : Int) := by omega
    rw [this, Int.natCast_mul, Int.mul_ediv_cancel _ (by omega)]
  · rw [if_neg h2]
    have h3 : 18446744073709551616 ≤ 2 * m * K := by rw [← hs]; exact Nat.mul_le_mul_right _ (by omega)
    rw [Nat.mul_assoc] at h3
    have : (((m * K : Nat) : Int) + 9223372036854775808) % 18446744073709551616 - 9223372036854775808 = ((m * K : Nat) : Int) - 18446744073709551616 := by omega
    rw [this]
    have e : ((m * K : Nat) : Int) - 18446744073709551616 = ((m : Int) - (S : Int)) * (K : Int) := by
      rw [Int.sub_mul, ← Int.natCast_mul, ← Int.natCast_mul, hs]; rfl
    rw [e, Int.mul_ediv_cancel _ (by omega)]

/-- the word whose bits are those of v signed by n bits -/
def sgnW (v n : Nat) : Nat := 2 ^ n * (if 2 * (v % 2 ^ n) < 2 ^ n then 0 else 2 ^ (64 - n) - 1) + v % 2 ^ n
theorem half_testBit (v n : Nat) (h : 1 ≤ n) : v.testBit (n - 1) = decide (¬ 2 * (v % 2 ^ n) < 2 ^ n) := by
  obtain ⟨k, rfl⟩ : ∃ k, n = k + 1 := ⟨n - 1, by omega⟩
  rw [Nat.add_sub_cancel]
  have h1 : v % 2 ^ (k + 1) = v % 2 ^ k + 2 ^ k * (v / 2 ^ k % 2) := by
    rw [Nat.pow_succ, Nat.mod_mul]
  have h2 := Nat.mod_lt v (Nat.two_pow_pos k)
  rw [Nat.testBit_eq_decide_div_mod_eq, h1, Nat.pow_succ]
  have h3 := Nat.mod_two_eq_zero_or_one (v / 2 ^ k)
  rcases h3 with h3 | h3
  · rw [h3]; simp; omega
  · rw [h3]; simp; omega
theorem testBit_sgnW (v n i : Nat) (h : 1 ≤ n) (hi : i < 64) : (sgnW v n).testBit i = if i < n then v.testBit i else v.testBit (n - 1) := by
  unfold sgnW
  rw [Nat.testBit_two_pow_mul_add _ (Nat.mod_lt _ (Nat.two_pow_pos n)), half_testBit v n h]
  by_cases h1 : i < n
  · rw [if_pos h1, if_pos h1, Nat.testBit_mod_two_pow]; simp [h1]
  · rw [if_neg h1, if_neg h1]
    by_cases h2 : 2 * (v % 2 ^ n) < 2 ^ n
    · rw [if_pos h2]; simp [h2]
    · rw [if_neg h2, Nat.testBit_two_pow_sub_one]; simp [h2]; omega
theorem sgnW_lt (v n : Nat) (h : n ≤ 64) : sgnW v n < 18446744073709551616 := by
  unfold sgnW
  have h1 := Nat.mod_lt v (Nat.two_pow_pos n)
  have hs : 2 ^ n * 2 ^ (64 - n) = 18446744073709551616 := by rw [← Nat.pow_add, show n + (64 - n) = 64 from by omega]
  have h2 := Nat.two_pow_pos n
  have h3 := Nat.two_pow_pos (64 - n)
  split
  · have := Nat.le_mul_of_pos_right (2 ^ n) h3
    omega
  · rw [Nat.mul_sub, Nat.mul_one, hs]
    have := Nat.le_mul_of_pos_right (2 ^ n) h3
    omega
theorem sgnW_wrap (v n : Nat) (h1 : 1 ≤ n) (h : n ≤ 64) : (((sgnW v n : Nat) : Int) + 9223372036854775808) % 18446744073709551616 - 9223372036854775808 = sgn v n := by
  unfold sgnW sgn
  rw [Int.toNat_natCast, Int.toNat_natCast]
  have hm := Nat.mod_lt v (Nat.two_pow_pos n)
  have hs : 2 ^ n * 2 ^ (64 - n) = 18446744073709551616 := by rw [← Nat.pow_add, show n + (64 - n) = 64 from by omega]
  have h2 := Nat.two_pow_pos n
  have hle := pow_le64 h
  split
  · next hc =>
    rw [Nat.mul_zero, Nat.zero_add]
    omega
  · next hc =>
    rw [Nat.mul_sub, Nat.mul_one, hs]
    have := Nat.le_mul_of_pos_right (2 ^ n) (Nat.two_pow_pos (64 - n))
    generalize 2 ^ n = S at *
    generalize v % S = m at *
    omega
end Go.Proofs.YtepkochgibjflaaDoor
