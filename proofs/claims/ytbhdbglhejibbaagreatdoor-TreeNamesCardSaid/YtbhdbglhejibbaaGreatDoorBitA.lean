/- Plain mathematics of layer 1: fields of words, words with another field, signed words, by quotients and by bits. No program.
   What the calls of package bits on numbers answer: Field, Put, Sign, Fits, FitsU, and what they call. Conditions: each argument fits its kind, as said at each.
   Slices of bytes in memory, and the reference's comparison of two of them: it tells whether they are the same list.
   bits.Bytes and the reference's Bytes: both give a new slice that reads as the word's lowest n bytes (0 to 8), else nil.
   bits.Word and the reference's Word: the number that up to 8 bytes are, the least first; of more bytes none.
   What a law's walk is told of its arguments: integers fit their kinds; a slice of integers that came in.
   What the calls of the reference package of layer 1 on numbers answer: May, Bit, Field, Put, Sign, Fits, FitsU. Conditions: each argument fits its kind, as said at each. -/
import Derived.KernelRfl
import Derived.Test.YtbhdbglhejibbaaGreatDoorChecked
import Derived.WalkKit
import Derived.Lib.Hide
import Derived.Deep.QuietTactic
import Derived.BigQuiet
import Derived.Handy
import Derived.OpenShut
namespace Go.Proofs.YtbhdbglhejibbaaGreatDoor
set_option maxRecDepth 100000
set_option linter.unusedVariables false

def IsU (v : Int) : Prop := 0 ≤ v ∧ v < 18446744073709551616
/-- fits an int -/
def IsI (v : Int) : Prop := -9223372036854775808 ≤ v ∧ v ≤ 9223372036854775807
theorem IsU.mk {v : Int} (h0 : 0 ≤ v) (h1 : v < 18446744073709551616) : IsU v := ⟨h0, h1⟩

def fldN (v f n : Nat) : Nat := v / 2 ^ f % 2 ^ n
def putN (v f n x : Nat) : Nat := 2 ^ f * (2 ^ n * (v / 2 ^ (f + n)) + x % 2 ^ n) + v % 2 ^ f
def fld (v f n : Int) : Int := (fldN v.toNat f.toNat n.toNat : Nat)
def put (v f n x : Int) : Int := (putN v.toNat f.toNat n.toNat x.toNat : Nat)
/-- a word, signed by n bits -/
def sgn (v n : Int) : Int := if 2 * (v.toNat % 2 ^ n.toNat) < 2 ^ n.toNat then ((v.toNat % 2 ^ n.toNat : Nat) : Int) else ((v.toNat % 2 ^ n.toNat : Nat) : Int) - ((2 ^ n.toNat : Nat) : Int)

theorem testBit_fldN (v f n i : Nat) : (fldN v f n).testBit i = (decide (i < n) && v.testBit (f + i)) := by
  unfold fldN
  rw [Nat.testBit_mod_two_pow, Nat.testBit_div_two_pow, Nat.add_comm]

theorem testBit_putN (v f n x i : Nat) : (putN v f n x).testBit i = if f ≤ i ∧ i < f + n then x.testBit (i - f) else v.testBit i := by
  unfold putN
  rw [Nat.testBit_two_pow_mul_add _ (Nat.mod_lt _ (Nat.two_pow_pos f))]
  by_cases h1 : i < f
  · rw [if_pos h1, if_neg (by omega), Nat.testBit_mod_two_pow]; simp [h1]
  · rw [if_neg h1, Nat.testBit_two_pow_mul_add _ (Nat.mod_lt _ (Nat.two_pow_pos n))]
    by_cases h2 : i - f < n
    · rw [if_pos h2, if_pos (by omega), Nat.testBit_mod_two_pow]; simp [h2]
    · rw [if_neg h2, if_neg (by omega), Nat.testBit_div_two_pow]
      congr 1; omega

theorem pow_le64 {k : Nat} (h : k ≤ 64) : 2 ^ k ≤ 18446744073709551616 := by
  have := Nat.pow_le_pow_right (n := 2) (by decide) h
  simpa using this

theorem fldN_lt (v f n : Nat) (h : n ≤ 64) : fldN v f n < 18446744073709551616 :=
  Nat.lt_of_lt_of_le (Nat.mod_lt _ (Nat.two_pow_pos n)) (pow_le64 h)
theorem fldN_lt_pow (v f n : Nat) : fldN v f n < 2 ^ n := Nat.mod_lt _ (Nat.two_pow_pos n)

theorem lt64_of_testBit {x : Nat} (h : ∀ i, 64 ≤ i → x.testBit i = false) : x < 18446744073709551616 := by
  have := Nat.lt_pow_two_of_testBit (n := 64) x h
  simpa using this
theorem testBit_of_lt64 {x : Nat} (h : x < 18446744073709551616) {i : Nat} (hi : 64 ≤ i) : x.testBit i = false :=
  Nat.testBit_lt_two_pow (Nat.lt_of_lt_of_le h (by have := Nat.pow_le_pow_right (n := 2) (by decide) hi; simpa using this))

theorem putN_lt (v f n x : Nat) (hv : v < 18446744073709551616) (h : f + n ≤ 64) : putN v f n x < 18446744073709551616 := by
  refine lt64_of_testBit fun i hi => ?_
  rw [testBit_putN, if_neg (by omega)]
  exact testBit_of_lt64 hv hi

theorem isU_fld (v f n : Int) (h : n ≤ 64) : IsU (fld v f n) := by
  unfold fld IsU
  have := fldN_lt v.toNat f.toNat n.toNat (by omega)
  omega
theorem isU_put {v f n x : Int} (hv : IsU v) (hf : 0 ≤ f) (hn : 0 ≤ n) (h : f + n ≤ 64) : IsU (put v f n x) := by
  unfold put IsU
  have := putN_lt v.toNat f.toNat n.toNat x.toNat (by have := hv.1; have := hv.2; omega) (by omega)
  omega

/-! ### by bits: what the reference's loops add up -/
theorem div_step (W i : Nat) : W / 2 ^ i = 2 * (W / 2 ^ (i + 1)) + W / 2 ^ i % 2 := by
  have : W / 2 ^ (i + 1) = W / 2 ^ i / 2 := by rw [Nat.pow_succ, Nat.div_div_eq_div_mul]
  omega
theorem bit_eq_of_testBit {a b i j : Nat} (h : a.testBit i = b.testBit j) : a / 2 ^ i % 2 = b / 2 ^ j % 2 := by
  rw [Nat.testBit_eq_decide_div_mod_eq, Nat.testBit_eq_decide_div_mod_eq] at h
  have h1 := Nat.mod_two_eq_zero_or_one (a / 2 ^ i)
  have h2 := Nat.mod_two_eq_zero_or_one (b / 2 ^ j)
  have := decide_eq_decide.1 h
  omega

/-! ### laws of fields -/
theorem fld_put_same (v f n x : Int) : fld (put v f n x) f n = fld x 0 n := by
  unfold fld put
  congr 1
  rw [Int.toNat_natCast]
  refine Nat.eq_of_testBit_eq fun i => ?_
  rw [testBit_fldN, testBit_putN, testBit_fldN]
  by_cases h : i < n.toNat
  · rw [if_pos (by omega)]; simp [h]
  · simp [h]
theorem put_back {v f n : Int} (x : Int) (hv : 0 ≤ v) : put (put v f n x) f n (fld v f n) = v := by
  unfold fld put
  rw [Int.toNat_natCast, Int.toNat_natCast]
  have : putN (putN v.toNat f.toNat n.toNat x.toNat) f.toNat n.toNat (fldN v.toNat f.toNat n.toNat) = v.toNat := by
    refine Nat.eq_of_testBit_eq fun i => ?_
    rw [testBit_putN, testBit_putN, testBit_fldN]
    by_cases h : f.toNat ≤ i ∧ i < f.toNat + n.toNat
    · rw [if_pos h]
      have h1 : i - f.toNat < n.toNat := by omega
      have h2 : f.toNat + (i - f.toNat) = i := by omega
      simp [h1, h2]
    · rw [if_neg h, if_neg h]
  rw [this]; omega

/-! ### what the program's text makes -/
theorem low_nat {n : Nat} : ((2 : Int) ^ n % 18446744073709551616 - 1) % 18446744073709551616 = ((2 ^ n - 1 : Nat) : Int) ∨ 64 < n := by
  by_cases h : n ≤ 64
  · left
    have e : (2 : Int) ^ n = ((2 ^ n : Nat) : Int) := by simp
    rw [e]
    have h1 := pow_le64 h
    have h2 := Nat.two_pow_pos n
    by_cases h3 : n = 64
    · subst h3; decide
    · have := pow_le64 (k := n + 1) (by omega)
      rw [Nat.pow_succ] at this
      omega
  · exact .inr (by omega)

theorem put_bits (v f n x : Nat) (hv : v < 18446744073709551616) (h : f + n ≤ 64) :
    (v &&& (18446744073709551615 - ((2 ^ n - 1) * 2 ^ f) % 18446744073709551616)) ||| ((x &&& (2 ^ n - 1)) * 2 ^ f % 18446744073709551616) = putN v f n x := by
  have hp : 2 ^ n * 2 ^ f ≤ 18446744073709551616 := by rw [← Nat.pow_add]; exact pow_le64 (by omega)
  have hn := Nat.two_pow_pos n
  have hf := Nat.two_pow_pos f
  have hm : (2 ^ n - 1) * 2 ^ f < 18446744073709551616 := by
    have : (2 ^ n - 1) * 2 ^ f < 2 ^ n * 2 ^ f := Nat.mul_lt_mul_of_pos_right (by omega) hf
    omega
  have hx : (x &&& (2 ^ n - 1)) * 2 ^ f < 18446744073709551616 := by
    have h1 : x &&& (2 ^ n - 1) ≤ 2 ^ n - 1 := Nat.and_le_right
    have h2 : (x &&& (2 ^ n - 1)) * 2 ^ f ≤ (2 ^ n - 1) * 2 ^ f := Nat.mul_le_mul_right _ h1
    omega
  rw [Nat.mod_eq_of_lt hm, Nat.mod_eq_of_lt hx]
  refine Nat.eq_of_testBit_eq fun i => ?_
  have e : 18446744073709551615 - (2 ^ n - 1) * 2 ^ f = 2 ^ 64 - ((2 ^ n - 1) * 2 ^ f + 1) := by omega
  rw [testBit_putN, Nat.testBit_or, Nat.testBit_and, e, Nat.testBit_two_pow_sub_succ (by simpa using hm), ← Nat.shiftLeft_eq, ← Nat.shiftLeft_eq, Nat.testBit_shiftLeft, Nat.testBit_shiftLeft, Nat.testBit_and, Nat.testBit_two_pow_sub_one]
  by_cases h64 : i < 64
  · by_cases h1 : f ≤ i <;> by_cases h2 : i - f < n
    · rw [if_pos (by omega)]; simp [h1, h2]
    · rw [if_neg (by omega)]; simp [h1, h2, h64]
    · rw [if_neg (by omega)]; simp [h1, h64]
    · rw [if_neg (by omega)]; simp [h1, h64]
  · have := testBit_of_lt64 hv (i := i) (by omega)
    rw [if_neg (by omega)]
    have h2 : ¬ i - f < n := by omega
    simp [this, h2]

/-! ### signs -/
theorem sgn_shift (v k : Nat) (h : k < 64) :
    (((((v * 2 ^ k % 18446744073709551616 : Nat) : Int) + 9223372036854775808) % 18446744073709551616 - 9223372036854775808) / ((2 ^ k : Nat) : Int)) = sgn v ((64 - k : Nat) : Int) := by
  unfold sgn
  rw [Int.toNat_natCast, Int.toNat_natCast]
  have hk := Nat.two_pow_pos k
  have hs : 2 ^ (64 - k) * 2 ^ k = 18446744073709551616 := by rw [← Nat.pow_add, show 64 - k + k = 64 from by omega]
  have h1 : v * 2 ^ k % 18446744073709551616 = v % 2 ^ (64 - k) * 2 ^ k := by rw [← hs, Nat.mul_mod_mul_right]
  rw [h1]
  generalize hm : v % 2 ^ (64 - k) = m
  have hlt : m < 2 ^ (64 - k) := by rw [← hm]; exact Nat.mod_lt _ (Nat.two_pow_pos _)
  generalize hS : 2 ^ (64 - k) = S at *
  generalize hK : 2 ^ k = K at *
  have hSK : m * K < 18446744073709551616 := by rw [← hs]; exact Nat.mul_lt_mul_of_pos_right hlt hk
  by_cases h2 : 2 * m < S
  · rw [if_pos h2]
    have h3 : 2 * m * K < 18446744073709551616 := by rw [← hs]; exact Nat.mul_lt_mul_of_pos_right h2 hk
    rw [Nat.mul_assoc] at h3
    have : (((m * K : Nat) : Int) + 9223372036854775808) % 18446744073709551616 - 9223372036854775808 = ((m * K : Nat) : Int) := by omega
    rw [this, Int.natCast_mul, Int.mul_ediv_cancel _ (by omega)]
  · rw [if_neg h2]
    have h3 : 18446744073709551616 ≤ 2 * m * K := by rw [← hs]; exact Nat.mul_le_mul_right _ (by omega)
    rw [Nat.mul_assoc] at h3
    have : (((m * K : Nat) : Int) + 9223372036854775808) % 18446744073709551616 - 9223372036854775808 = ((m * K : Nat) : Int) - 18446744073709551616 := by omega
    rw [this]
    have e : ((m * K : Nat) : Int) - 18446744073709551616 = ((m : Int) - (S : Int)) * (K : Int) := by
      rw [Int.sub_mul, ← Int.natCast_mul, ← Int.natCast_mul, hs]; rfl
    rw [e, Int.mul_ediv_cancel _ (by omega)]

/-- the word whose bits are those of v signed by n bits -/
def sgnW (v n : Nat) : Nat := 2 ^ n * (if 2 * (v % 2 ^ n) < 2 ^ n then 0 else 2 ^ (64 - n) - 1) + v % 2 ^ n
theorem half_testBit (v n : Nat) (h : 1 ≤ n) : v.testBit (n - 1) = decide (¬ 2 * (v % 2 ^ n) < 2 ^ n) := by
  obtain ⟨k, rfl⟩ : ∃ k, n = k + 1 := ⟨n - 1, by omega⟩
  rw [Nat.add_sub_cancel]
  have h1 : v % 2 ^ (k + 1) = v % 2 ^ k + 2 ^ k * (v / 2 ^ k % 2) := by
    rw [Nat.pow_succ, Nat.mod_mul]
  have h2 := Nat.mod_lt v (Nat.two_pow_pos k)
  rw [Nat.testBit_eq_decide_div_mod_eq, h1, Nat.pow_succ]
  have h3 := Nat.mod_two_eq_zero_or_one (v / 2 ^ k)
  rcases h3 with h3 | h3
  · rw [h3]; simp; omega
  · rw [h3]; simp; omega
theorem testBit_sgnW (v n i : Nat) (h : 1 ≤ n) (hi : i < 64) : (sgnW v n).testBit i = if i < n then v.testBit i else v.testBit (n - 1) := by
  unfold sgnW
  rw [Nat.testBit_two_pow_mul_add _ (Nat.mod_lt _ (Nat.two_pow_pos n)), half_testBit v n h]
  by_cases h1 : i < n
  · rw [if_pos h1, if_pos h1, Nat.testBit_mod_two_pow]; simp [h1]
  · rw [if_neg h1, if_neg h1]
    by_cases h2 : 2 * (v % 2 ^ n) < 2 ^ n
    · rw [if_pos h2]; simp [h2]
    · rw [if_neg h2, Nat.testBit_two_pow_sub_one]; simp [h2]; omega
theorem sgnW_lt (v n : Nat) (h : n ≤ 64) : sgnW v n < 18446744073709551616 := by
  unfold sgnW
  have h1 := Nat.mod_lt v (Nat.two_pow_pos n)
  have hs : 2 ^ n * 2 ^ (64 - n) = 18446744073709551616 := by rw [← Nat.pow_add, show n + (64 - n) = 64 from by omega]
  have h2 := Nat.two_pow_pos n
  have h3 := Nat.two_pow_pos (64 - n)
  split
  · have := Nat.le_mul_of_pos_right (2 ^ n) h3
    omega
  · rw [Nat.mul_sub, Nat.mul_one, hs]
    have := Nat.le_mul_of_pos_right (2 ^ n) h3
    omega
theorem sgnW_wrap (v n : Nat) (h1 : 1 ≤ n) (h : n ≤ 64) : (((sgnW v n : Nat) : Int) + 9223372036854775808) % 18446744073709551616 - 9223372036854775808 = sgn v n := by
  unfold sgnW sgn
  rw [Int.toNat_natCast, Int.toNat_natCast]
  have hm := Nat.mod_lt v (Nat.two_pow_pos n)
  have hs : 2 ^ n * 2 ^ (64 - n) = 18446744073709551616 := by rw [← Nat.pow_add, show n + (64 - n) = 64 from by omega]
  have h2 := Nat.two_pow_pos n
  have hle := pow_le64 h
  split
  · next hc =>
    rw [Nat.mul_zero, Nat.zero_add]
    omega
  · next hc =>
    rw [Nat.mul_sub, Nat.mul_one, hs]
    have := Nat.le_mul_of_pos_right (2 ^ n) (Nat.two_pow_pos (64 - n))
    generalize 2 ^ n = S at *
    generalize v % S = m at *
    omega
end Go.Proofs.YtbhdbglhejibbaaGreatDoor
namespace Go.Proofs.YtbhdbglhejibbaaGreatDoor
set_option maxRecDepth 100000
open Go.RowKit
set_option linter.unusedVariables false

/-- there is no such field -/
def NoFld (f n : Int) : Prop := ¬ (0 ≤ f ∧ 0 ≤ n ∧ f + n ≤ 64)
theorem ret_u64_tup {a b : Int} {c : Bool} (h : a = b) : Ending.returned (.tuple #[.int .u64 a, .bool c]) = Ending.returned (.tuple #[.int .u64 b, .bool c]) := by rw [h]
theorem field_eq {v f n : Int} (hv : IsU v) (hn : 0 ≤ n) (h1 : n ≤ 64) : bits .and .u64 (v / 2 ^ f.toNat) ((2 ^ n.toNat - 1 : Nat) : Int) = fld v f n := by
  obtain ⟨hv0, hv1⟩ := hv
  obtain ⟨v, rfl⟩ := Int.eq_ofNat_of_zero_le hv0
  have e : ((v : Nat) : Int) / 2 ^ f.toNat = ((v / 2 ^ f.toNat : Nat) : Int) := by simp
  have hd := Nat.div_le_self v (2 ^ f.toNat)
  have hp := pow_le64 (k := n.toNat) (by omega)
  rw [e, u64_and_nat _ _ (by omega) (by omega), Nat.and_two_pow_sub_one_eq_mod]
  simp [fld, fldN]
theorem nat_emod (a : Nat) : ((a : Nat) : Int) % 18446744073709551616 = ((a % 18446744073709551616 : Nat) : Int) := by omega
theorem put_eq {v f n x : Int} (hv : IsU v) (hf : 0 ≤ f) (hn : 0 ≤ n) (h : f + n ≤ 64) (hx : IsU x) :
    bits .or .u64 (bits .andNot .u64 v (IntKind.u64.wrap (((2 ^ n.toNat - 1 : Nat) : Int) * 2 ^ f.toNat))) (IntKind.u64.wrap (bits .and .u64 x ((2 ^ n.toNat - 1 : Nat) : Int) * 2 ^ f.toNat)) = put v f n x := by
  obtain ⟨hv0, hv1⟩ := hv
  obtain ⟨hx0, hx1⟩ := hx
  obtain ⟨v, rfl⟩ := Int.eq_ofNat_of_zero_le hv0
  obtain ⟨x, rfl⟩ := Int.eq_ofNat_of_zero_le hx0
  have hp := pow_le64 (k := n.toNat) (by omega)
  have e1 : ((2 ^ n.toNat - 1 : Nat) : Int) * 2 ^ f.toNat = (((2 ^ n.toNat - 1) * 2 ^ f.toNat : Nat) : Int) := by simp
  have e2 : ((x &&& (2 ^ n.toNat - 1) : Nat) : Int) * 2 ^ f.toNat = (((x &&& (2 ^ n.toNat - 1)) * 2 ^ f.toNat : Nat) : Int) := by simp
  have hm1 := Nat.mod_lt ((2 ^ n.toNat - 1) * 2 ^ f.toNat) (y := 18446744073709551616) (by decide)
  have hm2 := Nat.mod_lt ((x &&& (2 ^ n.toNat - 1)) * 2 ^ f.toNat) (y := 18446744073709551616) (by decide)
  have hle : v &&& (18446744073709551615 - ((2 ^ n.toNat - 1) * 2 ^ f.toNat) % 18446744073709551616) ≤ v := Nat.and_le_left
  rw [u64_and_nat _ _ (by omega) (by omega), e1, e2, IntKind.wrap_u64, IntKind.wrap_u64, nat_emod, nat_emod, u64_andNot_nat _ _ (by omega) hm1, u64_or_nat _ _ (by omega) hm2, put_bits v f.toNat n.toNat x (by omega) (by omega)]
  simp [put]
theorem sign_eq {v n : Int} (hv : IsU v) (h0 : 1 ≤ n) (h1 : n ≤ 64) : wrap64 (IntKind.u64.wrap (v * 2 ^ (64 - n).toNat)) / 2 ^ (64 - n).toNat = sgn v n := by
  obtain ⟨hv0, hv1⟩ := hv
  obtain ⟨v, rfl⟩ := Int.eq_ofNat_of_zero_le hv0
  have e1 : ((v : Nat) : Int) * 2 ^ (64 - n).toNat = ((v * 2 ^ (64 - n).toNat : Nat) : Int) := by simp
  have e2 : (2 : Int) ^ (64 - n).toNat = ((2 ^ (64 - n).toNat : Nat) : Int) := by simp
  have e3 : ((64 - (64 - n).toNat : Nat) : Int) = n := by omega
  have h := sgn_shift v (64 - n).toNat (by omega)
  rw [e1, IntKind.wrap_u64, nat_emod, wrap64, e2, h, e3]
theorem ret_i64 {a b : Int} (h : a = b) : Ending.returned (.int .i64 a) = Ending.returned (.int .i64 b) := by rw [h]
theorem ret_bool {a b : Bool} (h : a = b) : Ending.returned (.bool a) = Ending.returned (.bool b) := by rw [h]
theorem isU_mod (x : Int) : IsU (x % 18446744073709551616) := ⟨by omega, by omega⟩
end Go.Proofs.YtbhdbglhejibbaaGreatDoor
namespace Go.Proofs.YtbhdbglhejibbaaGreatDoor
set_option maxRecDepth 100000
open Go.RowKit
set_option linter.unusedVariables false

def nth (l : List Int) (k : Nat) : Int := l.getD k 0
/-- the slice at A reads as the bytes l -/
def Sl (w : World) (A : Option Addr) (l : List Int) : Prop := l = [] ∨ ∃ b off, A = some ⟨b, off, none⟩ ∧ ∀ k, k < l.length → w.cell? ⟨b, off + k, none⟩ = some (.int .u8 (nth l k))

theorem block_lt {w : World} {b o : Nat} {v : Value} (h : w.cell? ⟨b, o, none⟩ = some v) : b < w.heap.size := by
  rcases Nat.lt_or_ge b w.heap.size with h1 | h1
  · exact h1
  · simp [World.cell?, Array.getElem?_eq_none h1] at h
theorem Sl.below {w w' : World} {A : Option Addr} {l : List Int} (h : Sl w A l) (hb : Below w.heap.size w w') : Sl w' A l := by
  rcases h with h | ⟨b, off, rfl, hc⟩
  · exact .inl h
  · exact .inr ⟨b, off, rfl, fun k hk => by
      have h1 := hc k hk
      rw [hb.cell (p := ⟨b, off + k, none⟩) (block_lt h1)]
      exact h1⟩
theorem Sl.drewN {w : World} {A : Option Addr} {l : List Int} (h : Sl w A l) (n : Nat) : Sl (w.drewN n) A l := h

def SameTo (la lb : List Int) (k : Nat) : Prop := ∀ j, j < k → nth la j = nth lb j
theorem same_step {la lb : List Int} {k : Nat} (h : SameTo la lb k) (he : (nth la k != nth lb k) = false) : SameTo la lb (k + 1) := by
  intro j hj
  by_cases e : j = k
  · subst e; simpa using he
  · exact h j (by omega)
theorem same_end {la lb : List Int} (hl : la.length = lb.length) (h : SameTo la lb la.length) : (la == lb) = true := by
  rw [beq_iff_eq]
  refine List.ext_getElem hl fun i h1 h2 => ?_
  have := h i h1
  simpa [nth, List.getD_eq_getElem?_getD, List.getElem?_eq_getElem h1, List.getElem?_eq_getElem h2] using this
theorem same_diff {la lb : List Int} {k : Nat} (he : (nth la k != nth lb k) = true) : (la == lb) = false := by
  rw [beq_eq_false_iff_ne]
  rintro rfl
  simp at he
end Go.Proofs.YtbhdbglhejibbaaGreatDoor
namespace Go.Proofs.YtbhdbglhejibbaaGreatDoor
set_option maxRecDepth 100000
open Go.RowKit
set_option linter.unusedVariables false

/-- byte i of a word -/
def byteI (v : Int) (i : Nat) : Int := ((v.toNat / 2 ^ (8 * i) % 256 : Nat) : Int)
theorem byteI_bd (v : Int) (i : Nat) : 0 ≤ byteI v i ∧ byteI v i < 256 := by unfold byteI; omega
def bytesL (v : Int) (n : Nat) : List Int := (List.range n).map (byteI v)
theorem bytesL_length (v : Int) (n : Nat) : (bytesL v n).length = n := by simp [bytesL]
theorem bytesL_nth (v : Int) {n k : Nat} (h : k < n) : nth (bytesL v n) k = byteI v k := by
  simp [bytesL, nth, h]
/-- the row behind k rounds -/
def rowTo (v : Int) (n k : Nat) : List Value := (List.range n).map fun i => Value.int .u8 (if i < k then byteI v i else 0)
theorem rowTo_zero (v : Int) (n : Nat) : rowTo v n 0 = (madeCells (Value.int .u8 0).cells (n * 1)).toList := by
  unfold rowTo madeCells
  simp [Value.cells, Nat.mod_one]
theorem rowTo_set (v : Int) (n k : Nat) (h : k < n) : (rowTo v n k).set k (.int .u8 (byteI v k)) = rowTo v n (k + 1) := by
  refine List.ext_getElem (by simp [rowTo]) fun i h1 h2 => ?_
  simp only [List.getElem_set, rowTo, List.getElem_map, List.getElem_range]
  by_cases e : k = i
  · subst e; simp
  · rw [if_neg e]
    by_cases h3 : i < k
    · rw [if_pos h3, if_pos (by omega)]
    · rw [if_neg h3, if_neg (by omega)]
theorem rowTo_get (v : Int) (n k : Nat) (h : k < n) : (rowTo v n n)[k]? = some (.int .u8 (byteI v k)) := by
  simp [rowTo, h]
theorem sl_of_row {w : World} {base g : Nat} {e : TypeId} {v : Int} {n c : Nat} (h : w.ownsRow base e 1 (.slice (some ⟨g, 0, none⟩) n c) n (rowTo v n n)) : Sl w (some ⟨g, 0, none⟩) (bytesL v n) := by
  refine .inr ⟨g, 0, rfl, fun k hk => ?_⟩
  rw [bytesL_length] at hk
  rw [Nat.zero_add, h.cellAt k (by omega), rowTo_get v n k hk, bytesL_nth v hk]
theorem info5 : (Tryz.prog.info? 5).map (fun i => (i.zero, i.size, i.bytes)) = some (some (.int .u8 0), 1, 1) := by kernel_rfl

theorem byte_conv {v : Int} (hv : IsU v) {k : Nat} : v / 2 ^ (8 * k) % 256 = byteI v k := by
  obtain ⟨h0, h1⟩ := hv
  obtain ⟨v, rfl⟩ := Int.eq_ofNat_of_zero_le h0
  have e : ((v : Nat) : Int) / 2 ^ (8 * k) = ((v / 2 ^ (8 * k) : Nat) : Int) := by simp
  show (((v : Nat) : Int) / 2 ^ (8 * k)) % 256 = _
  rw [e, byteI, Int.toNat_natCast]
  omega
theorem val_u64' {a b : Int} (h : a = b) : Value.int .u64 a = Value.int .u64 b := by rw [h]
theorem new_cell (w : World) (u : Value) (t : TypeId) : ∀ j x, [u][j]? = some x → (w.alloc (.cells #[u] t)).cell? ((⟨w.heap.size, 0, none⟩ : Addr).add j) = some x := by
  intro j x hj
  match j, hj with
  | 0, hj =>
    simp at hj
    subst hj
    simp [Addr.add, go_sem]

/-! ### the reference's: appended one by one -/
/-- the word behind k rounds -/
def restI (v : Int) (k : Nat) : Int := ((v.toNat / 256 ^ k : Nat) : Int)
theorem rest_zero {v : Int} (hv : IsU v) : v = restI v 0 := by
  have := hv.1
  unfold restI; simp; omega
theorem isU_rest {v : Int} (hv : IsU v) (k : Nat) : IsU (restI v k) := by
  obtain ⟨h0, h1⟩ := hv
  unfold restI IsU
  have := Nat.div_le_self v.toNat (256 ^ k)
  generalize v.toNat / 256 ^ k = q at *
  omega
theorem rest_step (v : Int) (k : Nat) : restI v k / 256 = restI v (k + 1) := by
  unfold restI
  rw [Nat.pow_succ, ← Nat.div_div_eq_div_mul]
  omega
theorem rest_byte (v : Int) (k : Nat) : restI v k % 256 = byteI v k := by
  unfold restI byteI
  rw [Nat.pow_mul, show (2 : Nat) ^ 8 = 256 from rfl]
  omega
theorem rest_div {v : Int} (hv : IsU v) (k : Nat) : IntKind.u64.wrap ((restI v k).tdiv 256) = restI v (k + 1) := by
  obtain ⟨h0, h1⟩ := isU_rest hv k
  rw [Int.tdiv_eq_ediv_of_nonneg h0, rest_step, IntKind.wrap_u64]
  obtain ⟨h2, h3⟩ := isU_rest hv (k + 1)
  omega
def headL (v : Int) (k : Nat) : List Value := (bytesL v k).map (Value.int .u8)
theorem head_step (v : Int) (k : Nat) : headL v k ++ [Value.int .u8 (byteI v k)] = headL v (k + 1) := by
  simp [headL, bytesL, List.range_succ]
theorem sl_of_head {w : World} {base : Nat} {e : TypeId} {u : Value} {v : Int} {n : Nat} (h : w.ownsRow base e 1 u n (headL v n)) : ∃ A c, u = .slice A n c ∧ Sl w A (bytesL v n) := by
  have h0 := h.2
  rcases h0 with ⟨rfl, rfl⟩ | ⟨g, cap, cur, rfl, _⟩
  · exact ⟨none, 0, rfl, .inl rfl⟩
  · refine ⟨_, cap, rfl, .inr ⟨g, 0, rfl, fun k hk => ?_⟩⟩
    have hk' : k < n := by simpa [bytesL_length] using hk
    rw [Nat.zero_add, h.cellAt k (by omega), bytesL_nth v hk']
    simp [headL, bytesL, hk']
end Go.Proofs.YtbhdbglhejibbaaGreatDoor
namespace Go.Proofs.YtbhdbglhejibbaaGreatDoor
set_option maxRecDepth 100000
open Go.RowKit
set_option linter.unusedVariables false

def AllB (l : List Int) : Prop := ∀ x ∈ l, 0 ≤ x ∧ x < 256
theorem AllB.nth {l : List Int} (h : AllB l) {k : Nat} (hk : k < l.length) : 0 ≤ nth l k ∧ nth l k < 256 := by
  have : Proofs.YtbhdbglhejibbaaGreatDoor.nth l k = l[k] := by simp [Proofs.YtbhdbglhejibbaaGreatDoor.nth, hk]
  rw [this]
  exact h _ (List.getElem_mem hk)
theorem bytesL_all (v : Int) (n : Nat) : AllB (bytesL v n) := by
  intro x hx
  simp only [bytesL, List.mem_map] at hx
  obtain ⟨i, _, rfl⟩ := hx
  exact byteI_bd v i
/-- the number that bytes are -/
def wordI : List Int → Int
  | [] => 0
  | x :: l => x + 256 * wordI l
theorem wordI_snoc (l : List Int) (x : Int) : wordI (l ++ [x]) = wordI l + x * 256 ^ l.length := by
  induction l with
  | nil => simp [wordI]
  | cons y l ih =>
    simp only [List.cons_append, wordI, List.length_cons, ih, Int.pow_succ]
    rw [Int.mul_add, Int.add_assoc]
    congr 2
    rw [Int.mul_comm 256, Int.mul_assoc, Int.mul_comm (256 ^ l.length)]
theorem wordI_bd {l : List Int} (h : AllB l) : 0 ≤ wordI l ∧ wordI l < 256 ^ l.length := by
  induction l with
  | nil => simp [wordI]
  | cons y l ih =>
    have h1 := h y (by simp)
    have h2 := ih (fun x hx => h x (by simp [hx]))
    simp only [wordI, List.length_cons, Int.pow_succ]
    omega
theorem AllB.take {l : List Int} (h : AllB l) (k : Nat) : AllB (l.take k) := fun x hx => h x (List.mem_of_mem_take hx)
theorem AllB.drop {l : List Int} (h : AllB l) (k : Nat) : AllB (l.drop k) := fun x hx => h x (List.mem_of_mem_drop hx)
theorem nth_get {l : List Int} {k : Nat} (hk : k < l.length) : nth l k = l[k] := by simp [nth, hk]
theorem take_word {l : List Int} {k : Nat} (hk : k < l.length) : wordI (l.take (k + 1)) = wordI (l.take k) + nth l k * 256 ^ k := by
  rw [List.take_succ_eq_append_getElem hk, wordI_snoc, nth_get hk]
  simp [Nat.min_eq_left (Nat.le_of_lt hk)]
theorem drop_word {l : List Int} {k : Nat} (hk : k < l.length) : wordI (l.drop k) = nth l k + 256 * wordI (l.drop (k + 1)) := by
  rw [List.drop_eq_getElem_cons hk, nth_get hk]; rfl
theorem pow256_le {k : Nat} (h : k ≤ 8) : (256 : Int) ^ k ≤ 18446744073709551616 := by
  have h1 := Nat.pow_le_pow_right (n := 256) (by decide) h
  have e : (256 : Int) ^ k = ((256 ^ k : Nat) : Int) := by simp
  rw [e]
  omega
theorem isU_word {l : List Int} (h : AllB l) (hl : l.length ≤ 8) : IsU (wordI l) := by
  have h1 := wordI_bd h
  have h2 := pow256_le hl
  exact ⟨h1.1, by omega⟩
theorem or_step {l : List Int} (h : AllB l) (hl : l.length ≤ 8) {k : Nat} (hk : k < l.length) :
    bits .or .u64 (wordI (l.take k)) (IntKind.u64.wrap (nth l k * 2 ^ (8 * k))) = wordI (l.take (k + 1)) := by
  obtain ⟨b0, b1⟩ := h.nth hk
  obtain ⟨a0, a1⟩ := wordI_bd (h.take k)
  have hlen : (l.take k).length = k := by simp; omega
  rw [hlen] at a1
  rw [take_word hk]
  generalize wordI (l.take k) = a at *
  generalize nth l k = b at *
  obtain ⟨a, rfl⟩ := Int.eq_ofNat_of_zero_le a0
  obtain ⟨b, rfl⟩ := Int.eq_ofNat_of_zero_le b0
  have e : (256 : Int) ^ k = ((2 ^ (8 * k) : Nat) : Int) := by rw [Nat.pow_mul]; simp
  have e2 : ((b : Nat) : Int) * 2 ^ (8 * k) = ((b * 2 ^ (8 * k) : Nat) : Int) := by simp
  rw [e] at a1 ⊢
  have hp := Nat.pow_le_pow_right (n := 2) (by decide) (show 8 * k + 8 ≤ 64 by omega)
  have hp8 : 2 ^ (8 * k + 8) = 2 ^ (8 * k) * 256 := by rw [Nat.pow_add]
  have hlt : b * 2 ^ (8 * k) + 2 ^ (8 * k) ≤ 2 ^ (8 * k) * 256 := by
    have : (b + 1) * 2 ^ (8 * k) ≤ 256 * 2 ^ (8 * k) := Nat.mul_le_mul_right _ (by omega)
    rw [Nat.add_mul, Nat.one_mul] at this
    omega
  have hj := nat_join (8 * k) (b * 2 ^ (8 * k)) a (Nat.mul_mod_left _ _) (by omega)
  have hpos := Nat.two_pow_pos (8 * k)
  rw [e2, IntKind.wrap_u64, nat_emod, Nat.mod_eq_of_lt (by omega), u64_or_nat _ _ (by omega) (by omega), Nat.or_comm, hj]
  rw [← Int.natCast_mul]
  omega
theorem Sl.at_ {w : World} {A : Option Addr} {l : List Int} (h : Sl w A l) (h0 : 0 < l.length) : ∃ b off, A = some ⟨b, off, none⟩ ∧ ∀ k, k < l.length → w.cell? ⟨b, off + k, none⟩ = some (.int .u8 (nth l k)) := by
  rcases h with h | h
  · subst h; simp at h0
  · exact h
end Go.Proofs.YtbhdbglhejibbaaGreatDoor
namespace Go.Proofs.YtbhdbglhejibbaaGreatDoor
set_option maxRecDepth 100000
open Go.RowKit
set_option linter.unusedVariables false
theorem isU_of_wf {a : Int} (h : (Lit.int .u64 a).wf = true) : IsU a := by
  have := bounds_u64 h
  exact ⟨by omega, by omega⟩
theorem isI_of_wf {a : Int} (h : (Lit.int .i64 a).wf = true) : IsI a := by
  have := bounds_i64 h
  exact ⟨by omega, by omega⟩
/-- a slice of integers that came in: nil, or a row of cap cells that read as zs; the first len are its elements -/
def IsRow (k : IntKind) (w : World) (a : Option Addr) (len cap : Nat) (zs : List Int) : Prop :=
  (a = none ∧ len = 0 ∧ cap = 0 ∧ zs = []) ∨
  ∃ x, a = some x ∧ len ≤ cap ∧ cap ≤ maxLen ∧ zs.length = cap ∧ (∀ i, i < zs.length → w.cell? (x.add i) = some (.int k (zs.getD i 0))) ∧ ∀ n ∈ zs, (Lit.int k n).wf = true
theorem IsRow.sl {w : World} {a : Option Addr} {len cap : Nat} {zs : List Int} (h : IsRow .u8 w a len cap zs) : Sl w a (zs.take len) ∧ (zs.take len).length = len ∧ AllB (zs.take len) ∧ len ≤ maxLen := by
  rcases h with ⟨rfl, rfl, rfl, rfl⟩ | ⟨x, rfl, hl, hm, hz, hc, hw⟩
  · exact ⟨.inl rfl, rfl, fun x hx => by simp at hx, by unfold maxLen; omega⟩
  · refine ⟨?_, by simp; omega, ?_, by omega⟩
    · by_cases h0 : len = 0
      · subst h0; exact .inl rfl
      · obtain ⟨b, off, spot⟩ := x
        have h00 := hc 0 (by omega)
        have hs : spot = none := by simpa [Addr.add] using World.cell?_spot h00
        subst hs
        refine .inr ⟨b, off, rfl, fun k hk => ?_⟩
        have hk' : k < len ∧ k < zs.length := by simp at hk; omega
        have := hc k hk'.2
        have e : nth (zs.take len) k = zs.getD k 0 := by simp [nth, hk'.1]
        rw [e, ← this]
        unfold Addr.add
        by_cases e0 : k = 0
        · subst e0; simp
        · simp [e0]
    · intro x hx
      have := bounds_u8 (hw x (List.mem_of_mem_take hx))
      omega

/-! ### Bytes at whatever count -/
def cnt (a : Int) : Nat := if 0 ≤ a ∧ a ≤ 8 then a.toNat else 0
theorem cnt_le (a : Int) : cnt a ≤ 8 := by unfold cnt; split <;> omega
/-! ### bytes and numbers, there and back -/
theorem restI_word (v : Int) (hv : IsU v) (n : Nat) : wordI (bytesL v n) + 256 ^ n * restI v n = v := by
  induction n with
  | zero => simp [bytesL, wordI]; exact (rest_zero hv).symm
  | succ n ih =>
    have h1 := rest_step v n
    have h2 := rest_byte v n
    have h3 := isU_rest hv n
    have e : bytesL v (n + 1) = bytesL v n ++ [byteI v n] := by simp [bytesL, List.range_succ]
    rw [e, wordI_snoc, bytesL_length, ← h1, ← h2, Int.pow_succ]
    have h4 := Int.emod_add_mul_ediv (restI v n) 256
    have h5 : restI v n % 256 * 256 ^ n + 256 ^ n * 256 * (restI v n / 256) = 256 ^ n * restI v n := by
      conv => rhs; rw [← h4]
      rw [Int.mul_add, Int.mul_comm (restI v n % 256), Int.mul_assoc]
    omega
theorem word_of_bytes {v : Int} (hv : IsU v) {n : Nat} (hn : n ≤ 8) : wordI (bytesL v n) = fld v 0 (8 * (n : Int)) := by
  have h := restI_word v hv n
  obtain ⟨b0, b1⟩ := wordI_bd (bytesL_all v n)
  rw [bytesL_length] at b1
  have e : fld v 0 (8 * (n : Int)) = v % 256 ^ n := by
    obtain ⟨v0, v1⟩ := hv
    obtain ⟨v, rfl⟩ := Int.eq_ofNat_of_zero_le v0
    unfold fld fldN
    rw [show (8 * (n : Int)).toNat = 8 * n from by omega, Nat.pow_mul, show (2 : Nat) ^ 8 = 256 from rfl]
    simp
  rw [e]
  have h1 : v % 256 ^ n = (wordI (bytesL v n) + 256 ^ n * restI v n) % 256 ^ n := by rw [h]
  rw [h1, Int.add_mul_emod_self_left, Int.emod_eq_of_lt b0 b1]
theorem bytes_of_word {l : List Int} (h : AllB l) (hl : l.length ≤ 8) : bytesL (wordI l) l.length = l := by
  refine List.ext_getElem (bytesL_length _ _) fun i h1 h2 => ?_
  have hu := isU_word h hl
  have e1 : (bytesL (wordI l) l.length)[i] = byteI (wordI l) i := by simp [bytesL]
  rw [e1, ← rest_byte]
  have e2 : restI (wordI l) i = wordI (l.drop i) := by
    clear e1
    induction i with
    | zero => rw [← rest_zero hu, List.drop_zero]
    | succ i ih =>
      have hi : i < l.length := by omega
      rw [← rest_step, ih (by rw [bytesL_length]; omega) hi, drop_word hi]
      have := h.nth hi
      omega
  rw [e2, drop_word h2, nth_get h2]
  have := h _ (List.getElem_mem h2)
  omega
end Go.Proofs.YtbhdbglhejibbaaGreatDoor
namespace Go.Proofs.YtbhdbglhejibbaaGreatDoor
set_option maxRecDepth 100000
open Go.RowKit
set_option linter.unusedVariables false

def bitI (v i : Int) : Int := ((v.toNat / 2 ^ i.toNat % 2 : Nat) : Int)
theorem bitI_le (v i : Int) : 0 ≤ bitI v i ∧ bitI v i ≤ 1 := by unfold bitI; omega
theorem ret_u64 {a b : Int} (h : a = b) : Ending.returned (.int .u64 a) = Ending.returned (.int .u64 b) := by rw [h]
theorem val_u64r {a b : Int} (h : a = b) : Value.int .u64 a = Value.int .u64 b := by rw [h]
theorem fld_zero (v f n : Int) (h : n = 0) : fld v f n = 0 := by subst h; simp [fld, fldN, Nat.mod_one]
theorem fld_le (v f n : Int) (h : n ≤ 63) : 0 ≤ fld v f n ∧ fld v f n ≤ 9223372036854775807 := by
  have h1 := fldN_lt_pow v.toNat f.toNat n.toNat
  have h2 := Nat.pow_le_pow_right (n := 2) (by decide) (show n.toNat ≤ 63 by omega)
  unfold fld
  omega
theorem fld_step (v j a b c : Int) (hj : 0 ≤ j) (ha : a = j - 1 + 1) (hb : b = c + 1) (hc : 0 ≤ c) : 2 * fld v (j + 1) c + bitI v j = fld v a b := by
  subst ha hb
  unfold fld bitI fldN
  rw [show (j - 1 + 1).toNat = j.toNat from by omega, show (j + 1).toNat = j.toNat + 1 from by omega, show (c + 1).toNat = c.toNat + 1 from by omega, Nat.pow_succ 2 j.toNat, ← Nat.div_div_eq_div_mul, Nat.pow_succ', Nat.mod_mul]
  omega
/-- W, cut off below bit i -/
def top (W i : Int) : Int := ((W.toNat / 2 ^ i.toNat : Nat) : Int)
theorem top_zero {W : Int} (h : IsU W) : top W 64 = 0 := by
  obtain ⟨h0, h1⟩ := h
  unfold top
  rw [Nat.div_eq_of_lt]; rfl
  show W.toNat < 2 ^ 64
  omega
theorem top_all {W : Int} (h : IsU W) : top W 0 = W := by
  obtain ⟨h0, h1⟩ := h
  unfold top
  simp; omega
theorem top_le {W i : Int} (h : IsU W) (hi : 1 ≤ i) : 0 ≤ top W i ∧ top W i ≤ 9223372036854775807 := by
  obtain ⟨h0, h1⟩ := h
  unfold top
  obtain ⟨k, hk⟩ : ∃ k, i.toNat = k + 1 := ⟨i.toNat - 1, by omega⟩
  rw [hk, Nat.pow_succ', ← Nat.div_div_eq_div_mul]
  have := Nat.div_le_self (W.toNat / 2) (2 ^ k)
  generalize W.toNat / 2 / 2 ^ k = q at *
  omega
theorem top_step (W j a : Int) (hj : 0 ≤ j) (ha : a = j - 1 + 1) (b : Int) (hb : b = bitI W j) : 2 * top W (j + 1) + b = top W a := by
  subst ha hb
  unfold top bitI
  rw [show (j - 1 + 1).toNat = j.toNat from by omega, show (j + 1).toNat = j.toNat + 1 from by omega]
  have := div_step W.toNat j.toNat
  omega
theorem bit_put_in {v f n x j : Int} (hf : 0 ≤ f) (h1 : f ≤ j) (h2 : j < f + n) : bitI x (j - f) = bitI (put v f n x) j := by
  unfold bitI put
  rw [Int.toNat_natCast, bit_eq_of_testBit (b := putN v.toNat f.toNat n.toNat x.toNat) (j := j.toNat)]
  rw [testBit_putN, if_pos (by omega)]
  congr 1; omega
theorem bit_put_out {v f n x j : Int} (hf : 0 ≤ f) (hn : 0 ≤ n) (hj : 0 ≤ j) (h : j < f ∨ f + n ≤ j) : bitI v j = bitI (put v f n x) j := by
  unfold bitI put
  rw [Int.toNat_natCast, bit_eq_of_testBit (b := putN v.toNat f.toNat n.toNat x.toNat) (j := j.toNat)]
  rw [testBit_putN, if_neg (by omega)]
def sgnWI (v n : Int) : Int := (sgnW v.toNat n.toNat : Nat)
theorem isU_sgnW (v n : Int) (h : n ≤ 64) : IsU (sgnWI v n) := by
  unfold sgnWI IsU
  have := sgnW_lt v.toNat n.toNat (by omega)
  omega
theorem bit_sgn_in {v n j : Int} (hj : 0 ≤ j) (h0 : 1 ≤ n) (h64 : j < 64) (h1 : j < n) : bitI v j = bitI (sgnWI v n) j := by
  unfold bitI sgnWI
  rw [Int.toNat_natCast, bit_eq_of_testBit (b := sgnW v.toNat n.toNat) (j := j.toNat)]
  rw [testBit_sgnW _ _ _ (by omega) (by omega), if_pos (by omega)]
theorem bit_sgn_out {v n j : Int} (hj : 0 ≤ j) (h0 : 1 ≤ n) (h64 : j < 64) (h1 : n ≤ j) : bitI v (n - 1) = bitI (sgnWI v n) j := by
  unfold bitI sgnWI
  rw [Int.toNat_natCast, bit_eq_of_testBit (b := sgnW v.toNat n.toNat) (j := j.toNat)]
  rw [testBit_sgnW _ _ _ (by omega) (by omega), if_neg (by omega)]
  congr 1; omega
theorem fld_eq_of_bits {x n : Int} (hx : IsU x) (hn : 0 ≤ n) (h : ∀ j : Int, n ≤ j → j < 64 → bitI x j = 0) : fld x 0 n = x := by
  obtain ⟨hx0, hx1⟩ := hx
  have : x.toNat < 2 ^ n.toNat := by
    refine Nat.lt_pow_two_of_testBit _ fun i hi => ?_
    by_cases h64 : i < 64
    · have := h i (by omega) (by omega)
      unfold bitI at this
      rw [Int.toNat_natCast] at this
      rw [Nat.testBit_eq_decide_div_mod_eq]
      simp; omega
    · exact testBit_of_lt64 (by omega) (by omega)
  unfold fld fldN
  simp [Nat.mod_eq_of_lt this]
  omega
theorem fld_ne_of_bit {x n j : Int} (hn : 0 ≤ n) (h0 : n ≤ j) (hb : bitI x j = 1) : (fld x 0 n == x) = false := by
  rw [beq_eq_false_iff_ne]
  intro h
  have h1 : bitI (fld x 0 n) j = 0 := by
    have hl := fldN_lt_pow x.toNat 0 n.toNat
    have hp := Nat.pow_le_pow_right (n := 2) (by decide) (show n.toNat ≤ j.toNat by omega)
    unfold bitI fld
    rw [Int.toNat_natCast, Nat.div_eq_of_lt]
    · rfl
    · simp at hl ⊢; omega
  rw [h] at h1
  omega
def ClearTo (x n j : Int) : Prop := ∀ k, n ≤ k → k < j → bitI x k = 0
theorem clear_step {x n j : Int} (h : ClearTo x n j) (hb : (bitI x j == 1) = false) : ClearTo x n (j + 1) := by
  intro k h1 h2
  by_cases e : k = j
  · subst e
    rw [beq_eq_false_iff_ne] at hb
    have := bitI_le x k
    omega
  · exact h k h1 (by omega)
end Go.Proofs.YtbhdbglhejibbaaGreatDoor
