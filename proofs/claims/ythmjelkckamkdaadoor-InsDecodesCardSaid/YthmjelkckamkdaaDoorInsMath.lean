/- Layer 2, plain mathematics: words of instructions as sums of fields; what is read of them again. -/
import Derived.Test.YthmjelkckamkdaaDoorInsOp
import Derived.Laws.BitsAllLaws
namespace Go.Proofs.YthmjelkckamkdaaDoor
set_option linter.unusedVariables false

theorem fld_nat (v f n : Nat) : fld (v : Int) (f : Int) (n : Int) = ((v / 2 ^ f % 2 ^ n : Nat) : Int) := rfl
theorem put_nat (v f n x : Nat) : put (v : Int) (f : Int) (n : Int) (x : Int) = ((2 ^ f * (2 ^ n * (v / 2 ^ (f + n)) + x % 2 ^ n) + v % 2 ^ f : Nat) : Int) := rfl
/-- two numbers whose bits don't lie over one another -/
theorem or_add (a b lo n : Nat) (hb : b < 2 ^ n) (ha : a / 2 ^ lo % 2 ^ n = 0) : a ||| (b * 2 ^ lo) = a + b * 2 ^ lo := by
  refine Nat.eq_of_testBit_eq fun i => ?_
  have hs : a + b * 2 ^ lo = 2 ^ lo * (2 ^ n * (a / 2 ^ (lo + n)) + b) + a % 2 ^ lo := by
    have h1 := Nat.div_add_mod a (2 ^ lo)
    have h2 := Nat.div_add_mod (a / 2 ^ lo) (2 ^ n)
    rw [ha, Nat.add_zero, Nat.div_div_eq_div_mul, ← Nat.pow_add] at h2
    rw [Nat.mul_add, h2, Nat.mul_comm b]
    omega
  rw [hs, Nat.testBit_or, Nat.testBit_mul_two_pow, Nat.testBit_two_pow_mul_add _ (Nat.mod_lt _ (Nat.two_pow_pos lo))]
  by_cases h1 : i < lo
  · rw [if_pos h1, Nat.testBit_mod_two_pow]; simp [h1]; omega
  · rw [if_neg h1]
    have hab : (a / 2 ^ lo).testBit (i - lo) = a.testBit i := by rw [Nat.testBit_div_two_pow]; congr 1; omega
    rw [Nat.testBit_two_pow_mul_add _ hb]
    by_cases h2 : i - lo < n
    · rw [if_pos h2]
      have : a.testBit i = false := by
        rw [← hab]
        have := congrArg (fun x => x.testBit (i - lo)) ha
        simp only [Nat.testBit_mod_two_pow, Nat.zero_testBit] at this
        simpa [h2] using this
      rw [this]
      simp; omega
    · rw [if_neg h2]
      have h3 : b.testBit (i - lo) = false := Nat.testBit_lt_two_pow (Nat.lt_of_lt_of_le hb (Nat.pow_le_pow_right (by decide) (by omega)))
      rw [h3, Nat.testBit_div_two_pow]
      have : lo + n + (i - lo - n) = i := by omega
      simp
      congr 1
      omega
/-! ### the number's parts, spread and gathered -/
def spreadKN (y s : Nat) : Nat → Nat
  | 0 => 0
  | k + 1 => putN (spreadKN y s k) (lP s k).2.2 (lP s k).2.1 (fldN y (lP s k).1 (lP s k).2.1)
def numberKN (v s : Nat) : Nat → Nat
  | 0 => 0
  | k + 1 => putN (numberKN v s k) (lP s k).1 (lP s k).2.1 (fldN v (lP s k).2.2 (lP s k).2.1)
theorem spreadK_nat (x : Int) (s y : Nat) (h : x % 18446744073709551616 = (y : Int)) : ∀ k, spreadK x s k = (spreadKN y s k : Nat)
  | 0 => rfl
  | k + 1 => by
    unfold spreadK spreadKN
    rw [spreadK_nat x s y h k, h]
    rfl
theorem numberK_nat (v s : Nat) : ∀ k, numberK (v : Int) s k = (numberKN v s k : Nat)
  | 0 => rfl
  | k + 1 => by
    unfold numberK numberKN
    rw [numberK_nat v s k]
    rfl
theorem putN_none (v f x : Nat) : putN v f 0 x = v := by
  unfold putN
  have := Nat.div_add_mod v (2 ^ f)
  simp [Nat.mod_one]
  exact this
/-- put where nothing stands yet -/
theorem putN_free (v f n x : Nat) (hx : x < 2 ^ n) (h : v / 2 ^ f % 2 ^ n = 0) : putN v f n x = v + x * 2 ^ f := by
  unfold putN
  rw [Nat.mod_eq_of_lt hx]
  have h1 := Nat.div_add_mod v (2 ^ f)
  have h2 := Nat.div_add_mod (v / 2 ^ f) (2 ^ n)
  rw [h, Nat.add_zero, Nat.div_div_eq_div_mul, ← Nat.pow_add] at h2
  rw [Nat.mul_add, h2, Nat.mul_comm _ x]
  omega
theorem fldN_lt2 (v f n : Nat) : fldN v f n < 2 ^ n := Nat.mod_lt _ (Nat.two_pow_pos n)
def spreadN (s y : Nat) : Nat :=
  match s with
  | 1 => fldN y 0 12 * 1048576
  | 2 => fldN y 0 6 * 1048576
  | 3 => fldN y 0 5 * 128 + fldN y 5 7 * 33554432
  | 4 => fldN y 1 4 * 256 + fldN y 5 6 * 33554432 + fldN y 11 1 * 128 + fldN y 12 1 * 2147483648
  | 5 => fldN y 12 20 * 4096
  | 6 => fldN y 1 10 * 2097152 + fldN y 11 1 * 1048576 + fldN y 12 8 * 4096 + fldN y 20 1 * 2147483648
  | _ => 0
def numberN (s v : Nat) : Nat :=
  match s with
  | 1 => fldN v 20 12
  | 2 => fldN v 20 6
  | 3 => fldN v 7 5 + fldN v 25 7 * 32
  | 4 => fldN v 8 4 * 2 + fldN v 25 6 * 32 + fldN v 7 1 * 2048 + fldN v 31 1 * 4096
  | 5 => fldN v 12 20 * 4096
  | 6 => fldN v 21 10 * 2 + fldN v 20 1 * 2048 + fldN v 12 8 * 4096 + fldN v 31 1 * 1048576
  | _ => 0
theorem spread_lit (s y : Nat) (hs : s < 8) : spreadKN y s 4 = spreadN s y := by
  obtain rfl | rfl | rfl | rfl | rfl | rfl | rfl | rfl : s = 0 ∨ s = 1 ∨ s = 2 ∨ s = 3 ∨ s = 4 ∨ s = 5 ∨ s = 6 ∨ s = 7 := by omega
  · simp [spreadKN, lP, lParts, putN_none, spreadN]
  · show putN (putN (putN (putN 0 20 12 (fldN y 0 12)) 0 0 _) 0 0 _) 0 0 _ = fldN y 0 12 * 1048576
    rw [putN_none, putN_none, putN_none, putN_free 0 20 12 _ (fldN_lt2 y 0 12) (by simp)]
    omega
  · show putN (putN (putN (putN 0 20 6 (fldN y 0 6)) 0 0 _) 0 0 _) 0 0 _ = fldN y 0 6 * 1048576
    rw [putN_none, putN_none, putN_none, putN_free 0 20 6 _ (fldN_lt2 y 0 6) (by simp)]
    omega
  · show putN (putN (putN (putN 0 7 5 (fldN y 0 5)) 25 7 (fldN y 5 7)) 0 0 _) 0 0 _ = fldN y 0 5 * 128 + fldN y 5 7 * 33554432
    have a := fldN_lt2 y 0 5
    have b := fldN_lt2 y 5 7
    rw [putN_none, putN_none, putN_free 0 7 5 _ a (by simp), putN_free _ 25 7 _ b (by omega)]
    omega
  · show putN (putN (putN (putN 0 8 4 (fldN y 1 4)) 25 6 (fldN y 5 6)) 7 1 (fldN y 11 1)) 31 1 (fldN y 12 1) = fldN y 1 4 * 256 + fldN y 5 6 * 33554432 + fldN y 11 1 * 128 + fldN y 12 1 * 2147483648
    have a := fldN_lt2 y 1 4
    have b := fldN_lt2 y 5 6
    have c := fldN_lt2 y 11 1
    have d := fldN_lt2 y 12 1
    rw [putN_free 0 8 4 _ a (by simp), putN_free _ 25 6 _ b (by omega), putN_free _ 7 1 _ c (by omega), putN_free _ 31 1 _ d (by omega)]
    omega
  · show putN (putN (putN (putN 0 12 20 (fldN y 12 20)) 0 0 _) 0 0 _) 0 0 _ = fldN y 12 20 * 4096
    rw [putN_none, putN_none, putN_none, putN_free 0 12 20 _ (fldN_lt2 y 12 20) (by simp)]
    omega
  · show putN (putN (putN (putN 0 21 10 (fldN y 1 10)) 20 1 (fldN y 11 1)) 12 8 (fldN y 12 8)) 31 1 (fldN y 20 1) = fldN y 1 10 * 2097152 + fldN y 11 1 * 1048576 + fldN y 12 8 * 4096 + fldN y 20 1 * 2147483648
    have a := fldN_lt2 y 1 10
    have b := fldN_lt2 y 11 1
    have c := fldN_lt2 y 12 8
    have d := fldN_lt2 y 20 1
    rw [putN_free 0 21 10 _ a (by simp), putN_free _ 20 1 _ b (by omega), putN_free _ 12 8 _ c (by omega), putN_free _ 31 1 _ d (by omega)]
    omega
  · simp [spreadKN, lP, lParts, putN_none, spreadN]
theorem number_lit (s v : Nat) (hs : s < 8) : numberKN v s 4 = numberN s v := by
  obtain rfl | rfl | rfl | rfl | rfl | rfl | rfl | rfl : s = 0 ∨ s = 1 ∨ s = 2 ∨ s = 3 ∨ s = 4 ∨ s = 5 ∨ s = 6 ∨ s = 7 := by omega
  · simp [numberKN, lP, lParts, putN_none, numberN]
  · show putN (putN (putN (putN 0 0 12 (fldN v 20 12)) 0 0 _) 0 0 _) 0 0 _ = fldN v 20 12
    rw [putN_none, putN_none, putN_none, putN_free 0 0 12 _ (fldN_lt2 v 20 12) (by simp)]
    omega
  · show putN (putN (putN (putN 0 0 6 (fldN v 20 6)) 0 0 _) 0 0 _) 0 0 _ = fldN v 20 6
    rw [putN_none, putN_none, putN_none, putN_free 0 0 6 _ (fldN_lt2 v 20 6) (by simp)]
    omega
  · show putN (putN (putN (putN 0 0 5 (fldN v 7 5)) 5 7 (fldN v 25 7)) 0 0 _) 0 0 _ = fldN v 7 5 + fldN v 25 7 * 32
    have a := fldN_lt2 v 7 5
    have b := fldN_lt2 v 25 7
    rw [putN_none, putN_none, putN_free 0 0 5 _ a (by simp), putN_free _ 5 7 _ b (by omega)]
    omega
  · show putN (putN (putN (putN 0 1 4 (fldN v 8 4)) 5 6 (fldN v 25 6)) 11 1 (fldN v 7 1)) 12 1 (fldN v 31 1) = fldN v 8 4 * 2 + fldN v 25 6 * 32 + fldN v 7 1 * 2048 + fldN v 31 1 * 4096
    have a := fldN_lt2 v 8 4
    have b := fldN_lt2 v 25 6
    have c := fldN_lt2 v 7 1
    have d := fldN_lt2 v 31 1
    rw [putN_free 0 1 4 _ a (by simp), putN_free _ 5 6 _ b (by omega), putN_free _ 11 1 _ c (by omega), putN_free _ 12 1 _ d (by omega)]
    omega
  · show putN (putN (putN (putN 0 12 20 (fldN v 12 20)) 0 0 _) 0 0 _) 0 0 _ = fldN v 12 20 * 4096
    rw [putN_none, putN_none, putN_none, putN_free 0 12 20 _ (fldN_lt2 v 12 20) (by simp)]
    omega
  · show putN (putN (putN (putN 0 1 10 (fldN v 21 10)) 11 1 (fldN v 20 1)) 12 8 (fldN v 12 8)) 20 1 (fldN v 31 1) = fldN v 21 10 * 2 + fldN v 20 1 * 2048 + fldN v 12 8 * 4096 + fldN v 31 1 * 1048576
    have a := fldN_lt2 v 21 10
    have b := fldN_lt2 v 20 1
    have c := fldN_lt2 v 12 8
    have d := fldN_lt2 v 31 1
    rw [putN_free 0 1 10 _ a (by simp), putN_free _ 11 1 _ b (by omega), putN_free _ 12 8 _ c (by omega), putN_free _ 20 1 _ d (by omega)]
    omega
  · simp [numberKN, lP, lParts, putN_none, numberN]
theorem spreadN_lt (s y : Nat) : spreadN s y < 4294967296 := by
  have a := fldN_lt2 y 0 12
  have b := fldN_lt2 y 0 6
  have c := fldN_lt2 y 0 5
  have d := fldN_lt2 y 5 7
  have e := fldN_lt2 y 1 4
  have f := fldN_lt2 y 5 6
  have g := fldN_lt2 y 11 1
  have h := fldN_lt2 y 12 1
  have i := fldN_lt2 y 12 20
  have j := fldN_lt2 y 1 10
  have k := fldN_lt2 y 12 8
  have l := fldN_lt2 y 20 1
  unfold spreadN
  split <;> omega
/-- an integer's word -/
def wordN (x : Int) : Nat := (x % 18446744073709551616).toNat
theorem wordN_eq (x : Int) : x % 18446744073709551616 = (wordN x : Int) := by unfold wordN; omega
theorem spreadI_lit (x : Int) {s : Nat} (hs : s < 8) : spreadI x s = (spreadN s (wordN x) : Nat) := by
  unfold spreadI
  rw [spreadK_nat x s (wordN x) (wordN_eq x), spread_lit s _ hs]
  have := spreadN_lt s (wordN x)
  omega
end Go.Proofs.YthmjelkckamkdaaDoor
