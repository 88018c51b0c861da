/- Layer 2, plain mathematics: words of instructions as sums of fields; what is read of them again.
   Layer 2, plain mathematics: an instruction's word is the sum of its fields; its fields are read again.
   Layer 2, plain mathematics: what is read of an instruction's word is what was put there.
   Layer 2, plain mathematics: which numbers an instruction of a shape may have.
   Layer 2: what the reference's calls Form, Shift and May answer. Conditions: said at each. -/
import Derived.Test.YtjngkifoaljmaaaGreatDoorInsB
import Derived.Laws.BitsAllLaws
namespace Go.Proofs.YtjngkifoaljmaaaGreatDoor
set_option maxRecDepth 100000
set_option linter.unusedVariables false

theorem fld_nat (v f n : Nat) : fld (v : Int) (f : Int) (n : Int) = ((v / 2 ^ f % 2 ^ n : Nat) : Int) := rfl
theorem put_nat (v f n x : Nat) : put (v : Int) (f : Int) (n : Int) (x : Int) = ((2 ^ f * (2 ^ n * (v / 2 ^ (f + n)) + x % 2 ^ n) + v % 2 ^ f : Nat) : Int) := rfl
/-- two numbers whose bits don't lie over one another -/
theorem or_add (a b lo n : Nat) (hb : b < 2 ^ n) (ha : a / 2 ^ lo % 2 ^ n = 0) : a ||| (b * 2 ^ lo) = a + b * 2 ^ lo := by
  refine Nat.eq_of_testBit_eq fun i => ?_
  have hs : a + b * 2 ^ lo = 2 ^ lo * (2 ^ n * (a / 2 ^ (lo + n)) + b) + a % 2 ^ lo := by
    have h1 := Nat.div_add_mod a (2 ^ lo)
    have h2 := Nat.div_add_mod (a / 2 ^ lo) (2 ^ n)
    rw [ha, Nat.add_zero, Nat.div_div_eq_div_mul, ← Nat.pow_add] at h2
    rw [Nat.mul_add, h2, Nat.mul_comm b]
    omega
  rw [hs, Nat.testBit_or, Nat.testBit_mul_two_pow, Nat.testBit_two_pow_mul_add _ (Nat.mod_lt _ (Nat.two_pow_pos lo))]
  by_cases h1 : i < lo
  · rw [if_pos h1, Nat.testBit_mod_two_pow]; simp [h1]; omega
  · rw [if_neg h1]
    have hab : (a / 2 ^ lo).testBit (i - lo) = a.testBit i := by rw [Nat.testBit_div_two_pow]; congr 1; omega
    rw [Nat.testBit_two_pow_mul_add _ hb]
    by_cases h2 : i - lo < n
    · rw [if_pos h2]
      have : a.testBit i = false := by
        rw [← hab]
        have := congrArg (fun x => x.testBit (i - lo)) ha
        simp only [Nat.testBit_mod_two_pow, Nat.zero_testBit] at this
        simpa [h2] using this
      rw [this]
      simp; omega
    · rw [if_neg h2]
      have h3 : b.testBit (i - lo) = false := Nat.testBit_lt_two_pow (Nat.lt_of_lt_of_le hb (Nat.pow_le_pow_right (by decide) (by omega)))
      rw [h3, Nat.testBit_div_two_pow]
      have : lo + n + (i - lo - n) = i := by omega
      simp
      congr 1
      omega
/-! ### the number's parts, spread and gathered -/
def spreadKN (y s : Nat) : Nat → Nat
  | 0 => 0
  | k + 1 => putN (spreadKN y s k) (lP s k).2.2 (lP s k).2.1 (fldN y (lP s k).1 (lP s k).2.1)
def numberKN (v s : Nat) : Nat → Nat
  | 0 => 0
  | k + 1 => putN (numberKN v s k) (lP s k).1 (lP s k).2.1 (fldN v (lP s k).2.2 (lP s k).2.1)
theorem spreadK_nat (x : Int) (s y : Nat) (h : x % 18446744073709551616 = (y : Int)) : ∀ k, spreadK x s k = (spreadKN y s k : Nat)
  | 0 => rfl
  | k + 1 => by
    unfold spreadK spreadKN
    rw [spreadK_nat x s y h k, h]
    rfl
theorem numberK_nat (v s : Nat) : ∀ k, numberK (v : Int) s k = (numberKN v s k : Nat)
  | 0 => rfl
  | k + 1 => by
    unfold numberK numberKN
    rw [numberK_nat v s k]
    rfl
theorem putN_none (v f x : Nat) : putN v f 0 x = v := by
  unfold putN
  have := Nat.div_add_mod v (2 ^ f)
  simp [Nat.mod_one]
  exact this
/-- put where nothing stands yet -/
theorem putN_free (v f n x : Nat) (hx : x < 2 ^ n) (h : v / 2 ^ f % 2 ^ n = 0) : putN v f n x = v + x * 2 ^ f := by
  unfold putN
  rw [Nat.mod_eq_of_lt hx]
  have h1 := Nat.div_add_mod v (2 ^ f)
  have h2 := Nat.div_add_mod (v / 2 ^ f) (2 ^ n)
  rw [h, Nat.add_zero, Nat.div_div_eq_div_mul, ← Nat.pow_add] at h2
  rw [Nat.mul_add, h2, Nat.mul_comm _ x]
  omega
theorem fldN_lt2 (v f n : Nat) : fldN v f n < 2 ^ n := Nat.mod_lt _ (Nat.two_pow_pos n)
def spreadN (s y : Nat) : Nat :=
  match s with
  | 1 => fldN y 0 12 * 1048576
  | 2 => fldN y 0 6 * 1048576
  | 3 => fldN y 0 5 * 128 + fldN y 5 7 * 33554432
  | 4 => fldN y 1 4 * 256 + fldN y 5 6 * 33554432 + fldN y 11 1 * 128 + fldN y 12 1 * 2147483648
  | 5 => fldN y 12 20 * 4096
  | 6 => fldN y 1 10 * 2097152 + fldN y 11 1 * 1048576 + fldN y 12 8 * 4096 + fldN y 20 1 * 2147483648
  | _ => 0
def numberN (s v : Nat) : Nat :=
  match s with
  | 1 => fldN v 20 12
  | 2 => fldN v 20 6
  | 3 => fldN v 7 5 + fldN v 25 7 * 32
  | 4 => fldN v 8 4 * 2 + fldN v 25 6 * 32 + fldN v 7 1 * 2048 + fldN v 31 1 * 4096
  | 5 => fldN v 12 20 * 4096
  | 6 => fldN v 21 10 * 2 + fldN v 20 1 * 2048 + fldN v 12 8 * 4096 + fldN v 31 1 * 1048576
  | _ => 0
theorem spread_lit (s y : Nat) (hs : s < 8) : spreadKN y s 4 = spreadN s y := by
  obtain rfl | rfl | rfl | rfl | rfl | rfl | rfl | rfl : s = 0 ∨ s = 1 ∨ s = 2 ∨ s = 3 ∨ s = 4 ∨ s = 5 ∨ s = 6 ∨ s = 7 := by omega
  · simp [spreadKN, lP, lParts, putN_none, spreadN]
  · show putN (putN (putN (putN 0 20 12 (fldN y 0 12)) 0 0 _) 0 0 _) 0 0 _ = fldN y 0 12 * 1048576
    rw [putN_none, putN_none, putN_none, putN_free 0 20 12 _ (fldN_lt2 y 0 12) (by simp)]
    omega
  · show putN (putN (putN (putN 0 20 6 (fldN y 0 6)) 0 0 _) 0 0 _) 0 0 _ = fldN y 0 6 * 1048576
    rw [putN_none, putN_none, putN_none, putN_free 0 20 6 _ (fldN_lt2 y 0 6) (by simp)]
    omega
  · show putN (putN (putN (putN 0 7 5 (fldN y 0 5)) 25 7 (fldN y 5 7)) 0 0 _) 0 0 _ = fldN y 0 5 * 128 + fldN y 5 7 * 33554432
    have a := fldN_lt2 y 0 5
    have b := fldN_lt2 y 5 7
    rw [putN_none, putN_none, putN_free 0 7 5 _ a (by simp), putN_free _ 25 7 _ b (by omega)]
    omega
  · show putN (putN (putN (putN 0 8 4 (fldN y 1 4)) 25 6 (fldN y 5 6)) 7 1 (fldN y 11 1)) 31 1 (fldN y 12 1) = fldN y 1 4 * 256 + fldN y 5 6 * 33554432 + fldN y 11 1 * 128 + fldN y 12 1 * 2147483648
    have a := fldN_lt2 y 1 4
    have b := fldN_lt2 y 5 6
    have c := fldN_lt2 y 11 1
    have d := fldN_lt2 y 12 1
    rw [putN_free 0 8 4 _ a (by simp), putN_free _ 25 6 _ b (by omega), putN_free _ 7 1 _ c (by omega), putN_free _ 31 1 _ d (by omega)]
    omega
  · show putN (putN (putN (putN 0 12 20 (fldN y 12 20)) 0 0 _) 0 0 _) 0 0 _ = fldN y 12 20 * 4096
    rw [putN_none, putN_none, putN_none, putN_free 0 12 20 _ (fldN_lt2 y 12 20) (by simp)]
    omega
  · show putN (putN (putN (putN 0 21 10 (fldN y 1 10)) 20 1 (fldN y 11 1)) 12 8 (fldN y 12 8)) 31 1 (fldN y 20 1) = fldN y 1 10 * 2097152 + fldN y 11 1 * 1048576 + fldN y 12 8 * 4096 + fldN y 20 1 * 2147483648
    have a := fldN_lt2 y 1 10
    have b := fldN_lt2 y 11 1
    have c := fldN_lt2 y 12 8
    have d := fldN_lt2 y 20 1
    rw [putN_free 0 21 10 _ a (by simp), putN_free _ 20 1 _ b (by omega), putN_free _ 12 8 _ c (by omega), putN_free _ 31 1 _ d (by omega)]
    omega
  · simp [spreadKN, lP, lParts, putN_none, spreadN]
theorem number_lit (s v : Nat) (hs : s < 8) : numberKN v s 4 = numberN s v := by
  obtain rfl | rfl | rfl | rfl | rfl | rfl | rfl | rfl : s = 0 ∨ s = 1 ∨ s = 2 ∨ s = 3 ∨ s = 4 ∨ s = 5 ∨ s = 6 ∨ s = 7 := by omega
  · simp [numberKN, lP, lParts, putN_none, numberN]
  · show putN (putN (putN (putN 0 0 12 (fldN v 20 12)) 0 0 _) 0 0 _) 0 0 _ = fldN v 20 12
    rw [putN_none, putN_none, putN_none, putN_free 0 0 12 _ (fldN_lt2 v 20 12) (by simp)]
    omega
  · show putN (putN (putN (putN 0 0 6 (fldN v 20 6)) 0 0 _) 0 0 _) 0 0 _ = fldN v 20 6
    rw [putN_none, putN_none, putN_none, putN_free 0 0 6 _ (fldN_lt2 v 20 6) (by simp)]
    omega
  · show putN (putN (putN (putN 0 0 5 (fldN v 7 5)) 5 7 (fldN v 25 7)) 0 0 _) 0 0 _ = fldN v 7 5 + fldN v 25 7 * 32
    have a := fldN_lt2 v 7 5
    have b := fldN_lt2 v 25 7
    rw [putN_none, putN_none, putN_free 0 0 5 _ a (by simp), putN_free _ 5 7 _ b (by omega)]
    omega
  · show putN (putN (putN (putN 0 1 4 (fldN v 8 4)) 5 6 (fldN v 25 6)) 11 1 (fldN v 7 1)) 12 1 (fldN v 31 1) = fldN v 8 4 * 2 + fldN v 25 6 * 32 + fldN v 7 1 * 2048 + fldN v 31 1 * 4096
    have a := fldN_lt2 v 8 4
    have b := fldN_lt2 v 25 6
    have c := fldN_lt2 v 7 1
    have d := fldN_lt2 v 31 1
    rw [putN_free 0 1 4 _ a (by simp), putN_free _ 5 6 _ b (by omega), putN_free _ 11 1 _ c (by omega), putN_free _ 12 1 _ d (by omega)]
    omega
  · show putN (putN (putN (putN 0 12 20 (fldN v 12 20)) 0 0 _) 0 0 _) 0 0 _ = fldN v 12 20 * 4096
    rw [putN_none, putN_none, putN_none, putN_free 0 12 20 _ (fldN_lt2 v 12 20) (by simp)]
    omega
  · show putN (putN (putN (putN 0 1 10 (fldN v 21 10)) 11 1 (fldN v 20 1)) 12 8 (fldN v 12 8)) 20 1 (fldN v 31 1) = fldN v 21 10 * 2 + fldN v 20 1 * 2048 + fldN v 12 8 * 4096 + fldN v 31 1 * 1048576
    have a := fldN_lt2 v 21 10
    have b := fldN_lt2 v 20 1
    have c := fldN_lt2 v 12 8
    have d := fldN_lt2 v 31 1
    rw [putN_free 0 1 10 _ a (by simp), putN_free _ 11 1 _ b (by omega), putN_free _ 12 8 _ c (by omega), putN_free _ 20 1 _ d (by omega)]
    omega
  · simp [numberKN, lP, lParts, putN_none, numberN]
theorem spreadN_lt (s y : Nat) : spreadN s y < 4294967296 := by
  have a := fldN_lt2 y 0 12
  have b := fldN_lt2 y 0 6
  have c := fldN_lt2 y 0 5
  have d := fldN_lt2 y 5 7
  have e := fldN_lt2 y 1 4
  have f := fldN_lt2 y 5 6
  have g := fldN_lt2 y 11 1
  have h := fldN_lt2 y 12 1
  have i := fldN_lt2 y 12 20
  have j := fldN_lt2 y 1 10
  have k := fldN_lt2 y 12 8
  have l := fldN_lt2 y 20 1
  unfold spreadN
  split <;> omega
/-- an integer's word -/
def wordN (x : Int) : Nat := (x % 18446744073709551616).toNat
theorem wordN_eq (x : Int) : x % 18446744073709551616 = (wordN x : Int) := by unfold wordN; omega
theorem spreadI_lit (x : Int) {s : Nat} (hs : s < 8) : spreadI x s = (spreadN s (wordN x) : Nat) := by
  unfold spreadI
  rw [spreadK_nat x s (wordN x) (wordN_eq x), spread_lit s _ hs]
  have := spreadN_lt s (wordN x)
  omega
end Go.Proofs.YtjngkifoaljmaaaGreatDoor
namespace Go.Proofs.YtjngkifoaljmaaaGreatDoor
set_option maxRecDepth 100000
set_option linter.unusedVariables false

theorem or_mul (a b lo n m : Nat) (hm : m = 2 ^ lo) (hb : b < 2 ^ n) (ha : a / 2 ^ lo % 2 ^ n = 0) : a ||| (b * m) = a + b * m := by
  subst hm; exact or_add a b lo n hb ha
theorem or_regs (a rd r1 r2 : Nat) (h0 : rd < 32) (h1 : r1 < 32) (h2 : r2 < 32) (g0 : a / 128 % 32 = 0) (g1 : a / 32768 % 32 = 0) (g2 : a / 1048576 % 32 = 0) :
    a ||| ((rd * 128 ||| r1 * 32768) ||| r2 * 1048576) = a + rd * 128 + r1 * 32768 + r2 * 1048576 := by
  rw [← Nat.or_assoc, ← Nat.or_assoc, or_mul a rd 7 5 128 (by decide) (by simpa using h0) (by simpa using g0), or_mul _ r1 15 5 32768 (by decide) (by simpa using h1) (by omega), or_mul _ r2 20 5 1048576 (by decide) (by simpa using h2) (by omega)]
/-- the sum of the fields -/
def encN (s F K R rd r1 r2 y : Nat) : Nat := F + K * 4096 + R * 2 ^ lRest s % 4294967296 + rd * 128 + r1 * 32768 + r2 * 1048576 + spreadN s y
/-- what each field is bounded by, and which of them a shape has -/
structure FieldsOk (s F K R rd r1 r2 : Nat) : Prop where
  fs : s < 8
  ff : F < 128
  fk : K < 8
  fkd : lKd s = false → K = 0
  fr : R < 2 ^ (32 - lRest s)
  frd : rd < 32
  frdd : lRd s = false → rd = 0
  fr1 : r1 < 32
  fr1d : lR1 s = false → r1 = 0
  fr2 : r2 < 32
  fr2d : lR2 s = false → r2 = 0
theorem or_sum {s F K R rd r1 r2 : Nat} (y : Nat) (h : FieldsOk s F K R rd r1 r2) :
    (((F ||| K * 4096) ||| (R * 2 ^ min (lRest s) 32 % 4294967296)) ||| ((rd * 128 ||| r1 * 32768) ||| r2 * 1048576)) ||| spreadN s y = encN s F K R rd r1 r2 y := by
  obtain ⟨hs, hf, hk, hkd, hr, hrd, hrdd, hr1, hr1d, hr2, hr2d⟩ := h
  have e1 : F ||| K * 4096 = F + K * 4096 := or_mul F K 12 3 4096 (by decide) (by simpa using hk) (by omega)
  rw [e1]
  have a := fldN_lt2 y 0 12
  have b := fldN_lt2 y 0 6
  have c := fldN_lt2 y 0 5
  have d := fldN_lt2 y 5 7
  have e := fldN_lt2 y 1 4
  have f := fldN_lt2 y 5 6
  have g := fldN_lt2 y 11 1
  have i := fldN_lt2 y 12 1
  have j := fldN_lt2 y 12 20
  have k := fldN_lt2 y 1 10
  have l := fldN_lt2 y 12 8
  have m := fldN_lt2 y 20 1
  unfold encN
  obtain rfl | rfl | rfl | rfl | rfl | rfl | rfl | rfl : s = 0 ∨ s = 1 ∨ s = 2 ∨ s = 3 ∨ s = 4 ∨ s = 5 ∨ s = 6 ∨ s = 7 := by omega
  · have hr : R < 128 := hr
    show ((F + K * 4096) ||| (R * 33554432 % 4294967296)) ||| ((rd * 128 ||| r1 * 32768) ||| r2 * 1048576) ||| 0 = F + K * 4096 + R * 33554432 % 4294967296 + rd * 128 + r1 * 32768 + r2 * 1048576 + 0
    rw [Nat.or_zero, Nat.mod_eq_of_lt (by omega), or_mul _ R 25 7 33554432 (by decide) (by simpa using hr) (by omega), or_regs _ rd r1 r2 hrd hr1 hr2 (by omega) (by omega) (by omega)]
    omega
  · have hr : R < 1 := hr
    have hz : R = 0 := by omega
    have hz2 : r2 = 0 := hr2d rfl
    subst hz hz2
    show ((F + K * 4096) ||| (0 * 2 ^ min (lRest 1) 32 % 4294967296)) ||| ((rd * 128 ||| r1 * 32768) ||| 0 * 1048576) ||| fldN y 0 12 * 1048576 = F + K * 4096 + 0 * 2 ^ lRest 1 % 4294967296 + rd * 128 + r1 * 32768 + 0 * 1048576 + fldN y 0 12 * 1048576
    rw [Nat.zero_mul (2 ^ min (lRest 1) 32), Nat.zero_mod, Nat.or_zero, or_regs _ rd r1 0 hrd hr1 (by omega) (by omega) (by omega) (by omega), or_mul _ _ 20 12 1048576 (by decide) a (by omega)]
    omega
  · have hr : R < 64 := hr
    have hz2 : r2 = 0 := hr2d rfl
    subst hz2
    show ((F + K * 4096) ||| (R * 67108864 % 4294967296)) ||| ((rd * 128 ||| r1 * 32768) ||| 0 * 1048576) ||| fldN y 0 6 * 1048576 = F + K * 4096 + R * 67108864 % 4294967296 + rd * 128 + r1 * 32768 + 0 * 1048576 + fldN y 0 6 * 1048576
    rw [Nat.mod_eq_of_lt (by omega), or_mul _ R 26 6 67108864 (by decide) (by simpa using hr) (by omega), or_regs _ rd r1 0 hrd hr1 (by omega) (by omega) (by omega) (by omega), or_mul _ _ 20 6 1048576 (by decide) b (by omega)]
  · have hr : R < 1 := hr
    have hz : R = 0 := by omega
    have hz2 : rd = 0 := hrdd rfl
    subst hz hz2
    show ((F + K * 4096) ||| (0 * 2 ^ min (lRest 3) 32 % 4294967296)) ||| ((0 * 128 ||| r1 * 32768) ||| r2 * 1048576) ||| (fldN y 0 5 * 128 + fldN y 5 7 * 33554432) = F + K * 4096 + 0 * 2 ^ lRest 3 % 4294967296 + 0 * 128 + r1 * 32768 + r2 * 1048576 + (fldN y 0 5 * 128 + fldN y 5 7 * 33554432)
    rw [← or_mul (fldN y 0 5 * 128) (fldN y 5 7) 25 7 33554432 (by decide) d (by omega), Nat.zero_mul (2 ^ min (lRest 3) 32), Nat.zero_mod, Nat.or_zero, or_regs _ 0 r1 r2 (by omega) hr1 hr2 (by omega) (by omega) (by omega), ← Nat.or_assoc, or_mul _ _ 7 5 128 (by decide) c (by omega), or_mul _ _ 25 7 33554432 (by decide) d (by omega)]
    rw [or_mul (fldN y 0 5 * 128) (fldN y 5 7) 25 7 33554432 (by decide) d (by omega)]
    omega
  · have hr : R < 1 := hr
    have hz : R = 0 := by omega
    have hz2 : rd = 0 := hrdd rfl
    subst hz hz2
    show ((F + K * 4096) ||| (0 * 2 ^ min (lRest 4) 32 % 4294967296)) ||| ((0 * 128 ||| r1 * 32768) ||| r2 * 1048576) ||| (fldN y 1 4 * 256 + fldN y 5 6 * 33554432 + fldN y 11 1 * 128 + fldN y 12 1 * 2147483648) = F + K * 4096 + 0 * 2 ^ lRest 4 % 4294967296 + 0 * 128 + r1 * 32768 + r2 * 1048576 + (fldN y 1 4 * 256 + fldN y 5 6 * 33554432 + fldN y 11 1 * 128 + fldN y 12 1 * 2147483648)
    have t : fldN y 1 4 * 256 + fldN y 5 6 * 33554432 + fldN y 11 1 * 128 + fldN y 12 1 * 2147483648 = ((fldN y 1 4 * 256 ||| fldN y 5 6 * 33554432) ||| fldN y 11 1 * 128) ||| fldN y 12 1 * 2147483648 := by
      rw [or_mul (fldN y 1 4 * 256) (fldN y 5 6) 25 6 33554432 (by decide) f (by omega), or_mul _ (fldN y 11 1) 7 1 128 (by decide) g (by omega), or_mul _ (fldN y 12 1) 31 1 2147483648 (by decide) i (by omega)]
    rw [Nat.zero_mul (2 ^ min (lRest 4) 32), Nat.zero_mod, Nat.or_zero, or_regs _ 0 r1 r2 (by omega) hr1 hr2 (by omega) (by omega) (by omega)]
    have u : (F + K * 4096 + 0 * 128 + r1 * 32768 + r2 * 1048576) ||| (fldN y 1 4 * 256 + fldN y 5 6 * 33554432 + fldN y 11 1 * 128 + fldN y 12 1 * 2147483648) = F + K * 4096 + 0 * 128 + r1 * 32768 + r2 * 1048576 + fldN y 1 4 * 256 + fldN y 5 6 * 33554432 + fldN y 11 1 * 128 + fldN y 12 1 * 2147483648 := by
      rw [t, ← Nat.or_assoc, ← Nat.or_assoc, ← Nat.or_assoc, or_mul _ (fldN y 1 4) 8 4 256 (by decide) e (by omega), or_mul _ (fldN y 5 6) 25 6 33554432 (by decide) f (by omega), or_mul _ (fldN y 11 1) 7 1 128 (by decide) g (by omega), or_mul _ (fldN y 12 1) 31 1 2147483648 (by decide) i (by omega)]
    rw [u]
    omega
  · have hr : R < 1 := hr
    have hz : R = 0 := by omega
    have hz1 : r1 = 0 := hr1d rfl
    have hz2 : r2 = 0 := hr2d rfl
    have hz3 : K = 0 := hkd rfl
    subst hz hz1 hz2 hz3
    show ((F + 0 * 4096) ||| (0 * 2 ^ min (lRest 5) 32 % 4294967296)) ||| ((rd * 128 ||| 0 * 32768) ||| 0 * 1048576) ||| fldN y 12 20 * 4096 = F + 0 * 4096 + 0 * 2 ^ lRest 5 % 4294967296 + rd * 128 + 0 * 32768 + 0 * 1048576 + fldN y 12 20 * 4096
    rw [Nat.zero_mul (2 ^ min (lRest 5) 32), Nat.zero_mod, Nat.or_zero, or_regs _ rd 0 0 hrd (by omega) (by omega) (by omega) (by omega) (by omega), or_mul _ _ 12 20 4096 (by decide) j (by omega)]
    omega
  · have hr : R < 1 := hr
    have hz : R = 0 := by omega
    have hz1 : r1 = 0 := hr1d rfl
    have hz2 : r2 = 0 := hr2d rfl
    have hz3 : K = 0 := hkd rfl
    subst hz hz1 hz2 hz3
    show ((F + 0 * 4096) ||| (0 * 2 ^ min (lRest 6) 32 % 4294967296)) ||| ((rd * 128 ||| 0 * 32768) ||| 0 * 1048576) ||| (fldN y 1 10 * 2097152 + fldN y 11 1 * 1048576 + fldN y 12 8 * 4096 + fldN y 20 1 * 2147483648) = F + 0 * 4096 + 0 * 2 ^ lRest 6 % 4294967296 + rd * 128 + 0 * 32768 + 0 * 1048576 + (fldN y 1 10 * 2097152 + fldN y 11 1 * 1048576 + fldN y 12 8 * 4096 + fldN y 20 1 * 2147483648)
    have t : fldN y 1 10 * 2097152 + fldN y 11 1 * 1048576 + fldN y 12 8 * 4096 + fldN y 20 1 * 2147483648 = ((fldN y 1 10 * 2097152 ||| fldN y 11 1 * 1048576) ||| fldN y 12 8 * 4096) ||| fldN y 20 1 * 2147483648 := by
      rw [or_mul (fldN y 1 10 * 2097152) (fldN y 11 1) 20 1 1048576 (by decide) g (by omega), or_mul _ (fldN y 12 8) 12 8 4096 (by decide) l (by omega), or_mul _ (fldN y 20 1) 31 1 2147483648 (by decide) m (by omega)]
    rw [Nat.zero_mul (2 ^ min (lRest 6) 32), Nat.zero_mod, Nat.or_zero, or_regs _ rd 0 0 hrd (by omega) (by omega) (by omega) (by omega) (by omega)]
    have u : (F + 0 * 4096 + rd * 128 + 0 * 32768 + 0 * 1048576) ||| (fldN y 1 10 * 2097152 + fldN y 11 1 * 1048576 + fldN y 12 8 * 4096 + fldN y 20 1 * 2147483648) = F + 0 * 4096 + rd * 128 + 0 * 32768 + 0 * 1048576 + fldN y 1 10 * 2097152 + fldN y 11 1 * 1048576 + fldN y 12 8 * 4096 + fldN y 20 1 * 2147483648 := by
      rw [t, ← Nat.or_assoc, ← Nat.or_assoc, ← Nat.or_assoc, or_mul _ (fldN y 1 10) 21 10 2097152 (by decide) k (by omega), or_mul _ (fldN y 11 1) 20 1 1048576 (by decide) g (by omega), or_mul _ (fldN y 12 8) 12 8 4096 (by decide) l (by omega), or_mul _ (fldN y 20 1) 31 1 2147483648 (by decide) m (by omega)]
    rw [u]
    omega
  · have hr : R < 33554432 := hr
    have hz0 : rd = 0 := hrdd rfl
    have hz1 : r1 = 0 := hr1d rfl
    have hz2 : r2 = 0 := hr2d rfl
    have hz3 : K = 0 := hkd rfl
    subst hz0 hz1 hz2 hz3
    show ((F + 0 * 4096) ||| (R * 128 % 4294967296)) ||| ((0 * 128 ||| 0 * 32768) ||| 0 * 1048576) ||| 0 = F + 0 * 4096 + R * 128 % 4294967296 + 0 * 128 + 0 * 32768 + 0 * 1048576 + 0
    rw [Nat.mod_eq_of_lt (by omega), or_mul _ R 7 25 128 (by decide) (by simpa using hr) (by omega)]
    simp
/-- what an instruction of operation n may be made of -/
theorem table_ok {n : Nat} (hn : n < 43) : opS n < 8 ∧ opF n < 128 ∧ opK n < 8 ∧ (lKd (opS n) = false → opK n = 0) ∧ opR n < 2 ^ (32 - lRest (opS n)) :=
  all43 (p := fun n => opS n < 8 ∧ opF n < 128 ∧ opK n < 8 ∧ (lKd (opS n) = false → opK n = 0) ∧ opR n < 2 ^ (32 - lRest (opS n))) (by decide +kernel) hn
theorem fitB_true {r : Int} {has : Bool} (h : fitB r has = true) : 0 ≤ r ∧ r < 32 ∧ (has = false → r = 0) := by
  unfold fitB regB at h
  cases has with
  | true => simp at h; exact ⟨h.1, h.2, fun h => by cases h⟩
  | false => simp at h; exact ⟨by omega, by omega, fun _ => h⟩
theorem may_parts {n : Nat} {rd r1 r2 imm : Int} (h : mayB n rd r1 r2 imm = true) : fitB rd (lRd (opS n)) = true ∧ fitB r1 (lR1 (opS n)) = true ∧ fitB r2 (lR2 (opS n)) = true ∧ numberI (spreadI imm (opS n)) (opS n) = imm := by
  unfold mayB at h
  simp only [Bool.and_eq_true, beq_iff_eq] at h
  exact ⟨h.1.1.1, h.1.1.2, h.1.2, h.2⟩
theorem may_fields {n : Nat} {rd r1 r2 imm : Int} (hn : n < 43) (h : mayB n rd r1 r2 imm = true) : FieldsOk (opS n) (opF n) (opK n) (opR n) rd.toNat r1.toNat r2.toNat := by
  obtain ⟨a, b, c, _⟩ := may_parts h
  obtain ⟨a0, a1, a2⟩ := fitB_true a
  obtain ⟨b0, b1, b2⟩ := fitB_true b
  obtain ⟨c0, c1, c2⟩ := fitB_true c
  obtain ⟨t0, t1, t2, t3, t4⟩ := table_ok hn
  exact ⟨t0, t1, t2, t3, t4, by omega, fun h => by have := a2 h; omega, by omega, fun h => by have := b2 h; omega, by omega, fun h => by have := c2 h; omega⟩
theorem encW_nat (F K R s rd r1 r2 : Nat) (imm : Int) (hF : F < 4294967296) (hK : K < 8) (h0 : rd < 32) (h1 : r1 < 32) (h2 : r2 < 32) (hs : s < 8) :
    encW F K R s rd r1 r2 imm = ((((F ||| K * 4096) ||| (R * 2 ^ min (lRest s) 32 % 4294967296)) ||| ((rd * 128 ||| r1 * 32768) ||| r2 * 1048576)) ||| spreadN s (wordN imm) : Nat) := by
  have lt (a b : Nat) (ha : a < 4294967296) (hb : b < 4294967296) : a ||| b < 4294967296 := Nat.or_lt_two_pow (n := 32) ha hb
  have hm : R * 2 ^ min (lRest s) 32 % 4294967296 < 4294967296 := Nat.mod_lt _ (by decide)
  have hsp := spreadN_lt s (wordN imm)
  have c1 : ((K : Int) * 4096 % 4294967296) = ((K * 4096 : Nat) : Int) := by omega
  have c2 : ((R : Int) * 2 ^ min (lRest s) 32 % 4294967296) = ((R * 2 ^ min (lRest s) 32 % 4294967296 : Nat) : Int) := by simp
  have c3 : ((rd : Int) % 4294967296 * 128 % 4294967296) = ((rd * 128 : Nat) : Int) := by omega
  have c4 : ((r1 : Int) % 4294967296 * 32768 % 4294967296) = ((r1 * 32768 : Nat) : Int) := by omega
  have c5 : ((r2 : Int) % 4294967296 * 1048576 % 4294967296) = ((r2 * 1048576 : Nat) : Int) := by omega
  unfold encW
  rw [c1, c2, c3, c4, c5, spreadI_lit imm hs]
  have l1 : F ||| K * 4096 < 4294967296 := lt _ _ hF (by omega)
  have l2 := lt _ _ l1 hm
  have l3 : rd * 128 ||| r1 * 32768 < 4294967296 := lt _ _ (by omega) (by omega)
  have l4 : (rd * 128 ||| r1 * 32768) ||| r2 * 1048576 < 4294967296 := lt _ _ l3 (by omega)
  rw [u32_or_nat _ _ hF (by omega), u32_or_nat _ _ l1 hm, u32_or_nat _ _ (by omega) (by omega), u32_or_nat _ _ l3 (by omega), u32_or_nat _ _ l2 l4, u32_or_nat _ _ (lt _ _ l2 l4) hsp]
theorem encI_sum {n : Nat} {rd r1 r2 imm : Int} (hn : n < 43) (h : mayB n rd r1 r2 imm = true) : encI n rd r1 r2 imm = (encN (opS n) (opF n) (opK n) (opR n) rd.toNat r1.toNat r2.toNat (wordN imm) : Nat) := by
  have hf := may_fields hn h
  obtain ⟨a, b, c, _⟩ := may_parts h
  obtain ⟨a0, a1, _⟩ := fitB_true a
  obtain ⟨b0, b1, _⟩ := fitB_true b
  obtain ⟨c0, c1, _⟩ := fitB_true c
  unfold encI
  rw [← or_sum _ hf, ← encW_nat _ _ _ _ _ _ _ imm (by have := hf.ff; omega) hf.fk hf.frd hf.fr1 hf.fr2 hf.fs, Int.toNat_of_nonneg a0, Int.toNat_of_nonneg b0, Int.toNat_of_nonneg c0]
end Go.Proofs.YtjngkifoaljmaaaGreatDoor
namespace Go.Proofs.YtjngkifoaljmaaaGreatDoor
set_option maxRecDepth 100000
set_option linter.unusedVariables false

def EncBack (s F K R rd r1 r2 y w : Nat) : Prop :=
  w < 4294967296 ∧ w % 128 = F ∧ (lKd s = true → w / 4096 % 8 = K) ∧ w / 2 ^ lRest s % 2 ^ (32 - lRest s) = R ∧ (lRd s = true → w / 128 % 32 = rd) ∧ (lR1 s = true → w / 32768 % 32 = r1) ∧ (lR2 s = true → w / 1048576 % 32 = r2) ∧ numberN s w = numberN s (spreadN s y)
theorem nN0 (v : Nat) : numberN 0 v = 0 := by simp [numberN]
theorem nN1 (v : Nat) : numberN 1 v = fldN v 20 12 := by simp [numberN]
theorem nN2 (v : Nat) : numberN 2 v = fldN v 20 6 := by simp [numberN]
theorem nN5 (v : Nat) : numberN 5 v = fldN v 12 20 * 4096 := by simp [numberN]
theorem nN7 (v : Nat) : numberN 7 v = 0 := by simp [numberN]
theorem sN1 (y : Nat) : spreadN 1 y = fldN y 0 12 * 1048576 := by simp [spreadN]
theorem sN2 (y : Nat) : spreadN 2 y = fldN y 0 6 * 1048576 := by simp [spreadN]
theorem sN5 (y : Nat) : spreadN 5 y = fldN y 12 20 * 4096 := by simp [spreadN]
theorem fldN_at {w q m : Nat} (f n : Nat) (hf : 2 ^ f = m) (hq : q < 2 ^ n) (h : w / m % 2 ^ n = q) : fldN w f n = fldN (q * m) f n := by
  subst hf
  unfold fldN
  rw [h, Nat.mul_div_cancel _ (Nat.two_pow_pos f), Nat.mod_eq_of_lt hq]
/-- shape B: the number's parts, in the word and alone -/
theorem parts4 {F K r1 r2 a b c d w : Nat} (hF : F < 128) (hK : K < 8) (h1 : r1 < 32) (h2 : r2 < 32) (ha : a < 16) (hb : b < 64) (hc : c < 2) (hd : d < 2) (hw : F + K * 4096 + r1 * 32768 + r2 * 1048576 + (a * 256 + b * 33554432 + c * 128 + d * 2147483648) = w) :
    w < 4294967296 ∧ w % 128 = F ∧ w / 4096 % 8 = K ∧ w / 32768 % 32 = r1 ∧ w / 1048576 % 32 = r2 ∧ w / 256 % 16 = a ∧ w / 33554432 % 64 = b ∧ w / 128 % 2 = c ∧ w / 2147483648 % 2 = d := by
  subst hw
  refine ⟨by omega, by omega, by omega, by omega, by omega, by omega, by omega, by omega, by omega⟩
/-- shape J -/
theorem parts6 {F rd a b c d w : Nat} (hF : F < 128) (h1 : rd < 32) (ha : a < 1024) (hb : b < 2) (hc : c < 256) (hd : d < 2) (hw : F + rd * 128 + (a * 2097152 + b * 1048576 + c * 4096 + d * 2147483648) = w) :
    w < 4294967296 ∧ w % 128 = F ∧ w / 128 % 32 = rd ∧ w / 2097152 % 1024 = a ∧ w / 1048576 % 2 = b ∧ w / 4096 % 256 = c ∧ w / 2147483648 % 2 = d := by
  subst hw
  refine ⟨by omega, by omega, by omega, by omega, by omega, by omega, by omega⟩
theorem enc_back0 {F K R rd r1 r2 : Nat} (y : Nat) (h : FieldsOk 0 F K R rd r1 r2) : EncBack 0 F K R rd r1 r2 y (encN 0 F K R rd r1 r2 y) := by
  obtain ⟨hs, hf, hk, hkd, hr, hrd, hrdd, hr1, hr1d, hr2, hr2d⟩ := h
  unfold EncBack
  have hr : R < 128 := hr
  generalize hw : encN 0 F K R rd r1 r2 y = w
  have hw : F + K * 4096 + R * 33554432 % 4294967296 + rd * 128 + r1 * 32768 + r2 * 1048576 + 0 = w := hw
  exact ⟨by omega, by omega, fun _ => by omega, by show w / 33554432 % 128 = R; omega, fun _ => by omega, fun _ => by omega, fun _ => by omega, by rw [nN0, nN0]⟩
theorem enc_back1 {F K R rd r1 r2 : Nat} (y : Nat) (h : FieldsOk 1 F K R rd r1 r2) : EncBack 1 F K R rd r1 r2 y (encN 1 F K R rd r1 r2 y) := by
  obtain ⟨hs, hf, hk, hkd, hr, hrd, hrdd, hr1, hr1d, hr2, hr2d⟩ := h
  have a := fldN_lt2 y 0 12
  unfold EncBack
  have hr : R < 1 := hr
  have hz : R = 0 := by omega
  have hz2 : r2 = 0 := hr2d rfl
  generalize hw : encN 1 F K R rd r1 r2 y = w
  have hw : F + K * 4096 + R * 4294967296 % 4294967296 + rd * 128 + r1 * 32768 + r2 * 1048576 + fldN y 0 12 * 1048576 = w := hw
  exact ⟨by omega, by omega, fun _ => by omega, by show w / 4294967296 % 1 = R; omega, fun _ => by omega, fun _ => by omega, (fun h => by cases h), by rw [nN1, nN1, sN1]; exact fldN_at 20 12 (by decide) a (by omega)⟩
theorem enc_back2 {F K R rd r1 r2 : Nat} (y : Nat) (h : FieldsOk 2 F K R rd r1 r2) : EncBack 2 F K R rd r1 r2 y (encN 2 F K R rd r1 r2 y) := by
  obtain ⟨hs, hf, hk, hkd, hr, hrd, hrdd, hr1, hr1d, hr2, hr2d⟩ := h
  have b := fldN_lt2 y 0 6
  unfold EncBack
  have hr : R < 64 := hr
  have hz2 : r2 = 0 := hr2d rfl
  generalize hw : encN 2 F K R rd r1 r2 y = w
  have hw : F + K * 4096 + R * 67108864 % 4294967296 + rd * 128 + r1 * 32768 + r2 * 1048576 + fldN y 0 6 * 1048576 = w := hw
  exact ⟨by omega, by omega, fun _ => by omega, by show w / 67108864 % 64 = R; omega, fun _ => by omega, fun _ => by omega, (fun h => by cases h), by rw [nN2, nN2, sN2]; exact fldN_at 20 6 (by decide) b (by omega)⟩
theorem enc_back3 {F K R rd r1 r2 : Nat} (y : Nat) (h : FieldsOk 3 F K R rd r1 r2) : EncBack 3 F K R rd r1 r2 y (encN 3 F K R rd r1 r2 y) := by
  obtain ⟨hs, hf, hk, hkd, hr, hrd, hrdd, hr1, hr1d, hr2, hr2d⟩ := h
  have c := fldN_lt2 y 0 5
  have d := fldN_lt2 y 5 7
  unfold EncBack
  have hr : R < 1 := hr
  have hz : R = 0 := by omega
  have hz2 : rd = 0 := hrdd rfl
  generalize hw : encN 3 F K R rd r1 r2 y = w
  have hw : F + K * 4096 + R * 4294967296 % 4294967296 + rd * 128 + r1 * 32768 + r2 * 1048576 + (fldN y 0 5 * 128 + fldN y 5 7 * 33554432) = w := hw
  exact ⟨by omega, by omega, fun _ => by omega, by show w / 4294967296 % 1 = R; omega, (fun h => by cases h), fun _ => by omega, fun _ => by omega,
    by show w / 128 % 32 + w / 33554432 % 128 * 32 = (fldN y 0 5 * 128 + fldN y 5 7 * 33554432) / 128 % 32 + (fldN y 0 5 * 128 + fldN y 5 7 * 33554432) / 33554432 % 128 * 32; omega⟩
theorem enc_back4 {F K R rd r1 r2 : Nat} (y : Nat) (h : FieldsOk 4 F K R rd r1 r2) : EncBack 4 F K R rd r1 r2 y (encN 4 F K R rd r1 r2 y) := by
  obtain ⟨hs, hf, hk, hkd, hr, hrd, hrdd, hr1, hr1d, hr2, hr2d⟩ := h
  have e := fldN_lt2 y 1 4
  have f := fldN_lt2 y 5 6
  have g := fldN_lt2 y 11 1
  have i := fldN_lt2 y 12 1
  unfold EncBack
  have hr : R < 1 := hr
  have hz : R = 0 := by omega
  have hz2 : rd = 0 := hrdd rfl
  subst hz hz2
  have t := parts4 hf hk hr1 hr2 e f g i (w := encN 4 F K 0 0 r1 r2 y) (by show _ = F + K * 4096 + 0 * 4294967296 % 4294967296 + 0 * 128 + r1 * 32768 + r2 * 1048576 + (fldN y 1 4 * 256 + fldN y 5 6 * 33554432 + fldN y 11 1 * 128 + fldN y 12 1 * 2147483648); omega)
  have u := parts4 (F := 0) (K := 0) (r1 := 0) (r2 := 0) (by omega) (by omega) (by omega) (by omega) e f g i (w := spreadN 4 y) (by show _ = fldN y 1 4 * 256 + fldN y 5 6 * 33554432 + fldN y 11 1 * 128 + fldN y 12 1 * 2147483648; omega)
  generalize encN 4 F K 0 0 r1 r2 y = w at t
  generalize spreadN 4 y = p at u
  obtain ⟨t0, t1, t2, t3, t4, t5, t6, t7, t8⟩ := t
  obtain ⟨u0, u1, u2, u3, u4, u5, u6, u7, u8⟩ := u
  refine ⟨t0, t1, fun _ => t2, by show w / 4294967296 % 1 = 0; exact Nat.mod_one _, (fun h => by cases h), fun _ => t3, fun _ => t4, ?_⟩
  show w / 256 % 16 * 2 + w / 33554432 % 64 * 32 + w / 128 % 2 * 2048 + w / 2147483648 % 2 * 4096 = p / 256 % 16 * 2 + p / 33554432 % 64 * 32 + p / 128 % 2 * 2048 + p / 2147483648 % 2 * 4096
  rw [t5, t6, t7, t8, u5, u6, u7, u8]
theorem enc_back5 {F K R rd r1 r2 : Nat} (y : Nat) (h : FieldsOk 5 F K R rd r1 r2) : EncBack 5 F K R rd r1 r2 y (encN 5 F K R rd r1 r2 y) := by
  obtain ⟨hs, hf, hk, hkd, hr, hrd, hrdd, hr1, hr1d, hr2, hr2d⟩ := h
  have j := fldN_lt2 y 12 20
  unfold EncBack
  have hr : R < 1 := hr
  have hz : R = 0 := by omega
  have hz1 : r1 = 0 := hr1d rfl
  have hz2 : r2 = 0 := hr2d rfl
  have hz3 : K = 0 := hkd rfl
  generalize hw : encN 5 F K R rd r1 r2 y = w
  have hw : F + K * 4096 + R * 4294967296 % 4294967296 + rd * 128 + r1 * 32768 + r2 * 1048576 + fldN y 12 20 * 4096 = w := hw
  exact ⟨by omega, by omega, (fun h => by cases h), by show w / 4294967296 % 1 = R; omega, fun _ => by omega, (fun h => by cases h), (fun h => by cases h), by show w / 4096 % 1048576 * 4096 = fldN y 12 20 * 4096 / 4096 % 1048576 * 4096; omega⟩
theorem enc_back6 {F K R rd r1 r2 : Nat} (y : Nat) (h : FieldsOk 6 F K R rd r1 r2) : EncBack 6 F K R rd r1 r2 y (encN 6 F K R rd r1 r2 y) := by
  obtain ⟨hs, hf, hk, hkd, hr, hrd, hrdd, hr1, hr1d, hr2, hr2d⟩ := h
  have k := fldN_lt2 y 1 10
  have g := fldN_lt2 y 11 1
  have l := fldN_lt2 y 12 8
  have m := fldN_lt2 y 20 1
  unfold EncBack
  have hr : R < 1 := hr
  have hz : R = 0 := by omega
  have hz1 : r1 = 0 := hr1d rfl
  have hz2 : r2 = 0 := hr2d rfl
  have hz3 : K = 0 := hkd rfl
  subst hz hz1 hz2 hz3
  have t := parts6 hf hrd k g l m (w := encN 6 F 0 0 rd 0 0 y) (by show _ = F + 0 * 4096 + 0 * 4294967296 % 4294967296 + rd * 128 + 0 * 32768 + 0 * 1048576 + (fldN y 1 10 * 2097152 + fldN y 11 1 * 1048576 + fldN y 12 8 * 4096 + fldN y 20 1 * 2147483648); omega)
  have u := parts6 (F := 0) (rd := 0) (by omega) (by omega) k g l m (w := spreadN 6 y) (by show _ = fldN y 1 10 * 2097152 + fldN y 11 1 * 1048576 + fldN y 12 8 * 4096 + fldN y 20 1 * 2147483648; omega)
  generalize encN 6 F 0 0 rd 0 0 y = w at t
  generalize spreadN 6 y = p at u
  obtain ⟨t0, t1, t2, t3, t4, t5, t6⟩ := t
  obtain ⟨u0, u1, u2, u3, u4, u5, u6⟩ := u
  refine ⟨t0, t1, (fun h => by cases h), by show w / 4294967296 % 1 = 0; exact Nat.mod_one _, fun _ => t2, (fun h => by cases h), (fun h => by cases h), ?_⟩
  show w / 2097152 % 1024 * 2 + w / 1048576 % 2 * 2048 + w / 4096 % 256 * 4096 + w / 2147483648 % 2 * 1048576 = p / 2097152 % 1024 * 2 + p / 1048576 % 2 * 2048 + p / 4096 % 256 * 4096 + p / 2147483648 % 2 * 1048576
  rw [t3, t4, t5, t6, u3, u4, u5, u6]
theorem enc_back7 {F K R rd r1 r2 : Nat} (y : Nat) (h : FieldsOk 7 F K R rd r1 r2) : EncBack 7 F K R rd r1 r2 y (encN 7 F K R rd r1 r2 y) := by
  obtain ⟨hs, hf, hk, hkd, hr, hrd, hrdd, hr1, hr1d, hr2, hr2d⟩ := h
  unfold EncBack
  have hr : R < 33554432 := hr
  have hz0 : rd = 0 := hrdd rfl
  have hz1 : r1 = 0 := hr1d rfl
  have hz2 : r2 = 0 := hr2d rfl
  have hz3 : K = 0 := hkd rfl
  generalize hw : encN 7 F K R rd r1 r2 y = w
  have hw : F + K * 4096 + R * 128 % 4294967296 + rd * 128 + r1 * 32768 + r2 * 1048576 + 0 = w := hw
  exact ⟨by omega, by omega, (fun h => by cases h), by show w / 128 % 33554432 = R; omega, (fun h => by cases h), (fun h => by cases h), (fun h => by cases h), by rw [nN7, nN7]⟩
theorem enc_back {s F K R rd r1 r2 : Nat} (y : Nat) (h : FieldsOk s F K R rd r1 r2) : EncBack s F K R rd r1 r2 y (encN s F K R rd r1 r2 y) := by
  have hs := h.fs
  obtain rfl | rfl | rfl | rfl | rfl | rfl | rfl | rfl : s = 0 ∨ s = 1 ∨ s = 2 ∨ s = 3 ∨ s = 4 ∨ s = 5 ∨ s = 6 ∨ s = 7 := by omega
  · exact enc_back0 y h
  · exact enc_back1 y h
  · exact enc_back2 y h
  · exact enc_back3 y h
  · exact enc_back4 y h
  · exact enc_back5 y h
  · exact enc_back6 y h
  · exact enc_back7 y h

/-! ### what the program reads of a word that is an instruction's -/
theorem fld_lit (w f n : Nat) : fld (w : Int) (f : Int) (n : Int) = ((w / 2 ^ f % 2 ^ n : Nat) : Int) := rfl
theorem numberI_of (w w' s : Nat) (hs : s < 8) (h : numberN s w = numberN s w') : numberI (w : Int) s = numberI (w' : Int) s := by
  unfold numberI
  rw [numberK_nat, numberK_nat, number_lit s w hs, number_lit s w' hs, h]
theorem enc_read {n : Nat} {rd r1 r2 imm : Int} (hn : n < 43) (h : mayB n rd r1 r2 imm = true) :
    IsW (encI n rd r1 r2 imm) ∧ Match (encI n rd r1 r2 imm) n ∧ regI (encI n rd r1 r2 imm) 7 (lRd (opS n)) = rd ∧ regI (encI n rd r1 r2 imm) 15 (lR1 (opS n)) = r1 ∧ regI (encI n rd r1 r2 imm) 20 (lR2 (opS n)) = r2 ∧ numberI (encI n rd r1 r2 imm) (opS n) = imm := by
  have hf := may_fields hn h
  obtain ⟨a, b, c, d⟩ := may_parts h
  obtain ⟨a0, a1, a2⟩ := fitB_true a
  obtain ⟨b0, b1, b2⟩ := fitB_true b
  obtain ⟨c0, c1, c2⟩ := fitB_true c
  have hb := enc_back (wordN imm) hf
  rw [encI_sum hn h]
  generalize encN (opS n) (opF n) (opK n) (opR n) rd.toNat r1.toNat r2.toNat (wordN imm) = w at hb
  obtain ⟨h0, h1, h2, h3, h4, h5, h6, h7⟩ := hb
  have lr := lRest_bd hf.fs
  refine ⟨⟨by omega, by omega⟩, ⟨?_, ?_, ?_⟩, ?_, ?_, ?_, ?_⟩
  · show ((opF n : Nat) : Int) = ((w / 1 % 128 : Nat) : Int)
    rw [Nat.div_one, h1]
  · unfold tK
    cases e : lKd (opS n) with
    | true =>
      show ((opK n : Nat) : Int) = ((w / 4096 % 8 : Nat) : Int)
      rw [h2 e]
    | false => rw [hf.fkd e]; rfl
  · unfold tR
    rw [show (32 - (lRest (opS n) : Int)) = ((32 - lRest (opS n) : Nat) : Int) by omega, fld_lit, h3]
  · unfold regI
    cases e : lRd (opS n) with
    | true =>
      show ((w / 128 % 32 : Nat) : Int) = rd
      rw [h4 e]; omega
    | false => exact (a2 e).symm
  · unfold regI
    cases e : lR1 (opS n) with
    | true =>
      show ((w / 32768 % 32 : Nat) : Int) = r1
      rw [h5 e]; omega
    | false => exact (b2 e).symm
  · unfold regI
    cases e : lR2 (opS n) with
    | true =>
      show ((w / 1048576 % 32 : Nat) : Int) = r2
      rw [h6 e]; omega
    | false => exact (c2 e).symm
  · rw [numberI_of w _ _ hf.fs h7, ← spreadI_lit imm hf.fs]
    exact d
end Go.Proofs.YtjngkifoaljmaaaGreatDoor
namespace Go.Proofs.YtjngkifoaljmaaaGreatDoor
set_option maxRecDepth 100000
set_option linter.unusedVariables false
/-- the number again that was spread -/
def backN (s y : Nat) : Nat :=
  match s with
  | 1 => y % 4096
  | 2 => y % 64
  | 3 => y % 4096
  | 4 => y % 8192 / 2 * 2
  | 5 => y / 4096 % 1048576 * 4096
  | 6 => y % 2097152 / 2 * 2
  | _ => 0
theorem back3 {a b p : Nat} (ha : a < 32) (hb : b < 128) (hp : p = a * 128 + b * 33554432) : p / 128 % 32 = a ∧ p / 33554432 % 128 = b := by omega
theorem back_lit (s y : Nat) (hs : s < 8) : numberN s (spreadN s y) = backN s y := by
  obtain rfl | rfl | rfl | rfl | rfl | rfl | rfl | rfl : s = 0 ∨ s = 1 ∨ s = 2 ∨ s = 3 ∨ s = 4 ∨ s = 5 ∨ s = 6 ∨ s = 7 := by omega
  · rw [nN0]; simp [backN]
  · rw [nN1, sN1, ← fldN_at (w := fldN y 0 12 * 1048576) 20 12 (by decide) (fldN_lt2 y 0 12) (by have := fldN_lt2 y 0 12; omega)]
    have := fldN_lt2 y 0 12
    have e : fldN (fldN y 0 12 * 1048576) 20 12 = fldN y 0 12 := by
      generalize fldN y 0 12 = q at *
      show q * 1048576 / 1048576 % 4096 = q
      omega
    rw [e]
    simp [backN, fldN]
  · have := fldN_lt2 y 0 6
    rw [nN2, sN2]
    have e : fldN (fldN y 0 6 * 1048576) 20 6 = fldN y 0 6 := by
      generalize fldN y 0 6 = q at *
      show q * 1048576 / 1048576 % 64 = q
      omega
    rw [e]
    simp [backN, fldN]
  · obtain ⟨t0, t1⟩ := back3 (fldN_lt2 y 0 5) (fldN_lt2 y 5 7) (p := spreadN 3 y) (by simp [spreadN])
    have e1 : fldN (spreadN 3 y) 7 5 = fldN y 0 5 := t0
    have e2 : fldN (spreadN 3 y) 25 7 = fldN y 5 7 := t1
    have e : numberN 3 (spreadN 3 y) = fldN (spreadN 3 y) 7 5 + fldN (spreadN 3 y) 25 7 * 32 := by simp [numberN]
    rw [e, e1, e2]
    simp [backN, fldN]
    omega
  · obtain ⟨_, _, _, _, _, t5, t6, t7, t8⟩ := parts4 (F := 0) (K := 0) (r1 := 0) (r2 := 0) (by omega) (by omega) (by omega) (by omega) (fldN_lt2 y 1 4) (fldN_lt2 y 5 6) (fldN_lt2 y 11 1) (fldN_lt2 y 12 1) (w := spreadN 4 y) (by simp [spreadN])
    have e1 : fldN (spreadN 4 y) 8 4 = fldN y 1 4 := t5
    have e2 : fldN (spreadN 4 y) 25 6 = fldN y 5 6 := t6
    have e3 : fldN (spreadN 4 y) 7 1 = fldN y 11 1 := t7
    have e4 : fldN (spreadN 4 y) 31 1 = fldN y 12 1 := t8
    have e : numberN 4 (spreadN 4 y) = fldN (spreadN 4 y) 8 4 * 2 + fldN (spreadN 4 y) 25 6 * 32 + fldN (spreadN 4 y) 7 1 * 2048 + fldN (spreadN 4 y) 31 1 * 4096 := by simp [numberN]
    rw [e, e1, e2, e3, e4]
    simp [backN, fldN]
    omega
  · have := fldN_lt2 y 12 20
    rw [nN5, sN5]
    have e : fldN (fldN y 12 20 * 4096) 12 20 = fldN y 12 20 := by
      generalize fldN y 12 20 = q at *
      show q * 4096 / 4096 % 1048576 = q
      omega
    rw [e]
    simp [backN, fldN]
  · obtain ⟨_, _, _, t3, t4, t5, t6⟩ := parts6 (F := 0) (rd := 0) (by omega) (by omega) (fldN_lt2 y 1 10) (fldN_lt2 y 11 1) (fldN_lt2 y 12 8) (fldN_lt2 y 20 1) (w := spreadN 6 y) (by simp [spreadN])
    have e1 : fldN (spreadN 6 y) 21 10 = fldN y 1 10 := t3
    have e2 : fldN (spreadN 6 y) 20 1 = fldN y 11 1 := t4
    have e3 : fldN (spreadN 6 y) 12 8 = fldN y 12 8 := t5
    have e4 : fldN (spreadN 6 y) 31 1 = fldN y 20 1 := t6
    have e : numberN 6 (spreadN 6 y) = fldN (spreadN 6 y) 21 10 * 2 + fldN (spreadN 6 y) 20 1 * 2048 + fldN (spreadN 6 y) 12 8 * 4096 + fldN (spreadN 6 y) 31 1 * 1048576 := by simp [numberN]
    rw [e, e1, e2, e3, e4]
    simp [backN, fldN]
    omega
  · rw [nN7]; simp [backN]
/-- which numbers -/
def NumOk (s : Nat) (x : Int) : Prop :=
  match s with
  | 1 => -2048 ≤ x ∧ x ≤ 2047
  | 2 => 0 ≤ x ∧ x ≤ 63
  | 3 => -2048 ≤ x ∧ x ≤ 2047
  | 4 => -4096 ≤ x ∧ x ≤ 4094 ∧ x % 2 = 0
  | 5 => -2147483648 ≤ x ∧ x ≤ 2147483647 ∧ x % 4096 = 0
  | 6 => -1048576 ≤ x ∧ x ≤ 1048574 ∧ x % 2 = 0
  | _ => x = 0
theorem number_back (x : Int) {s : Nat} (hs : s < 8) : numberI (spreadI x s) s = if lSg s = 0 then RowKit.wrap64 (backN s (wordN x) : Nat) else sgn (backN s (wordN x) : Nat) (lSg s) := by
  unfold numberI
  rw [spreadI_lit x hs, numberK_nat, number_lit s _ hs, back_lit s _ hs]
theorem sgn_nat (m n : Nat) : sgn (m : Int) (n : Int) = if 2 * (m % 2 ^ n) < 2 ^ n then ((m % 2 ^ n : Nat) : Int) else ((m % 2 ^ n : Nat) : Int) - ((2 ^ n : Nat) : Int) := rfl
theorem num_ok (x : Int) (hx : IsI x) {s : Nat} (hs : s < 8) : numberI (spreadI x s) s = x ↔ NumOk s x := by
  obtain ⟨x0, x1⟩ := hx
  have hw := wordN_eq x
  obtain rfl | rfl | rfl | rfl | rfl | rfl | rfl | rfl : s = 0 ∨ s = 1 ∨ s = 2 ∨ s = 3 ∨ s = 4 ∨ s = 5 ∨ s = 6 ∨ s = 7 := by omega
  · rw [number_back x (by omega), if_pos (show lSg 0 = 0 by decide)]
    have e : backN 0 (wordN x) = 0 := by simp [backN]
    have g : NumOk 0 x = (x = 0) := rfl
    rw [e, g]
    unfold RowKit.wrap64
    generalize wordN x = y at *
    omega
  · rw [number_back x (by omega), if_neg (show ¬ lSg 1 = 0 by decide), sgn_nat]
    have e : backN 1 (wordN x) = wordN x % 4096 := by simp [backN]
    have g : NumOk 1 x = (-2048 ≤ x ∧ x ≤ 2047) := rfl
    rw [e, g, show lSg 1 = 12 from rfl]
    generalize wordN x = y at *
    have p : (2 : Nat) ^ 12 = 4096 := by decide
    rw [p]
    split <;> omega
  · rw [number_back x (by omega), if_pos (show lSg 2 = 0 by decide)]
    have e : backN 2 (wordN x) = wordN x % 64 := by simp [backN]
    have g : NumOk 2 x = (0 ≤ x ∧ x ≤ 63) := rfl
    rw [e, g]
    unfold RowKit.wrap64
    generalize wordN x = y at *
    omega
  · rw [number_back x (by omega), if_neg (show ¬ lSg 3 = 0 by decide), sgn_nat]
    have e : backN 3 (wordN x) = wordN x % 4096 := by simp [backN]
    have g : NumOk 3 x = (-2048 ≤ x ∧ x ≤ 2047) := rfl
    rw [e, g, show lSg 3 = 12 from rfl]
    generalize wordN x = y at *
    have p : (2 : Nat) ^ 12 = 4096 := by decide
    rw [p]
    split <;> omega
  · rw [number_back x (by omega), if_neg (show ¬ lSg 4 = 0 by decide), sgn_nat]
    have e : backN 4 (wordN x) = wordN x % 8192 / 2 * 2 := by simp [backN]
    have g : NumOk 4 x = (-4096 ≤ x ∧ x ≤ 4094 ∧ x % 2 = 0) := rfl
    rw [e, g, show lSg 4 = 13 from rfl]
    generalize wordN x = y at *
    have p : (2 : Nat) ^ 13 = 8192 := by decide
    rw [p]
    split <;> omega
  · rw [number_back x (by omega), if_neg (show ¬ lSg 5 = 0 by decide), sgn_nat]
    have e : backN 5 (wordN x) = wordN x / 4096 % 1048576 * 4096 := by simp [backN]
    have g : NumOk 5 x = (-2147483648 ≤ x ∧ x ≤ 2147483647 ∧ x % 4096 = 0) := rfl
    rw [e, g, show lSg 5 = 32 from rfl]
    generalize wordN x = y at *
    have p : (2 : Nat) ^ 32 = 4294967296 := by decide
    rw [p]
    split <;> omega
  · rw [number_back x (by omega), if_neg (show ¬ lSg 6 = 0 by decide), sgn_nat]
    have e : backN 6 (wordN x) = wordN x % 2097152 / 2 * 2 := by simp [backN]
    have g : NumOk 6 x = (-1048576 ≤ x ∧ x ≤ 1048574 ∧ x % 2 = 0) := rfl
    rw [e, g, show lSg 6 = 21 from rfl]
    generalize wordN x = y at *
    have p : (2 : Nat) ^ 21 = 2097152 := by decide
    rw [p]
    split <;> omega
  · rw [number_back x (by omega), if_pos (show lSg 7 = 0 by decide)]
    have e : backN 7 (wordN x) = 0 := by simp [backN]
    have g : NumOk 7 x = (x = 0) := rfl
    rw [e, g]
    unfold RowKit.wrap64
    generalize wordN x = y at *
    omega
end Go.Proofs.YtjngkifoaljmaaaGreatDoor
namespace Go.Proofs.YtjngkifoaljmaaaGreatDoor
set_option maxRecDepth 100000
open Go.RowKit
set_option linter.unusedVariables false
theorem letter_at {n : Nat} (hn : n < 43) : (n ≤ 15 → opS n = 0) ∧ (16 ≤ n → n ≤ 28 → (opS n = 1 ∧ (n < 22 ∨ 24 < n)) ∨ (opS n = 2 ∧ 22 ≤ n ∧ n ≤ 24)) ∧ (29 ≤ n → n ≤ 31 → opS n = 3) ∧ (32 ≤ n → n ≤ 37 → opS n = 4) ∧ (38 ≤ n → n ≤ 39 → opS n = 5) ∧ (n = 40 → opS n = 6) ∧ (n = 41 → opS n = 1) ∧ (n = 42 → opS n = 7) :=
  all43 (p := fun n => (n ≤ 15 → opS n = 0) ∧ (16 ≤ n → n ≤ 28 → (opS n = 1 ∧ (n < 22 ∨ 24 < n)) ∨ (opS n = 2 ∧ 22 ≤ n ∧ n ≤ 24)) ∧ (29 ≤ n → n ≤ 31 → opS n = 3) ∧ (32 ≤ n → n ≤ 37 → opS n = 4) ∧ (38 ≤ n → n ≤ 39 → opS n = 5) ∧ (n = 40 → opS n = 6) ∧ (n = 41 → opS n = 1) ∧ (n = 42 → opS n = 7)) (by decide +kernel) hn
theorem rform_out (n : Int) (w : World) (h : n < 0 ∨ 43 ≤ n) :
    Calls Tryz.prog 31 #[.int .i64 n] w fun e w' => e = .returned (.string ⟨#[]⟩) ∧ w = w' := by
  rcases h with h | h
  · go_enter Tryz.func31, Tryz.ntmps31
    go_wp2
    go_ret
    exact ⟨rfl, rfl⟩
  · have h1 : ¬ n < 0 := by omega
    have h2 : n > 42 := by omega
    go_enter Tryz.func31, Tryz.ntmps31
    go_wp2
    go_ret
    exact ⟨rfl, rfl⟩
theorem str_eq {a b : ByteArray} (h : a = b) : Ending.returned (.string a) = Ending.returned (.string b) := by rw [h]
set_option maxHeartbeats 1000000 in
theorem rform_in (n : Nat) (w : World) (hn : n < 43) :
    Calls Tryz.prog 31 #[.int .i64 n] w fun e w' => e = .returned (.string (letS (opS n))) ∧ w = w' := by
  have H := Lib.hid (letter_at hn)
  have g1 : ¬ (n : Int) < 0 := by omega
  have g2 : ¬ (n : Int) > 42 := by omega
  have hc : n ≤ 15 ∨ (16 ≤ n ∧ n ≤ 28) ∨ (29 ≤ n ∧ n ≤ 31) ∨ (32 ≤ n ∧ n ≤ 37) ∨ (38 ≤ n ∧ n ≤ 39) ∨ n = 40 ∨ n = 41 ∨ n = 42 := by omega
  rcases hc with h | h | h | h | h | h | h | h
  · have k1 : (n : Int) ≤ 15 := by omega
    go_enter Tryz.func31, Tryz.ntmps31
    go_wp2
    go_ret
    exact ⟨str_eq (by rw [H.out.1 h]; rfl), rfl⟩
  · obtain ⟨h, h'⟩ := h
    have k1 : ¬ (n : Int) ≤ 15 := by omega
    have k2 : (n : Int) ≤ 28 := by omega
    go_enter Tryz.func31, Tryz.ntmps31
    go_wp2
    go_ret
    refine ⟨str_eq ?_, rfl⟩
    rcases H.out.2.1 h h' with ⟨e, _⟩ | ⟨e, _⟩
    · rw [e]; rfl
    · rw [e]; rfl
  · obtain ⟨h, h'⟩ := h
    have k1 : ¬ (n : Int) ≤ 15 := by omega
    have k2 : ¬ (n : Int) ≤ 28 := by omega
    have k3 : ((n : Int) == 41) = false := by rw [beq_eq_false_iff_ne]; omega
    have k4 : (n : Int) ≤ 31 := by omega
    go_enter Tryz.func31, Tryz.ntmps31
    go_wp2
    go_ret
    exact ⟨str_eq (by rw [H.out.2.2.1 h h']; rfl), rfl⟩
  · obtain ⟨h, h'⟩ := h
    have k1 : ¬ (n : Int) ≤ 15 := by omega
    have k2 : ¬ (n : Int) ≤ 28 := by omega
    have k3 : ((n : Int) == 41) = false := by rw [beq_eq_false_iff_ne]; omega
    have k4 : ¬ (n : Int) ≤ 31 := by omega
    have k5 : (n : Int) ≤ 37 := by omega
    go_enter Tryz.func31, Tryz.ntmps31
    go_wp2
    go_ret
    exact ⟨str_eq (by rw [H.out.2.2.2.1 h h']; rfl), rfl⟩
  · obtain ⟨h, h'⟩ := h
    have k1 : ¬ (n : Int) ≤ 15 := by omega
    have k2 : ¬ (n : Int) ≤ 28 := by omega
    have k3 : ((n : Int) == 41) = false := by rw [beq_eq_false_iff_ne]; omega
    have k4 : ¬ (n : Int) ≤ 31 := by omega
    have k5 : ¬ (n : Int) ≤ 37 := by omega
    have k6 : (n : Int) ≤ 39 := by omega
    go_enter Tryz.func31, Tryz.ntmps31
    go_wp2
    go_ret
    exact ⟨str_eq (by rw [H.out.2.2.2.2.1 h h']; rfl), rfl⟩
  · subst h
    go_enter Tryz.func31, Tryz.ntmps31
    go_wp2
    go_ret
    exact ⟨rfl, rfl⟩
  · subst h
    go_enter Tryz.func31, Tryz.ntmps31
    go_wp2
    go_ret
    exact ⟨rfl, rfl⟩
  · subst h
    go_enter Tryz.func31, Tryz.ntmps31
    go_wp2
    go_ret
    exact ⟨rfl, rfl⟩
/-- shifts by a number are those of shape 2 -/
def shiftB (n : Nat) : Bool := opS n == 2
theorem shiftB_iff {n : Nat} (hn : n < 43) : shiftB n = true ↔ 22 ≤ n ∧ n ≤ 24 :=
  all43 (p := fun n => shiftB n = true ↔ 22 ≤ n ∧ n ≤ 24) (by decide +kernel) hn
theorem rshift (n : Nat) (w : World) (hn : n < 43) :
    Calls Tryz.prog 36 #[.int .i64 n] w fun e w' => e = .returned (.bool (shiftB n)) ∧ w = w' := by
  have H := Lib.hid (shiftB_iff hn)
  have H2 (b : Bool) (h : (22 ≤ n ∧ n ≤ 24) ↔ b = true) : b = shiftB n := by
    have := H.out.trans h
    cases b <;> cases e : shiftB n <;> simp_all
  have HH := Lib.hid H2
  clear H2
  by_cases h : (22 : Int) ≤ n
  · by_cases h2 : (n : Int) ≤ 24
    · go_enter Tryz.func36, Tryz.ntmps36
      go_wp2
      go_ret
      exact ⟨ret_bool (HH.out _ (by simp; omega)), rfl⟩
    · go_enter Tryz.func36, Tryz.ntmps36
      go_wp2
      go_ret
      exact ⟨ret_bool (HH.out _ (by simp; omega)), rfl⟩
  · go_enter Tryz.func36, Tryz.ntmps36
    go_wp2
    go_ret
    exact ⟨ret_bool (HH.out _ (by simp; omega)), rfl⟩
end Go.Proofs.YtjngkifoaljmaaaGreatDoor
