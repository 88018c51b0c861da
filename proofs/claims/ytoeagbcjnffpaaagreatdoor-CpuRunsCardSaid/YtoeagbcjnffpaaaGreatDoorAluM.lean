/- Layer 3: what an operation of two words comes to, as plain functions on integers. No program.
   A word without its lowest bit: plain mathematics.
   Layer 3: what an operation of two words comes to is a word. -/
import Derived.Test.YtoeagbcjnffpaaaGreatDoorBitA
import Derived.RowKit
import Derived.Laws.Bits64b
import Derived.Lib.Mul64
namespace Go.Proofs.YtoeagbcjnffpaaaGreatDoor
set_option maxRecDepth 100000
open Go.RowKit
set_option linter.unusedVariables false

def modU (a : Int) : Int := a % 18446744073709551616
def oneI (b : Bool) : Int := if b then 1 else 0
def addI (a b : Int) : Int := modU (a + b)
def subI (a b : Int) : Int := modU (a - b)
def sllI (a b : Int) : Int := modU (a * 2 ^ (b % 64).toNat)
def srlI (a b : Int) : Int := a / 2 ^ (b % 64).toNat
def sraI (a b : Int) : Int := modU (wrap64 a / 2 ^ (b % 64).toNat)
def sltB (a b : Int) : Bool := decide (wrap64 a < wrap64 b)
def sltuB (a b : Int) : Bool := decide (a < b)
def xorI (a b : Int) : Int := bits .xor .u64 a b
def orI (a b : Int) : Int := bits .or .u64 a b
def andI (a b : Int) : Int := bits .and .u64 a b
def mulI (a b : Int) : Int := modU (a * b)
def mulhuI (a b : Int) : Int := a * b / 18446744073709551616
def quoI (a b : Int) : Int := if b = 0 then -1 else wrap64 (a.tdiv b)
def modI (a b : Int) : Int := if b = 0 then a else a.tmod b
def divI (a b : Int) : Int := modU (quoI (wrap64 a) (wrap64 b))
def remI (a b : Int) : Int := modU (modI (wrap64 a) (wrap64 b))
def divuI (a b : Int) : Int := if b = 0 then 18446744073709551615 else a / b
def remuI (a b : Int) : Int := if b = 0 then a else a % b
/-- operation n of two words -/
def twoI (n : Nat) (a b : Int) : Int :=
  match n with
  | 0 => addI a b | 1 => subI a b | 2 => sllI a b | 3 => oneI (sltB a b) | 4 => oneI (sltuB a b) | 5 => xorI a b | 6 => srlI a b | 7 => sraI a b
  | 8 => orI a b | 9 => andI a b | 10 => mulI a b | 11 => mulhuI a b | 12 => divI a b | 13 => divuI a b | 14 => remI a b | 15 => remuI a b | _ => 0
/-- what Two tells of any number of an operation -/
def twoV (op a b : Int) : Int := if 0 ≤ op ∧ op < 16 then twoI op.toNat a b else 0
def twoB (op : Int) : Bool := decide (0 ≤ op ∧ op < 16)
/-- the operation of two that one of one and a number reckons as -/
def ofTwoN (n : Nat) : Nat := [0, 3, 4, 5, 8, 9, 2, 6, 7].getD n 0
def oneV (op a i : Int) : Int := if 16 ≤ op ∧ op < 25 then twoI (ofTwoN (op.toNat - 16)) a (modU i) else 0
def oneB (op : Int) : Bool := decide (16 ≤ op ∧ op < 25)
def takI (n : Nat) (a b : Int) : Bool :=
  match n with
  | 0 => a == b | 1 => !(a == b) | 2 => sltB a b | 3 => !sltB a b | 4 => sltuB a b | 5 => !sltuB a b | _ => false
def takV (op a b : Int) : Bool := if 32 ≤ op ∧ op < 38 then takI (op.toNat - 32) a b else false
def takB (op : Int) : Bool := decide (32 ≤ op ∧ op < 38)
def varB (op : Int) : Bool := decide (12 ≤ op ∧ op < 16)

theorem isU_modU (a : Int) : IsU (modU a) := by unfold modU; exact ⟨by omega, by omega⟩
theorem w64_bd (a : Int) : -9223372036854775808 ≤ wrap64 a ∧ wrap64 a < 9223372036854775808 := by unfold wrap64; omega
theorem w64_zero {b : Int} (h : IsU b) : wrap64 b = 0 ↔ b = 0 := by
  obtain ⟨h0, h1⟩ := h
  unfold wrap64
  constructor <;> intro e <;> omega
theorem twoV_at {n : Nat} (h : n < 16) (a b : Int) : twoV n a b = twoI n a b := by
  unfold twoV; rw [if_pos (by omega)]; rfl
theorem twoB_at {n : Nat} (h : n < 16) : twoB n = true := by unfold twoB; simp; omega
theorem twoV_out {op : Int} (h : op < 0 ∨ 16 ≤ op) (a b : Int) : twoV op a b = 0 := by unfold twoV; rw [if_neg (by omega)]
theorem twoB_out {op : Int} (h : op < 0 ∨ 16 ≤ op) : twoB op = false := by unfold twoB; simp; omega
theorem two_u64_eq {a b a' b' : Int} {c c' : Bool} (h : a = a') (g : c = c') : Ending.returned (.tuple #[.int .u64 a, .bool c]) = Ending.returned (.tuple #[.int .u64 a', .bool c']) := by rw [h, g]
theorem oneV_at {n : Nat} (h : n < 9) (a i : Int) : oneV (16 + n) a i = twoI (ofTwoN n) a (modU i) := by
  unfold oneV; rw [if_pos (by omega), show ((16 + n : Int)).toNat - 16 = n from by omega]
theorem oneB_at {n : Nat} (h : n < 9) : oneB (16 + n) = true := by unfold oneB; simp; omega
theorem oneV_out {op : Int} (h : op < 16 ∨ 25 ≤ op) (a i : Int) : oneV op a i = 0 := by unfold oneV; rw [if_neg (by omega)]
theorem oneB_out {op : Int} (h : op < 16 ∨ 25 ≤ op) : oneB op = false := by unfold oneB; simp; omega
theorem takV_at {n : Nat} (h : n < 6) (a b : Int) : takV (32 + n) a b = takI n a b := by
  unfold takV; rw [if_pos (by omega), show ((32 + n : Int)).toNat - 32 = n from by omega]
theorem takB_at {n : Nat} (h : n < 6) : takB (32 + n) = true := by unfold takB; simp; omega
theorem takV_out {op : Int} (h : op < 32 ∨ 38 ≤ op) (a b : Int) : takV op a b = false := by unfold takV; rw [if_neg (by omega)]
theorem takB_out {op : Int} (h : op < 32 ∨ 38 ≤ op) : takB op = false := by unfold takB; simp; omega
end Go.Proofs.YtoeagbcjnffpaaaGreatDoor
namespace Go.Proofs.YtoeagbcjnffpaaaGreatDoor
open Go.RowKit
theorem and_even (n : Nat) (h : n < 18446744073709551616) : n &&& 18446744073709551614 = n / 2 * 2 := by
  apply Nat.eq_of_testBit_eq
  intro i
  rw [Nat.testBit_and]
  cases i with
  | zero => simp [Nat.testBit_zero]
  | succ i =>
    rw [Nat.testBit_succ, Nat.testBit_succ, Nat.testBit_succ, Nat.mul_div_cancel _ (by decide), show 18446744073709551614 / 2 = 2 ^ 63 - 1 from rfl, Nat.testBit_two_pow_sub_one]
    by_cases hi : i < 63
    · simp [hi]
    · have h1 : n / 2 < 2 ^ i := Nat.lt_of_lt_of_le (show n / 2 < 2 ^ 63 by omega) (Nat.pow_le_pow_right (by decide) (by omega))
      rw [Nat.testBit_lt_two_pow h1]; simp
theorem andNot_one {v : Int} (h : IsU v) : bits .andNot .u64 v 1 = v - v % 2 := by
  obtain ⟨h0, h1⟩ := h
  obtain ⟨n, rfl⟩ := Int.eq_ofNat_of_zero_le h0
  have hn : n < 18446744073709551616 := by omega
  have e1 : (BitVec.ofInt 64 (n : Int)).toNat = n := by
    rw [BitVec.ofInt_natCast, BitVec.toNat_ofNat]; exact Nat.mod_eq_of_lt (by omega)
  show IntKind.u64.wrap ((BitVec.ofInt 64 (n : Int) &&& ~~~ (BitVec.ofInt 64 1)).toNat : Int) = _
  rw [BitVec.toNat_and, e1, show (~~~ (BitVec.ofInt 64 1)).toNat = 18446744073709551614 from rfl, and_even n hn, IntKind.wrap_u64]
  omega
end Go.Proofs.YtoeagbcjnffpaaaGreatDoor
namespace Go.Proofs.YtoeagbcjnffpaaaGreatDoor
set_option maxRecDepth 100000
open Go.RowKit
set_option linter.unusedVariables false
theorem fitU_div {a b : Int} : IsU (divI a b) := isU_modU _
theorem fitU_rem {a b : Int} : IsU (remI a b) := isU_modU _
theorem fitU_divu {a b : Int} (ha : IsU a) (hb : IsU b) : IsU (divuI a b) := by
  obtain ⟨a0, a1⟩ := ha
  obtain ⟨b0, b1⟩ := hb
  unfold divuI; split
  · exact ⟨by decide, by decide⟩
  · exact ⟨Int.ediv_nonneg a0 b0, Int.lt_of_le_of_lt (Int.ediv_le_self _ a0) a1⟩
theorem fitU_remu {a b : Int} (ha : IsU a) (hb : IsU b) : IsU (remuI a b) := by
  obtain ⟨a0, a1⟩ := ha
  obtain ⟨b0, b1⟩ := hb
  unfold remuI; split
  · exact ⟨a0, a1⟩
  · next h => exact ⟨Int.emod_nonneg _ h, Int.lt_trans (Int.emod_lt_of_pos _ (by omega)) b1⟩
theorem fitU_srl {a b : Int} (ha : IsU a) : IsU (srlI a b) := by
  obtain ⟨a0, a1⟩ := ha
  exact ⟨Int.ediv_nonneg a0 (Int.le_of_lt (Int.pow_pos (by decide))), Int.lt_of_le_of_lt (Int.ediv_le_self _ a0) a1⟩
theorem fitU_mulhu {a b : Int} (ha : IsU a) (hb : IsU b) : IsU (mulhuI a b) := by
  obtain ⟨a0, a1⟩ := ha
  obtain ⟨b0, b1⟩ := hb
  obtain ⟨x, rfl⟩ := Int.eq_ofNat_of_zero_le a0
  obtain ⟨y, rfl⟩ := Int.eq_ofNat_of_zero_le b0
  have h1 : x * y ≤ x * 18446744073709551616 := Nat.mul_le_mul_left _ (by omega)
  unfold mulhuI IsU
  rw [← Int.natCast_mul]
  omega
theorem fitU_bits (a b : Int) : IsU (xorI a b) ∧ IsU (orI a b) ∧ IsU (andI a b) := by
  refine ⟨?_, ?_, ?_⟩
  · show IsU (IntKind.u64.wrap _)
    rw [IntKind.wrap_u64]; exact isU_modU _
  · show IsU (IntKind.u64.wrap _)
    rw [IntKind.wrap_u64]; exact isU_modU _
  · show IsU (IntKind.u64.wrap _)
    rw [IntKind.wrap_u64]; exact isU_modU _
theorem fitU_one (b : Bool) : IsU (oneI b) := by unfold oneI; split <;> exact ⟨by decide, by decide⟩
theorem fitU_two (n : Nat) (a b : Int) (ha : IsU a) (hb : IsU b) : IsU (twoI n a b) := by
  unfold twoI
  split
  · exact isU_modU _
  · exact isU_modU _
  · exact isU_modU _
  · exact fitU_one _
  · exact fitU_one _
  · exact (fitU_bits a b).1
  · exact fitU_srl ha
  · exact isU_modU _
  · exact (fitU_bits a b).2.1
  · exact (fitU_bits a b).2.2
  · exact isU_modU _
  · exact fitU_mulhu ha hb
  · exact fitU_div
  · exact fitU_divu ha hb
  · exact fitU_rem
  · exact fitU_remu ha hb
  · exact ⟨by decide, by decide⟩
theorem twoV_u (op a b : Int) (ha : IsU a) (hb : IsU b) : IsU (twoV op a b) := by
  unfold twoV; split
  · exact fitU_two _ _ _ ha hb
  · exact ⟨by decide, by decide⟩
theorem oneV_u (op a b : Int) (ha : IsU a) : IsU (oneV op a b) := by
  unfold oneV; split
  · exact fitU_two _ _ _ ha (isU_modU _)
  · exact ⟨by decide, by decide⟩
end Go.Proofs.YtoeagbcjnffpaaaGreatDoor
