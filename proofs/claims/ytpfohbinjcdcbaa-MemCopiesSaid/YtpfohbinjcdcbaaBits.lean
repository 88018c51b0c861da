/- What the calls of package bits on numbers answer: Field, Put, Sign, Fits, FitsU, and what they call. Conditions: each argument fits its kind, as said at each. -/
import Derived.Test.YtpfohbinjcdcbaaChecked
import Derived.Test.YtpfohbinjcdcbaaMath
import Derived.WalkKit
import Derived.Lib.Hide
import Derived.Deep.QuietTactic
import Derived.BigQuiet
namespace Go.Proofs.Ytpfohbinjcdcbaa
open Go.RowKit
set_option linter.unusedVariables false

/-- there is no such field -/
def NoFld (f n : Int) : Prop := ¬ (0 ≤ f ∧ 0 ≤ n ∧ f + n ≤ 64)
theorem ret_u64_tup {a b : Int} {c : Bool} (h : a = b) : Ending.returned (.tuple #[.int .u64 a, .bool c]) = Ending.returned (.tuple #[.int .u64 b, .bool c]) := by rw [h]
theorem field_eq {v f n : Int} (hv : IsU v) (hn : 0 ≤ n) (h1 : n ≤ 64) : bits .and .u64 (v / 2 ^ f.toNat) ((2 ^ n.toNat - 1 : Nat) : Int) = fld v f n := by
  obtain ⟨hv0, hv1⟩ := hv
  obtain ⟨v, rfl⟩ := Int.eq_ofNat_of_zero_le hv0
  have e : ((v : Nat) : Int) / 2 ^ f.toNat = ((v / 2 ^ f.toNat : Nat) : Int) := by simp
  have hd := Nat.div_le_self v (2 ^ f.toNat)
  have hp := pow_le64 (k := n.toNat) (by omega)
  rw [e, u64_and_nat _ _ (by omega) (by omega), Nat.and_two_pow_sub_one_eq_mod]
  simp [fld, fldN]
theorem nat_emod (a : Nat) : ((a : Nat) : Int) % 18446744073709551616 = ((a % 18446744073709551616 : Nat) : Int) := by omega
theorem put_eq {v f n x : Int} (hv : IsU v) (hf : 0 ≤ f) (hn : 0 ≤ n) (h : f + n ≤ 64) (hx : IsU x) :
    bits .or .u64 (bits .andNot .u64 v (IntKind.u64.wrap (((2 ^ n.toNat - 1 : Nat) : Int) * 2 ^ f.toNat))) (IntKind.u64.wrap (bits .and .u64 x ((2 ^ n.toNat - 1 : Nat) : Int) * 2 ^ f.toNat)) = put v f n x := by
  obtain ⟨hv0, hv1⟩ := hv
  obtain ⟨hx0, hx1⟩ := hx
  obtain ⟨v, rfl⟩ := Int.eq_ofNat_of_zero_le hv0
  obtain ⟨x, rfl⟩ := Int.eq_ofNat_of_zero_le hx0
  have hp := pow_le64 (k := n.toNat) (by omega)
  have e1 : ((2 ^ n.toNat - 1 : Nat) : Int) * 2 ^ f.toNat = (((2 ^ n.toNat - 1) * 2 ^ f.toNat : Nat) : Int) := by simp
  have e2 : ((x &&& (2 ^ n.toNat - 1) : Nat) : Int) * 2 ^ f.toNat = (((x &&& (2 ^ n.toNat - 1)) * 2 ^ f.toNat : Nat) : Int) := by simp
  have hm1 := Nat.mod_lt ((2 ^ n.toNat - 1) * 2 ^ f.toNat) (y := 18446744073709551616) (by decide)
  have hm2 := Nat.mod_lt ((x &&& (2 ^ n.toNat - 1)) * 2 ^ f.toNat) (y := 18446744073709551616) (by decide)
  have hle : v &&& (18446744073709551615 - ((2 ^ n.toNat - 1) * 2 ^ f.toNat) % 18446744073709551616) ≤ v := Nat.and_le_left
  rw [u64_and_nat _ _ (by omega) (by omega), e1, e2, IntKind.wrap_u64, IntKind.wrap_u64, nat_emod, nat_emod, u64_andNot_nat _ _ (by omega) hm1, u64_or_nat _ _ (by omega) hm2, put_bits v f.toNat n.toNat x (by omega) (by omega)]
  simp [put]
theorem sign_eq {v n : Int} (hv : IsU v) (h0 : 1 ≤ n) (h1 : n ≤ 64) : wrap64 (IntKind.u64.wrap (v * 2 ^ (64 - n).toNat)) / 2 ^ (64 - n).toNat = sgn v n := by
  obtain ⟨hv0, hv1⟩ := hv
  obtain ⟨v, rfl⟩ := Int.eq_ofNat_of_zero_le hv0
  have e1 : ((v : Nat) : Int) * 2 ^ (64 - n).toNat = ((v * 2 ^ (64 - n).toNat : Nat) : Int) := by simp
  have e2 : (2 : Int) ^ (64 - n).toNat = ((2 ^ (64 - n).toNat : Nat) : Int) := by simp
  have e3 : ((64 - (64 - n).toNat : Nat) : Int) = n := by omega
  have h := sgn_shift v (64 - n).toNat (by omega)
  rw [e1, IntKind.wrap_u64, nat_emod, wrap64, e2, h, e3]
theorem ret_i64 {a b : Int} (h : a = b) : Ending.returned (.int .i64 a) = Ending.returned (.int .i64 b) := by rw [h]
theorem ret_bool {a b : Bool} (h : a = b) : Ending.returned (.bool a) = Ending.returned (.bool b) := by rw [h]
theorem isU_mod (x : Int) : IsU (x % 18446744073709551616) := ⟨by omega, by omega⟩
end Go.Proofs.Ytpfohbinjcdcbaa
