/- What the calls of package bits on numbers answer: Field, Put, Sign, Fits, FitsU, and what they call. Conditions: each argument fits its kind, as said at each. -/
import Derived.Test.YtepkochgibjflaaDoorChecked
import Derived.Test.YtepkochgibjflaaDoorMath
import Derived.WalkKit
import Derived.Lib.Hide
import Derived.Deep.QuietTactic
import Derived.BigQuiet
namespace Go.Proofs.YtepkochgibjflaaDoor
open Go.RowKit
set_option linter.unusedVariables false

theorem low_any (n : Int) (h0 : 0 ≤ n) (h1 : n ≤ 64) (w : World) :
    Calls Tryd.prog 23 #[.int .i64 n] w fun e w' => e = .returned (.int .u64 ((2 ^ n.toNat - 1 : Nat) : Int)) ∧ w' = w := by
  go_enter Tryd.func23, Tryd.ntmps23
  go_wp2
  go_ret
  refine ⟨?_, rfl⟩
  show Ending.returned (Value.int .u64 _) = _
  rw [IntKind.wrap_u64, IntKind.wrap_u64]
  rcases low_nat (n := n.toNat) with h | h
  · rw [h]
  · omega
theorem within_yes (f n : Int) (w : World) (hf : 0 ≤ f) (hn : 0 ≤ n) (h : f + n ≤ 64) :
    Calls Tryd.prog 24 #[.int .i64 f, .int .i64 n] w fun e w' => e = .returned (.bool true) ∧ w = w' := by
  go_enter Tryd.func24, Tryd.ntmps24
  go_wp2
  go_ret
  simp
  omega
/-- there is no such field -/
def NoFld (f n : Int) : Prop := ¬ (0 ≤ f ∧ 0 ≤ n ∧ f + n ≤ 64)
theorem within_no (f n : Int) (w : World) (h : NoFld f n) (hf : IsI f) :
    Calls Tryd.prog 24 #[.int .i64 f, .int .i64 n] w fun e w' => e = .returned (.bool false) ∧ w = w' := by
  unfold NoFld at h
  obtain ⟨_, hf⟩ := hf
  by_cases h1 : 0 ≤ f
  · by_cases h2 : 0 ≤ n
    · have h3 : 64 < f + n := by omega
      clear h
      go_enter Tryd.func24, Tryd.ntmps24
      go_wp2
      go_ret
      simp
      omega
    · go_enter Tryd.func24, Tryd.ntmps24
      go_wp2
      go_ret
      exact ⟨rfl, rfl⟩
  · go_enter Tryd.func24, Tryd.ntmps24
    go_wp2
    go_ret
    exact ⟨rfl, rfl⟩
theorem signs_yes (n : Int) (w : World) (h0 : 1 ≤ n) (h1 : n ≤ 64) :
    Calls Tryd.prog 22 #[.int .i64 n] w fun e w' => e = .returned (.bool true) ∧ w = w' := by
  go_enter Tryd.func22, Tryd.ntmps22
  go_wp2
  go_ret
  first | exact ⟨rfl, rfl⟩ | exact ⟨by simp; omega, rfl⟩
theorem signs_no (n : Int) (w : World) (h : n < 1 ∨ 64 < n) :
    Calls Tryd.prog 22 #[.int .i64 n] w fun e w' => e = .returned (.bool false) ∧ w = w' := by
  rcases h with h | h
  · go_enter Tryd.func22, Tryd.ntmps22
    go_wp2
    go_ret
    exact ⟨rfl, rfl⟩
  · go_enter Tryd.func22, Tryd.ntmps22
    go_wp2
    go_ret
    first | exact ⟨rfl, rfl⟩ | exact ⟨by simp; omega, rfl⟩

theorem ret_u64_tup {a b : Int} {c : Bool} (h : a = b) : Ending.returned (.tuple #[.int .u64 a, .bool c]) = Ending.returned (.tuple #[.int .u64 b, .bool c]) := by rw [h]
theorem field_eq {v f n : Int} (hv : IsU v) (hn : 0 ≤ n) (h1 : n ≤ 64) : bits .and .u64 (v / 2 ^ f.toNat) ((2 ^ n.toNat - 1 : Nat) : Int) = fld v f n := by
  obtain ⟨hv0, hv1⟩ := hv
  obtain ⟨v, rfl⟩ := Int.eq_ofNat_of_zero_le hv0
  have e : ((v : Nat) : Int) / 2 ^ f.toNat = ((v / 2 ^ f.toNat : Nat) : Int) := by simp
  have hd := Nat.div_le_self v (2 ^ f.toNat)
  have hp := pow_le64 (k := n.toNat) (by omega)
  rw [e, u64_and_nat _ _ (by omega) (by omega), Nat.and_two_pow_sub_one_eq_mod]
  simp [fld, fldN]
theorem field_yes (v f n : Int) (hv : IsU v) (hf : 0 ≤ f) (hn : 0 ≤ n) (h : f + n ≤ 64) (w : World) :
    Calls Tryd.prog 19 #[.int .u64 v, .int .i64 f, .int .i64 n] w fun e w' => e = .returned (.tuple #[.int .u64 (fld v f n), .bool true]) ∧ ∃ k, w' = w.drewN k := by
  go_enter Tryd.func19, Tryd.ntmps19
  go_wp2_with (go_at_call 24; refine (within_yes _ _ _ hf hn h).mono ?_; rintro e w' ⟨rfl, rfl⟩)
  go_quiet ((go_at_call 23; exact Calls.quiet_of_same (low_any _ hn (by omega) _)))
  go_wp2
  go_ret2
  exact ⟨ret_u64_tup (field_eq hv hn (by omega)), _, rfl⟩
theorem field_no (v f n : Int) (h : NoFld f n) (hi : IsI f) (w : World) :
    Calls Tryd.prog 19 #[.int .u64 v, .int .i64 f, .int .i64 n] w fun e w' => e = .returned (.tuple #[.int .u64 0, .bool false]) ∧ w = w' := by
  go_enter Tryd.func19, Tryd.ntmps19
  go_wp2_with (go_at_call 24; refine (within_no _ _ _ h hi).mono ?_; rintro e w' ⟨rfl, rfl⟩)
  go_ret2
  exact ⟨rfl, rfl⟩

theorem nat_emod (a : Nat) : ((a : Nat) : Int) % 18446744073709551616 = ((a % 18446744073709551616 : Nat) : Int) := by omega
theorem put_eq {v f n x : Int} (hv : IsU v) (hf : 0 ≤ f) (hn : 0 ≤ n) (h : f + n ≤ 64) (hx : IsU x) :
    bits .or .u64 (bits .andNot .u64 v (IntKind.u64.wrap (((2 ^ n.toNat - 1 : Nat) : Int) * 2 ^ f.toNat))) (IntKind.u64.wrap (bits .and .u64 x ((2 ^ n.toNat - 1 : Nat) : Int) * 2 ^ f.toNat)) = put v f n x := by
  obtain ⟨hv0, hv1⟩ := hv
  obtain ⟨hx0, hx1⟩ := hx
  obtain ⟨v, rfl⟩ := Int.eq_ofNat_of_zero_le hv0
  obtain ⟨x, rfl⟩ := Int.eq_ofNat_of_zero_le hx0
  have hp := pow_le64 (k := n.toNat) (by omega)
  have e1 : ((2 ^ n.toNat - 1 : Nat) : Int) * 2 ^ f.toNat = (((2 ^ n.toNat - 1) * 2 ^ f.toNat : Nat) : Int) := by simp
  have e2 : ((x &&& (2 ^ n.toNat - 1) : Nat) : Int) * 2 ^ f.toNat = (((x &&& (2 ^ n.toNat - 1)) * 2 ^ f.toNat : Nat) : Int) := by simp
  have hm1 := Nat.mod_lt ((2 ^ n.toNat - 1) * 2 ^ f.toNat) (y := 18446744073709551616) (by decide)
  have hm2 := Nat.mod_lt ((x &&& (2 ^ n.toNat - 1)) * 2 ^ f.toNat) (y := 18446744073709551616) (by decide)
  have hle : v &&& (18446744073709551615 - ((2 ^ n.toNat - 1) * 2 ^ f.toNat) % 18446744073709551616) ≤ v := Nat.and_le_left
  rw [u64_and_nat _ _ (by omega) (by omega), e1, e2, IntKind.wrap_u64, IntKind.wrap_u64, nat_emod, nat_emod, u64_andNot_nat _ _ (by omega) hm1, u64_or_nat _ _ (by omega) hm2, put_bits v f.toNat n.toNat x (by omega) (by omega)]
  simp [put]
theorem sign_eq {v n : Int} (hv : IsU v) (h0 : 1 ≤ n) (h1 : n ≤ 64) : wrap64 (IntKind.u64.wrap (v * 2 ^ (64 - n).toNat)) / 2 ^ (64 - n).toNat = sgn v n := by
  obtain ⟨hv0, hv1⟩ := hv
  obtain ⟨v, rfl⟩ := Int.eq_ofNat_of_zero_le hv0
  have e1 : ((v : Nat) : Int) * 2 ^ (64 - n).toNat = ((v * 2 ^ (64 - n).toNat : Nat) : Int) := by simp
  have e2 : (2 : Int) ^ (64 - n).toNat = ((2 ^ (64 - n).toNat : Nat) : Int) := by simp
  have e3 : ((64 - (64 - n).toNat : Nat) : Int) = n := by omega
  have h := sgn_shift v (64 - n).toNat (by omega)
  rw [e1, IntKind.wrap_u64, nat_emod, wrap64, e2, h, e3]
theorem ret_i64 {a b : Int} (h : a = b) : Ending.returned (.int .i64 a) = Ending.returned (.int .i64 b) := by rw [h]
theorem ret_bool {a b : Bool} (h : a = b) : Ending.returned (.bool a) = Ending.returned (.bool b) := by rw [h]
theorem put_yes (v f n x : Int) (hv : IsU v) (hf : 0 ≤ f) (hn : 0 ≤ n) (h : f + n ≤ 64) (hx : IsU x) (w : World) :
    Calls Tryd.prog 16 #[.int .u64 v, .int .i64 f, .int .i64 n, .int .u64 x] w fun e w' => e = .returned (.tuple #[.int .u64 (put v f n x), .bool true]) ∧ ∃ k, w' = w.drewN k := by
  go_enter Tryd.func16, Tryd.ntmps16
  go_wp2_with (go_at_call 24; refine (within_yes _ _ _ hf hn h).mono ?_; rintro e w' ⟨rfl, rfl⟩)
  go_quiet ((go_at_call 23; exact Calls.quiet_of_same (low_any _ hn (by omega) _)))
  go_wp2
  go_ret2
  exact ⟨ret_u64_tup (put_eq hv hf hn h hx), _, rfl⟩
theorem put_no (v f n x : Int) (h : NoFld f n) (hi : IsI f) (w : World) :
    Calls Tryd.prog 16 #[.int .u64 v, .int .i64 f, .int .i64 n, .int .u64 x] w fun e w' => e = .returned (.tuple #[.int .u64 0, .bool false]) ∧ w = w' := by
  go_enter Tryd.func16, Tryd.ntmps16
  go_wp2_with (go_at_call 24; refine (within_no _ _ _ h hi).mono ?_; rintro e w' ⟨rfl, rfl⟩)
  go_ret2
  exact ⟨rfl, rfl⟩
theorem sign_yes (v n : Int) (hv : IsU v) (h0 : 1 ≤ n) (h1 : n ≤ 64) (w : World) :
    Calls Tryd.prog 18 #[.int .u64 v, .int .i64 n] w fun e w' => e = .returned (.int .i64 (sgn v n)) ∧ w = w' := by
  go_enter Tryd.func18, Tryd.ntmps18
  go_wp2_with (go_at_call 22; refine (signs_yes _ _ h0 h1).mono ?_; rintro e w' ⟨rfl, rfl⟩)
  go_ret
  exact ⟨ret_i64 (sign_eq hv h0 h1), rfl⟩
theorem sign_no (v n : Int) (h : n < 1 ∨ 64 < n) (w : World) :
    Calls Tryd.prog 18 #[.int .u64 v, .int .i64 n] w fun e w' => e = .returned (.int .i64 0) ∧ w = w' := by
  go_enter Tryd.func18, Tryd.ntmps18
  go_wp2_with (go_at_call 22; refine (signs_no _ _ h).mono ?_; rintro e w' ⟨rfl, rfl⟩)
  go_ret
  exact ⟨rfl, rfl⟩
theorem isU_mod (x : Int) : IsU (x % 18446744073709551616) := ⟨by omega, by omega⟩
theorem fitsU_yes (x n : Int) (hx : IsU x) (h0 : 1 ≤ n) (h1 : n ≤ 64) (w : World) :
    Calls Tryd.prog 15 #[.int .u64 x, .int .i64 n] w fun e w' => e = .returned (.bool (fld x 0 n == x)) ∧ w = w' := by
  go_enter Tryd.func15, Tryd.ntmps15
  go_wp2_with (first | (go_at_call 22; refine (signs_yes _ _ h0 h1).mono ?_; rintro e w' ⟨rfl, rfl⟩) | (go_at_call 23; refine (low_any _ (by omega) h1 _).mono ?_; rintro e w' ⟨rfl, rfl⟩))
  go_ret
  refine ⟨ret_bool ?_, rfl⟩
  have := field_eq (f := 0) hx (n := n) (by omega) h1
  simp at this
  show (bits .and .u64 x ((2 ^ n.toNat - 1 : Nat) : Int) == x) = _
  rw [this]
theorem fitsU_no (x n : Int) (h : n < 1 ∨ 64 < n) (w : World) :
    Calls Tryd.prog 15 #[.int .u64 x, .int .i64 n] w fun e w' => e = .returned (.bool false) ∧ w = w' := by
  go_enter Tryd.func15, Tryd.ntmps15
  go_wp2_with (go_at_call 22; refine (signs_no _ _ h).mono ?_; rintro e w' ⟨rfl, rfl⟩)
  go_ret
  exact ⟨rfl, rfl⟩
end Go.Proofs.YtepkochgibjflaaDoor
