/- Layer 3: what the inner calls of the reference package answer: less, size, signed, high, shifted, truth. -/
import Derived.Test.YtoeagbcjnffpaaaGreatDoorAluA
import Derived.Test.YtoeagbcjnffpaaaGreatDoorBitA
namespace Go.Proofs.YtoeagbcjnffpaaaGreatDoor
set_option maxRecDepth 100000
open Go.RowKit
set_option linter.unusedVariables false

theorem bit63_neg {a : Int} (ha : IsU a) (h : wrap64 a < 0) (w : World) :
    Calls Tryz.prog 182 #[.int .u64 a, .int .i64 63] w fun e w' => e = .returned (.int .u64 1) ∧ w = w' := by
  have e : bitI a 63 = 1 := by
    obtain ⟨h0, h1⟩ := ha
    unfold wrap64 at h
    unfold bitI
    rw [show (63 : Int).toNat = 63 from rfl]
    omega
  refine (bit_any a 63 w ha (by decide) (by decide)).mono fun e' w' ⟨h1, h2⟩ => ⟨by rw [h1, e], h2.symm⟩
theorem bit63_pos {a : Int} (ha : IsU a) (h : 0 ≤ wrap64 a) (w : World) :
    Calls Tryz.prog 182 #[.int .u64 a, .int .i64 63] w fun e w' => e = .returned (.int .u64 0) ∧ w = w' := by
  have e : bitI a 63 = 0 := by
    obtain ⟨h0, h1⟩ := ha
    unfold wrap64 at h
    unfold bitI
    rw [show (63 : Int).toNat = 63 from rfl]
    omega
  refine (bit_any a 63 w ha (by decide) (by decide)).mono fun e' w' ⟨h1, h2⟩ => ⟨by rw [h1, e], h2.symm⟩
theorem truth_any (c : Bool) (w : World) :
    Calls Tryz.prog 139 #[.bool c] w fun e w' => e = .returned (.int .u64 (oneI c)) ∧ w = w' := by
  cases c
  all_goals
    go_enter Tryz.func139, Tryz.ntmps139
    go_wp2
    go_ret
    exact ⟨rfl, rfl⟩
theorem rless_u (a b : Int) (w : World) :
    Calls Tryz.prog 140 #[.int .u64 a, .int .u64 b, .bool false] w fun e w' => e = .returned (.bool (sltuB a b)) ∧ w = w' := by
  go_enter Tryz.func140, Tryz.ntmps140
  go_wp2
  go_ret
  exact ⟨rfl, rfl⟩
theorem rless_s (a b : Int) (ha : IsU a) (hb : IsU b) (w : World) :
    Calls Tryz.prog 140 #[.int .u64 a, .int .u64 b, .bool true] w fun e w' => e = .returned (.bool (sltB a b)) ∧ w = w' := by
  have ba := bit63_neg ha
  have bb := bit63_neg hb
  have pa := bit63_pos ha
  have pb := bit63_pos hb
  by_cases h1 : wrap64 a < 0 <;> by_cases h2 : wrap64 b < 0
  · have e : decide (a < b) = sltB a b := by
      obtain ⟨_, _⟩ := ha; obtain ⟨_, _⟩ := hb
      unfold sltB; unfold wrap64 at *
      rw [decide_eq_decide]; omega
    have E := Lib.hid e
    have A := Lib.hid (ba h1)
    have B := Lib.hid (bb h2)
    clear ba bb pa pb e h1 h2
    go_enter Tryz.func140, Tryz.ntmps140
    go_wp2_with fail
    refine (A.out _).mono ?_; rintro e w' ⟨rfl, rfl⟩
    go_wp2_with fail
    refine (B.out _).mono ?_; rintro e w' ⟨rfl, rfl⟩
    go_wp2
    go_ret
    exact ⟨reb E.out, rfl⟩
  · have e : true = sltB a b := by
      unfold sltB; simp; omega
    have E := Lib.hid e
    have A := Lib.hid (ba h1)
    have B := Lib.hid (pb (by omega))
    clear ba bb pa pb e h1 h2
    go_enter Tryz.func140, Tryz.ntmps140
    go_wp2_with fail
    refine (A.out _).mono ?_; rintro e w' ⟨rfl, rfl⟩
    go_wp2_with fail
    refine (B.out _).mono ?_; rintro e w' ⟨rfl, rfl⟩
    go_wp2
    go_ret
    exact ⟨reb E.out, rfl⟩
  · have e : false = sltB a b := by
      unfold sltB; simp; omega
    have E := Lib.hid e
    have A := Lib.hid (pa (by omega))
    have B := Lib.hid (bb h2)
    clear ba bb pa pb e h1 h2
    go_enter Tryz.func140, Tryz.ntmps140
    go_wp2_with fail
    refine (A.out _).mono ?_; rintro e w' ⟨rfl, rfl⟩
    go_wp2_with fail
    refine (B.out _).mono ?_; rintro e w' ⟨rfl, rfl⟩
    go_wp2
    go_ret
    exact ⟨reb E.out, rfl⟩
  · have e : decide (a < b) = sltB a b := by
      obtain ⟨_, _⟩ := ha; obtain ⟨_, _⟩ := hb
      unfold sltB; unfold wrap64 at *
      rw [decide_eq_decide]; omega
    have E := Lib.hid e
    have A := Lib.hid (pa (by omega))
    have B := Lib.hid (pb (by omega))
    clear ba bb pa pb e h1 h2
    go_enter Tryz.func140, Tryz.ntmps140
    go_wp2_with fail
    refine (A.out _).mono ?_; rintro e w' ⟨rfl, rfl⟩
    go_wp2_with fail
    refine (B.out _).mono ?_; rintro e w' ⟨rfl, rfl⟩
    go_wp2
    go_ret
    exact ⟨reb E.out, rfl⟩
def szI (a : Int) : Int := ((wrap64 a).natAbs : Nat)
theorem szI_bd (a : Int) : 0 ≤ szI a ∧ szI a ≤ 9223372036854775808 := by
  have := w64_bd a
  unfold szI; omega
theorem size_any (a : Int) (ha : IsU a) (w : World) :
    Calls Tryz.prog 183 #[.int .u64 a] w fun e w' => e = .returned (.int .u64 (szI a)) ∧ w = w' := by
  by_cases h : wrap64 a < 0
  · have A := Lib.hid (bit63_neg ha h)
    have e : modU (-a) = szI a := by
      obtain ⟨_, _⟩ := ha
      unfold modU szI; unfold wrap64 at *; omega
    have E := Lib.hid e
    clear h e
    go_enter Tryz.func183, Tryz.ntmps183
    go_wp2_with fail
    refine (A.out _).mono ?_; rintro e w' ⟨rfl, rfl⟩
    go_wp2
    go_ret
    exact ⟨reu ((wrapU _).trans E.out), rfl⟩
  · have A := Lib.hid (bit63_pos ha (by omega))
    have e : a = szI a := by
      obtain ⟨_, _⟩ := ha
      unfold szI; unfold wrap64 at *; omega
    have E := Lib.hid e
    clear h e
    go_enter Tryz.func183, Tryz.ntmps183
    go_wp2_with fail
    refine (A.out _).mono ?_; rintro e w' ⟨rfl, rfl⟩
    go_wp2
    go_ret
    exact ⟨reu E.out, rfl⟩
theorem size_at (a X : Int) (ha : IsU a) (h : szI a = X) (w : World) :
    Calls Tryz.prog 183 #[.int .u64 a] w fun e w' => e = .returned (.int .u64 X) ∧ w = w' := by
  subst h; exact size_any a ha w

/-! ### divisions by sizes -/
theorem sz_neg {a : Int} (h : wrap64 a < 0) : wrap64 a = -(szI a) := by unfold szI; omega
theorem sz_pos {a : Int} (h : 0 ≤ wrap64 a) : wrap64 a = szI a := by unfold szI; omega
theorem szI_ne {b : Int} (hb : IsU b) (h : b ≠ 0) : 0 < szI b := by
  have h0 : ¬ wrap64 b = 0 := fun e => h ((w64_zero hb).1 e)
  unfold szI; omega
theorem modU_wrap (z : Int) : modU (wrap64 z) = modU z := by unfold modU wrap64; omega
theorem tdiv_sz {a b : Int} : (szI a).tdiv (szI b) = szI a / szI b := Int.tdiv_eq_ediv_of_nonneg (szI_bd a).1
theorem tmod_sz {a b : Int} : (szI a).tmod (szI b) = szI a % szI b := Int.tmod_eq_emod_of_nonneg (szI_bd a).1
theorem quo_same {a b : Int} (hb : IsU b) (h : b ≠ 0) (hs : wrap64 a < 0 ∧ wrap64 b < 0 ∨ 0 ≤ wrap64 a ∧ 0 ≤ wrap64 b) : szI a / szI b = divI a b := by
  have h0 := (fun e => h ((w64_zero hb).1 e) : wrap64 b ≠ 0)
  have hq : szI a / szI b = (wrap64 a).tdiv (wrap64 b) := by
    rcases hs with ⟨h1, h2⟩ | ⟨h1, h2⟩
    · rw [sz_neg h1, sz_neg h2, Int.neg_tdiv, Int.tdiv_neg, Int.neg_neg, tdiv_sz]
    · rw [sz_pos h1, sz_pos h2, tdiv_sz]
  have hle : szI a / szI b ≤ szI a := Int.ediv_le_self _ (szI_bd a).1
  have h3 : 0 ≤ szI a / szI b := Int.ediv_nonneg (szI_bd a).1 (szI_bd b).1
  have h4 := szI_bd a
  unfold divI quoI
  rw [if_neg h0, modU_wrap, ← hq]
  unfold modU
  omega
theorem quo_unlike {a b : Int} (hb : IsU b) (h : b ≠ 0) (hs : wrap64 a < 0 ∧ 0 ≤ wrap64 b ∨ 0 ≤ wrap64 a ∧ wrap64 b < 0) : modU (-(szI a / szI b)) = divI a b := by
  have h0 := (fun e => h ((w64_zero hb).1 e) : wrap64 b ≠ 0)
  have hq : -(szI a / szI b) = (wrap64 a).tdiv (wrap64 b) := by
    rcases hs with ⟨h1, h2⟩ | ⟨h1, h2⟩
    · rw [sz_neg h1, sz_pos h2, Int.neg_tdiv, tdiv_sz]
    · rw [sz_pos h1, sz_neg h2, Int.tdiv_neg, tdiv_sz]
  unfold divI quoI
  rw [if_neg h0, modU_wrap, ← hq]
theorem rem_pos {a b : Int} (hb : IsU b) (h : b ≠ 0) (h1 : 0 ≤ wrap64 a) : szI a % szI b = remI a b := by
  have h0 := (fun e => h ((w64_zero hb).1 e) : wrap64 b ≠ 0)
  have hq : szI a % szI b = (wrap64 a).tmod (wrap64 b) := by
    rw [sz_pos h1]
    by_cases h2 : wrap64 b < 0
    · rw [sz_neg h2, Int.tmod_neg, tmod_sz]
    · rw [sz_pos (by omega), tmod_sz]
  have h3 := Int.emod_nonneg (szI a) (b := szI b) (by have := szI_ne hb h; omega)
  have h4 := Int.emod_lt_of_pos (szI a) (szI_ne hb h)
  have h5 := szI_bd b
  unfold remI modI
  rw [if_neg h0, ← hq]
  unfold modU
  omega
theorem rem_neg {a b : Int} (hb : IsU b) (h : b ≠ 0) (h1 : wrap64 a < 0) : modU (-(szI a % szI b)) = remI a b := by
  have h0 := (fun e => h ((w64_zero hb).1 e) : wrap64 b ≠ 0)
  have hq : -(szI a % szI b) = (wrap64 a).tmod (wrap64 b) := by
    rw [sz_neg h1, Int.neg_tmod]
    by_cases h2 : wrap64 b < 0
    · rw [sz_neg h2, Int.tmod_neg, tmod_sz]
    · rw [sz_pos (by omega), tmod_sz]
  unfold remI modI
  rw [if_neg h0, ← hq]
theorem div_zero (a : Int) : divI a 0 = 18446744073709551615 := by
  have e : wrap64 0 = 0 := by unfold wrap64; decide
  unfold divI quoI modU; rw [e, if_pos rfl]; rfl
theorem rem_zero {a : Int} (ha : IsU a) : remI a 0 = a := by
  obtain ⟨h0, h1⟩ := ha
  have e : wrap64 0 = 0 := by unfold wrap64; decide
  unfold remI modI; rw [e, if_pos rfl]; unfold modU wrap64; omega
theorem rsigned_zero (a : Int) (ha : IsU a) (q : Bool) (w : World) :
    Calls Tryz.prog 142 #[.int .u64 a, .int .u64 0, .bool q] w fun e w' => e = .returned (.int .u64 (if q then divI a 0 else remI a 0)) ∧ w = w' := by
  have E := Lib.hid (div_zero a)
  have F := Lib.hid (rem_zero ha)
  cases q
  all_goals
    go_enter Tryz.func142, Tryz.ntmps142
    go_wp2
    go_ret
  · exact ⟨reu F.out.symm, rfl⟩
  · exact ⟨reu E.out.symm, rfl⟩
set_option maxHeartbeats 1000000 in
/-- the value that signed hands back, whatever the signs -/
theorem rsigned_q (a b : Int) (ha : IsU a) (hb : IsU b) (h : b ≠ 0) (w : World) :
    Calls Tryz.prog 142 #[.int .u64 a, .int .u64 b, .bool true] w fun e w' => e = .returned (.int .u64 (divI a b)) ∧ w = w' := by
  have hY := szI_ne hb h
  obtain ⟨x0, x1⟩ := szI_bd a
  obtain ⟨y0, y1⟩ := szI_bd b
  have Sa := Lib.hid (size_any a ha)
  have Sb := Lib.hid (size_any b hb)
  have E1 := Lib.hid (quo_same (a := a) hb h)
  have E2 := Lib.hid (quo_unlike (a := a) hb h)
  have hb0 : (b == 0) = false := by rw [beq_eq_false_iff_ne]; exact h
  have bn := Lib.hid (@bit63_neg a ha)
  have bp := Lib.hid (@bit63_pos a ha)
  have cn := Lib.hid (@bit63_neg b hb)
  have cp := Lib.hid (@bit63_pos b hb)
  have hY0 : ¬ szI b = 0 := by omega
  by_cases h1 : wrap64 a < 0 <;> by_cases h2 : wrap64 b < 0
  · have A := Lib.hid (bn.out h1)
    have B := Lib.hid (cn.out h2)
    have E := Lib.hid (E1.out (.inl ⟨h1, h2⟩))
    clear h1 h2
    go_enter Tryz.func142, Tryz.ntmps142
    go_wp2_with (first | (go_at_call 183; refine (size_any _ (by assumption) _).mono ?_; rintro e w' ⟨rfl, rfl⟩) | (go_at_call 182; first | ((with_reducible refine (A.out _).mono ?_); rintro e w' ⟨rfl, rfl⟩) | ((with_reducible refine (B.out _).mono ?_); rintro e w' ⟨rfl, rfl⟩)))
    go_ret
    exact ⟨reu E.out, rfl⟩
  · have A := Lib.hid (bn.out h1)
    have B := Lib.hid (cp.out (by omega))
    have E := Lib.hid (E2.out (.inl ⟨h1, by omega⟩))
    clear h1 h2
    go_enter Tryz.func142, Tryz.ntmps142
    go_wp2_with (first | (go_at_call 183; refine (size_any _ (by assumption) _).mono ?_; rintro e w' ⟨rfl, rfl⟩) | (go_at_call 182; first | ((with_reducible refine (A.out _).mono ?_); rintro e w' ⟨rfl, rfl⟩) | ((with_reducible refine (B.out _).mono ?_); rintro e w' ⟨rfl, rfl⟩)))
    go_ret
    exact ⟨reu ((wrapU _).trans E.out), rfl⟩
  · have A := Lib.hid (bp.out (by omega))
    have B := Lib.hid (cn.out h2)
    have E := Lib.hid (E2.out (.inr ⟨by omega, h2⟩))
    clear h1 h2
    go_enter Tryz.func142, Tryz.ntmps142
    go_wp2_with (first | (go_at_call 183; refine (size_any _ (by assumption) _).mono ?_; rintro e w' ⟨rfl, rfl⟩) | (go_at_call 182; first | ((with_reducible refine (A.out _).mono ?_); rintro e w' ⟨rfl, rfl⟩) | ((with_reducible refine (B.out _).mono ?_); rintro e w' ⟨rfl, rfl⟩)))
    go_ret
    exact ⟨reu ((wrapU _).trans E.out), rfl⟩
  · have A := Lib.hid (bp.out (by omega))
    have B := Lib.hid (cp.out (by omega))
    have E := Lib.hid (E1.out (.inr ⟨by omega, by omega⟩))
    clear h1 h2
    go_enter Tryz.func142, Tryz.ntmps142
    go_wp2_with (first | (go_at_call 183; refine (size_any _ (by assumption) _).mono ?_; rintro e w' ⟨rfl, rfl⟩) | (go_at_call 182; first | ((with_reducible refine (A.out _).mono ?_); rintro e w' ⟨rfl, rfl⟩) | ((with_reducible refine (B.out _).mono ?_); rintro e w' ⟨rfl, rfl⟩)))
    go_ret
    exact ⟨reu E.out, rfl⟩
theorem rsigned_r (a b : Int) (ha : IsU a) (hb : IsU b) (h : b ≠ 0) (w : World) :
    Calls Tryz.prog 142 #[.int .u64 a, .int .u64 b, .bool false] w fun e w' => e = .returned (.int .u64 (remI a b)) ∧ w = w' := by
  have hY := szI_ne hb h
  obtain ⟨x0, x1⟩ := szI_bd a
  obtain ⟨y0, y1⟩ := szI_bd b
  have E1 := Lib.hid (rem_pos (a := a) hb h)
  have E2 := Lib.hid (rem_neg (a := a) hb h)
  have hb0 : (b == 0) = false := by rw [beq_eq_false_iff_ne]; exact h
  have bn := Lib.hid (@bit63_neg a ha)
  have bp := Lib.hid (@bit63_pos a ha)
  have hY0 : ¬ szI b = 0 := by omega
  by_cases h1 : wrap64 a < 0
  · have A := Lib.hid (bn.out h1)
    have E := Lib.hid (E2.out h1)
    clear h1
    go_enter Tryz.func142, Tryz.ntmps142
    go_wp2_with (first | (go_at_call 183; refine (size_any _ (by assumption) _).mono ?_; rintro e w' ⟨rfl, rfl⟩) | (go_at_call 182; refine (A.out _).mono ?_; rintro e w' ⟨rfl, rfl⟩))
    go_ret
    exact ⟨reu ((wrapU _).trans E.out), rfl⟩
  · have A := Lib.hid (bp.out (by omega))
    have E := Lib.hid (E1.out (by omega))
    clear h1
    go_enter Tryz.func142, Tryz.ntmps142
    go_wp2_with (first | (go_at_call 183; refine (size_any _ (by assumption) _).mono ?_; rintro e w' ⟨rfl, rfl⟩) | (go_at_call 182; refine (A.out _).mono ?_; rintro e w' ⟨rfl, rfl⟩))
    go_ret
    exact ⟨reu E.out, rfl⟩

/-! ### the upper half of a product -/
theorem tdivN (a : Nat) : (a : Int).tdiv 4294967296 = ((a / 4294967296 : Nat) : Int) := by rw [Int.tdiv_eq_ediv_of_nonneg (Int.natCast_nonneg _)]; omega
theorem tmodN (a : Nat) : (a : Int).tmod 4294967296 = ((a % 4294967296 : Nat) : Int) := by rw [Int.tmod_eq_emod_of_nonneg (Int.natCast_nonneg _)]; omega
theorem modN (a : Nat) : (a : Int) % 4294967296 = ((a % 4294967296 : Nat) : Int) := by omega
theorem high_nat (x y : Nat) (hx : x < 18446744073709551616) (hy : y < 18446744073709551616) :
    (x % 4294967296) * (y % 4294967296) < 18446744073709551616 ∧
    (x % 4294967296) * (y / 4294967296) + (x % 4294967296) * (y % 4294967296) / 4294967296 < 18446744073709551616 ∧
    (x / 4294967296) * (y % 4294967296) + ((x % 4294967296) * (y / 4294967296) + (x % 4294967296) * (y % 4294967296) / 4294967296) % 4294967296 < 18446744073709551616 ∧
    (x / 4294967296) * (y / 4294967296) + ((x % 4294967296) * (y / 4294967296) + (x % 4294967296) * (y % 4294967296) / 4294967296) / 4294967296 +
      ((x / 4294967296) * (y % 4294967296) + ((x % 4294967296) * (y / 4294967296) + (x % 4294967296) * (y % 4294967296) / 4294967296) % 4294967296) / 4294967296 = x * y / 18446744073709551616 := by
  have h := Lib.mul64_hi y x hy hx
  rw [Nat.mul_comm (y % 4294967296) (x % 4294967296), Nat.mul_comm (y / 4294967296) (x % 4294967296), Nat.mul_comm (y % 4294967296) (x / 4294967296), Nat.mul_comm (y / 4294967296) (x / 4294967296), Nat.mul_comm y x, Nat.add_comm (_ % 4294967296) (x / 4294967296 * _)] at h
  exact h
set_option maxHeartbeats 1000000 in
theorem rhigh_any (a b : Int) (ha : IsU a) (hb : IsU b) (w : World) :
    Calls Tryz.prog 141 #[.int .u64 a, .int .u64 b] w fun e w' => e = .returned (.int .u64 (mulhuI a b)) ∧ w = w' := by
  obtain ⟨a0, a1⟩ := ha
  obtain ⟨b0, b1⟩ := hb
  obtain ⟨x, rfl⟩ := Int.eq_ofNat_of_zero_le a0
  obtain ⟨y, rfl⟩ := Int.eq_ofNat_of_zero_le b0
  have hx : x < 18446744073709551616 := by omega
  have hy : y < 18446744073709551616 := by omega
  obtain ⟨bd, bt, bw, hhi⟩ := high_nat x y hx hy
  have ba := Lib.half_mul_le (a := x / 4294967296) (b := y / 4294967296) (by omega) (by omega)
  have bb := Lib.half_mul_le (a := x / 4294967296) (b := y % 4294967296) (by omega) (by omega)
  have bc := Lib.half_mul_le (a := x % 4294967296) (b := y / 4294967296) (by omega) (by omega)
  have ba' : x / 4294967296 * (y / 4294967296) < 18446744073709551616 := by omega
  have bb' : x / 4294967296 * (y % 4294967296) < 18446744073709551616 := by omega
  have bc' : x % 4294967296 * (y / 4294967296) < 18446744073709551616 := by omega
  have bh1 : x / 4294967296 * (y / 4294967296) + (x % 4294967296 * (y / 4294967296) + x % 4294967296 * (y % 4294967296) / 4294967296) / 4294967296 < 18446744073709551616 := by omega
  have bh : x / 4294967296 * (y / 4294967296) + (x % 4294967296 * (y / 4294967296) + x % 4294967296 * (y % 4294967296) / 4294967296) / 4294967296 + (x / 4294967296 * (y % 4294967296) + (x % 4294967296 * (y / 4294967296) + x % 4294967296 * (y % 4294967296) / 4294967296) % 4294967296) / 4294967296 < 18446744073709551616 := by omega
  have q1 : x % 4294967296 * (y % 4294967296) / 4294967296 < 18446744073709551616 := by omega
  have q2 : (x % 4294967296 * (y / 4294967296) + x % 4294967296 * (y % 4294967296) / 4294967296) / 4294967296 < 18446744073709551616 := by omega
  have q3 : (x / 4294967296 * (y % 4294967296) + (x % 4294967296 * (y / 4294967296) + x % 4294967296 * (y % 4294967296) / 4294967296) % 4294967296) / 4294967296 < 18446744073709551616 := by omega
  have HH := Lib.hid hhi
  clear hhi
  go_enter Tryz.func141, Tryz.ntmps141
  go_wp2
  simp only [modN, tdivN, tmodN, Mul64.wrapN _ q1, Mul64.wrapN _ q2, Mul64.wrapN _ q3, Mul64.divN, Mul64.mulN, Mul64.addN, Mul64.wrapN _ bd, Mul64.wrapN _ bb', Mul64.wrapN _ bt, Mul64.wrapN _ bc', Mul64.wrapN _ bw, Mul64.wrapN _ ba', Mul64.wrapN _ bh1, Mul64.wrapN _ bh]
  go_ret
  refine ⟨?_, rfl⟩
  have e1 : mulhuI x y = ((x * y / 18446744073709551616 : Nat) : Int) := by unfold mulhuI; rw [← Int.natCast_mul]; omega
  rw [e1, ← HH.out]
  rfl
end Go.Proofs.YtoeagbcjnffpaaaGreatDoor
