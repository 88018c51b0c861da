/- Layer 3: what the reference package answers: shifted, Two, One, Taken. -/
import Derived.Test.YtoeagbcjnffpaaaGreatDoorAluRef
namespace Go.Proofs.YtoeagbcjnffpaaaGreatDoor
set_option maxRecDepth 100000
open Go.RowKit
set_option linter.unusedVariables false

theorem tu {a a' : Int} {c : Bool} (h : a = a') : Ending.returned (.tuple #[.int .u64 a, .bool c]) = Ending.returned (.tuple #[.int .u64 a', .bool c]) := by rw [h]
theorem pow2_pos (k : Nat) : (0 : Int) < 2 ^ k := Int.pow_pos (by decide)
theorem pow2_succ (k : Nat) : (2 : Int) ^ (k + 1) = 2 ^ k * 2 := Int.pow_succ 2 k
theorem sll_step (a : Int) (k : Nat) : modU (modU (a * 2 ^ k) * 2) = modU (a * 2 ^ (k + 1)) := by
  rw [pow2_succ, ← Int.mul_assoc]; unfold modU; omega
theorem srl_step (a : Int) (k : Nat) : a / 2 ^ k / 2 = a / 2 ^ (k + 1) := by
  rw [pow2_succ, Int.ediv_ediv_of_nonneg (Int.le_of_lt (pow2_pos k))]
theorem srl_bd {a : Int} (h : IsU a) (k : Nat) : 0 ≤ a / 2 ^ k ∧ a / 2 ^ k < 18446744073709551616 := by
  obtain ⟨h0, h1⟩ := h
  exact ⟨Int.ediv_nonneg h0 (Int.le_of_lt (pow2_pos k)), Int.lt_of_le_of_lt (Int.ediv_le_self _ h0) h1⟩
theorem sra_bd (s : Int) (k : Nat) (h : -9223372036854775808 ≤ s ∧ s < 9223372036854775808) : -9223372036854775808 ≤ s / 2 ^ k ∧ s / 2 ^ k < 9223372036854775808 ∧ (s < 0 → s / 2 ^ k < 0) ∧ (0 ≤ s → 0 ≤ s / 2 ^ k) := by
  have hp := pow2_pos k
  have h1 : s < 0 → s / 2 ^ k < 0 := fun h => Int.ediv_neg_of_neg_of_pos h hp
  have h2 : 0 ≤ s → 0 ≤ s / 2 ^ k := fun h => Int.ediv_nonneg h (Int.le_of_lt hp)
  refine ⟨?_, ?_, h1, h2⟩
  · refine Int.le_ediv_of_mul_le hp ?_
    have : 9223372036854775808 * 1 ≤ 9223372036854775808 * (2 : Int) ^ k := Int.mul_le_mul_of_nonneg_left (by omega) (by decide)
    rw [Int.neg_mul]; omega
  · by_cases h3 : s < 0
    · have := h1 h3; omega
    · exact Int.lt_of_le_of_lt (Int.ediv_le_self _ (by omega)) h.2
theorem sra_step (s : Int) (k : Nat) (h : -9223372036854775808 ≤ s ∧ s < 9223372036854775808) (t : Int) (ht : t = if s < 0 then 1 else 0) :
    modU (s / 2 ^ k) / 2 + t * 9223372036854775808 = modU (s / 2 ^ (k + 1)) := by
  rw [← srl_step]
  obtain ⟨b0, b1, b2, b3⟩ := sra_bd s k h
  generalize s / 2 ^ k = q at *
  unfold modU
  by_cases hs : s < 0
  · rw [if_pos hs] at ht
    have := b2 hs
    subst ht; omega
  · rw [if_neg hs] at ht
    have := b3 (by omega)
    subst ht; omega
theorem modU_id {a : Int} (h : IsU a) : modU a = a := by obtain ⟨_, _⟩ := h; unfold modU; omega
theorem modU_wrap64 {a : Int} (h : IsU a) : modU (wrap64 a) = a := by obtain ⟨_, _⟩ := h; unfold modU wrap64; omega
theorem vu {a b : Int} (h : a = b) : Value.int .u64 a = Value.int .u64 b := by rw [h]
theorem shl_any (a n : Int) (ha : IsU a) (hn : IsU n) (w : World) :
    Calls Tryz.prog 138 #[.int .u64 a, .int .u64 n, .int .i64 0] w fun e w' => e = .returned (.int .u64 (sllI a n)) ∧ w = w' := by
  obtain ⟨m0, m1⟩ := hn
  have k0 : 0 ≤ n % 64 := by omega
  have k1 : n % 64 < 64 := by omega
  obtain ⟨T, hT⟩ : ∃ T : Nat, n % 64 = T := Int.eq_ofNat_of_zero_le k0
  have E := Lib.hid (show sllI a n = modU (a * 2 ^ T) by unfold sllI; rw [hT]; rfl)
  have H0 := Lib.hid (show modU (a * 2 ^ 0) = a by rw [Int.pow_zero, Int.mul_one, modU_id ha])
  have HA := Lib.hid ha
  have T1 : T < 64 := by omega
  have HB := Lib.hid (bit_any a 63 w ha (by decide) (by decide))
  clear ha k0 k1
  go_enter Tryz.func138, Tryz.ntmps138
  go_wp2_with (go_at_call 182; refine (HB.out).mono ?_; rintro e w' ⟨rfl, rfl⟩)
  go_loop [0, 8] (fun v i => ∃ k : Nat, k ≤ T ∧ i = .int .u64 k ∧ v = .int .u64 (modU (a * 2 ^ k))) (fun _ i => T - (intOf i).toNat)
  case atStart => exact ⟨0, Nat.zero_le _, rfl, vu H0.out.symm⟩
  case round =>
    obtain ⟨k, hk, rfl, rfl⟩ := hrel
    have S := Lib.hid (sll_step a k)
    obtain ⟨q0, q1⟩ := isU_modU (a * 2 ^ k)
    obtain ⟨q, hq⟩ : ∃ q, modU (a * 2 ^ k) = q := ⟨_, rfl⟩
    rw [hq] at S q0 q1 ⊢
    have HQ := Lib.hid hq
    clear hq
    by_cases hlt : k < T
    · go_wp2
      go_round
      case rel => exact ⟨k + 1, by omega, by go_num, vu ((wrapU _).trans S.out)⟩
      case measure => simp [intOf]; omega
    · have hk' : k = T := by omega
      have HK := Lib.hid hk'
      clear hk'
      go_wp2
      go_ret
      refine ⟨reu ?_, rfl⟩
      show q = _
      rw [E.out, ← HQ.out, HK.out]
theorem shr_any (a n : Int) (ha : IsU a) (hn : IsU n) (w : World) :
    Calls Tryz.prog 138 #[.int .u64 a, .int .u64 n, .int .i64 1] w fun e w' => e = .returned (.int .u64 (srlI a n)) ∧ w = w' := by
  obtain ⟨m0, m1⟩ := hn
  have k0 : 0 ≤ n % 64 := by omega
  have k1 : n % 64 < 64 := by omega
  obtain ⟨T, hT⟩ : ∃ T : Nat, n % 64 = T := Int.eq_ofNat_of_zero_le k0
  have E := Lib.hid (show srlI a n = a / 2 ^ T by unfold srlI; rw [hT]; rfl)
  have H0 := Lib.hid (show a / 2 ^ 0 = a by rw [Int.pow_zero, Int.ediv_one])
  have HA := Lib.hid ha
  have T1 : T < 64 := by omega
  have HB := Lib.hid (bit_any a 63 w ha (by decide) (by decide))
  clear ha k0 k1
  go_enter Tryz.func138, Tryz.ntmps138
  go_wp2_with (go_at_call 182; refine (HB.out).mono ?_; rintro e w' ⟨rfl, rfl⟩)
  go_loop [0, 8] (fun v i => ∃ k : Nat, k ≤ T ∧ i = .int .u64 k ∧ v = .int .u64 (a / 2 ^ k)) (fun _ i => T - (intOf i).toNat)
  case atStart => exact ⟨0, Nat.zero_le _, rfl, vu H0.out.symm⟩
  case round =>
    obtain ⟨k, hk, rfl, rfl⟩ := hrel
    have S := Lib.hid (srl_step a k)
    obtain ⟨q0, q1⟩ := srl_bd HA.out k
    obtain ⟨q, hq⟩ : ∃ q, a / 2 ^ k = q := ⟨_, rfl⟩
    rw [hq] at S q0 q1 ⊢
    have HQ := Lib.hid hq
    clear hq
    by_cases hlt : k < T
    · go_wp2
      go_round
      case rel => exact ⟨k + 1, by omega, by go_num, vu (S.out)⟩
      case measure => simp [intOf]; omega
    · have hk' : k = T := by omega
      have HK := Lib.hid hk'
      clear hk'
      go_wp2
      go_ret
      refine ⟨reu ?_, rfl⟩
      show q = _
      rw [E.out, ← HQ.out, HK.out]
theorem sar_any (a n : Int) (ha : IsU a) (hn : IsU n) (w : World) :
    Calls Tryz.prog 138 #[.int .u64 a, .int .u64 n, .int .i64 2] w fun e w' => e = .returned (.int .u64 (sraI a n)) ∧ w = w' := by
  obtain ⟨m0, m1⟩ := hn
  have k0 : 0 ≤ n % 64 := by omega
  have k1 : n % 64 < 64 := by omega
  obtain ⟨T, hT⟩ : ∃ T : Nat, n % 64 = T := Int.eq_ofNat_of_zero_le k0
  have E := Lib.hid (show sraI a n = modU (wrap64 a / 2 ^ T) by unfold sraI; rw [hT]; rfl)
  have H0 := Lib.hid (show modU (wrap64 a / 2 ^ 0) = a by rw [Int.pow_zero, Int.ediv_one, modU_wrap64 ha])
  have HA := Lib.hid ha
  have T1 : T < 64 := by omega
  obtain ⟨t, ht⟩ : ∃ t : Int, t = if wrap64 a < 0 then 1 else 0 := ⟨_, rfl⟩
  have HB : Calls Tryz.prog 182 #[.int .u64 a, .int .i64 63] w fun e w' => e = .returned (.int .u64 t) ∧ w = w' := by
    by_cases h : wrap64 a < 0
    · rw [if_pos h] at ht; subst ht; exact bit63_neg ha h w
    · rw [if_neg h] at ht; subst ht; exact bit63_pos ha (by omega) w
  have HB := Lib.hid HB
  have HT := Lib.hid ht
  have hb := w64_bd a
  have HW := Lib.hid hb
  have t0 : 0 ≤ t := by rw [ht]; split <;> decide
  have t1 : t ≤ 1 := by rw [ht]; split <;> decide
  clear ha k0 k1 ht hb
  go_enter Tryz.func138, Tryz.ntmps138
  go_wp2_with (go_at_call 182; refine (HB.out).mono ?_; rintro e w' ⟨rfl, rfl⟩)
  go_loop [0, 8] (fun v i => ∃ k : Nat, k ≤ T ∧ i = .int .u64 k ∧ v = .int .u64 (modU (wrap64 a / 2 ^ k))) (fun _ i => T - (intOf i).toNat)
  case atStart => exact ⟨0, Nat.zero_le _, rfl, vu H0.out.symm⟩
  case round =>
    obtain ⟨k, hk, rfl, rfl⟩ := hrel
    have S := Lib.hid (sra_step (wrap64 a) k HW.out t HT.out)
    obtain ⟨q0, q1⟩ := isU_modU (wrap64 a / 2 ^ k)
    obtain ⟨q, hq⟩ : ∃ q, modU (wrap64 a / 2 ^ k) = q := ⟨_, rfl⟩
    rw [hq] at S q0 q1 ⊢
    have HQ := Lib.hid hq
    clear hq
    by_cases hlt : k < T
    · go_wp2
      go_round
      case rel => exact ⟨k + 1, by omega, by go_num, vu (S.out)⟩
      case measure => simp [intOf]; omega
    · have hk' : k = T := by omega
      have HK := Lib.hid hk'
      clear hk'
      go_wp2
      go_ret
      refine ⟨reu ?_, rfl⟩
      show q = _
      rw [E.out, ← HQ.out, HK.out]
set_option maxRecDepth 100000 in
theorem rtwo0 (a b : Int) (ha : IsU a) (hb : IsU b) (w : World) :
    Calls Tryz.prog 84 #[.int .i64 0, .int .u64 a, .int .u64 b] w fun e w' => e = .returned (.tuple #[.int .u64 (twoI 0 a b), .bool true]) ∧ w = w' := by
  go_enter Tryz.func84, Tryz.ntmps84
  go_wp2
  go_ret2
  exact ⟨tu (a' := twoI 0 a b) (wrapU _), rfl⟩
set_option maxRecDepth 100000 in
theorem rtwo1 (a b : Int) (ha : IsU a) (hb : IsU b) (w : World) :
    Calls Tryz.prog 84 #[.int .i64 1, .int .u64 a, .int .u64 b] w fun e w' => e = .returned (.tuple #[.int .u64 (twoI 1 a b), .bool true]) ∧ w = w' := by
  go_enter Tryz.func84, Tryz.ntmps84
  go_wp2
  go_ret2
  exact ⟨tu (a' := twoI 1 a b) (wrapU _), rfl⟩
set_option maxRecDepth 100000 in
theorem rtwo2 (a b : Int) (ha : IsU a) (hb : IsU b) (w : World) :
    Calls Tryz.prog 84 #[.int .i64 2, .int .u64 a, .int .u64 b] w fun e w' => e = .returned (.tuple #[.int .u64 (twoI 2 a b), .bool true]) ∧ w = w' := by
  go_enter Tryz.func84, Tryz.ntmps84
  go_wp2_with (go_at_call 138; refine (shl_any _ _ ha hb _).mono ?_; rintro e w' ⟨rfl, rfl⟩)
  go_ret2
  exact ⟨rfl, rfl⟩
set_option maxRecDepth 100000 in
theorem rtwo3 (a b : Int) (ha : IsU a) (hb : IsU b) (w : World) :
    Calls Tryz.prog 84 #[.int .i64 3, .int .u64 a, .int .u64 b] w fun e w' => e = .returned (.tuple #[.int .u64 (twoI 3 a b), .bool true]) ∧ w = w' := by
  go_enter Tryz.func84, Tryz.ntmps84
  go_wp2_with (first | (go_at_call 140; refine (rless_s _ _ ha hb _).mono ?_; rintro e w' ⟨rfl, rfl⟩) | (go_at_call 139; refine (truth_any _ _).mono ?_; rintro e w' ⟨rfl, rfl⟩))
  go_ret2
  exact ⟨rfl, rfl⟩
set_option maxRecDepth 100000 in
theorem rtwo4 (a b : Int) (ha : IsU a) (hb : IsU b) (w : World) :
    Calls Tryz.prog 84 #[.int .i64 4, .int .u64 a, .int .u64 b] w fun e w' => e = .returned (.tuple #[.int .u64 (twoI 4 a b), .bool true]) ∧ w = w' := by
  go_enter Tryz.func84, Tryz.ntmps84
  go_wp2_with (first | (go_at_call 140; refine (rless_u _ _ _).mono ?_; rintro e w' ⟨rfl, rfl⟩) | (go_at_call 139; refine (truth_any _ _).mono ?_; rintro e w' ⟨rfl, rfl⟩))
  go_ret2
  exact ⟨rfl, rfl⟩
set_option maxRecDepth 100000 in
theorem rtwo5 (a b : Int) (ha : IsU a) (hb : IsU b) (w : World) :
    Calls Tryz.prog 84 #[.int .i64 5, .int .u64 a, .int .u64 b] w fun e w' => e = .returned (.tuple #[.int .u64 (twoI 5 a b), .bool true]) ∧ w = w' := by
  go_enter Tryz.func84, Tryz.ntmps84
  go_wp2
  go_ret2
  exact ⟨rfl, rfl⟩
set_option maxRecDepth 100000 in
theorem rtwo6 (a b : Int) (ha : IsU a) (hb : IsU b) (w : World) :
    Calls Tryz.prog 84 #[.int .i64 6, .int .u64 a, .int .u64 b] w fun e w' => e = .returned (.tuple #[.int .u64 (twoI 6 a b), .bool true]) ∧ w = w' := by
  go_enter Tryz.func84, Tryz.ntmps84
  go_wp2_with (go_at_call 138; refine (shr_any _ _ ha hb _).mono ?_; rintro e w' ⟨rfl, rfl⟩)
  go_ret2
  exact ⟨rfl, rfl⟩
set_option maxRecDepth 100000 in
theorem rtwo7 (a b : Int) (ha : IsU a) (hb : IsU b) (w : World) :
    Calls Tryz.prog 84 #[.int .i64 7, .int .u64 a, .int .u64 b] w fun e w' => e = .returned (.tuple #[.int .u64 (twoI 7 a b), .bool true]) ∧ w = w' := by
  go_enter Tryz.func84, Tryz.ntmps84
  go_wp2_with (go_at_call 138; refine (sar_any _ _ ha hb _).mono ?_; rintro e w' ⟨rfl, rfl⟩)
  go_ret2
  exact ⟨rfl, rfl⟩
set_option maxRecDepth 100000 in
theorem rtwo8 (a b : Int) (ha : IsU a) (hb : IsU b) (w : World) :
    Calls Tryz.prog 84 #[.int .i64 8, .int .u64 a, .int .u64 b] w fun e w' => e = .returned (.tuple #[.int .u64 (twoI 8 a b), .bool true]) ∧ w = w' := by
  go_enter Tryz.func84, Tryz.ntmps84
  go_wp2
  go_ret2
  exact ⟨rfl, rfl⟩
set_option maxRecDepth 100000 in
theorem rtwo9 (a b : Int) (ha : IsU a) (hb : IsU b) (w : World) :
    Calls Tryz.prog 84 #[.int .i64 9, .int .u64 a, .int .u64 b] w fun e w' => e = .returned (.tuple #[.int .u64 (twoI 9 a b), .bool true]) ∧ w = w' := by
  go_enter Tryz.func84, Tryz.ntmps84
  go_wp2
  go_ret2
  exact ⟨rfl, rfl⟩
set_option maxRecDepth 100000 in
theorem rtwo10 (a b : Int) (ha : IsU a) (hb : IsU b) (w : World) :
    Calls Tryz.prog 84 #[.int .i64 10, .int .u64 a, .int .u64 b] w fun e w' => e = .returned (.tuple #[.int .u64 (twoI 10 a b), .bool true]) ∧ w = w' := by
  go_enter Tryz.func84, Tryz.ntmps84
  go_wp2
  go_ret2
  exact ⟨tu (a' := twoI 10 a b) (wrapU _), rfl⟩
set_option maxRecDepth 100000 in
theorem rtwo11 (a b : Int) (ha : IsU a) (hb : IsU b) (w : World) :
    Calls Tryz.prog 84 #[.int .i64 11, .int .u64 a, .int .u64 b] w fun e w' => e = .returned (.tuple #[.int .u64 (twoI 11 a b), .bool true]) ∧ w = w' := by
  go_enter Tryz.func84, Tryz.ntmps84
  go_wp2_with (go_at_call 141; refine (rhigh_any _ _ ha hb _).mono ?_; rintro e w' ⟨rfl, rfl⟩)
  go_ret2
  exact ⟨rfl, rfl⟩
set_option maxRecDepth 100000 in
theorem rtwo12 (a b : Int) (ha : IsU a) (hb : IsU b) (w : World) :
    Calls Tryz.prog 84 #[.int .i64 12, .int .u64 a, .int .u64 b] w fun e w' => e = .returned (.tuple #[.int .u64 (twoI 12 a b), .bool true]) ∧ w = w' := by
  by_cases h : b = 0
  · subst h
    go_enter Tryz.func84, Tryz.ntmps84
    go_wp2_with (go_at_call 142; refine (rsigned_zero _ ha _ _).mono ?_; rintro e w' ⟨rfl, rfl⟩)
    go_ret2
    exact ⟨rfl, rfl⟩
  · have H := Lib.hid (rsigned_q a b ha hb h)
    clear h
    go_enter Tryz.func84, Tryz.ntmps84
    go_wp2_with (go_at_call 142; refine (H.out _).mono ?_; rintro e w' ⟨rfl, rfl⟩)
    go_ret2
    exact ⟨rfl, rfl⟩
set_option maxRecDepth 100000 in
theorem rtwo13 (a b : Int) (ha : IsU a) (hb : IsU b) (w : World) :
    Calls Tryz.prog 84 #[.int .i64 13, .int .u64 a, .int .u64 b] w fun e w' => e = .returned (.tuple #[.int .u64 (twoI 13 a b), .bool true]) ∧ w = w' := by
  obtain ⟨a0, a1⟩ := ha
  obtain ⟨b0, b1⟩ := hb
  by_cases h : b = 0
  · subst h
    go_enter Tryz.func84, Tryz.ntmps84
    go_wp2
    go_ret2
    exact ⟨rfl, rfl⟩
  · have H := Lib.hid (show divuI a b = a / b by unfold divuI; rw [if_neg h])
    have hb0 : (b == 0) = false := by rw [beq_eq_false_iff_ne]; exact h
    have hp : 0 < b := by omega
    go_enter Tryz.func84, Tryz.ntmps84
    go_wp2
    go_ret2
    exact ⟨tu (a' := twoI 13 a b) H.out.symm, rfl⟩
set_option maxRecDepth 100000 in
theorem rtwo14 (a b : Int) (ha : IsU a) (hb : IsU b) (w : World) :
    Calls Tryz.prog 84 #[.int .i64 14, .int .u64 a, .int .u64 b] w fun e w' => e = .returned (.tuple #[.int .u64 (twoI 14 a b), .bool true]) ∧ w = w' := by
  by_cases h : b = 0
  · subst h
    go_enter Tryz.func84, Tryz.ntmps84
    go_wp2_with (go_at_call 142; refine (rsigned_zero _ ha _ _).mono ?_; rintro e w' ⟨rfl, rfl⟩)
    go_ret2
    exact ⟨rfl, rfl⟩
  · have H := Lib.hid (rsigned_r a b ha hb h)
    clear h
    go_enter Tryz.func84, Tryz.ntmps84
    go_wp2_with (go_at_call 142; refine (H.out _).mono ?_; rintro e w' ⟨rfl, rfl⟩)
    go_ret2
    exact ⟨rfl, rfl⟩
set_option maxRecDepth 100000 in
theorem rtwo15 (a b : Int) (ha : IsU a) (hb : IsU b) (w : World) :
    Calls Tryz.prog 84 #[.int .i64 15, .int .u64 a, .int .u64 b] w fun e w' => e = .returned (.tuple #[.int .u64 (twoI 15 a b), .bool true]) ∧ w = w' := by
  obtain ⟨a0, a1⟩ := ha
  obtain ⟨b0, b1⟩ := hb
  by_cases h : b = 0
  · subst h
    go_enter Tryz.func84, Tryz.ntmps84
    go_wp2
    go_ret2
    exact ⟨rfl, rfl⟩
  · have H := Lib.hid (show remuI a b = a % b by unfold remuI; rw [if_neg h])
    have hb0 : (b == 0) = false := by rw [beq_eq_false_iff_ne]; exact h
    have hp : 0 < b := by omega
    go_enter Tryz.func84, Tryz.ntmps84
    go_wp2
    go_ret2
    exact ⟨tu (a' := twoI 15 a b) H.out.symm, rfl⟩
theorem rtwo_yes (n : Nat) (h : n < 16) (a b : Int) (ha : IsU a) (hb : IsU b) (w : World) :
    Calls Tryz.prog 84 #[.int .i64 n, .int .u64 a, .int .u64 b] w fun e w' => e = .returned (.tuple #[.int .u64 (twoI n a b), .bool true]) ∧ w = w' := by
  match n, h with
  | 0, _ => exact rtwo0 a b ha hb w
  | 1, _ => exact rtwo1 a b ha hb w
  | 2, _ => exact rtwo2 a b ha hb w
  | 3, _ => exact rtwo3 a b ha hb w
  | 4, _ => exact rtwo4 a b ha hb w
  | 5, _ => exact rtwo5 a b ha hb w
  | 6, _ => exact rtwo6 a b ha hb w
  | 7, _ => exact rtwo7 a b ha hb w
  | 8, _ => exact rtwo8 a b ha hb w
  | 9, _ => exact rtwo9 a b ha hb w
  | 10, _ => exact rtwo10 a b ha hb w
  | 11, _ => exact rtwo11 a b ha hb w
  | 12, _ => exact rtwo12 a b ha hb w
  | 13, _ => exact rtwo13 a b ha hb w
  | 14, _ => exact rtwo14 a b ha hb w
  | 15, _ => exact rtwo15 a b ha hb w
  | n + 16, h => exact absurd h (by omega)
set_option maxRecDepth 100000 in
theorem rtwo_out (op a b : Int) (h : op < 0 ∨ 16 ≤ op) (w : World) :
    Calls Tryz.prog 84 #[.int .i64 op, .int .u64 a, .int .u64 b] w fun e w' => e = .returned (.tuple #[.int .u64 0, .bool false]) ∧ w = w' := by
  have h0 : (op == 0) = false := by rw [beq_eq_false_iff_ne]; omega
  have h1 : (op == 1) = false := by rw [beq_eq_false_iff_ne]; omega
  have h2 : (op == 2) = false := by rw [beq_eq_false_iff_ne]; omega
  have h3 : (op == 3) = false := by rw [beq_eq_false_iff_ne]; omega
  have h4 : (op == 4) = false := by rw [beq_eq_false_iff_ne]; omega
  have h5 : (op == 5) = false := by rw [beq_eq_false_iff_ne]; omega
  have h6 : (op == 6) = false := by rw [beq_eq_false_iff_ne]; omega
  have h7 : (op == 7) = false := by rw [beq_eq_false_iff_ne]; omega
  have h8 : (op == 8) = false := by rw [beq_eq_false_iff_ne]; omega
  have h9 : (op == 9) = false := by rw [beq_eq_false_iff_ne]; omega
  have h10 : (op == 10) = false := by rw [beq_eq_false_iff_ne]; omega
  have h11 : (op == 11) = false := by rw [beq_eq_false_iff_ne]; omega
  have h12 : (op == 12) = false := by rw [beq_eq_false_iff_ne]; omega
  have h13 : (op == 13) = false := by rw [beq_eq_false_iff_ne]; omega
  have h14 : (op == 14) = false := by rw [beq_eq_false_iff_ne]; omega
  have h15 : (op == 15) = false := by rw [beq_eq_false_iff_ne]; omega
  clear h
  go_enter Tryz.func84, Tryz.ntmps84
  go_wp2
  go_ret2
  exact ⟨rfl, rfl⟩
theorem rtwo_any (op a b : Int) (ha : IsU a) (hb : IsU b) (w : World) :
    Calls Tryz.prog 84 #[.int .i64 op, .int .u64 a, .int .u64 b] w fun e w' => e = .returned (.tuple #[.int .u64 (twoV op a b), .bool (twoB op)]) ∧ w = w' := by
  by_cases h : 0 ≤ op ∧ op < 16
  · obtain ⟨n, rfl⟩ := Int.eq_ofNat_of_zero_le h.1
    rw [twoV_at (by omega), twoB_at (by omega)]
    exact rtwo_yes n (by omega) a b ha hb w
  · rw [twoV_out (by omega), twoB_out (by omega)]
    exact rtwo_out op a b (by omega) w
theorem rone0 (a i : Int) (ha : IsU a) (w : World) :
    Calls Tryz.prog 85 #[.int .i64 16, .int .u64 a, .int .i64 i] w fun e w' => e = .returned (.tuple #[.int .u64 (twoI 0 a (modU i)), .bool true]) ∧ Below w.heap.size w w' := by
  have Hk := Lib.hid (fun w => rtwo0 a (IntKind.u64.wrap i) ha (by rw [wrapU]; exact isU_modU i) w)
  have Hw := Lib.hid (wrapU i)
  go_enter Tryz.func85, Tryz.ntmps85
  go_wp2_with (go_at_call 84; refine (Hk.out _).mono ?_; rintro e w1 ⟨rfl, rfl⟩)
  go_ret2
  rw [Hw.out]
  exact ⟨rfl, (Below.refl _ _).alloc (Nat.le_refl _) _⟩
theorem rone1 (a i : Int) (ha : IsU a) (w : World) :
    Calls Tryz.prog 85 #[.int .i64 17, .int .u64 a, .int .i64 i] w fun e w' => e = .returned (.tuple #[.int .u64 (twoI 3 a (modU i)), .bool true]) ∧ Below w.heap.size w w' := by
  have Hk := Lib.hid (fun w => rtwo3 a (IntKind.u64.wrap i) ha (by rw [wrapU]; exact isU_modU i) w)
  have Hw := Lib.hid (wrapU i)
  go_enter Tryz.func85, Tryz.ntmps85
  go_wp2_with (go_at_call 84; refine (Hk.out _).mono ?_; rintro e w1 ⟨rfl, rfl⟩)
  go_ret2
  rw [Hw.out]
  exact ⟨rfl, (Below.refl _ _).alloc (Nat.le_refl _) _⟩
theorem rone2 (a i : Int) (ha : IsU a) (w : World) :
    Calls Tryz.prog 85 #[.int .i64 18, .int .u64 a, .int .i64 i] w fun e w' => e = .returned (.tuple #[.int .u64 (twoI 4 a (modU i)), .bool true]) ∧ Below w.heap.size w w' := by
  have Hk := Lib.hid (fun w => rtwo4 a (IntKind.u64.wrap i) ha (by rw [wrapU]; exact isU_modU i) w)
  have Hw := Lib.hid (wrapU i)
  go_enter Tryz.func85, Tryz.ntmps85
  go_wp2_with (go_at_call 84; refine (Hk.out _).mono ?_; rintro e w1 ⟨rfl, rfl⟩)
  go_ret2
  rw [Hw.out]
  exact ⟨rfl, (Below.refl _ _).alloc (Nat.le_refl _) _⟩
theorem rone3 (a i : Int) (ha : IsU a) (w : World) :
    Calls Tryz.prog 85 #[.int .i64 19, .int .u64 a, .int .i64 i] w fun e w' => e = .returned (.tuple #[.int .u64 (twoI 5 a (modU i)), .bool true]) ∧ Below w.heap.size w w' := by
  have Hk := Lib.hid (fun w => rtwo5 a (IntKind.u64.wrap i) ha (by rw [wrapU]; exact isU_modU i) w)
  have Hw := Lib.hid (wrapU i)
  go_enter Tryz.func85, Tryz.ntmps85
  go_wp2_with (go_at_call 84; refine (Hk.out _).mono ?_; rintro e w1 ⟨rfl, rfl⟩)
  go_ret2
  rw [Hw.out]
  exact ⟨rfl, (Below.refl _ _).alloc (Nat.le_refl _) _⟩
theorem rone4 (a i : Int) (ha : IsU a) (w : World) :
    Calls Tryz.prog 85 #[.int .i64 20, .int .u64 a, .int .i64 i] w fun e w' => e = .returned (.tuple #[.int .u64 (twoI 8 a (modU i)), .bool true]) ∧ Below w.heap.size w w' := by
  have Hk := Lib.hid (fun w => rtwo8 a (IntKind.u64.wrap i) ha (by rw [wrapU]; exact isU_modU i) w)
  have Hw := Lib.hid (wrapU i)
  go_enter Tryz.func85, Tryz.ntmps85
  go_wp2_with (go_at_call 84; refine (Hk.out _).mono ?_; rintro e w1 ⟨rfl, rfl⟩)
  go_ret2
  rw [Hw.out]
  exact ⟨rfl, (Below.refl _ _).alloc (Nat.le_refl _) _⟩
theorem rone5 (a i : Int) (ha : IsU a) (w : World) :
    Calls Tryz.prog 85 #[.int .i64 21, .int .u64 a, .int .i64 i] w fun e w' => e = .returned (.tuple #[.int .u64 (twoI 9 a (modU i)), .bool true]) ∧ Below w.heap.size w w' := by
  have Hk := Lib.hid (fun w => rtwo9 a (IntKind.u64.wrap i) ha (by rw [wrapU]; exact isU_modU i) w)
  have Hw := Lib.hid (wrapU i)
  go_enter Tryz.func85, Tryz.ntmps85
  go_wp2_with (go_at_call 84; refine (Hk.out _).mono ?_; rintro e w1 ⟨rfl, rfl⟩)
  go_ret2
  rw [Hw.out]
  exact ⟨rfl, (Below.refl _ _).alloc (Nat.le_refl _) _⟩
theorem rone6 (a i : Int) (ha : IsU a) (w : World) :
    Calls Tryz.prog 85 #[.int .i64 22, .int .u64 a, .int .i64 i] w fun e w' => e = .returned (.tuple #[.int .u64 (twoI 2 a (modU i)), .bool true]) ∧ Below w.heap.size w w' := by
  have Hk := Lib.hid (fun w => rtwo2 a (IntKind.u64.wrap i) ha (by rw [wrapU]; exact isU_modU i) w)
  have Hw := Lib.hid (wrapU i)
  go_enter Tryz.func85, Tryz.ntmps85
  go_wp2_with (go_at_call 84; refine (Hk.out _).mono ?_; rintro e w1 ⟨rfl, rfl⟩)
  go_ret2
  rw [Hw.out]
  exact ⟨rfl, (Below.refl _ _).alloc (Nat.le_refl _) _⟩
theorem rone7 (a i : Int) (ha : IsU a) (w : World) :
    Calls Tryz.prog 85 #[.int .i64 23, .int .u64 a, .int .i64 i] w fun e w' => e = .returned (.tuple #[.int .u64 (twoI 6 a (modU i)), .bool true]) ∧ Below w.heap.size w w' := by
  have Hk := Lib.hid (fun w => rtwo6 a (IntKind.u64.wrap i) ha (by rw [wrapU]; exact isU_modU i) w)
  have Hw := Lib.hid (wrapU i)
  go_enter Tryz.func85, Tryz.ntmps85
  go_wp2_with (go_at_call 84; refine (Hk.out _).mono ?_; rintro e w1 ⟨rfl, rfl⟩)
  go_ret2
  rw [Hw.out]
  exact ⟨rfl, (Below.refl _ _).alloc (Nat.le_refl _) _⟩
theorem rone8 (a i : Int) (ha : IsU a) (w : World) :
    Calls Tryz.prog 85 #[.int .i64 24, .int .u64 a, .int .i64 i] w fun e w' => e = .returned (.tuple #[.int .u64 (twoI 7 a (modU i)), .bool true]) ∧ Below w.heap.size w w' := by
  have Hk := Lib.hid (fun w => rtwo7 a (IntKind.u64.wrap i) ha (by rw [wrapU]; exact isU_modU i) w)
  have Hw := Lib.hid (wrapU i)
  go_enter Tryz.func85, Tryz.ntmps85
  go_wp2_with (go_at_call 84; refine (Hk.out _).mono ?_; rintro e w1 ⟨rfl, rfl⟩)
  go_ret2
  rw [Hw.out]
  exact ⟨rfl, (Below.refl _ _).alloc (Nat.le_refl _) _⟩
theorem rone_at (n : Nat) (h : n < 9) (a i : Int) (ha : IsU a) (w : World) :
    Calls Tryz.prog 85 #[.int .i64 (16 + n), .int .u64 a, .int .i64 i] w fun e w' => e = .returned (.tuple #[.int .u64 (twoI (ofTwoN n) a (modU i)), .bool true]) ∧ Below w.heap.size w w' := by
  match n, h with
  | 0, _ => exact rone0 a i ha w
  | 1, _ => exact rone1 a i ha w
  | 2, _ => exact rone2 a i ha w
  | 3, _ => exact rone3 a i ha w
  | 4, _ => exact rone4 a i ha w
  | 5, _ => exact rone5 a i ha w
  | 6, _ => exact rone6 a i ha w
  | 7, _ => exact rone7 a i ha w
  | 8, _ => exact rone8 a i ha w
  | n + 9, h => exact absurd h (by omega)
theorem rone_out (op a i : Int) (h : op < 16 ∨ 25 ≤ op) (w : World) :
    Calls Tryz.prog 85 #[.int .i64 op, .int .u64 a, .int .i64 i] w fun e w' => e = .returned (.tuple #[.int .u64 0, .bool false]) ∧ w = w' := by
  rcases h with h | h
  · go_enter Tryz.func85, Tryz.ntmps85
    go_wp2
    go_ret2
    exact ⟨rfl, rfl⟩
  · have h' : op > 24 := by omega
    have h'' : ¬ op < 16 := by omega
    go_enter Tryz.func85, Tryz.ntmps85
    go_wp2
    go_ret2
    exact ⟨rfl, rfl⟩
theorem rone_any (op a i : Int) (ha : IsU a) (w : World) :
    Calls Tryz.prog 85 #[.int .i64 op, .int .u64 a, .int .i64 i] w fun e w' => e = .returned (.tuple #[.int .u64 (oneV op a i), .bool (oneB op)]) ∧ Below w.heap.size w w' := by
  by_cases h : 16 ≤ op ∧ op < 25
  · obtain ⟨n, hn⟩ := Int.eq_ofNat_of_zero_le (show 0 ≤ op - 16 by omega)
    obtain rfl : op = 16 + n := by omega
    rw [oneV_at (by omega), oneB_at (by omega)]
    exact rone_at n (by omega) a i ha w
  · rw [oneV_out (by omega), oneB_out (by omega)]
    exact (rone_out op a i (by omega) w).mono fun e w' ⟨h1, h2⟩ => ⟨h1, by rw [h2]; exact Below.refl _ _⟩
theorem tb {a a' : Bool} {c : Bool} (h : a = a') : Ending.returned (.tuple #[.bool a, .bool c]) = Ending.returned (.tuple #[.bool a', .bool c]) := by rw [h]
theorem ne_false (x : Bool) : (x != false) = x := by cases x <;> rfl
theorem ne_true (x : Bool) : (x != true) = !x := by cases x <;> rfl
theorem rtak0 (a b : Int) (ha : IsU a) (hb : IsU b) (w : World) :
    Calls Tryz.prog 87 #[.int .i64 32, .int .u64 a, .int .u64 b] w fun e w' => e = .returned (.tuple #[.bool (takI 0 a b), .bool true]) ∧ w = w' := by
  go_enter Tryz.func87, Tryz.ntmps87
  go_wp2_with (go_at_call 140; refine (rless_u _ _ _).mono ?_; rintro e w1 ⟨rfl, rfl⟩)
  go_ret2
  first | exact ⟨tb (a' := takI 0 a b) (ne_false _), rfl⟩ | exact ⟨tb (a' := takI 0 a b) (ne_true _), rfl⟩ | exact ⟨rfl, rfl⟩
theorem rtak1 (a b : Int) (ha : IsU a) (hb : IsU b) (w : World) :
    Calls Tryz.prog 87 #[.int .i64 33, .int .u64 a, .int .u64 b] w fun e w' => e = .returned (.tuple #[.bool (takI 1 a b), .bool true]) ∧ w = w' := by
  go_enter Tryz.func87, Tryz.ntmps87
  go_wp2_with (go_at_call 140; refine (rless_u _ _ _).mono ?_; rintro e w1 ⟨rfl, rfl⟩)
  go_ret2
  first | exact ⟨tb (a' := takI 1 a b) (ne_false _), rfl⟩ | exact ⟨tb (a' := takI 1 a b) (ne_true _), rfl⟩ | exact ⟨rfl, rfl⟩
theorem rtak2 (a b : Int) (ha : IsU a) (hb : IsU b) (w : World) :
    Calls Tryz.prog 87 #[.int .i64 34, .int .u64 a, .int .u64 b] w fun e w' => e = .returned (.tuple #[.bool (takI 2 a b), .bool true]) ∧ w = w' := by
  go_enter Tryz.func87, Tryz.ntmps87
  go_wp2_with (go_at_call 140; refine (rless_s _ _ ha hb _).mono ?_; rintro e w1 ⟨rfl, rfl⟩)
  go_ret2
  first | exact ⟨tb (a' := takI 2 a b) (ne_false _), rfl⟩ | exact ⟨tb (a' := takI 2 a b) (ne_true _), rfl⟩ | exact ⟨rfl, rfl⟩
theorem rtak3 (a b : Int) (ha : IsU a) (hb : IsU b) (w : World) :
    Calls Tryz.prog 87 #[.int .i64 35, .int .u64 a, .int .u64 b] w fun e w' => e = .returned (.tuple #[.bool (takI 3 a b), .bool true]) ∧ w = w' := by
  go_enter Tryz.func87, Tryz.ntmps87
  go_wp2_with (go_at_call 140; refine (rless_s _ _ ha hb _).mono ?_; rintro e w1 ⟨rfl, rfl⟩)
  go_ret2
  first | exact ⟨tb (a' := takI 3 a b) (ne_false _), rfl⟩ | exact ⟨tb (a' := takI 3 a b) (ne_true _), rfl⟩ | exact ⟨rfl, rfl⟩
theorem rtak4 (a b : Int) (ha : IsU a) (hb : IsU b) (w : World) :
    Calls Tryz.prog 87 #[.int .i64 36, .int .u64 a, .int .u64 b] w fun e w' => e = .returned (.tuple #[.bool (takI 4 a b), .bool true]) ∧ w = w' := by
  go_enter Tryz.func87, Tryz.ntmps87
  go_wp2_with (go_at_call 140; refine (rless_u _ _ _).mono ?_; rintro e w1 ⟨rfl, rfl⟩)
  go_ret2
  first | exact ⟨tb (a' := takI 4 a b) (ne_false _), rfl⟩ | exact ⟨tb (a' := takI 4 a b) (ne_true _), rfl⟩ | exact ⟨rfl, rfl⟩
theorem rtak5 (a b : Int) (ha : IsU a) (hb : IsU b) (w : World) :
    Calls Tryz.prog 87 #[.int .i64 37, .int .u64 a, .int .u64 b] w fun e w' => e = .returned (.tuple #[.bool (takI 5 a b), .bool true]) ∧ w = w' := by
  go_enter Tryz.func87, Tryz.ntmps87
  go_wp2_with (go_at_call 140; refine (rless_u _ _ _).mono ?_; rintro e w1 ⟨rfl, rfl⟩)
  go_ret2
  first | exact ⟨tb (a' := takI 5 a b) (ne_false _), rfl⟩ | exact ⟨tb (a' := takI 5 a b) (ne_true _), rfl⟩ | exact ⟨rfl, rfl⟩
theorem rtak_at (n : Nat) (h : n < 6) (a b : Int) (ha : IsU a) (hb : IsU b) (w : World) :
    Calls Tryz.prog 87 #[.int .i64 (32 + n), .int .u64 a, .int .u64 b] w fun e w' => e = .returned (.tuple #[.bool (takI n a b), .bool true]) ∧ w = w' := by
  match n, h with
  | 0, _ => exact rtak0 a b ha hb w
  | 1, _ => exact rtak1 a b ha hb w
  | 2, _ => exact rtak2 a b ha hb w
  | 3, _ => exact rtak3 a b ha hb w
  | 4, _ => exact rtak4 a b ha hb w
  | 5, _ => exact rtak5 a b ha hb w
  | n + 6, h => exact absurd h (by omega)
theorem rtak_out (op a b : Int) (h : op < 32 ∨ 38 ≤ op) (w : World) :
    Calls Tryz.prog 87 #[.int .i64 op, .int .u64 a, .int .u64 b] w fun e w' => e = .returned (.tuple #[.bool false, .bool false]) ∧ w = w' := by
  rcases h with h | h
  · go_enter Tryz.func87, Tryz.ntmps87
    go_wp2
    go_ret2
    exact ⟨rfl, rfl⟩
  · have h' : op > 37 := by omega
    have h'' : ¬ op < 32 := by omega
    go_enter Tryz.func87, Tryz.ntmps87
    go_wp2
    go_ret2
    exact ⟨rfl, rfl⟩
theorem rtak_any (op a b : Int) (ha : IsU a) (hb : IsU b) (w : World) :
    Calls Tryz.prog 87 #[.int .i64 op, .int .u64 a, .int .u64 b] w fun e w' => e = .returned (.tuple #[.bool (takV op a b), .bool (takB op)]) ∧ w = w' := by
  by_cases h : 32 ≤ op ∧ op < 38
  · obtain ⟨n, hn⟩ := Int.eq_ofNat_of_zero_le (show 0 ≤ op - 32 by omega)
    obtain rfl : op = 32 + n := by omega
    rw [takV_at (by omega), takB_at (by omega)]
    exact rtak_at n (by omega) a b ha hb w
  · rw [takV_out (by omega), takB_out (by omega)]
    exact rtak_out op a b (by omega) w
end Go.Proofs.YtoeagbcjnffpaaaGreatDoor
