/- Layer 2: what the reference's call as answers, by shapes: a word, read as an instruction of an operation. Conditions: the word is one, the operation has the shape. -/
import Derived.Test.YtjngkifoaljmaaaGreatDoorInsRDec
import Derived.Test.YtjngkifoaljmaaaGreatDoorInsRMay
namespace Go.Proofs.YtjngkifoaljmaaaGreatDoor
set_option maxRecDepth 100000
open Go.RowKit
set_option linter.unusedVariables false
/-- the call field with its answer under a name -/
abbrev Fd (v f c X : Int) : Prop := ∀ w, Calls Tryz.prog 83 #[.int .u32 v, .int .i64 f, .int .i64 c] w fun e w' => e = .returned (.int .u64 X) ∧ w = w'
abbrev Sg (x c I : Int) : Prop := ∀ w, Calls Tryz.prog 54 #[.int .u64 x, .int .i64 c] w fun e w' => e = .returned (.int .i64 I) ∧ w = w'
abbrev Fm (m : Int) (L : UInt8) : Prop := ∀ w, Calls Tryz.prog 31 #[.int .i64 m] w fun e w' => e = .returned (.string ⟨#[L]⟩) ∧ w = w'
abbrev Sh (m : Int) (b : Bool) : Prop := ∀ w, Calls Tryz.prog 36 #[.int .i64 m] w fun e w' => e = .returned (.bool b) ∧ w = w'
set_option maxRecDepth 100000 in
set_option maxHeartbeats 4000000 in
theorem ras_s0 (m v X7_5 X15_5 X20_5 : Int) (w : World) (hF : Hid (Fm m 82)) (h7_5 : Hid (Fd v 7 5 X7_5)) (a7_5 : 0 ≤ X7_5) (b7_5 : X7_5 ≤ 31) (h15_5 : Hid (Fd v 15 5 X15_5)) (a15_5 : 0 ≤ X15_5) (b15_5 : X15_5 ≤ 31) (h20_5 : Hid (Fd v 20 5 X20_5)) (a20_5 : 0 ≤ X20_5) (b20_5 : X20_5 ≤ 31) :
    Calls Tryz.prog 65 #[.int .u32 v, .int .i64 m] w fun e w' => e = .returned (.agg (insA m X7_5 X15_5 X20_5 0)) ∧ Below w.heap.size w w' := by
  go_enter Tryz.func65, Tryz.ntmps65
  go_wp2_with (first | (go_at_call 31; (with_reducible refine (hF.out _).mono ?_); rintro e w' ⟨rfl, rfl⟩) | (go_at_call 83; (first | ((with_reducible refine (h7_5.out _).mono ?_); rintro e w' ⟨rfl, rfl⟩) | ((with_reducible refine (h15_5.out _).mono ?_); rintro e w' ⟨rfl, rfl⟩) | ((with_reducible refine (h20_5.out _).mono ?_); rintro e w' ⟨rfl, rfl⟩))))
  refine bodyPost_ret (v := .agg (insA m X7_5 X15_5 X20_5 0)) (by simp [results, Tryz.results65, go_sem, insA]) rfl ⟨rfl, ?_⟩
  exact ((Below.refl _ _).alloc (Nat.le_refl _) _).alloc (by simp) _
set_option maxRecDepth 100000 in
set_option maxHeartbeats 4000000 in
theorem ras_s1 (m v X7_5 X15_5 X20_12 I : Int) (w : World) (hF : Hid (Fm m 73)) (h7_5 : Hid (Fd v 7 5 X7_5)) (a7_5 : 0 ≤ X7_5) (b7_5 : X7_5 ≤ 31) (h15_5 : Hid (Fd v 15 5 X15_5)) (a15_5 : 0 ≤ X15_5) (b15_5 : X15_5 ≤ 31) (h20_12 : Hid (Fd v 20 12 X20_12)) (a20_12 : 0 ≤ X20_12) (b20_12 : X20_12 ≤ 4095) (hS : Hid (Sg (X20_12) 12 I)) (hH : Hid (Sh m false)) :
    Calls Tryz.prog 65 #[.int .u32 v, .int .i64 m] w fun e w' => e = .returned (.agg (insA m X7_5 X15_5 0 I)) ∧ Below w.heap.size w w' := by
  go_enter Tryz.func65, Tryz.ntmps65
  go_wp2_with (first | (go_at_call 31; (with_reducible refine (hF.out _).mono ?_); rintro e w' ⟨rfl, rfl⟩) | (go_at_call 83; (first | ((with_reducible refine (h7_5.out _).mono ?_); rintro e w' ⟨rfl, rfl⟩) | ((with_reducible refine (h15_5.out _).mono ?_); rintro e w' ⟨rfl, rfl⟩) | ((with_reducible refine (h20_12.out _).mono ?_); rintro e w' ⟨rfl, rfl⟩))) | (go_at_call 54; (with_reducible refine (hS.out _).mono ?_); rintro e w' ⟨rfl, rfl⟩) | (go_at_call 36; (with_reducible refine (hH.out _).mono ?_); rintro e w' ⟨rfl, rfl⟩))
  refine bodyPost_ret (v := .agg (insA m X7_5 X15_5 0 I)) (by simp [results, Tryz.results65, go_sem, insA]) rfl ⟨rfl, ?_⟩
  exact ((Below.refl _ _).alloc (Nat.le_refl _) _).alloc (by simp) _
set_option maxRecDepth 100000 in
set_option maxHeartbeats 4000000 in
theorem ras_s2 (m v X7_5 X15_5 X20_12 X20_6 J : Int) (w : World) (hF : Hid (Fm m 73)) (h7_5 : Hid (Fd v 7 5 X7_5)) (a7_5 : 0 ≤ X7_5) (b7_5 : X7_5 ≤ 31) (h15_5 : Hid (Fd v 15 5 X15_5)) (a15_5 : 0 ≤ X15_5) (b15_5 : X15_5 ≤ 31) (h20_12 : Hid (Fd v 20 12 X20_12)) (a20_12 : 0 ≤ X20_12) (b20_12 : X20_12 ≤ 4095) (h20_6 : Hid (Fd v 20 6 X20_6)) (a20_6 : 0 ≤ X20_6) (b20_6 : X20_6 ≤ 63) (hS : Hid (Sg X20_12 12 J)) (hH : Hid (Sh m true)) :
    Calls Tryz.prog 65 #[.int .u32 v, .int .i64 m] w fun e w' => e = .returned (.agg (insA m X7_5 X15_5 0 X20_6)) ∧ Below w.heap.size w w' := by
  go_enter Tryz.func65, Tryz.ntmps65
  go_wp2_with (first | (go_at_call 31; (with_reducible refine (hF.out _).mono ?_); rintro e w' ⟨rfl, rfl⟩) | (go_at_call 83; (first | ((with_reducible refine (h7_5.out _).mono ?_); rintro e w' ⟨rfl, rfl⟩) | ((with_reducible refine (h15_5.out _).mono ?_); rintro e w' ⟨rfl, rfl⟩) | ((with_reducible refine (h20_12.out _).mono ?_); rintro e w' ⟨rfl, rfl⟩) | ((with_reducible refine (h20_6.out _).mono ?_); rintro e w' ⟨rfl, rfl⟩))) | (go_at_call 54; (with_reducible refine (hS.out _).mono ?_); rintro e w' ⟨rfl, rfl⟩) | (go_at_call 36; (with_reducible refine (hH.out _).mono ?_); rintro e w' ⟨rfl, rfl⟩))
  refine bodyPost_ret (v := .agg (insA m X7_5 X15_5 0 X20_6)) (by simp [results, Tryz.results65, go_sem, insA]) rfl ⟨rfl, ?_⟩
  exact ((Below.refl _ _).alloc (Nat.le_refl _) _).alloc (by simp) _
set_option maxRecDepth 100000 in
set_option maxHeartbeats 4000000 in
theorem ras_s3 (m v X15_5 X20_5 X7_5 X25_7 I : Int) (w : World) (hF : Hid (Fm m 83)) (h15_5 : Hid (Fd v 15 5 X15_5)) (a15_5 : 0 ≤ X15_5) (b15_5 : X15_5 ≤ 31) (h20_5 : Hid (Fd v 20 5 X20_5)) (a20_5 : 0 ≤ X20_5) (b20_5 : X20_5 ≤ 31) (h7_5 : Hid (Fd v 7 5 X7_5)) (a7_5 : 0 ≤ X7_5) (b7_5 : X7_5 ≤ 31) (h25_7 : Hid (Fd v 25 7 X25_7)) (a25_7 : 0 ≤ X25_7) (b25_7 : X25_7 ≤ 127) (hS : Hid (Sg (X7_5 + X25_7 * 32) 12 I)) :
    Calls Tryz.prog 65 #[.int .u32 v, .int .i64 m] w fun e w' => e = .returned (.agg (insA m 0 X15_5 X20_5 I)) ∧ Below w.heap.size w w' := by
  go_enter Tryz.func65, Tryz.ntmps65
  go_wp2_with (first | (go_at_call 31; (with_reducible refine (hF.out _).mono ?_); rintro e w' ⟨rfl, rfl⟩) | (go_at_call 83; (first | ((with_reducible refine (h15_5.out _).mono ?_); rintro e w' ⟨rfl, rfl⟩) | ((with_reducible refine (h20_5.out _).mono ?_); rintro e w' ⟨rfl, rfl⟩) | ((with_reducible refine (h7_5.out _).mono ?_); rintro e w' ⟨rfl, rfl⟩) | ((with_reducible refine (h25_7.out _).mono ?_); rintro e w' ⟨rfl, rfl⟩))) | (go_at_call 54; (with_reducible refine (hS.out _).mono ?_); rintro e w' ⟨rfl, rfl⟩))
  refine bodyPost_ret (v := .agg (insA m 0 X15_5 X20_5 I)) (by simp [results, Tryz.results65, go_sem, insA]) rfl ⟨rfl, ?_⟩
  exact ((Below.refl _ _).alloc (Nat.le_refl _) _).alloc (by simp) _
set_option maxRecDepth 100000 in
set_option maxHeartbeats 4000000 in
theorem ras_s4 (m v X15_5 X20_5 X8_4 X25_6 X7_1 X31_1 I : Int) (w : World) (hF : Hid (Fm m 66)) (h15_5 : Hid (Fd v 15 5 X15_5)) (a15_5 : 0 ≤ X15_5) (b15_5 : X15_5 ≤ 31) (h20_5 : Hid (Fd v 20 5 X20_5)) (a20_5 : 0 ≤ X20_5) (b20_5 : X20_5 ≤ 31) (h8_4 : Hid (Fd v 8 4 X8_4)) (a8_4 : 0 ≤ X8_4) (b8_4 : X8_4 ≤ 15) (h25_6 : Hid (Fd v 25 6 X25_6)) (a25_6 : 0 ≤ X25_6) (b25_6 : X25_6 ≤ 63) (h7_1 : Hid (Fd v 7 1 X7_1)) (a7_1 : 0 ≤ X7_1) (b7_1 : X7_1 ≤ 1) (h31_1 : Hid (Fd v 31 1 X31_1)) (a31_1 : 0 ≤ X31_1) (b31_1 : X31_1 ≤ 1) (hS : Hid (Sg (X8_4 * 2 + X25_6 * 32 + X7_1 * 2048 + X31_1 * 4096) 13 I)) :
    Calls Tryz.prog 65 #[.int .u32 v, .int .i64 m] w fun e w' => e = .returned (.agg (insA m 0 X15_5 X20_5 I)) ∧ Below w.heap.size w w' := by
  go_enter Tryz.func65, Tryz.ntmps65
  go_wp2_with (first | (go_at_call 31; (with_reducible refine (hF.out _).mono ?_); rintro e w' ⟨rfl, rfl⟩) | (go_at_call 83; (first | ((with_reducible refine (h15_5.out _).mono ?_); rintro e w' ⟨rfl, rfl⟩) | ((with_reducible refine (h20_5.out _).mono ?_); rintro e w' ⟨rfl, rfl⟩) | ((with_reducible refine (h8_4.out _).mono ?_); rintro e w' ⟨rfl, rfl⟩) | ((with_reducible refine (h25_6.out _).mono ?_); rintro e w' ⟨rfl, rfl⟩) | ((with_reducible refine (h7_1.out _).mono ?_); rintro e w' ⟨rfl, rfl⟩) | ((with_reducible refine (h31_1.out _).mono ?_); rintro e w' ⟨rfl, rfl⟩))) | (go_at_call 54; (with_reducible refine (hS.out _).mono ?_); rintro e w' ⟨rfl, rfl⟩))
  refine bodyPost_ret (v := .agg (insA m 0 X15_5 X20_5 I)) (by simp [results, Tryz.results65, go_sem, insA]) rfl ⟨rfl, ?_⟩
  exact ((Below.refl _ _).alloc (Nat.le_refl _) _).alloc (by simp) _
set_option maxRecDepth 100000 in
set_option maxHeartbeats 4000000 in
theorem ras_s5 (m v X7_5 X12_20 I : Int) (w : World) (hF : Hid (Fm m 85)) (h7_5 : Hid (Fd v 7 5 X7_5)) (a7_5 : 0 ≤ X7_5) (b7_5 : X7_5 ≤ 31) (h12_20 : Hid (Fd v 12 20 X12_20)) (a12_20 : 0 ≤ X12_20) (b12_20 : X12_20 ≤ 1048575) (hS : Hid (Sg (X12_20 * 4096) 32 I)) :
    Calls Tryz.prog 65 #[.int .u32 v, .int .i64 m] w fun e w' => e = .returned (.agg (insA m X7_5 0 0 I)) ∧ Below w.heap.size w w' := by
  go_enter Tryz.func65, Tryz.ntmps65
  go_wp2_with (first | (go_at_call 31; (with_reducible refine (hF.out _).mono ?_); rintro e w' ⟨rfl, rfl⟩) | (go_at_call 83; (first | ((with_reducible refine (h7_5.out _).mono ?_); rintro e w' ⟨rfl, rfl⟩) | ((with_reducible refine (h12_20.out _).mono ?_); rintro e w' ⟨rfl, rfl⟩))) | (go_at_call 54; (with_reducible refine (hS.out _).mono ?_); rintro e w' ⟨rfl, rfl⟩))
  refine bodyPost_ret (v := .agg (insA m X7_5 0 0 I)) (by simp [results, Tryz.results65, go_sem, insA]) rfl ⟨rfl, ?_⟩
  exact ((Below.refl _ _).alloc (Nat.le_refl _) _).alloc (by simp) _
set_option maxRecDepth 100000 in
set_option maxHeartbeats 4000000 in
theorem ras_s6 (m v X7_5 X21_10 X20_1 X12_8 X31_1 I : Int) (w : World) (hF : Hid (Fm m 74)) (h7_5 : Hid (Fd v 7 5 X7_5)) (a7_5 : 0 ≤ X7_5) (b7_5 : X7_5 ≤ 31) (h21_10 : Hid (Fd v 21 10 X21_10)) (a21_10 : 0 ≤ X21_10) (b21_10 : X21_10 ≤ 1023) (h20_1 : Hid (Fd v 20 1 X20_1)) (a20_1 : 0 ≤ X20_1) (b20_1 : X20_1 ≤ 1) (h12_8 : Hid (Fd v 12 8 X12_8)) (a12_8 : 0 ≤ X12_8) (b12_8 : X12_8 ≤ 255) (h31_1 : Hid (Fd v 31 1 X31_1)) (a31_1 : 0 ≤ X31_1) (b31_1 : X31_1 ≤ 1) (hS : Hid (Sg (X21_10 * 2 + X20_1 * 2048 + X12_8 * 4096 + X31_1 * 1048576) 21 I)) :
    Calls Tryz.prog 65 #[.int .u32 v, .int .i64 m] w fun e w' => e = .returned (.agg (insA m X7_5 0 0 I)) ∧ Below w.heap.size w w' := by
  go_enter Tryz.func65, Tryz.ntmps65
  go_wp2_with (first | (go_at_call 31; (with_reducible refine (hF.out _).mono ?_); rintro e w' ⟨rfl, rfl⟩) | (go_at_call 83; (first | ((with_reducible refine (h7_5.out _).mono ?_); rintro e w' ⟨rfl, rfl⟩) | ((with_reducible refine (h21_10.out _).mono ?_); rintro e w' ⟨rfl, rfl⟩) | ((with_reducible refine (h20_1.out _).mono ?_); rintro e w' ⟨rfl, rfl⟩) | ((with_reducible refine (h12_8.out _).mono ?_); rintro e w' ⟨rfl, rfl⟩) | ((with_reducible refine (h31_1.out _).mono ?_); rintro e w' ⟨rfl, rfl⟩))) | (go_at_call 54; (with_reducible refine (hS.out _).mono ?_); rintro e w' ⟨rfl, rfl⟩))
  refine bodyPost_ret (v := .agg (insA m X7_5 0 0 I)) (by simp [results, Tryz.results65, go_sem, insA]) rfl ⟨rfl, ?_⟩
  exact ((Below.refl _ _).alloc (Nat.le_refl _) _).alloc (by simp) _
set_option maxRecDepth 100000 in
set_option maxHeartbeats 4000000 in
theorem ras_s7 (m v  : Int) (w : World) (hF : Hid (Fm m 69)) :
    Calls Tryz.prog 65 #[.int .u32 v, .int .i64 m] w fun e w' => e = .returned (.agg (insA m 0 0 0 0)) ∧ Below w.heap.size w w' := by
  go_enter Tryz.func65, Tryz.ntmps65
  go_wp2_with (first | (go_at_call 31; (with_reducible refine (hF.out _).mono ?_); rintro e w' ⟨rfl, rfl⟩))
  refine bodyPost_ret (v := .agg (insA m 0 0 0 0)) (by simp [results, Tryz.results65, go_sem, insA]) rfl ⟨rfl, ?_⟩
  exact ((Below.refl _ _).alloc (Nat.le_refl _) _).alloc (by simp) _
theorem fd_at (v f c : Nat) (hv : v < 4294967296) (h : f + c ≤ 64) : Hid (Fd v f c (fldN v f c : Nat)) :=
  Lib.hid (fun w => rword_field v f c ⟨by omega, by omega⟩ (by omega) (by omega) (by omega) w)
theorem sg_at (v s : Nat) (hs : s < 8) (x c : Int) (hx : x = ((numberN s v : Nat) : Int)) (hc : c = lSg s) (h0 : 1 ≤ c) (h1 : c ≤ 64) : Hid (Sg x c (numberI v s)) :=
  Lib.hid (fun w => by
    have hu := isU_number (v : Int) hs 4 (by omega)
    rw [numberK_nat, number_lit s v hs] at hu
    have e : numberI (v : Int) s = sgn (numberN s v : Nat) (lSg s) := by
      unfold numberI
      rw [numberK_nat, number_lit s v hs, if_neg (by omega)]
    rw [e, hx, ← hc]
    exact rsign_yes _ _ hu h0 h1 w)
theorem num_zero (v s : Nat) (hs : s < 8) (h0 : lSg s = 0) (h1 : numberN s v < 4294967296) : numberI (v : Int) s = ((numberN s v : Nat) : Int) := by
  unfold numberI
  rw [numberK_nat, number_lit s v hs, if_pos h0]
  unfold wrap64; omega
theorem fldN_le' (v f c m : Nat) (h : 2 ^ c = m + 1) : ((fldN v f c : Nat) : Int) ≤ (m : Nat) := by
  have := fldN_lt2 v f c
  omega
/-- what as hands back -/
def asA (v : Int) (n : Nat) : Array Value := insA n (regI v 7 (lRd (opS n))) (regI v 15 (lR1 (opS n))) (regI v 20 (lR2 (opS n))) (numberI v (opS n))
theorem as_at (v : Int) (hv : IsW v) (n : Nat) (hn : n < 43) (w : World) :
    Calls Tryz.prog 65 #[.int .u32 v, .int .i64 n] w fun e w' => e = .returned (.agg (asA v n)) ∧ Below w.heap.size w w' := by
  obtain ⟨v0, v1⟩ := hv
  obtain ⟨v, rfl⟩ := Int.eq_ofNat_of_zero_le v0
  have hv : v < 4294967296 := by omega
  have h8 := opS_lt hn
  unfold asA
  obtain e | e | e | e | e | e | e | e : opS n = 0 ∨ opS n = 1 ∨ opS n = 2 ∨ opS n = 3 ∨ opS n = 4 ∨ opS n = 5 ∨ opS n = 6 ∨ opS n = 7 := by omega
  · have H := ras_s0 n v ((fldN v 7 5 : Nat) : Int) ((fldN v 15 5 : Nat) : Int) ((fldN v 20 5 : Nat) : Int) w (Lib.hid (fun w => rform_let n w hn 82 (by rw [e]; rfl))) (fd_at v 7 5 hv (by omega)) (by omega) (fldN_le' v 7 5 31 (by decide)) (fd_at v 15 5 hv (by omega)) (by omega) (fldN_le' v 15 5 31 (by decide)) (fd_at v 20 5 hv (by omega)) (by omega) (fldN_le' v 20 5 31 (by decide))
    rw [e]
    rw [num_zero v 0 (by omega) (by decide) (by rw [nN0]; omega), nN0]
    exact H
  · have H := ras_s1 n v ((fldN v 7 5 : Nat) : Int) ((fldN v 15 5 : Nat) : Int) ((fldN v 20 12 : Nat) : Int) (numberI v 1) w (Lib.hid (fun w => rform_let n w hn 73 (by rw [e]; rfl))) (fd_at v 7 5 hv (by omega)) (by omega) (fldN_le' v 7 5 31 (by decide)) (fd_at v 15 5 hv (by omega)) (by omega) (fldN_le' v 15 5 31 (by decide)) (fd_at v 20 12 hv (by omega)) (by omega) (fldN_le' v 20 12 4095 (by decide)) (sg_at v 1 (by omega) _ 12 (by rw [nN1]) rfl (by decide) (by decide)) (Lib.hid (fun w => rshift_at n w hn false (by unfold shiftB; rw [e]; rfl)))
    rw [e]
    exact H
  · have H := ras_s2 n v ((fldN v 7 5 : Nat) : Int) ((fldN v 15 5 : Nat) : Int) ((fldN v 20 12 : Nat) : Int) ((fldN v 20 6 : Nat) : Int) (sgn ((fldN v 20 12 : Nat) : Int) 12) w (Lib.hid (fun w => rform_let n w hn 73 (by rw [e]; rfl))) (fd_at v 7 5 hv (by omega)) (by omega) (fldN_le' v 7 5 31 (by decide)) (fd_at v 15 5 hv (by omega)) (by omega) (fldN_le' v 15 5 31 (by decide)) (fd_at v 20 12 hv (by omega)) (by omega) (fldN_le' v 20 12 4095 (by decide)) (fd_at v 20 6 hv (by omega)) (by omega) (fldN_le' v 20 6 63 (by decide)) (Lib.hid (fun w => rsign_yes _ 12 ⟨by omega, by have := fldN_le' v 20 12 4095 (by decide); omega⟩ (by decide) (by decide) w)) (Lib.hid (fun w => rshift_at n w hn true (by unfold shiftB; rw [e]; rfl)))
    rw [e]
    rw [num_zero v 2 (by omega) (by decide) (by rw [nN2]; have := fldN_lt2 v 20 6; omega), nN2]
    exact H
  · have H := ras_s3 n v ((fldN v 15 5 : Nat) : Int) ((fldN v 20 5 : Nat) : Int) ((fldN v 7 5 : Nat) : Int) ((fldN v 25 7 : Nat) : Int) (numberI v 3) w (Lib.hid (fun w => rform_let n w hn 83 (by rw [e]; rfl))) (fd_at v 15 5 hv (by omega)) (by omega) (fldN_le' v 15 5 31 (by decide)) (fd_at v 20 5 hv (by omega)) (by omega) (fldN_le' v 20 5 31 (by decide)) (fd_at v 7 5 hv (by omega)) (by omega) (fldN_le' v 7 5 31 (by decide)) (fd_at v 25 7 hv (by omega)) (by omega) (fldN_le' v 25 7 127 (by decide)) (sg_at v 3 (by omega) _ 12 (by rw [show numberN 3 v = fldN v 7 5 + fldN v 25 7 * 32 by simp [numberN]]; omega) rfl (by decide) (by decide))
    rw [e]
    exact H
  · have H := ras_s4 n v ((fldN v 15 5 : Nat) : Int) ((fldN v 20 5 : Nat) : Int) ((fldN v 8 4 : Nat) : Int) ((fldN v 25 6 : Nat) : Int) ((fldN v 7 1 : Nat) : Int) ((fldN v 31 1 : Nat) : Int) (numberI v 4) w (Lib.hid (fun w => rform_let n w hn 66 (by rw [e]; rfl))) (fd_at v 15 5 hv (by omega)) (by omega) (fldN_le' v 15 5 31 (by decide)) (fd_at v 20 5 hv (by omega)) (by omega) (fldN_le' v 20 5 31 (by decide)) (fd_at v 8 4 hv (by omega)) (by omega) (fldN_le' v 8 4 15 (by decide)) (fd_at v 25 6 hv (by omega)) (by omega) (fldN_le' v 25 6 63 (by decide)) (fd_at v 7 1 hv (by omega)) (by omega) (fldN_le' v 7 1 1 (by decide)) (fd_at v 31 1 hv (by omega)) (by omega) (fldN_le' v 31 1 1 (by decide)) (sg_at v 4 (by omega) _ 13 (by rw [show numberN 4 v = fldN v 8 4 * 2 + fldN v 25 6 * 32 + fldN v 7 1 * 2048 + fldN v 31 1 * 4096 by simp [numberN]]; omega) rfl (by decide) (by decide))
    rw [e]
    exact H
  · have H := ras_s5 n v ((fldN v 7 5 : Nat) : Int) ((fldN v 12 20 : Nat) : Int) (numberI v 5) w (Lib.hid (fun w => rform_let n w hn 85 (by rw [e]; rfl))) (fd_at v 7 5 hv (by omega)) (by omega) (fldN_le' v 7 5 31 (by decide)) (fd_at v 12 20 hv (by omega)) (by omega) (fldN_le' v 12 20 1048575 (by decide)) (sg_at v 5 (by omega) _ 32 (by rw [nN5]; omega) rfl (by decide) (by decide))
    rw [e]
    exact H
  · have H := ras_s6 n v ((fldN v 7 5 : Nat) : Int) ((fldN v 21 10 : Nat) : Int) ((fldN v 20 1 : Nat) : Int) ((fldN v 12 8 : Nat) : Int) ((fldN v 31 1 : Nat) : Int) (numberI v 6) w (Lib.hid (fun w => rform_let n w hn 74 (by rw [e]; rfl))) (fd_at v 7 5 hv (by omega)) (by omega) (fldN_le' v 7 5 31 (by decide)) (fd_at v 21 10 hv (by omega)) (by omega) (fldN_le' v 21 10 1023 (by decide)) (fd_at v 20 1 hv (by omega)) (by omega) (fldN_le' v 20 1 1 (by decide)) (fd_at v 12 8 hv (by omega)) (by omega) (fldN_le' v 12 8 255 (by decide)) (fd_at v 31 1 hv (by omega)) (by omega) (fldN_le' v 31 1 1 (by decide)) (sg_at v 6 (by omega) _ 21 (by rw [show numberN 6 v = fldN v 21 10 * 2 + fldN v 20 1 * 2048 + fldN v 12 8 * 4096 + fldN v 31 1 * 1048576 by simp [numberN]]; omega) rfl (by decide) (by decide))
    rw [e]
    exact H
  · have H := ras_s7 n v  w (Lib.hid (fun w => rform_let n w hn 69 (by rw [e]; rfl)))
    rw [e]
    rw [num_zero v 7 (by omega) (by decide) (by rw [nN7]; omega), nN7]
    exact H
end Go.Proofs.YtjngkifoaljmaaaGreatDoor
