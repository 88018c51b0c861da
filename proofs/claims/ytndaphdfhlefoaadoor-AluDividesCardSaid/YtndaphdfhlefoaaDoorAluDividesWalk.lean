/- The walk of the statement AluDivides: it returns true, and writes nothing that was there. Condition: the table of package alu reads as it should. -/
import Derived.Test.YtndaphdfhlefoaaDoorAluLit
import Derived.Test.YtndaphdfhlefoaaDoorAluRef
namespace Go.Proofs.YtndaphdfhlefoaaDoor.AluDividesWalk
open Go.RowKit
set_option linter.unusedVariables false
theorem mod_add_mod' (x y : Int) : modU (modU x + y) = modU (x + y) := by unfold modU; omega
theorem u_back {a b : Int} (ha : IsU a) (hb : IsU b) (h : b ≠ 0) : modU (modU (divuI a b * b) + remuI a b) = a := by
  rw [mod_add_mod']
  unfold divuI remuI
  rw [if_neg h, if_neg h, Int.mul_comm, Int.mul_ediv_add_emod]
  obtain ⟨_, _⟩ := ha
  unfold modU; omega
theorem u_less {a b : Int} (hb : IsU b) (h : b ≠ 0) : remuI a b < b := by
  obtain ⟨b0, _⟩ := hb
  unfold remuI
  rw [if_neg h]
  exact Int.emod_lt_of_pos _ (by omega)
theorem modU_mul (x y x' y' : Int) (hx : modU x = modU x') (hy : modU y = modU y') : modU (x * y) = modU (x' * y') := by
  unfold modU at *
  rw [Int.mul_emod, hx, hy, ← Int.mul_emod]
theorem modU_modU (x : Int) : modU (modU x) = modU x := by unfold modU; omega
theorem mod_split (X Y Z : Int) (h : X + Y = Z) : modU (modU X + modU Y) = modU Z := by subst h; unfold modU; omega
theorem s_back {a b : Int} (ha : IsU a) (hb : IsU b) (h : b ≠ 0) : modU (modU (divI a b * b) + remI a b) = a := by
  have h0 : ¬ wrap64 b = 0 := fun e => h ((w64_zero hb).1 e)
  have e1 : modU (divI a b * b) = modU ((wrap64 a).tdiv (wrap64 b) * wrap64 b) := by
    refine modU_mul _ _ _ _ ?_ (modU_wrap b).symm
    unfold divI quoI
    rw [if_neg h0, modU_modU, modU_wrap]
  rw [mod_add_mod', show modU (divI a b * b + remI a b) = modU (modU (divI a b * b) + remI a b) from (mod_add_mod' _ _).symm, e1]
  unfold remI modI
  rw [if_neg h0]
  have e2 := Int.mul_tdiv_add_tmod (wrap64 a) (wrap64 b)
  rw [Int.mul_comm] at e2
  rw [mod_split _ _ _ e2, modU_wrap]
  obtain ⟨_, _⟩ := ha
  unfold modU; omega
/-- the rest, by sizes: m of both -/
theorem rem_by {a b : Int} (hb : IsU b) (h : b ≠ 0) : ∃ m, 0 ≤ m ∧ m < szI b ∧ (0 ≤ wrap64 a → remI a b = m) ∧ (wrap64 a < 0 → remI a b = modU (-m)) :=
  ⟨szI a % szI b, Int.emod_nonneg _ (by have := szI_ne hb h; omega), Int.emod_lt_of_pos _ (szI_ne hb h), fun h1 => (rem_pos hb h h1).symm, fun h1 => (rem_neg hb h h1).symm⟩
theorem sz_of_neg {b : Int} (hb : IsU b) (h : wrap64 b < 0) : IntKind.u64.wrap (-b) = szI b := by
  obtain ⟨_, _⟩ := hb
  rw [wrapU]; unfold modU szI; unfold wrap64 at *; omega
theorem sz_of_pos {b : Int} (hb : IsU b) (h : ¬ wrap64 b < 0) : b = szI b := by
  obtain ⟨_, _⟩ := hb
  unfold szI; unfold wrap64 at *; omega
/-- what the statement compares at the end, of the rest's size and the divisor's -/
theorem less_pp {a b : Int} (hb : IsU b) (h : b ≠ 0) (hs : ¬ wrap64 (remI a b) < 0) (h2 : ¬ wrap64 b < 0) : remI a b < b ∧ (remI a b = 0 ∨ ¬ wrap64 a < 0) := by
  obtain ⟨m, m0, m1, m2, m3⟩ := rem_by (a := a) hb h
  have h3 := szI_bd b
  rw [← sz_of_pos hb h2] at m1 h3
  by_cases h1 : wrap64 a < 0
  · have e := m3 h1
    rw [e] at hs ⊢
    unfold wrap64 at hs; unfold modU at *
    omega
  · rw [m2 (by omega)]
    exact ⟨m1, .inr h1⟩
theorem less_pn {a b : Int} (hb : IsU b) (h : b ≠ 0) (hs : ¬ wrap64 (remI a b) < 0) (h2 : wrap64 b < 0) : remI a b < IntKind.u64.wrap (-b) ∧ (remI a b = 0 ∨ ¬ wrap64 a < 0) := by
  obtain ⟨m, m0, m1, m2, m3⟩ := rem_by (a := a) hb h
  have h3 := szI_bd b
  rw [← sz_of_neg hb h2] at m1 h3
  generalize IntKind.u64.wrap (-b) = B at *
  by_cases h1 : wrap64 a < 0
  · have e := m3 h1
    rw [e] at hs ⊢
    unfold wrap64 at hs; unfold modU at *
    omega
  · rw [m2 (by omega)]
    exact ⟨m1, .inr h1⟩
theorem less_np {a b : Int} (hb : IsU b) (h : b ≠ 0) (hs : wrap64 (remI a b) < 0) (h2 : ¬ wrap64 b < 0) : IntKind.u64.wrap (-(remI a b)) < b ∧ wrap64 a < 0 ∧ remI a b ≠ 0 := by
  obtain ⟨m, m0, m1, m2, m3⟩ := rem_by (a := a) hb h
  have h3 := szI_bd b
  rw [← sz_of_pos hb h2] at m1 h3
  by_cases h1 : wrap64 a < 0
  · have e := m3 h1
    rw [e] at hs ⊢
    rw [wrapU]
    unfold wrap64 at hs; unfold modU at *
    omega
  · rw [m2 (by omega)] at hs
    unfold wrap64 at hs; omega
theorem less_nn {a b : Int} (hb : IsU b) (h : b ≠ 0) (hs : wrap64 (remI a b) < 0) (h2 : wrap64 b < 0) : IntKind.u64.wrap (-(remI a b)) < IntKind.u64.wrap (-b) ∧ wrap64 a < 0 ∧ remI a b ≠ 0 := by
  obtain ⟨m, m0, m1, m2, m3⟩ := rem_by (a := a) hb h
  have h3 := szI_bd b
  rw [← sz_of_neg hb h2] at m1 h3
  generalize IntKind.u64.wrap (-b) = B at *
  by_cases h1 : wrap64 a < 0
  · have e := m3 h1
    rw [e] at hs ⊢
    rw [wrapU]
    unfold wrap64 at hs; unfold modU at *
    omega
  · rw [m2 (by omega)] at hs
    unfold wrap64 at hs; omega
set_option maxHeartbeats 1000000 in
theorem walk_npp (a b q r p s : Int) (w : World) (HA : Hid (IsU a)) (HB : Hid (IsU b)) (HT : Hid (TabA w)) (hb0 : (b == 0) = false) (Q0 : Hid (divuI a b = q)) (Q1 : Hid (remuI a b = r)) (Q2 : Hid (divI a b = p)) (Q3 : Hid (remI a b = s))
    (hs : decide (wrap64 s < 0) = false) (hb : decide (wrap64 b < 0) = false) (hz : (s == 0) = false) (F0 : Hid ((IntKind.u64.wrap (IntKind.u64.wrap (q * b) + r) == a) = true)) (F1 : Hid (r < b)) (F2 : Hid ((IntKind.u64.wrap (IntKind.u64.wrap (p * b) + s) == a) = true)) (F3 : Hid (s < b)) (F4 : Hid (decide (wrap64 a < 0) = false)) :
    Calls Tryd.prog 4 #[.int .u64 a, .int .u64 b] w fun e w' => e = .returned (.bool true) ∧ Below w.heap.size w w' := by
  go_enter Tryd.func4, Tryd.ntmps4
  go_wp2_with fail
  refine (awakeA_any _ HT.out).mono ?_
  rintro e w1 ⟨rfl, hb⟩
  have H1 := Lib.hid hb
  clear hb HT
  go_wp2_with fail
  refine (two_as (divu_call _ _ HA.out HB.out _) Q0.out).mono ?_
  rintro e w2 ⟨rfl, hb⟩
  have H2 := Lib.hid (stepA H1.out hb)
  clear hb H1
  go_wp2_with fail
  refine (two_as (remu_call _ _ HA.out HB.out _) Q1.out).mono ?_
  rintro e w3 ⟨rfl, hb⟩
  have H3 := Lib.hid (stepA H2.out hb)
  clear hb H2
  go_wp2_with fail
  refine (two_as (div_call _ _ HA.out HB.out _) Q2.out).mono ?_
  rintro e w4 ⟨rfl, hb⟩
  have H4 := Lib.hid (stepA H3.out hb)
  clear hb H3
  go_wp2_with fail
  refine (two_as (rem_call _ _ HA.out HB.out _) Q3.out).mono ?_
  rintro e w5 ⟨rfl, hb⟩
  have H5 := Lib.hid (stepA H4.out hb)
  clear hb H4
  have f0 := F0.out
  have f1 := F1.out
  have f2 := F2.out
  have f3 := F3.out
  have f4 := F4.out
  go_wp2
  go_ret
  exact ⟨rfl, H5.out.2⟩
set_option maxHeartbeats 1000000 in
theorem walk_npn (a b q r p s : Int) (w : World) (HA : Hid (IsU a)) (HB : Hid (IsU b)) (HT : Hid (TabA w)) (hb0 : (b == 0) = false) (Q0 : Hid (divuI a b = q)) (Q1 : Hid (remuI a b = r)) (Q2 : Hid (divI a b = p)) (Q3 : Hid (remI a b = s))
    (hs : decide (wrap64 s < 0) = false) (hb : decide (wrap64 b < 0) = true) (hz : (s == 0) = false) (F0 : Hid ((IntKind.u64.wrap (IntKind.u64.wrap (q * b) + r) == a) = true)) (F1 : Hid (r < b)) (F2 : Hid ((IntKind.u64.wrap (IntKind.u64.wrap (p * b) + s) == a) = true)) (F3 : Hid (s < IntKind.u64.wrap (-b))) (F4 : Hid (decide (wrap64 a < 0) = false)) :
    Calls Tryd.prog 4 #[.int .u64 a, .int .u64 b] w fun e w' => e = .returned (.bool true) ∧ Below w.heap.size w w' := by
  go_enter Tryd.func4, Tryd.ntmps4
  go_wp2_with fail
  refine (awakeA_any _ HT.out).mono ?_
  rintro e w1 ⟨rfl, hb⟩
  have H1 := Lib.hid hb
  clear hb HT
  go_wp2_with fail
  refine (two_as (divu_call _ _ HA.out HB.out _) Q0.out).mono ?_
  rintro e w2 ⟨rfl, hb⟩
  have H2 := Lib.hid (stepA H1.out hb)
  clear hb H1
  go_wp2_with fail
  refine (two_as (remu_call _ _ HA.out HB.out _) Q1.out).mono ?_
  rintro e w3 ⟨rfl, hb⟩
  have H3 := Lib.hid (stepA H2.out hb)
  clear hb H2
  go_wp2_with fail
  refine (two_as (div_call _ _ HA.out HB.out _) Q2.out).mono ?_
  rintro e w4 ⟨rfl, hb⟩
  have H4 := Lib.hid (stepA H3.out hb)
  clear hb H3
  go_wp2_with fail
  refine (two_as (rem_call _ _ HA.out HB.out _) Q3.out).mono ?_
  rintro e w5 ⟨rfl, hb⟩
  have H5 := Lib.hid (stepA H4.out hb)
  clear hb H4
  have f0 := F0.out
  have f1 := F1.out
  have f2 := F2.out
  have f3 := F3.out
  have f4 := F4.out
  go_wp2
  go_ret
  exact ⟨rfl, H5.out.2⟩
set_option maxHeartbeats 1000000 in
theorem walk_zpp (a b q r p s : Int) (w : World) (HA : Hid (IsU a)) (HB : Hid (IsU b)) (HT : Hid (TabA w)) (hb0 : (b == 0) = false) (Q0 : Hid (divuI a b = q)) (Q1 : Hid (remuI a b = r)) (Q2 : Hid (divI a b = p)) (Q3 : Hid (remI a b = s))
    (hs : decide (wrap64 s < 0) = false) (hb : decide (wrap64 b < 0) = false) (hz : (s == 0) = true) (F0 : Hid ((IntKind.u64.wrap (IntKind.u64.wrap (q * b) + r) == a) = true)) (F1 : Hid (r < b)) (F2 : Hid ((IntKind.u64.wrap (IntKind.u64.wrap (p * b) + s) == a) = true)) (F3 : Hid (s < b)) :
    Calls Tryd.prog 4 #[.int .u64 a, .int .u64 b] w fun e w' => e = .returned (.bool true) ∧ Below w.heap.size w w' := by
  go_enter Tryd.func4, Tryd.ntmps4
  go_wp2_with fail
  refine (awakeA_any _ HT.out).mono ?_
  rintro e w1 ⟨rfl, hb⟩
  have H1 := Lib.hid hb
  clear hb HT
  go_wp2_with fail
  refine (two_as (divu_call _ _ HA.out HB.out _) Q0.out).mono ?_
  rintro e w2 ⟨rfl, hb⟩
  have H2 := Lib.hid (stepA H1.out hb)
  clear hb H1
  go_wp2_with fail
  refine (two_as (remu_call _ _ HA.out HB.out _) Q1.out).mono ?_
  rintro e w3 ⟨rfl, hb⟩
  have H3 := Lib.hid (stepA H2.out hb)
  clear hb H2
  go_wp2_with fail
  refine (two_as (div_call _ _ HA.out HB.out _) Q2.out).mono ?_
  rintro e w4 ⟨rfl, hb⟩
  have H4 := Lib.hid (stepA H3.out hb)
  clear hb H3
  go_wp2_with fail
  refine (two_as (rem_call _ _ HA.out HB.out _) Q3.out).mono ?_
  rintro e w5 ⟨rfl, hb⟩
  have H5 := Lib.hid (stepA H4.out hb)
  clear hb H4
  have f0 := F0.out
  have f1 := F1.out
  have f2 := F2.out
  have f3 := F3.out
  go_wp2
  go_ret
  exact ⟨rfl, H5.out.2⟩
set_option maxHeartbeats 1000000 in
theorem walk_zpn (a b q r p s : Int) (w : World) (HA : Hid (IsU a)) (HB : Hid (IsU b)) (HT : Hid (TabA w)) (hb0 : (b == 0) = false) (Q0 : Hid (divuI a b = q)) (Q1 : Hid (remuI a b = r)) (Q2 : Hid (divI a b = p)) (Q3 : Hid (remI a b = s))
    (hs : decide (wrap64 s < 0) = false) (hb : decide (wrap64 b < 0) = true) (hz : (s == 0) = true) (F0 : Hid ((IntKind.u64.wrap (IntKind.u64.wrap (q * b) + r) == a) = true)) (F1 : Hid (r < b)) (F2 : Hid ((IntKind.u64.wrap (IntKind.u64.wrap (p * b) + s) == a) = true)) (F3 : Hid (s < IntKind.u64.wrap (-b))) :
    Calls Tryd.prog 4 #[.int .u64 a, .int .u64 b] w fun e w' => e = .returned (.bool true) ∧ Below w.heap.size w w' := by
  go_enter Tryd.func4, Tryd.ntmps4
  go_wp2_with fail
  refine (awakeA_any _ HT.out).mono ?_
  rintro e w1 ⟨rfl, hb⟩
  have H1 := Lib.hid hb
  clear hb HT
  go_wp2_with fail
  refine (two_as (divu_call _ _ HA.out HB.out _) Q0.out).mono ?_
  rintro e w2 ⟨rfl, hb⟩
  have H2 := Lib.hid (stepA H1.out hb)
  clear hb H1
  go_wp2_with fail
  refine (two_as (remu_call _ _ HA.out HB.out _) Q1.out).mono ?_
  rintro e w3 ⟨rfl, hb⟩
  have H3 := Lib.hid (stepA H2.out hb)
  clear hb H2
  go_wp2_with fail
  refine (two_as (div_call _ _ HA.out HB.out _) Q2.out).mono ?_
  rintro e w4 ⟨rfl, hb⟩
  have H4 := Lib.hid (stepA H3.out hb)
  clear hb H3
  go_wp2_with fail
  refine (two_as (rem_call _ _ HA.out HB.out _) Q3.out).mono ?_
  rintro e w5 ⟨rfl, hb⟩
  have H5 := Lib.hid (stepA H4.out hb)
  clear hb H4
  have f0 := F0.out
  have f1 := F1.out
  have f2 := F2.out
  have f3 := F3.out
  go_wp2
  go_ret
  exact ⟨rfl, H5.out.2⟩
set_option maxHeartbeats 1000000 in
theorem walk_nnp (a b q r p s : Int) (w : World) (HA : Hid (IsU a)) (HB : Hid (IsU b)) (HT : Hid (TabA w)) (hb0 : (b == 0) = false) (Q0 : Hid (divuI a b = q)) (Q1 : Hid (remuI a b = r)) (Q2 : Hid (divI a b = p)) (Q3 : Hid (remI a b = s))
    (hs : decide (wrap64 s < 0) = true) (hb : decide (wrap64 b < 0) = false) (hz : (s == 0) = false) (F0 : Hid ((IntKind.u64.wrap (IntKind.u64.wrap (q * b) + r) == a) = true)) (F1 : Hid (r < b)) (F2 : Hid ((IntKind.u64.wrap (IntKind.u64.wrap (p * b) + s) == a) = true)) (F3 : Hid (IntKind.u64.wrap (-s) < b)) (F4 : Hid (decide (wrap64 a < 0) = true)) :
    Calls Tryd.prog 4 #[.int .u64 a, .int .u64 b] w fun e w' => e = .returned (.bool true) ∧ Below w.heap.size w w' := by
  go_enter Tryd.func4, Tryd.ntmps4
  go_wp2_with fail
  refine (awakeA_any _ HT.out).mono ?_
  rintro e w1 ⟨rfl, hb⟩
  have H1 := Lib.hid hb
  clear hb HT
  go_wp2_with fail
  refine (two_as (divu_call _ _ HA.out HB.out _) Q0.out).mono ?_
  rintro e w2 ⟨rfl, hb⟩
  have H2 := Lib.hid (stepA H1.out hb)
  clear hb H1
  go_wp2_with fail
  refine (two_as (remu_call _ _ HA.out HB.out _) Q1.out).mono ?_
  rintro e w3 ⟨rfl, hb⟩
  have H3 := Lib.hid (stepA H2.out hb)
  clear hb H2
  go_wp2_with fail
  refine (two_as (div_call _ _ HA.out HB.out _) Q2.out).mono ?_
  rintro e w4 ⟨rfl, hb⟩
  have H4 := Lib.hid (stepA H3.out hb)
  clear hb H3
  go_wp2_with fail
  refine (two_as (rem_call _ _ HA.out HB.out _) Q3.out).mono ?_
  rintro e w5 ⟨rfl, hb⟩
  have H5 := Lib.hid (stepA H4.out hb)
  clear hb H4
  have f0 := F0.out
  have f1 := F1.out
  have f2 := F2.out
  have f3 := F3.out
  have f4 := F4.out
  go_wp2
  go_ret
  exact ⟨rfl, H5.out.2⟩
set_option maxHeartbeats 1000000 in
theorem walk_nnn (a b q r p s : Int) (w : World) (HA : Hid (IsU a)) (HB : Hid (IsU b)) (HT : Hid (TabA w)) (hb0 : (b == 0) = false) (Q0 : Hid (divuI a b = q)) (Q1 : Hid (remuI a b = r)) (Q2 : Hid (divI a b = p)) (Q3 : Hid (remI a b = s))
    (hs : decide (wrap64 s < 0) = true) (hb : decide (wrap64 b < 0) = true) (hz : (s == 0) = false) (F0 : Hid ((IntKind.u64.wrap (IntKind.u64.wrap (q * b) + r) == a) = true)) (F1 : Hid (r < b)) (F2 : Hid ((IntKind.u64.wrap (IntKind.u64.wrap (p * b) + s) == a) = true)) (F3 : Hid (IntKind.u64.wrap (-s) < IntKind.u64.wrap (-b))) (F4 : Hid (decide (wrap64 a < 0) = true)) :
    Calls Tryd.prog 4 #[.int .u64 a, .int .u64 b] w fun e w' => e = .returned (.bool true) ∧ Below w.heap.size w w' := by
  go_enter Tryd.func4, Tryd.ntmps4
  go_wp2_with fail
  refine (awakeA_any _ HT.out).mono ?_
  rintro e w1 ⟨rfl, hb⟩
  have H1 := Lib.hid hb
  clear hb HT
  go_wp2_with fail
  refine (two_as (divu_call _ _ HA.out HB.out _) Q0.out).mono ?_
  rintro e w2 ⟨rfl, hb⟩
  have H2 := Lib.hid (stepA H1.out hb)
  clear hb H1
  go_wp2_with fail
  refine (two_as (remu_call _ _ HA.out HB.out _) Q1.out).mono ?_
  rintro e w3 ⟨rfl, hb⟩
  have H3 := Lib.hid (stepA H2.out hb)
  clear hb H2
  go_wp2_with fail
  refine (two_as (div_call _ _ HA.out HB.out _) Q2.out).mono ?_
  rintro e w4 ⟨rfl, hb⟩
  have H4 := Lib.hid (stepA H3.out hb)
  clear hb H3
  go_wp2_with fail
  refine (two_as (rem_call _ _ HA.out HB.out _) Q3.out).mono ?_
  rintro e w5 ⟨rfl, hb⟩
  have H5 := Lib.hid (stepA H4.out hb)
  clear hb H4
  have f0 := F0.out
  have f1 := F1.out
  have f2 := F2.out
  have f3 := F3.out
  have f4 := F4.out
  go_wp2
  go_ret
  exact ⟨rfl, H5.out.2⟩
set_option maxHeartbeats 1000000 in
theorem walk_zero (a : Int) (w : World) (HA : Hid (IsU a)) (HT : Hid (TabA w)) :
    Calls Tryd.prog 4 #[.int .u64 a, .int .u64 0] w fun e w' => e = .returned (.bool true) ∧ Below w.heap.size w w' := by
  have HB := Lib.hid (show IsU 0 from ⟨by decide, by decide⟩)
  have Q0 := Lib.hid (show divuI a 0 = 18446744073709551615 from rfl)
  have Q1 := Lib.hid (show remuI a 0 = a from rfl)
  have Q2 := Lib.hid (div_zero a)
  have Q3 := Lib.hid (rem_zero HA.out)
  go_enter Tryd.func4, Tryd.ntmps4
  go_wp2_with fail
  refine (awakeA_any _ HT.out).mono ?_
  rintro e w1 ⟨rfl, hb⟩
  have H1 := Lib.hid hb
  clear hb HT
  go_wp2_with fail
  refine (two_as (divu_call _ _ HA.out HB.out _) Q0.out).mono ?_
  rintro e w2 ⟨rfl, hb⟩
  have H2 := Lib.hid (stepA H1.out hb)
  clear hb H1
  go_wp2_with fail
  refine (two_as (remu_call _ _ HA.out HB.out _) Q1.out).mono ?_
  rintro e w3 ⟨rfl, hb⟩
  have H3 := Lib.hid (stepA H2.out hb)
  clear hb H2
  go_wp2_with fail
  refine (two_as (div_call _ _ HA.out HB.out _) Q2.out).mono ?_
  rintro e w4 ⟨rfl, hb⟩
  have H4 := Lib.hid (stepA H3.out hb)
  clear hb H3
  go_wp2_with fail
  refine (two_as (rem_call _ _ HA.out HB.out _) Q3.out).mono ?_
  rintro e w5 ⟨rfl, hb⟩
  have H5 := Lib.hid (stepA H4.out hb)
  clear hb H4
  go_wp2
  go_ret
  exact ⟨rfl, H5.out.2⟩
theorem walk (a0 a1 : Int) (w : World) (w0 : (Lit.int .u64 a0).wf = true) (w1 : (Lit.int .u64 a1).wf = true) (hT : TabA w) :
    Calls Tryd.prog 4 #[.int .u64 a0, .int .u64 a1] w fun e w' => e = .returned (.bool true) ∧ Below w.heap.size w w' := by
  have ha := isU_of_wf w0
  have hb := isU_of_wf w1
  by_cases h0 : a1 = 0
  · subst h0; exact walk_zero a0 w (Lib.hid ha) (Lib.hid hT)
  · have hb0 : (a1 == 0) = false := by rw [beq_eq_false_iff_ne]; exact h0
    have F0 := Lib.hid (beq_iff_eq.2 (show IntKind.u64.wrap (IntKind.u64.wrap (divuI a0 a1 * a1) + remuI a0 a1) = a0 by rw [wrapU, wrapU]; exact u_back ha hb h0))
    have F1 := Lib.hid (u_less (a := a0) hb h0)
    have F2 := Lib.hid (beq_iff_eq.2 (show IntKind.u64.wrap (IntKind.u64.wrap (divI a0 a1 * a1) + remI a0 a1) = a0 by rw [wrapU, wrapU]; exact s_back ha hb h0))
    by_cases hs : wrap64 (remI a0 a1) < 0 <;> by_cases h1 : wrap64 a1 < 0
    · obtain ⟨x1, x2, x3⟩ := less_nn hb h0 hs h1
      exact walk_nnn a0 a1 _ _ _ _ w (Lib.hid ha) (Lib.hid hb) (Lib.hid hT) hb0 (Lib.hid rfl) (Lib.hid rfl) (Lib.hid rfl) (Lib.hid rfl) (decide_eq_true hs) (decide_eq_true h1) (by rw [beq_eq_false_iff_ne]; exact x3) F0 F1 F2 (Lib.hid x1) (Lib.hid (decide_eq_true x2))
    · obtain ⟨x1, x2, x3⟩ := less_np hb h0 hs h1
      exact walk_nnp a0 a1 _ _ _ _ w (Lib.hid ha) (Lib.hid hb) (Lib.hid hT) hb0 (Lib.hid rfl) (Lib.hid rfl) (Lib.hid rfl) (Lib.hid rfl) (decide_eq_true hs) (decide_eq_false h1) (by rw [beq_eq_false_iff_ne]; exact x3) F0 F1 F2 (Lib.hid x1) (Lib.hid (decide_eq_true x2))
    · obtain ⟨x1, x2⟩ := less_pn hb h0 hs h1
      by_cases hz : remI a0 a1 = 0
      · exact walk_zpn a0 a1 _ _ _ _ w (Lib.hid ha) (Lib.hid hb) (Lib.hid hT) hb0 (Lib.hid rfl) (Lib.hid rfl) (Lib.hid rfl) (Lib.hid rfl) (decide_eq_false hs) (decide_eq_true h1) (beq_iff_eq.2 hz) F0 F1 F2 (Lib.hid x1)
      · exact walk_npn a0 a1 _ _ _ _ w (Lib.hid ha) (Lib.hid hb) (Lib.hid hT) hb0 (Lib.hid rfl) (Lib.hid rfl) (Lib.hid rfl) (Lib.hid rfl) (decide_eq_false hs) (decide_eq_true h1) (by rw [beq_eq_false_iff_ne]; exact hz) F0 F1 F2 (Lib.hid x1) (Lib.hid (decide_eq_false (x2.resolve_left hz)))
    · obtain ⟨x1, x2⟩ := less_pp hb h0 hs h1
      by_cases hz : remI a0 a1 = 0
      · exact walk_zpp a0 a1 _ _ _ _ w (Lib.hid ha) (Lib.hid hb) (Lib.hid hT) hb0 (Lib.hid rfl) (Lib.hid rfl) (Lib.hid rfl) (Lib.hid rfl) (decide_eq_false hs) (decide_eq_false h1) (beq_iff_eq.2 hz) F0 F1 F2 (Lib.hid x1)
      · exact walk_npp a0 a1 _ _ _ _ w (Lib.hid ha) (Lib.hid hb) (Lib.hid hT) hb0 (Lib.hid rfl) (Lib.hid rfl) (Lib.hid rfl) (Lib.hid rfl) (decide_eq_false hs) (decide_eq_false h1) (by rw [beq_eq_false_iff_ne]; exact hz) F0 F1 F2 (Lib.hid x1) (Lib.hid (decide_eq_false (x2.resolve_left hz)))
end Go.Proofs.YtndaphdfhlefoaaDoor.AluDividesWalk
