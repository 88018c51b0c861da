/- Layer 2: what the reference's May answers, by shapes. Conditions: registers are some, the number fits an int. -/
import Derived.Test.YtjngkifoaljmaaaGreatDoorInsRMay
namespace Go.Proofs.YtjngkifoaljmaaaGreatDoor
set_option maxRecDepth 100000
open Go.RowKit
set_option linter.unusedVariables false
theorem tmod_iffB (a b : Int) : a.tmod b = 0 ↔ a % b = 0 := ⟨fun h => Int.emod_eq_zero_of_dvd (Int.dvd_of_tmod_eq_zero h), fun h => Int.tmod_eq_zero_of_dvd (Int.dvd_of_emod_eq_zero h)⟩
set_option maxRecDepth 100000 in
set_option maxHeartbeats 2000000 in
theorem rmay_s3 (n : Nat) (rd r1 r2 imm : Int) (w : World) (hn : n < 43) (hs : opS n = 3) (hi : IsI imm) (h0 : 0 ≤ rd) (h1 : rd ≤ 31) (h2 : 0 ≤ r1) (h3 : r1 ≤ 31) (h4 : 0 ≤ r2) (h5 : r2 ≤ 31) :
    Calls Tryz.prog 30 #[.agg (insA n rd r1 r2 imm)] w fun e w' => e = .returned (.bool (mayB n rd r1 r2 imm)) ∧ Below w.heap.size w w' := by
  have hc := may_char (n := n) (rd := rd) (r1 := r1) (r2 := r2) (imm := imm) 3 hs (by decide) hi h0 h1 h2 h3 h4 h5
  have hc2 : mayB n rd r1 r2 imm = true ↔ rd = 0 ∧ -2048 ≤ imm ∧ imm ≤ 2047 := by
    rw [hc, show NumOk 3 imm = (-2048 ≤ imm ∧ imm ≤ 2047) from rfl]
    simp [lRd, lR1, lR2]
  generalize mayB n rd r1 r2 imm = M at hc2 ⊢
  have HC := Lib.hid hc2
  clear hc hc2
  unfold insA
  have HS := Lib.hid (show shiftB n = false by unfold shiftB; rw [hs]; rfl)
  have HL := Lib.hid (show letS (opS n) = ⟨#[83]⟩ by rw [hs]; rfl)
  clear hs
  obtain ⟨hi0, hi1⟩ := hi
  go_enter Tryz.func30, Tryz.ntmps30
  go_wp2_with fail
  refine (rform_let _ _ hn 83 HL.out).mono ?_
  rintro e w1 ⟨rfl, rfl⟩
  go_wp2_with (go_at_call 36; (with_reducible refine (rshift_at n _ hn false HS.out).mono ?_); rintro e w' ⟨rfl, rfl⟩)
  all_goals
    go_ret
    refine ⟨ret_bool ?_, (Below.refl _ _).alloc (Nat.le_refl _) _⟩
    exact bool_eq HC.out (by first | omega | (simp; done) | (simp; omega))
set_option maxRecDepth 100000 in
set_option maxHeartbeats 2000000 in
theorem rmay_s4 (n : Nat) (rd r1 r2 imm : Int) (w : World) (hn : n < 43) (hs : opS n = 4) (hi : IsI imm) (h0 : 0 ≤ rd) (h1 : rd ≤ 31) (h2 : 0 ≤ r1) (h3 : r1 ≤ 31) (h4 : 0 ≤ r2) (h5 : r2 ≤ 31) :
    Calls Tryz.prog 30 #[.agg (insA n rd r1 r2 imm)] w fun e w' => e = .returned (.bool (mayB n rd r1 r2 imm)) ∧ Below w.heap.size w w' := by
  have hc := may_char (n := n) (rd := rd) (r1 := r1) (r2 := r2) (imm := imm) 4 hs (by decide) hi h0 h1 h2 h3 h4 h5
  have hc2 : mayB n rd r1 r2 imm = true ↔ rd = 0 ∧ -4096 ≤ imm ∧ imm ≤ 4094 ∧ imm % 2 = 0 := by
    rw [hc, show NumOk 4 imm = (-4096 ≤ imm ∧ imm ≤ 4094 ∧ imm % 2 = 0) from rfl]
    simp [lRd, lR1, lR2]
  generalize mayB n rd r1 r2 imm = M at hc2 ⊢
  have HC := Lib.hid hc2
  clear hc hc2
  unfold insA
  have HL := Lib.hid (show letS (opS n) = ⟨#[66]⟩ by rw [hs]; rfl)
  have HZ := Lib.hid (tmod_iffB imm 2)
  clear hs
  obtain ⟨hi0, hi1⟩ := hi
  go_enter Tryz.func30, Tryz.ntmps30
  go_wp2_with fail
  refine (rform_let _ _ hn 66 HL.out).mono ?_
  rintro e w1 ⟨rfl, rfl⟩
  go_wp2
  all_goals
    go_ret
    refine ⟨ret_bool ?_, (Below.refl _ _).alloc (Nat.le_refl _) _⟩
    exact bool_eq HC.out (by first | (rw [beq_iff_eq, HZ.out]; omega) | omega | (simp; done) | (simp; omega))
set_option maxRecDepth 100000 in
set_option maxHeartbeats 2000000 in
theorem rmay_s7 (n : Nat) (rd r1 r2 imm : Int) (w : World) (hn : n < 43) (hs : opS n = 7) (hi : IsI imm) (h0 : 0 ≤ rd) (h1 : rd ≤ 31) (h2 : 0 ≤ r1) (h3 : r1 ≤ 31) (h4 : 0 ≤ r2) (h5 : r2 ≤ 31) :
    Calls Tryz.prog 30 #[.agg (insA n rd r1 r2 imm)] w fun e w' => e = .returned (.bool (mayB n rd r1 r2 imm)) ∧ Below w.heap.size w w' := by
  have hc := may_char (n := n) (rd := rd) (r1 := r1) (r2 := r2) (imm := imm) 7 hs (by decide) hi h0 h1 h2 h3 h4 h5
  have hc2 : mayB n rd r1 r2 imm = true ↔ rd = 0 ∧ r1 = 0 ∧ r2 = 0 ∧ imm = 0 := by
    rw [hc, show NumOk 7 imm = (imm = 0) from rfl]
    simp [lRd, lR1, lR2]
  generalize mayB n rd r1 r2 imm = M at hc2 ⊢
  have HC := Lib.hid hc2
  clear hc hc2
  unfold insA
  have HL := Lib.hid (show letS (opS n) = ⟨#[69]⟩ by rw [hs]; rfl)
  clear hs
  obtain ⟨hi0, hi1⟩ := hi
  go_enter Tryz.func30, Tryz.ntmps30
  go_wp2_with fail
  refine (rform_let _ _ hn 69 HL.out).mono ?_
  rintro e w1 ⟨rfl, rfl⟩
  go_wp2
  all_goals
    go_ret
    refine ⟨ret_bool ?_, (Below.refl _ _).alloc (Nat.le_refl _) _⟩
    exact bool_eq HC.out (by first | omega | (simp; done) | (simp; omega))
end Go.Proofs.YtjngkifoaljmaaaGreatDoor
