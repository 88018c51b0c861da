/- Layer 2: what the reference's May answers, by shapes. Conditions: registers are some, the number fits an int. -/
import Derived.Test.YtjngkifoaljmaaaGreatDoorInsRMay
namespace Go.Proofs.YtjngkifoaljmaaaGreatDoor
set_option maxRecDepth 100000
open Go.RowKit
set_option linter.unusedVariables false
set_option maxRecDepth 100000 in
set_option maxHeartbeats 2000000 in
theorem rmay_s0 (n : Nat) (rd r1 r2 imm : Int) (w : World) (hn : n < 43) (hs : opS n = 0) (hi : IsI imm) (h0 : 0 ≤ rd) (h1 : rd ≤ 31) (h2 : 0 ≤ r1) (h3 : r1 ≤ 31) (h4 : 0 ≤ r2) (h5 : r2 ≤ 31) :
    Calls Tryz.prog 30 #[.agg (insA n rd r1 r2 imm)] w fun e w' => e = .returned (.bool (mayB n rd r1 r2 imm)) ∧ Below w.heap.size w w' := by
  have hc := may_char (n := n) (rd := rd) (r1 := r1) (r2 := r2) (imm := imm) 0 hs (by decide) hi h0 h1 h2 h3 h4 h5
  have hc2 : mayB n rd r1 r2 imm = true ↔ imm = 0 := by
    rw [hc, show NumOk 0 imm = (imm = 0) from rfl]
    simp [lRd, lR1, lR2]
  generalize mayB n rd r1 r2 imm = M at hc2 ⊢
  have HC := Lib.hid hc2
  clear hc hc2
  unfold insA
  have HL := Lib.hid (show letS (opS n) = ⟨#[82]⟩ by rw [hs]; rfl)
  clear hs
  obtain ⟨hi0, hi1⟩ := hi
  go_enter Tryz.func30, Tryz.ntmps30
  go_wp2_with fail
  refine (rform_let _ _ hn 82 HL.out).mono ?_
  rintro e w1 ⟨rfl, rfl⟩
  go_wp2
  all_goals
    go_ret
    refine ⟨ret_bool ?_, (Below.refl _ _).alloc (Nat.le_refl _) _⟩
    exact bool_eq HC.out (by first | omega | (simp; done) | (simp; omega))
set_option maxRecDepth 100000 in
set_option maxHeartbeats 2000000 in
theorem rmay_s1 (n : Nat) (rd r1 r2 imm : Int) (w : World) (hn : n < 43) (hs : opS n = 1) (hi : IsI imm) (h0 : 0 ≤ rd) (h1 : rd ≤ 31) (h2 : 0 ≤ r1) (h3 : r1 ≤ 31) (h4 : 0 ≤ r2) (h5 : r2 ≤ 31) :
    Calls Tryz.prog 30 #[.agg (insA n rd r1 r2 imm)] w fun e w' => e = .returned (.bool (mayB n rd r1 r2 imm)) ∧ Below w.heap.size w w' := by
  have hc := may_char (n := n) (rd := rd) (r1 := r1) (r2 := r2) (imm := imm) 1 hs (by decide) hi h0 h1 h2 h3 h4 h5
  have hc2 : mayB n rd r1 r2 imm = true ↔ r2 = 0 ∧ -2048 ≤ imm ∧ imm ≤ 2047 := by
    rw [hc, show NumOk 1 imm = (-2048 ≤ imm ∧ imm ≤ 2047) from rfl]
    simp [lRd, lR1, lR2]
  generalize mayB n rd r1 r2 imm = M at hc2 ⊢
  have HC := Lib.hid hc2
  clear hc hc2
  unfold insA
  have HL := Lib.hid (show letS (opS n) = ⟨#[73]⟩ by rw [hs]; rfl)
  have HS := Lib.hid (show shiftB n = false by unfold shiftB; rw [hs]; rfl)
  clear hs
  obtain ⟨hi0, hi1⟩ := hi
  go_enter Tryz.func30, Tryz.ntmps30
  go_wp2_with fail
  refine (rform_let _ _ hn 73 HL.out).mono ?_
  rintro e w1 ⟨rfl, rfl⟩
  go_wp2_with (go_at_call 36; (with_reducible refine (rshift_at n _ hn false HS.out).mono ?_); rintro e w' ⟨rfl, rfl⟩)
  all_goals
    go_ret
    refine ⟨ret_bool ?_, (Below.refl _ _).alloc (Nat.le_refl _) _⟩
    exact bool_eq HC.out (by first | omega | (simp; done) | (simp; omega))
set_option maxRecDepth 100000 in
set_option maxHeartbeats 2000000 in
theorem rmay_s2 (n : Nat) (rd r1 r2 imm : Int) (w : World) (hn : n < 43) (hs : opS n = 2) (hi : IsI imm) (h0 : 0 ≤ rd) (h1 : rd ≤ 31) (h2 : 0 ≤ r1) (h3 : r1 ≤ 31) (h4 : 0 ≤ r2) (h5 : r2 ≤ 31) :
    Calls Tryz.prog 30 #[.agg (insA n rd r1 r2 imm)] w fun e w' => e = .returned (.bool (mayB n rd r1 r2 imm)) ∧ Below w.heap.size w w' := by
  have hc := may_char (n := n) (rd := rd) (r1 := r1) (r2 := r2) (imm := imm) 2 hs (by decide) hi h0 h1 h2 h3 h4 h5
  have hc2 : mayB n rd r1 r2 imm = true ↔ r2 = 0 ∧ 0 ≤ imm ∧ imm ≤ 63 := by
    rw [hc, show NumOk 2 imm = (0 ≤ imm ∧ imm ≤ 63) from rfl]
    simp [lRd, lR1, lR2]
  generalize mayB n rd r1 r2 imm = M at hc2 ⊢
  have HC := Lib.hid hc2
  clear hc hc2
  unfold insA
  have HL := Lib.hid (show letS (opS n) = ⟨#[73]⟩ by rw [hs]; rfl)
  have HS := Lib.hid (show shiftB n = true by unfold shiftB; rw [hs]; rfl)
  clear hs
  obtain ⟨hi0, hi1⟩ := hi
  go_enter Tryz.func30, Tryz.ntmps30
  go_wp2_with fail
  refine (rform_let _ _ hn 73 HL.out).mono ?_
  rintro e w1 ⟨rfl, rfl⟩
  go_wp2_with (go_at_call 36; (with_reducible refine (rshift_at n _ hn true HS.out).mono ?_); rintro e w' ⟨rfl, rfl⟩)
  all_goals
    go_ret
    refine ⟨ret_bool ?_, (Below.refl _ _).alloc (Nat.le_refl _) _⟩
    exact bool_eq HC.out (by first | omega | (simp; done) | (simp; omega))
end Go.Proofs.YtjngkifoaljmaaaGreatDoor
