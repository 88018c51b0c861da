/- The walk of the statement BitsParts: it returns true, and writes nothing that was there. -/
import Derived.Test.YtlknhkinhmeplaaAwake
import Derived.Test.YtlknhkinhmeplaaArgs
namespace Go.Proofs.Ytlknhkinhmeplaa.BitsPartsWalk
open Go.RowKit
set_option linter.unusedVariables false
theorem part_kept {w w1 : World} {f n : Int} {t : TypeId} (hb : Below (w.alloc (.cells #[.int .i64 f, .int .i64 n] t)).heap.size (w.alloc (.cells #[.int .i64 f, .int .i64 n] t)) w1) :
    w1.cell? ⟨w.heap.size, 0, none⟩ = some (.int .i64 f) ∧ w1.cell? ⟨w.heap.size, 1, none⟩ = some (.int .i64 n) ∧ Hid (Below w.heap.size w w1) := by
  refine ⟨?_, ?_, ?_⟩
  · rw [hb.cell (p := ⟨w.heap.size, 0, none⟩) (by simp)]; simp [go_sem]
  · rw [hb.cell (p := ⟨w.heap.size, 1, none⟩) (by simp)]; simp [go_sem]
  · exact ((Below.refl _ _).alloc (Nat.le_refl _) _).trans (hb.mono (by simp))
theorem walk (a0 f n a2 : Int) (w : World) (w0 : (Lit.int .u64 a0).wf = true) (wf : (Lit.int .i64 f).wf = true) (wn : (Lit.int .i64 n).wf = true) (w2 : (Lit.int .u64 a2).wf = true) :
    Calls Try.prog 3 #[.int .u64 a0, .agg #[.int .i64 f, .int .i64 n], .int .u64 a2] w fun e w' => e = .returned (.bool true) ∧ Below w.heap.size w w' := by
  have u0 := isU_of_wf w0
  have u2 := isU_of_wf w2
  have i1 := isI_of_wf wf
  clear w0 wf wn w2
  by_cases hn : 0 ≤ f ∧ 0 ≤ n ∧ f + n ≤ 64
  · obtain ⟨h0, h1, h2⟩ := hn
    have p1 := isU_put (x := a2) u0 h0 h1 h2
    have p2 := isU_fld a0 f n (by omega)
    have E1 : (fld (put a0 f n a2) f n == fld a2 0 n) = true := by rw [beq_iff_eq]; exact fld_put_same a0 f n a2
    have E2 : (put (put a0 f n a2) f n (fld a0 f n) == a0) = true := by rw [beq_iff_eq]; exact put_back a2 u0.1
    go_enter Try.func3, Try.ntmps3
    go_wp2_with fail
    refine (awake_any _).mono ?_
    rintro e w1 ⟨rfl, hb⟩
    obtain ⟨hc0, hc1, Hb⟩ := part_kept hb
    clear hb
    go_wp2_with (first | (go_at_call 14; refine (put_yes _ _ _ _ (by assumption) (by omega) (by omega) (by omega) (by assumption) _).mono ?_; rintro e w' ⟨rfl, _, rfl⟩) | (go_at_call 12; refine (field_yes _ _ _ (by assumption) (by omega) (by omega) (by omega) _).mono ?_; rintro e w' ⟨rfl, _, rfl⟩) | (go_at_call 15; refine (rput_yes _ _ _ _ (by assumption) (by omega) (by omega) (by omega) (by assumption) _).mono ?_; rintro e w' ⟨rfl, rfl⟩) | (go_at_call 13; refine (rfield_yes _ _ _ (by assumption) (by omega) (by omega) (by omega) _).mono ?_; rintro e w' ⟨rfl, rfl⟩))
    go_ret
    exact ⟨rfl, below_drewN Hb.out _⟩
  · have hno : NoFld f n := hn
    clear hn
    go_enter Try.func3, Try.ntmps3
    go_wp2_with fail
    refine (awake_any _).mono ?_
    rintro e w1 ⟨rfl, hb⟩
    obtain ⟨hc0, hc1, Hb⟩ := part_kept hb
    clear hb
    go_wp2_with (first | (go_at_call 14; refine (put_no _ _ _ _ (by assumption) (by assumption) _).mono ?_; rintro e w' ⟨rfl, rfl⟩) | (go_at_call 12; refine (field_no _ _ _ (by assumption) (by assumption) _).mono ?_; rintro e w' ⟨rfl, rfl⟩) | (go_at_call 15; refine (rput_no _ _ _ _ (by assumption) _).mono ?_; rintro e w' ⟨rfl, rfl⟩) | (go_at_call 13; refine (rfield_no _ _ _ (by assumption) _).mono ?_; rintro e w' ⟨rfl, rfl⟩))
    go_ret
    exact ⟨rfl, Hb.out⟩
end Go.Proofs.Ytlknhkinhmeplaa.BitsPartsWalk
