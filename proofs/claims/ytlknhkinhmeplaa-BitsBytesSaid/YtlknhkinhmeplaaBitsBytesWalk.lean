/- The walk of the statement BitsBytes: it returns true, and writes nothing that was there. -/
import Derived.Test.YtlknhkinhmeplaaAwake
import Derived.Test.YtlknhkinhmeplaaArgs
namespace Go.Proofs.Ytlknhkinhmeplaa.BitsBytesWalk
open Go.RowKit
set_option linter.unusedVariables false
theorem walk (a0 a1 : Int) (a2 : Option Addr) (len2 cap2 : Nat) (z2 : List Int) (w : World) (w0 : (Lit.int .u64 a0).wf = true) (w1 : (Lit.int .i64 a1).wf = true) (w2 : IsRow .u8 w a2 len2 cap2 z2) :
    Calls Try.prog 5 #[.int .u64 a0, .int .i64 a1, .slice a2 len2 cap2] w fun e w' => e = .returned (.bool true) ∧ Below w.heap.size w w' := by
  have u0 := isU_of_wf w0
  obtain ⟨s2, l2, b2, m2⟩ := w2.sl
  generalize z2.take len2 = l at *
  clear w0 w1 w2
  have S2 := Lib.hid s2
  have L2 := Lib.hid l2
  have B2 := Lib.hid b2
  clear s2 l2 b2
  unfold maxLen at m2
  go_enter Try.func5, Try.ntmps5
  go_wp2_with fail
  refine (awake_any _).mono ?_
  rintro e w1 ⟨rfl, hb⟩
  have S21 := Lib.hid (S2.out.below hb)
  have Hb := Lib.hid hb
  clear hb
  by_cases hl : len2 ≤ 1000
  · have hm := cnt_le a1
    have LB := Lib.hid (bytesL_length a0 (cnt a1))
    have WB := Lib.hid (word_of_bytes u0 hm)
    go_wp2_with fail
    refine (bytes_any _ _ u0 _).mono ?_
    rintro e w2 ⟨A, c, rfl, sx, hb2⟩
    generalize hcm : cnt a1 = m at *
    have Hcm := Lib.hid hcm
    clear hcm
    have S22 := Lib.hid (S21.out.below hb2)
    have SX := Lib.hid sx
    have Hb2 := Lib.hid (Hb.out.trans (hb2.mono Hb.out.size))
    clear sx hb2 S21 S2 Hb
    by_cases h8 : len2 ≤ 8
    · have uw : IsU (wordI l) := isU_word B2.out (by rw [L2.out]; exact h8)
      have BW := Lib.hid (bytes_of_word B2.out (by rw [L2.out]; exact h8))
      go_wp2_with fail
      refine (word_yes _ l _ _ _ S22.out L2.out B2.out h8).mono ?_
      rintro e w' ⟨rfl, rfl⟩
      go_wp2_with fail
      refine (rword_yes _ l _ _ _ S22.out L2.out B2.out h8).mono ?_
      rintro e w' ⟨rfl, rfl⟩
      go_wp2_with fail
      refine (rbytes_any _ _ u0 _).mono ?_
      rintro e w3 ⟨A3, c3, rfl, s3, hb3⟩
      rw [Hcm.out] at s3 ⊢
      have SX3 := Lib.hid (SX.out.below hb3)
      have S23 := Lib.hid (S22.out.below hb3)
      have S33 := Lib.hid s3
      have Hb3 := Lib.hid (Hb2.out.trans (hb3.mono Hb2.out.size))
      clear s3 hb3 SX S22 Hb2
      go_wp2_with fail
      refine (same_any _ _ _ _ _ _ _ _ _ SX3.out S33.out LB.out LB.out (by omega)).mono ?_
      rintro e w' ⟨rfl, k1, rfl⟩
      have eqb : (bytesL a0 m == bytesL a0 m) = true := by simp
      go_wp2_with fail
      clear eqb
      refine (word_yes _ _ _ _ _ (SX3.out.drewN _) LB.out (bytesL_all _ _) hm).mono ?_
      rintro e w' ⟨rfl, rfl⟩
      go_wp2_with fail
      refine (field_yes _ _ _ u0 (by omega) (by omega) (by omega) _).mono ?_
      rintro e w' ⟨rfl, k2, rfl⟩
      have wb : (wordI (bytesL a0 m) == fld a0 0 (8 * (m : Int))) = true := by rw [beq_iff_eq]; exact WB.out
      go_wp2_with fail
      refine (bytes_yes _ _ uw h8 _).mono ?_
      rintro e w4 ⟨rfl, s4, hb4⟩
      have S24 := Lib.hid ((S23.out.drewN (k1 + k2)).below hb4)
      have S44 := Lib.hid s4
      have Hb4 := Lib.hid ((below_drewN Hb3.out (k1 + k2)).trans (hb4.mono Hb3.out.size))
      clear s4 hb4
      go_wp2_with fail
      have bw : (bytesL (wordI l) len2 == l) = true := by rw [beq_iff_eq, ← L2.out]; exact BW.out
      refine (same_any _ _ _ _ _ _ _ _ _ S44.out S24.out (bytesL_length _ _) L2.out (by omega)).mono ?_
      rintro e w' ⟨rfl, k3, rfl⟩
      go_wp2_with fail
      go_ret
      exact ⟨rfl, below_drewN Hb4.out _⟩
    · have h8' : 8 < len2 := by omega
      clear h8
      go_wp2_with fail
      refine (word_no _ _ _ h8' _).mono ?_
      rintro e w' ⟨rfl, rfl⟩
      go_wp2_with fail
      refine (rword_no _ _ _ h8' _).mono ?_
      rintro e w' ⟨rfl, rfl⟩
      go_wp2_with fail
      refine (rbytes_any _ _ u0 _).mono ?_
      rintro e w3 ⟨A3, c3, rfl, s3, hb3⟩
      rw [Hcm.out] at s3 ⊢
      have SX3 := Lib.hid (SX.out.below hb3)
      have S23 := Lib.hid (S22.out.below hb3)
      have S33 := Lib.hid s3
      have Hb3 := Lib.hid (Hb2.out.trans (hb3.mono Hb2.out.size))
      clear s3 hb3 SX S22 Hb2
      go_wp2_with fail
      refine (same_any _ _ _ _ _ _ _ _ _ SX3.out S33.out LB.out LB.out (by omega)).mono ?_
      rintro e w' ⟨rfl, k1, rfl⟩
      have eqb : (bytesL a0 m == bytesL a0 m) = true := by simp
      go_wp2_with fail
      clear eqb
      refine (word_yes _ _ _ _ _ (SX3.out.drewN _) LB.out (bytesL_all _ _) hm).mono ?_
      rintro e w' ⟨rfl, rfl⟩
      go_wp2_with fail
      refine (field_yes _ _ _ u0 (by omega) (by omega) (by omega) _).mono ?_
      rintro e w' ⟨rfl, k2, rfl⟩
      have wb : (wordI (bytesL a0 m) == fld a0 0 (8 * (m : Int))) = true := by rw [beq_iff_eq]; exact WB.out
      go_wp2_with fail
      go_ret
      exact ⟨rfl, below_drewN Hb3.out _⟩
  · have hl' : 1000 < len2 := by omega
    go_wp2_with fail
    go_ret
    exact ⟨rfl, Hb.out⟩
end Go.Proofs.Ytlknhkinhmeplaa.BitsBytesWalk
