/- Layer 2: what the reference's May answers: the same as the program's. Conditions: the registers and the number fit an int.
   Layer 2: what the reference's Encode answers, by shapes. Conditions: the instruction is one.
   Layer 2: what the reference's Encode answers: the same as the program's. Conditions: the registers and the number fit an int. -/
import Derived.Test.YtjngkifoaljmaaaGreatDoorInsRMayA
import Derived.Test.YtjngkifoaljmaaaGreatDoorInsRMayB
import Derived.Test.YtjngkifoaljmaaaGreatDoorInsRMayC
import Derived.Test.YtjngkifoaljmaaaGreatDoorInsREncA
import Derived.Test.YtjngkifoaljmaaaGreatDoorInsC
namespace Go.Proofs.YtjngkifoaljmaaaGreatDoor
set_option maxRecDepth 100000
open Go.RowKit
set_option linter.unusedVariables false
theorem rmay_in (n : Nat) (rd r1 r2 imm : Int) (w : World) (hn : n < 43) (hi : IsI imm) :
    Calls Tryz.prog 30 #[.agg (insA n rd r1 r2 imm)] w fun e w' => e = .returned (.bool (mayB n rd r1 r2 imm)) ∧ Below w.heap.size w w' := by
  by_cases h : 0 ≤ rd ∧ rd ≤ 31 ∧ 0 ≤ r1 ∧ r1 ≤ 31 ∧ 0 ≤ r2 ∧ r2 ≤ 31
  · obtain ⟨h0, h1, h2, h3, h4, h5⟩ := h
    have h8 := opS_lt hn
    obtain e | e | e | e | e | e | e | e : opS n = 0 ∨ opS n = 1 ∨ opS n = 2 ∨ opS n = 3 ∨ opS n = 4 ∨ opS n = 5 ∨ opS n = 6 ∨ opS n = 7 := by omega
    · exact rmay_s0 n rd r1 r2 imm w hn e hi h0 h1 h2 h3 h4 h5
    · exact rmay_s1 n rd r1 r2 imm w hn e hi h0 h1 h2 h3 h4 h5
    · exact rmay_s2 n rd r1 r2 imm w hn e hi h0 h1 h2 h3 h4 h5
    · exact rmay_s3 n rd r1 r2 imm w hn e hi h0 h1 h2 h3 h4 h5
    · exact rmay_s4 n rd r1 r2 imm w hn e hi h0 h1 h2 h3 h4 h5
    · exact rmay_s5 n rd r1 r2 imm w hn e hi h0 h1 h2 h3 h4 h5
    · exact rmay_s6 n rd r1 r2 imm w hn e hi h0 h1 h2 h3 h4 h5
    · exact rmay_s7 n rd r1 r2 imm w hn e hi h0 h1 h2 h3 h4 h5
  · exact rmay_reg n rd r1 r2 imm w hn h
end Go.Proofs.YtjngkifoaljmaaaGreatDoor
namespace Go.Proofs.YtjngkifoaljmaaaGreatDoor
set_option maxRecDepth 100000
open Go.RowKit
set_option linter.unusedVariables false
theorem encS_below {w w1 w' : World} {m rd r1 r2 imm : Int} (h : InsC w1 w.heap.size m rd r1 r2 imm ∧ Below w.heap.size w w1) (hb : Below w1.heap.size w1 w') : InsC w' w.heap.size m rd r1 r2 imm ∧ Below w.heap.size w w' :=
  ⟨h.1.below hb, h.2.trans (hb.mono h.2.size)⟩
theorem encS_drew {w w1 : World} {m rd r1 r2 imm : Int} (h : InsC w1 w.heap.size m rd r1 r2 imm ∧ Below w.heap.size w w1) : InsC w1.drew w.heap.size m rd r1 r2 imm ∧ Below w.heap.size w w1.drew :=
  encS_below h (Below.drew (Below.refl _ _))
theorem encS_drewN {w w1 : World} {m rd r1 r2 imm : Int} (h : InsC w1 w.heap.size m rd r1 r2 imm ∧ Below w.heap.size w w1) (n : Nat) : InsC (w1.drewN n) w.heap.size m rd r1 r2 imm ∧ Below w.heap.size w (w1.drewN n) :=
  encS_below h (below_drewN (Below.refl _ _) n)
theorem ret_word {a b : Int} (h : a = b) : Ending.returned (.tuple #[.int .u32 a, .int .i64 0]) = Ending.returned (.tuple #[.int .u32 b, .int .i64 0]) := by rw [h]
theorem rtop_at0 {n : Nat} (hn : n < 43) (hs : opS n = 0) : opR n * 33554432 % 4294967296 = rtop n * 33554432 := by
  have := all43 (p := fun n => opS n = 0 → opR n * 33554432 % 4294967296 = rtop n * 33554432) (by decide +kernel) hn
  exact this hs
theorem rtop_at2 {n : Nat} (hn : n < 43) (hs : opS n = 2) : opR n * 67108864 % 4294967296 = rtop n * 33554432 := by
  have := all43 (p := fun n => opS n = 2 → opR n * 67108864 % 4294967296 = rtop n * 33554432) (by decide +kernel) hn
  exact this hs
theorem fld_six {n : Nat} {rd r1 r2 imm : Int} (hs : opS n = 2) (h : mayB n rd r1 r2 imm = true) (hi : IsI imm) : fldN (wordN imm) 0 12 = fldN (wordN imm) 0 6 := by
  obtain ⟨_, _, _, hk⟩ := may_parts h
  have h2 := (num_ok imm hi (s := 2) (by decide)).1 (by rw [← hs]; exact hk)
  have h3 : 0 ≤ imm ∧ imm ≤ 63 := h2
  have e : wordN imm = imm.toNat := by unfold wordN; omega
  rw [e]
  unfold fldN
  simp
  omega
theorem enc_sum0 {n : Nat} {rd r1 r2 imm : Int} (hn : n < 43) (hs : opS n = 0) (h : mayB n rd r1 r2 imm = true) (hi : IsI imm) : encI n rd r1 r2 imm = (opF n : Int) + opK n * 4096 + rd * 128 + r1 * 32768 + r2 * 1048576 + rtop n * 33554432 ∧ encI n rd r1 r2 imm < 4294967296 := by
  obtain ⟨⟨g0, g1⟩, ⟨g2, g3⟩, ⟨g4, g5⟩, g6, g7⟩ := enc_parts hn h
  have w1 := (enc_read hn h).1.2
  refine ⟨?_, w1⟩
  have hf := may_fields hn h
  rw [encI_sum hn h]
  have hR := hf.fr
  have hK := hf.fkd
  rw [hs] at hR hK ⊢
  have hR : opR n < 128 := hR
  skip
  have hT := rtop_at0 hn hs
  skip
  show ((opF n + opK n * 4096 + opR n * 33554432 % 4294967296 + rd.toNat * 128 + r1.toNat * 32768 + r2.toNat * 1048576 + 0 : Nat) : Int) = _
  omega
set_option maxRecDepth 100000 in
set_option maxHeartbeats 4000000 in
theorem renc_s0 (n : Nat) (rd r1 r2 imm : Int) (w : World) (hn : n < 43) (hs : opS n = 0) (hi : IsI imm) (h : mayB n rd r1 r2 imm = true) :
    Calls Tryz.prog 16 #[.agg (insA n rd r1 r2 imm)] w fun e w' => e = .returned (.tuple #[.int .u32 (encI n rd r1 r2 imm), .int .i64 0]) ∧ Below w.heap.size w w' := by
  obtain ⟨⟨g0, g1⟩, ⟨g2, g3⟩, ⟨g4, g5⟩, g6, g7⟩ := enc_parts hn h
  have hM (w : World) := rmay_in n rd r1 r2 imm w hn hi
  rw [h] at hM
  have n42 : ((n : Int) == 42) = false := by
    rw [beq_eq_false_iff_ne]
    intro e
    have : n = 42 := by omega
    subst this
    exact absurd hs (by decide)
  obtain ⟨hv, hlt⟩ := enc_sum0 hn hs h hi
  have HL (w : World) := rform_let n w hn 82 (by rw [hs]; rfl)
  have HS (w : World) := rshift_at n w hn false (by unfold shiftB; rw [hs]; rfl)
  have HF (w : World) := rlow n w hn
  have HK (w : World) := rkind n w hn
  have HT (w : World) := rtop_any n w
  have t0 : ((rtop n : Nat) : Int) ≤ 32 := by unfold rtop; split <;> (try split) <;> omega
  have t1 : (0 : Int) ≤ (rtop n : Nat) := by omega
  have f0 : (0 : Int) ≤ (opF n : Nat) := by omega
  have f1 : ((opF n : Nat) : Int) ≤ 127 := by omega
  have k0 : (0 : Int) ≤ (opK n : Nat) := by omega
  have k1 : ((opK n : Nat) : Int) ≤ 7 := by omega
  have n0 : (0 : Int) ≤ n := by omega
  have n1 : (n : Int) < 43 := by omega
  generalize ((opF n : Nat) : Int) = F at *
  generalize ((opK n : Nat) : Int) = K at *
  generalize ((rtop n : Nat) : Int) = T at *
  generalize encI n rd r1 r2 imm = V at *
  generalize (n : Int) = m at *
  have HV := Lib.hid (And.intro hv hlt)
  have HM2 := Lib.hid hM
  have HL2 := Lib.hid HL
  have HS2 := Lib.hid HS
  have HF2 := Lib.hid HF
  have HK2 := Lib.hid HK
  have HT2 := Lib.hid HT
  have hX (W : World) (hb : Below (w.alloc (.cells (insA m rd r1 r2 imm) 49)).heap.size (w.alloc (.cells (insA m rd r1 r2 imm) 49)) W) : InsC W w.heap.size m rd r1 r2 imm ∧ Below w.heap.size w W := ⟨InsC.below (insC_new (t := 49)) hb, ((Below.refl w.heap.size w).alloc (Nat.le_refl _) _).trans (hb.mono (by simp))⟩
  unfold insA at hM HM2 hX ⊢
  have HX := Lib.hid hX
  clear hM HL HS HF HK HT hv hlt h hs hX
  go_enter Tryz.func16, Tryz.ntmps16
  go_wp2_with fail
  refine (HM2.out _).mono ?_
  rintro e w1 ⟨rfl, hb⟩
  have hc := HX.out _ hb
  have H1 := Lib.hid hc
  obtain ⟨⟨x0, x1, x2, x3, x4⟩, _⟩ := hc
  clear hb HX
  go_wp2_with fail
  refine (HL2.out _).mono ?_
  rintro e w2 ⟨rfl, rfl⟩
  go_wp2_with fail
  have hS := H1.out
  clear H1 x0 x1 x2 x3 x4
  go_region_held3 (fun w' => InsC w' w.heap.size m rd r1 r2 imm ∧ Below w.heap.size w w') (first | (with_reducible assumption) | ((with_reducible apply encS_drew); (with_reducible assumption)) | ((with_reducible apply encS_drewN); (with_reducible assumption)) | ((with_reducible apply encS_below); (with_reducible assumption); (with_reducible assumption)))
    (first | (go_at_call 32; (with_reducible refine (HF2.out _).mono ?_); rintro e w' ⟨rfl, hb⟩))
  rename_i hh
  have H3 := Lib.hid hh
  obtain ⟨⟨x0, x1, x2, x3, x4⟩, _⟩ := hh
  clear hS
  go_wp2_with fail
  refine (HK2.out _).mono ?_
  rintro e w4 ⟨rfl, hb⟩
  have hh := encS_below H3.out hb
  clear H3 hb x0 x1 x2 x3 x4
  have H3 := Lib.hid hh
  obtain ⟨⟨x0, x1, x2, x3, x4⟩, _⟩ := hh
  go_wp2_with (first | (go_at_call 36; (with_reducible refine (HS2.out _).mono ?_); rintro e w' ⟨rfl, rfl⟩) | (go_at_call 34; (with_reducible refine (HT2.out _).mono ?_); rintro e w' ⟨rfl, rfl⟩))
  all_goals
    go_ret2
    refine ⟨ret_word ?_, H3.out.2⟩
    have hv := HV.out.1
    have hl := HV.out.2
    omega
theorem enc_sum1 {n : Nat} {rd r1 r2 imm : Int} (hn : n < 43) (hs : opS n = 1) (h : mayB n rd r1 r2 imm = true) (hi : IsI imm) : encI n rd r1 r2 imm = (opF n : Int) + opK n * 4096 + rd * 128 + r1 * 32768 + r2 * 1048576 + ((fldN (wordN imm) 0 12 * 1048576 : Nat) : Int) ∧ encI n rd r1 r2 imm < 4294967296 := by
  obtain ⟨⟨g0, g1⟩, ⟨g2, g3⟩, ⟨g4, g5⟩, g6, g7⟩ := enc_parts hn h
  have w1 := (enc_read hn h).1.2
  refine ⟨?_, w1⟩
  have hf := may_fields hn h
  rw [encI_sum hn h]
  have hR := hf.fr
  have hK := hf.fkd
  rw [hs] at hR hK ⊢
  have hR : opR n < 1 := hR
  skip
  skip
  skip
  show ((opF n + opK n * 4096 + opR n * 4294967296 % 4294967296 + rd.toNat * 128 + r1.toNat * 32768 + r2.toNat * 1048576 + fldN (wordN imm) 0 12 * 1048576 : Nat) : Int) = _
  omega
set_option maxRecDepth 100000 in
set_option maxHeartbeats 4000000 in
theorem renc_s1 (n : Nat) (rd r1 r2 imm : Int) (w : World) (hn : n < 43) (hs : opS n = 1) (hi : IsI imm) (h : mayB n rd r1 r2 imm = true) :
    Calls Tryz.prog 16 #[.agg (insA n rd r1 r2 imm)] w fun e w' => e = .returned (.tuple #[.int .u32 (encI n rd r1 r2 imm), .int .i64 0]) ∧ Below w.heap.size w w' := by
  obtain ⟨⟨g0, g1⟩, ⟨g2, g3⟩, ⟨g4, g5⟩, g6, g7⟩ := enc_parts hn h
  have hM (w : World) := rmay_in n rd r1 r2 imm w hn hi
  rw [h] at hM
  have n42 : ((n : Int) == 42) = false := by
    rw [beq_eq_false_iff_ne]
    intro e
    have : n = 42 := by omega
    subst this
    exact absurd hs (by decide)
  obtain ⟨hv, hlt⟩ := enc_sum1 hn hs h hi
  have ha (w : World) := rbit imm 0 12 20 hi (by omega) (by omega) (by omega) (by omega) (by omega) w
  have la := fldN_lt2 (wordN imm) 0 12
  rw [show (2 : Nat) ^ 12 = 4096 from rfl] at la
  have ea : shl (fld (imm % 18446744073709551616) 0 12) 20 = ((fldN (wordN imm) 0 12 * 1048576 : Nat) : Int) := shl_word imm 0 12 20
  rw [← ea] at hv
  have pa : 0 ≤ shl (fld (imm % 18446744073709551616) 0 12) 20 ∧ shl (fld (imm % 18446744073709551616) 0 12) 20 < 4294967296 := by omega
  clear ea la
  generalize shl (fld (imm % 18446744073709551616) 0 12) 20 = a at ha hv pa
  have Ha := Lib.hid ha
  obtain ⟨pa0, pa1⟩ := pa
  clear ha
  have HL (w : World) := rform_let n w hn 73 (by rw [hs]; rfl)
  have HS (w : World) := rshift_at n w hn false (by unfold shiftB; rw [hs]; rfl)
  have HF (w : World) := rlow n w hn
  have HK (w : World) := rkind n w hn
  have HT (w : World) := rtop_any n w
  have t0 : ((rtop n : Nat) : Int) ≤ 32 := by unfold rtop; split <;> (try split) <;> omega
  have t1 : (0 : Int) ≤ (rtop n : Nat) := by omega
  have f0 : (0 : Int) ≤ (opF n : Nat) := by omega
  have f1 : ((opF n : Nat) : Int) ≤ 127 := by omega
  have k0 : (0 : Int) ≤ (opK n : Nat) := by omega
  have k1 : ((opK n : Nat) : Int) ≤ 7 := by omega
  have n0 : (0 : Int) ≤ n := by omega
  have n1 : (n : Int) < 43 := by omega
  generalize ((opF n : Nat) : Int) = F at *
  generalize ((opK n : Nat) : Int) = K at *
  generalize ((rtop n : Nat) : Int) = T at *
  generalize encI n rd r1 r2 imm = V at *
  generalize (n : Int) = m at *
  have HV := Lib.hid (And.intro hv hlt)
  have HM2 := Lib.hid hM
  have HL2 := Lib.hid HL
  have HS2 := Lib.hid HS
  have HF2 := Lib.hid HF
  have HK2 := Lib.hid HK
  have HT2 := Lib.hid HT
  have hX (W : World) (hb : Below (w.alloc (.cells (insA m rd r1 r2 imm) 49)).heap.size (w.alloc (.cells (insA m rd r1 r2 imm) 49)) W) : InsC W w.heap.size m rd r1 r2 imm ∧ Below w.heap.size w W := ⟨InsC.below (insC_new (t := 49)) hb, ((Below.refl w.heap.size w).alloc (Nat.le_refl _) _).trans (hb.mono (by simp))⟩
  unfold insA at hM HM2 hX ⊢
  have HX := Lib.hid hX
  clear hM HL HS HF HK HT hv hlt h hs hX
  go_enter Tryz.func16, Tryz.ntmps16
  go_wp2_with fail
  refine (HM2.out _).mono ?_
  rintro e w1 ⟨rfl, hb⟩
  have hc := HX.out _ hb
  have H1 := Lib.hid hc
  obtain ⟨⟨x0, x1, x2, x3, x4⟩, _⟩ := hc
  clear hb HX
  go_wp2_with fail
  refine (HL2.out _).mono ?_
  rintro e w2 ⟨rfl, rfl⟩
  go_wp2_with fail
  have hS := H1.out
  clear H1 x0 x1 x2 x3 x4
  go_region_held3 (fun w' => InsC w' w.heap.size m rd r1 r2 imm ∧ Below w.heap.size w w') (first | (with_reducible assumption) | ((with_reducible apply encS_drew); (with_reducible assumption)) | ((with_reducible apply encS_drewN); (with_reducible assumption)) | ((with_reducible apply encS_below); (with_reducible assumption); (with_reducible assumption)))
    (first | (go_at_call 32; (with_reducible refine (HF2.out _).mono ?_); rintro e w' ⟨rfl, hb⟩))
  rename_i hh
  have H3 := Lib.hid hh
  obtain ⟨⟨x0, x1, x2, x3, x4⟩, _⟩ := hh
  clear hS
  go_wp2_with fail
  refine (HK2.out _).mono ?_
  rintro e w4 ⟨rfl, hb⟩
  have hh := encS_below H3.out hb
  clear H3 hb x0 x1 x2 x3 x4
  have H3 := Lib.hid hh
  obtain ⟨⟨x0, x1, x2, x3, x4⟩, _⟩ := hh
  go_wp2_with (first | (go_at_call 35; (with_reducible refine (Ha.out _).mono ?_); rintro e w' ⟨rfl, rfl⟩) | (go_at_call 36; (with_reducible refine (HS2.out _).mono ?_); rintro e w' ⟨rfl, rfl⟩) | (go_at_call 34; (with_reducible refine (HT2.out _).mono ?_); rintro e w' ⟨rfl, rfl⟩))
  all_goals
    go_ret2
    refine ⟨ret_word ?_, H3.out.2⟩
    have hv := HV.out.1
    have hl := HV.out.2
    omega
theorem enc_sum2 {n : Nat} {rd r1 r2 imm : Int} (hn : n < 43) (hs : opS n = 2) (h : mayB n rd r1 r2 imm = true) (hi : IsI imm) : encI n rd r1 r2 imm = (opF n : Int) + opK n * 4096 + rd * 128 + r1 * 32768 + r2 * 1048576 + ((fldN (wordN imm) 0 12 * 1048576 : Nat) : Int) + rtop n * 33554432 ∧ encI n rd r1 r2 imm < 4294967296 := by
  obtain ⟨⟨g0, g1⟩, ⟨g2, g3⟩, ⟨g4, g5⟩, g6, g7⟩ := enc_parts hn h
  have w1 := (enc_read hn h).1.2
  refine ⟨?_, w1⟩
  have hf := may_fields hn h
  rw [encI_sum hn h]
  have hR := hf.fr
  have hK := hf.fkd
  rw [hs] at hR hK ⊢
  have hR : opR n < 64 := hR
  skip
  have hT := rtop_at2 hn hs
  have h6 := fld_six hs h hi
  show ((opF n + opK n * 4096 + opR n * 67108864 % 4294967296 + rd.toNat * 128 + r1.toNat * 32768 + r2.toNat * 1048576 + fldN (wordN imm) 0 6 * 1048576 : Nat) : Int) = _
  omega
set_option maxRecDepth 100000 in
set_option maxHeartbeats 4000000 in
theorem renc_s2 (n : Nat) (rd r1 r2 imm : Int) (w : World) (hn : n < 43) (hs : opS n = 2) (hi : IsI imm) (h : mayB n rd r1 r2 imm = true) :
    Calls Tryz.prog 16 #[.agg (insA n rd r1 r2 imm)] w fun e w' => e = .returned (.tuple #[.int .u32 (encI n rd r1 r2 imm), .int .i64 0]) ∧ Below w.heap.size w w' := by
  obtain ⟨⟨g0, g1⟩, ⟨g2, g3⟩, ⟨g4, g5⟩, g6, g7⟩ := enc_parts hn h
  have hM (w : World) := rmay_in n rd r1 r2 imm w hn hi
  rw [h] at hM
  have n42 : ((n : Int) == 42) = false := by
    rw [beq_eq_false_iff_ne]
    intro e
    have : n = 42 := by omega
    subst this
    exact absurd hs (by decide)
  obtain ⟨hv, hlt⟩ := enc_sum2 hn hs h hi
  have ha (w : World) := rbit imm 0 12 20 hi (by omega) (by omega) (by omega) (by omega) (by omega) w
  have la := fldN_lt2 (wordN imm) 0 12
  rw [show (2 : Nat) ^ 12 = 4096 from rfl] at la
  have ea : shl (fld (imm % 18446744073709551616) 0 12) 20 = ((fldN (wordN imm) 0 12 * 1048576 : Nat) : Int) := shl_word imm 0 12 20
  rw [← ea] at hv
  have pa : 0 ≤ shl (fld (imm % 18446744073709551616) 0 12) 20 ∧ shl (fld (imm % 18446744073709551616) 0 12) 20 < 4294967296 := by omega
  clear ea la
  generalize shl (fld (imm % 18446744073709551616) 0 12) 20 = a at ha hv pa
  have Ha := Lib.hid ha
  obtain ⟨pa0, pa1⟩ := pa
  clear ha
  have HL (w : World) := rform_let n w hn 73 (by rw [hs]; rfl)
  have HS (w : World) := rshift_at n w hn true (by unfold shiftB; rw [hs]; rfl)
  have HF (w : World) := rlow n w hn
  have HK (w : World) := rkind n w hn
  have HT (w : World) := rtop_any n w
  have t0 : ((rtop n : Nat) : Int) ≤ 32 := by unfold rtop; split <;> (try split) <;> omega
  have t1 : (0 : Int) ≤ (rtop n : Nat) := by omega
  have f0 : (0 : Int) ≤ (opF n : Nat) := by omega
  have f1 : ((opF n : Nat) : Int) ≤ 127 := by omega
  have k0 : (0 : Int) ≤ (opK n : Nat) := by omega
  have k1 : ((opK n : Nat) : Int) ≤ 7 := by omega
  have n0 : (0 : Int) ≤ n := by omega
  have n1 : (n : Int) < 43 := by omega
  generalize ((opF n : Nat) : Int) = F at *
  generalize ((opK n : Nat) : Int) = K at *
  generalize ((rtop n : Nat) : Int) = T at *
  generalize encI n rd r1 r2 imm = V at *
  generalize (n : Int) = m at *
  have HV := Lib.hid (And.intro hv hlt)
  have HM2 := Lib.hid hM
  have HL2 := Lib.hid HL
  have HS2 := Lib.hid HS
  have HF2 := Lib.hid HF
  have HK2 := Lib.hid HK
  have HT2 := Lib.hid HT
  have hX (W : World) (hb : Below (w.alloc (.cells (insA m rd r1 r2 imm) 49)).heap.size (w.alloc (.cells (insA m rd r1 r2 imm) 49)) W) : InsC W w.heap.size m rd r1 r2 imm ∧ Below w.heap.size w W := ⟨InsC.below (insC_new (t := 49)) hb, ((Below.refl w.heap.size w).alloc (Nat.le_refl _) _).trans (hb.mono (by simp))⟩
  unfold insA at hM HM2 hX ⊢
  have HX := Lib.hid hX
  clear hM HL HS HF HK HT hv hlt h hs hX
  go_enter Tryz.func16, Tryz.ntmps16
  go_wp2_with fail
  refine (HM2.out _).mono ?_
  rintro e w1 ⟨rfl, hb⟩
  have hc := HX.out _ hb
  have H1 := Lib.hid hc
  obtain ⟨⟨x0, x1, x2, x3, x4⟩, _⟩ := hc
  clear hb HX
  go_wp2_with fail
  refine (HL2.out _).mono ?_
  rintro e w2 ⟨rfl, rfl⟩
  go_wp2_with fail
  have hS := H1.out
  clear H1 x0 x1 x2 x3 x4
  go_region_held3 (fun w' => InsC w' w.heap.size m rd r1 r2 imm ∧ Below w.heap.size w w') (first | (with_reducible assumption) | ((with_reducible apply encS_drew); (with_reducible assumption)) | ((with_reducible apply encS_drewN); (with_reducible assumption)) | ((with_reducible apply encS_below); (with_reducible assumption); (with_reducible assumption)))
    (first | (go_at_call 32; (with_reducible refine (HF2.out _).mono ?_); rintro e w' ⟨rfl, hb⟩))
  rename_i hh
  have H3 := Lib.hid hh
  obtain ⟨⟨x0, x1, x2, x3, x4⟩, _⟩ := hh
  clear hS
  go_wp2_with fail
  refine (HK2.out _).mono ?_
  rintro e w4 ⟨rfl, hb⟩
  have hh := encS_below H3.out hb
  clear H3 hb x0 x1 x2 x3 x4
  have H3 := Lib.hid hh
  obtain ⟨⟨x0, x1, x2, x3, x4⟩, _⟩ := hh
  go_wp2_with (first | (go_at_call 35; (with_reducible refine (Ha.out _).mono ?_); rintro e w' ⟨rfl, rfl⟩) | (go_at_call 36; (with_reducible refine (HS2.out _).mono ?_); rintro e w' ⟨rfl, rfl⟩) | (go_at_call 34; (with_reducible refine (HT2.out _).mono ?_); rintro e w' ⟨rfl, rfl⟩))
  all_goals
    go_ret2
    refine ⟨ret_word ?_, H3.out.2⟩
    have hv := HV.out.1
    have hl := HV.out.2
    omega
theorem enc_sum3 {n : Nat} {rd r1 r2 imm : Int} (hn : n < 43) (hs : opS n = 3) (h : mayB n rd r1 r2 imm = true) (hi : IsI imm) : encI n rd r1 r2 imm = (opF n : Int) + opK n * 4096 + rd * 128 + r1 * 32768 + r2 * 1048576 + ((fldN (wordN imm) 0 5 * 128 : Nat) : Int) + ((fldN (wordN imm) 5 7 * 33554432 : Nat) : Int) ∧ encI n rd r1 r2 imm < 4294967296 := by
  obtain ⟨⟨g0, g1⟩, ⟨g2, g3⟩, ⟨g4, g5⟩, g6, g7⟩ := enc_parts hn h
  have w1 := (enc_read hn h).1.2
  refine ⟨?_, w1⟩
  have hf := may_fields hn h
  rw [encI_sum hn h]
  have hR := hf.fr
  have hK := hf.fkd
  rw [hs] at hR hK ⊢
  have hR : opR n < 1 := hR
  skip
  skip
  skip
  show ((opF n + opK n * 4096 + opR n * 4294967296 % 4294967296 + rd.toNat * 128 + r1.toNat * 32768 + r2.toNat * 1048576 + (fldN (wordN imm) 0 5 * 128 + fldN (wordN imm) 5 7 * 33554432) : Nat) : Int) = _
  omega
set_option maxRecDepth 100000 in
set_option maxHeartbeats 4000000 in
theorem renc_s3 (n : Nat) (rd r1 r2 imm : Int) (w : World) (hn : n < 43) (hs : opS n = 3) (hi : IsI imm) (h : mayB n rd r1 r2 imm = true) :
    Calls Tryz.prog 16 #[.agg (insA n rd r1 r2 imm)] w fun e w' => e = .returned (.tuple #[.int .u32 (encI n rd r1 r2 imm), .int .i64 0]) ∧ Below w.heap.size w w' := by
  obtain ⟨⟨g0, g1⟩, ⟨g2, g3⟩, ⟨g4, g5⟩, g6, g7⟩ := enc_parts hn h
  have hM (w : World) := rmay_in n rd r1 r2 imm w hn hi
  rw [h] at hM
  have n42 : ((n : Int) == 42) = false := by
    rw [beq_eq_false_iff_ne]
    intro e
    have : n = 42 := by omega
    subst this
    exact absurd hs (by decide)
  obtain ⟨hv, hlt⟩ := enc_sum3 hn hs h hi
  have ha (w : World) := rbit imm 0 5 7 hi (by omega) (by omega) (by omega) (by omega) (by omega) w
  have la := fldN_lt2 (wordN imm) 0 5
  rw [show (2 : Nat) ^ 5 = 32 from rfl] at la
  have ea : shl (fld (imm % 18446744073709551616) 0 5) 7 = ((fldN (wordN imm) 0 5 * 128 : Nat) : Int) := shl_word imm 0 5 7
  rw [← ea] at hv
  have pa : 0 ≤ shl (fld (imm % 18446744073709551616) 0 5) 7 ∧ shl (fld (imm % 18446744073709551616) 0 5) 7 < 4294967296 := by omega
  clear ea la
  generalize shl (fld (imm % 18446744073709551616) 0 5) 7 = a at ha hv pa
  have Ha := Lib.hid ha
  obtain ⟨pa0, pa1⟩ := pa
  clear ha
  have hb (w : World) := rbit imm 5 7 25 hi (by omega) (by omega) (by omega) (by omega) (by omega) w
  have lb := fldN_lt2 (wordN imm) 5 7
  rw [show (2 : Nat) ^ 7 = 128 from rfl] at lb
  have eb : shl (fld (imm % 18446744073709551616) 5 7) 25 = ((fldN (wordN imm) 5 7 * 33554432 : Nat) : Int) := shl_word imm 5 7 25
  rw [← eb] at hv
  have pb : 0 ≤ shl (fld (imm % 18446744073709551616) 5 7) 25 ∧ shl (fld (imm % 18446744073709551616) 5 7) 25 < 4294967296 := by omega
  clear eb lb
  generalize shl (fld (imm % 18446744073709551616) 5 7) 25 = b at hb hv pb
  have Hb := Lib.hid hb
  obtain ⟨pb0, pb1⟩ := pb
  clear hb
  have HL (w : World) := rform_let n w hn 83 (by rw [hs]; rfl)
  have HS (w : World) := rshift_at n w hn false (by unfold shiftB; rw [hs]; rfl)
  have HF (w : World) := rlow n w hn
  have HK (w : World) := rkind n w hn
  have HT (w : World) := rtop_any n w
  have t0 : ((rtop n : Nat) : Int) ≤ 32 := by unfold rtop; split <;> (try split) <;> omega
  have t1 : (0 : Int) ≤ (rtop n : Nat) := by omega
  have f0 : (0 : Int) ≤ (opF n : Nat) := by omega
  have f1 : ((opF n : Nat) : Int) ≤ 127 := by omega
  have k0 : (0 : Int) ≤ (opK n : Nat) := by omega
  have k1 : ((opK n : Nat) : Int) ≤ 7 := by omega
  have n0 : (0 : Int) ≤ n := by omega
  have n1 : (n : Int) < 43 := by omega
  generalize ((opF n : Nat) : Int) = F at *
  generalize ((opK n : Nat) : Int) = K at *
  generalize ((rtop n : Nat) : Int) = T at *
  generalize encI n rd r1 r2 imm = V at *
  generalize (n : Int) = m at *
  have HV := Lib.hid (And.intro hv hlt)
  have HM2 := Lib.hid hM
  have HL2 := Lib.hid HL
  have HS2 := Lib.hid HS
  have HF2 := Lib.hid HF
  have HK2 := Lib.hid HK
  have HT2 := Lib.hid HT
  have hX (W : World) (hb : Below (w.alloc (.cells (insA m rd r1 r2 imm) 49)).heap.size (w.alloc (.cells (insA m rd r1 r2 imm) 49)) W) : InsC W w.heap.size m rd r1 r2 imm ∧ Below w.heap.size w W := ⟨InsC.below (insC_new (t := 49)) hb, ((Below.refl w.heap.size w).alloc (Nat.le_refl _) _).trans (hb.mono (by simp))⟩
  unfold insA at hM HM2 hX ⊢
  have HX := Lib.hid hX
  clear hM HL HS HF HK HT hv hlt h hs hX
  go_enter Tryz.func16, Tryz.ntmps16
  go_wp2_with fail
  refine (HM2.out _).mono ?_
  rintro e w1 ⟨rfl, hb⟩
  have hc := HX.out _ hb
  have H1 := Lib.hid hc
  obtain ⟨⟨x0, x1, x2, x3, x4⟩, _⟩ := hc
  clear hb HX
  go_wp2_with fail
  refine (HL2.out _).mono ?_
  rintro e w2 ⟨rfl, rfl⟩
  go_wp2_with fail
  have hS := H1.out
  clear H1 x0 x1 x2 x3 x4
  go_region_held3 (fun w' => InsC w' w.heap.size m rd r1 r2 imm ∧ Below w.heap.size w w') (first | (with_reducible assumption) | ((with_reducible apply encS_drew); (with_reducible assumption)) | ((with_reducible apply encS_drewN); (with_reducible assumption)) | ((with_reducible apply encS_below); (with_reducible assumption); (with_reducible assumption)))
    (first | (go_at_call 32; (with_reducible refine (HF2.out _).mono ?_); rintro e w' ⟨rfl, hb⟩))
  rename_i hh
  have H3 := Lib.hid hh
  obtain ⟨⟨x0, x1, x2, x3, x4⟩, _⟩ := hh
  clear hS
  go_wp2_with fail
  refine (HK2.out _).mono ?_
  rintro e w4 ⟨rfl, hb⟩
  have hh := encS_below H3.out hb
  clear H3 hb x0 x1 x2 x3 x4
  have H3 := Lib.hid hh
  obtain ⟨⟨x0, x1, x2, x3, x4⟩, _⟩ := hh
  go_wp2_with (first | (go_at_call 35; (with_reducible refine (Ha.out _).mono ?_); rintro e w' ⟨rfl, rfl⟩) | (go_at_call 35; (with_reducible refine (Hb.out _).mono ?_); rintro e w' ⟨rfl, rfl⟩) | (go_at_call 36; (with_reducible refine (HS2.out _).mono ?_); rintro e w' ⟨rfl, rfl⟩) | (go_at_call 34; (with_reducible refine (HT2.out _).mono ?_); rintro e w' ⟨rfl, rfl⟩))
  all_goals
    go_ret2
    refine ⟨ret_word ?_, H3.out.2⟩
    have hv := HV.out.1
    have hl := HV.out.2
    omega
theorem enc_sum4 {n : Nat} {rd r1 r2 imm : Int} (hn : n < 43) (hs : opS n = 4) (h : mayB n rd r1 r2 imm = true) (hi : IsI imm) : encI n rd r1 r2 imm = (opF n : Int) + opK n * 4096 + rd * 128 + r1 * 32768 + r2 * 1048576 + ((fldN (wordN imm) 1 4 * 256 : Nat) : Int) + ((fldN (wordN imm) 5 6 * 33554432 : Nat) : Int) + ((fldN (wordN imm) 11 1 * 128 : Nat) : Int) + ((fldN (wordN imm) 12 1 * 2147483648 : Nat) : Int) ∧ encI n rd r1 r2 imm < 4294967296 := by
  obtain ⟨⟨g0, g1⟩, ⟨g2, g3⟩, ⟨g4, g5⟩, g6, g7⟩ := enc_parts hn h
  have w1 := (enc_read hn h).1.2
  refine ⟨?_, w1⟩
  have hf := may_fields hn h
  rw [encI_sum hn h]
  have hR := hf.fr
  have hK := hf.fkd
  rw [hs] at hR hK ⊢
  have hR : opR n < 1 := hR
  skip
  skip
  skip
  show ((opF n + opK n * 4096 + opR n * 4294967296 % 4294967296 + rd.toNat * 128 + r1.toNat * 32768 + r2.toNat * 1048576 + (fldN (wordN imm) 1 4 * 256 + fldN (wordN imm) 5 6 * 33554432 + fldN (wordN imm) 11 1 * 128 + fldN (wordN imm) 12 1 * 2147483648) : Nat) : Int) = _
  omega
set_option maxRecDepth 100000 in
set_option maxHeartbeats 4000000 in
theorem renc_s4 (n : Nat) (rd r1 r2 imm : Int) (w : World) (hn : n < 43) (hs : opS n = 4) (hi : IsI imm) (h : mayB n rd r1 r2 imm = true) :
    Calls Tryz.prog 16 #[.agg (insA n rd r1 r2 imm)] w fun e w' => e = .returned (.tuple #[.int .u32 (encI n rd r1 r2 imm), .int .i64 0]) ∧ Below w.heap.size w w' := by
  obtain ⟨⟨g0, g1⟩, ⟨g2, g3⟩, ⟨g4, g5⟩, g6, g7⟩ := enc_parts hn h
  have hM (w : World) := rmay_in n rd r1 r2 imm w hn hi
  rw [h] at hM
  have n42 : ((n : Int) == 42) = false := by
    rw [beq_eq_false_iff_ne]
    intro e
    have : n = 42 := by omega
    subst this
    exact absurd hs (by decide)
  obtain ⟨hv, hlt⟩ := enc_sum4 hn hs h hi
  have ha (w : World) := rbit imm 1 4 8 hi (by omega) (by omega) (by omega) (by omega) (by omega) w
  have la := fldN_lt2 (wordN imm) 1 4
  rw [show (2 : Nat) ^ 4 = 16 from rfl] at la
  have ea : shl (fld (imm % 18446744073709551616) 1 4) 8 = ((fldN (wordN imm) 1 4 * 256 : Nat) : Int) := shl_word imm 1 4 8
  rw [← ea] at hv
  have pa : 0 ≤ shl (fld (imm % 18446744073709551616) 1 4) 8 ∧ shl (fld (imm % 18446744073709551616) 1 4) 8 < 4294967296 := by omega
  clear ea la
  generalize shl (fld (imm % 18446744073709551616) 1 4) 8 = a at ha hv pa
  have Ha := Lib.hid ha
  obtain ⟨pa0, pa1⟩ := pa
  clear ha
  have hb (w : World) := rbit imm 5 6 25 hi (by omega) (by omega) (by omega) (by omega) (by omega) w
  have lb := fldN_lt2 (wordN imm) 5 6
  rw [show (2 : Nat) ^ 6 = 64 from rfl] at lb
  have eb : shl (fld (imm % 18446744073709551616) 5 6) 25 = ((fldN (wordN imm) 5 6 * 33554432 : Nat) : Int) := shl_word imm 5 6 25
  rw [← eb] at hv
  have pb : 0 ≤ shl (fld (imm % 18446744073709551616) 5 6) 25 ∧ shl (fld (imm % 18446744073709551616) 5 6) 25 < 4294967296 := by omega
  clear eb lb
  generalize shl (fld (imm % 18446744073709551616) 5 6) 25 = b at hb hv pb
  have Hb := Lib.hid hb
  obtain ⟨pb0, pb1⟩ := pb
  clear hb
  have hc (w : World) := rbit imm 11 1 7 hi (by omega) (by omega) (by omega) (by omega) (by omega) w
  have lc := fldN_lt2 (wordN imm) 11 1
  rw [show (2 : Nat) ^ 1 = 2 from rfl] at lc
  have ec : shl (fld (imm % 18446744073709551616) 11 1) 7 = ((fldN (wordN imm) 11 1 * 128 : Nat) : Int) := shl_word imm 11 1 7
  rw [← ec] at hv
  have pc : 0 ≤ shl (fld (imm % 18446744073709551616) 11 1) 7 ∧ shl (fld (imm % 18446744073709551616) 11 1) 7 < 4294967296 := by omega
  clear ec lc
  generalize shl (fld (imm % 18446744073709551616) 11 1) 7 = c at hc hv pc
  have Hc := Lib.hid hc
  obtain ⟨pc0, pc1⟩ := pc
  clear hc
  have hd (w : World) := rbit imm 12 1 31 hi (by omega) (by omega) (by omega) (by omega) (by omega) w
  have ld := fldN_lt2 (wordN imm) 12 1
  rw [show (2 : Nat) ^ 1 = 2 from rfl] at ld
  have ed : shl (fld (imm % 18446744073709551616) 12 1) 31 = ((fldN (wordN imm) 12 1 * 2147483648 : Nat) : Int) := shl_word imm 12 1 31
  rw [← ed] at hv
  have pd : 0 ≤ shl (fld (imm % 18446744073709551616) 12 1) 31 ∧ shl (fld (imm % 18446744073709551616) 12 1) 31 < 4294967296 := by omega
  clear ed ld
  generalize shl (fld (imm % 18446744073709551616) 12 1) 31 = d at hd hv pd
  have Hd := Lib.hid hd
  obtain ⟨pd0, pd1⟩ := pd
  clear hd
  have HL (w : World) := rform_let n w hn 66 (by rw [hs]; rfl)
  have HS (w : World) := rshift_at n w hn false (by unfold shiftB; rw [hs]; rfl)
  have HF (w : World) := rlow n w hn
  have HK (w : World) := rkind n w hn
  have HT (w : World) := rtop_any n w
  have t0 : ((rtop n : Nat) : Int) ≤ 32 := by unfold rtop; split <;> (try split) <;> omega
  have t1 : (0 : Int) ≤ (rtop n : Nat) := by omega
  have f0 : (0 : Int) ≤ (opF n : Nat) := by omega
  have f1 : ((opF n : Nat) : Int) ≤ 127 := by omega
  have k0 : (0 : Int) ≤ (opK n : Nat) := by omega
  have k1 : ((opK n : Nat) : Int) ≤ 7 := by omega
  have n0 : (0 : Int) ≤ n := by omega
  have n1 : (n : Int) < 43 := by omega
  generalize ((opF n : Nat) : Int) = F at *
  generalize ((opK n : Nat) : Int) = K at *
  generalize ((rtop n : Nat) : Int) = T at *
  generalize encI n rd r1 r2 imm = V at *
  generalize (n : Int) = m at *
  have HV := Lib.hid (And.intro hv hlt)
  have HM2 := Lib.hid hM
  have HL2 := Lib.hid HL
  have HS2 := Lib.hid HS
  have HF2 := Lib.hid HF
  have HK2 := Lib.hid HK
  have HT2 := Lib.hid HT
  have hX (W : World) (hb : Below (w.alloc (.cells (insA m rd r1 r2 imm) 49)).heap.size (w.alloc (.cells (insA m rd r1 r2 imm) 49)) W) : InsC W w.heap.size m rd r1 r2 imm ∧ Below w.heap.size w W := ⟨InsC.below (insC_new (t := 49)) hb, ((Below.refl w.heap.size w).alloc (Nat.le_refl _) _).trans (hb.mono (by simp))⟩
  unfold insA at hM HM2 hX ⊢
  have HX := Lib.hid hX
  clear hM HL HS HF HK HT hv hlt h hs hX
  go_enter Tryz.func16, Tryz.ntmps16
  go_wp2_with fail
  refine (HM2.out _).mono ?_
  rintro e w1 ⟨rfl, hb⟩
  have hc := HX.out _ hb
  have H1 := Lib.hid hc
  obtain ⟨⟨x0, x1, x2, x3, x4⟩, _⟩ := hc
  clear hb HX
  go_wp2_with fail
  refine (HL2.out _).mono ?_
  rintro e w2 ⟨rfl, rfl⟩
  go_wp2_with fail
  have hS := H1.out
  clear H1 x0 x1 x2 x3 x4
  go_region_held3 (fun w' => InsC w' w.heap.size m rd r1 r2 imm ∧ Below w.heap.size w w') (first | (with_reducible assumption) | ((with_reducible apply encS_drew); (with_reducible assumption)) | ((with_reducible apply encS_drewN); (with_reducible assumption)) | ((with_reducible apply encS_below); (with_reducible assumption); (with_reducible assumption)))
    (first | (go_at_call 32; (with_reducible refine (HF2.out _).mono ?_); rintro e w' ⟨rfl, hb⟩))
  rename_i hh
  have H3 := Lib.hid hh
  obtain ⟨⟨x0, x1, x2, x3, x4⟩, _⟩ := hh
  clear hS
  go_wp2_with fail
  refine (HK2.out _).mono ?_
  rintro e w4 ⟨rfl, hb⟩
  have hh := encS_below H3.out hb
  clear H3 hb x0 x1 x2 x3 x4
  have H3 := Lib.hid hh
  obtain ⟨⟨x0, x1, x2, x3, x4⟩, _⟩ := hh
  go_wp2_with (first | (go_at_call 35; (with_reducible refine (Ha.out _).mono ?_); rintro e w' ⟨rfl, rfl⟩) | (go_at_call 35; (with_reducible refine (Hb.out _).mono ?_); rintro e w' ⟨rfl, rfl⟩) | (go_at_call 35; (with_reducible refine (Hc.out _).mono ?_); rintro e w' ⟨rfl, rfl⟩) | (go_at_call 35; (with_reducible refine (Hd.out _).mono ?_); rintro e w' ⟨rfl, rfl⟩) | (go_at_call 36; (with_reducible refine (HS2.out _).mono ?_); rintro e w' ⟨rfl, rfl⟩) | (go_at_call 34; (with_reducible refine (HT2.out _).mono ?_); rintro e w' ⟨rfl, rfl⟩))
  all_goals
    go_ret2
    refine ⟨ret_word ?_, H3.out.2⟩
    have hv := HV.out.1
    have hl := HV.out.2
    omega
theorem enc_sum5 {n : Nat} {rd r1 r2 imm : Int} (hn : n < 43) (hs : opS n = 5) (h : mayB n rd r1 r2 imm = true) (hi : IsI imm) : encI n rd r1 r2 imm = (opF n : Int) + rd * 128 + r1 * 32768 + r2 * 1048576 + ((fldN (wordN imm) 12 20 * 4096 : Nat) : Int) ∧ encI n rd r1 r2 imm < 4294967296 := by
  obtain ⟨⟨g0, g1⟩, ⟨g2, g3⟩, ⟨g4, g5⟩, g6, g7⟩ := enc_parts hn h
  have w1 := (enc_read hn h).1.2
  refine ⟨?_, w1⟩
  have hf := may_fields hn h
  rw [encI_sum hn h]
  have hR := hf.fr
  have hK := hf.fkd
  rw [hs] at hR hK ⊢
  have hR : opR n < 1 := hR
  have hK : opK n = 0 := hK rfl
  skip
  skip
  show ((opF n + opK n * 4096 + opR n * 4294967296 % 4294967296 + rd.toNat * 128 + r1.toNat * 32768 + r2.toNat * 1048576 + fldN (wordN imm) 12 20 * 4096 : Nat) : Int) = _
  omega
set_option maxRecDepth 100000 in
set_option maxHeartbeats 4000000 in
theorem renc_s5 (n : Nat) (rd r1 r2 imm : Int) (w : World) (hn : n < 43) (hs : opS n = 5) (hi : IsI imm) (h : mayB n rd r1 r2 imm = true) :
    Calls Tryz.prog 16 #[.agg (insA n rd r1 r2 imm)] w fun e w' => e = .returned (.tuple #[.int .u32 (encI n rd r1 r2 imm), .int .i64 0]) ∧ Below w.heap.size w w' := by
  obtain ⟨⟨g0, g1⟩, ⟨g2, g3⟩, ⟨g4, g5⟩, g6, g7⟩ := enc_parts hn h
  have hM (w : World) := rmay_in n rd r1 r2 imm w hn hi
  rw [h] at hM
  have n42 : ((n : Int) == 42) = false := by
    rw [beq_eq_false_iff_ne]
    intro e
    have : n = 42 := by omega
    subst this
    exact absurd hs (by decide)
  obtain ⟨hv, hlt⟩ := enc_sum5 hn hs h hi
  have ha (w : World) := rbit imm 12 20 12 hi (by omega) (by omega) (by omega) (by omega) (by omega) w
  have la := fldN_lt2 (wordN imm) 12 20
  rw [show (2 : Nat) ^ 20 = 1048576 from rfl] at la
  have ea : shl (fld (imm % 18446744073709551616) 12 20) 12 = ((fldN (wordN imm) 12 20 * 4096 : Nat) : Int) := shl_word imm 12 20 12
  rw [← ea] at hv
  have pa : 0 ≤ shl (fld (imm % 18446744073709551616) 12 20) 12 ∧ shl (fld (imm % 18446744073709551616) 12 20) 12 < 4294967296 := by omega
  clear ea la
  generalize shl (fld (imm % 18446744073709551616) 12 20) 12 = a at ha hv pa
  have Ha := Lib.hid ha
  obtain ⟨pa0, pa1⟩ := pa
  clear ha
  have HL (w : World) := rform_let n w hn 85 (by rw [hs]; rfl)
  have HS (w : World) := rshift_at n w hn false (by unfold shiftB; rw [hs]; rfl)
  have HF (w : World) := rlow n w hn
  have HK (w : World) := rkind n w hn
  have HT (w : World) := rtop_any n w
  have t0 : ((rtop n : Nat) : Int) ≤ 32 := by unfold rtop; split <;> (try split) <;> omega
  have t1 : (0 : Int) ≤ (rtop n : Nat) := by omega
  have f0 : (0 : Int) ≤ (opF n : Nat) := by omega
  have f1 : ((opF n : Nat) : Int) ≤ 127 := by omega
  have k0 : (0 : Int) ≤ (opK n : Nat) := by omega
  have k1 : ((opK n : Nat) : Int) ≤ 7 := by omega
  have n0 : (0 : Int) ≤ n := by omega
  have n1 : (n : Int) < 43 := by omega
  generalize ((opF n : Nat) : Int) = F at *
  generalize ((opK n : Nat) : Int) = K at *
  generalize ((rtop n : Nat) : Int) = T at *
  generalize encI n rd r1 r2 imm = V at *
  generalize (n : Int) = m at *
  have HV := Lib.hid (And.intro hv hlt)
  have HM2 := Lib.hid hM
  have HL2 := Lib.hid HL
  have HS2 := Lib.hid HS
  have HF2 := Lib.hid HF
  have HK2 := Lib.hid HK
  have HT2 := Lib.hid HT
  have hX (W : World) (hb : Below (w.alloc (.cells (insA m rd r1 r2 imm) 49)).heap.size (w.alloc (.cells (insA m rd r1 r2 imm) 49)) W) : InsC W w.heap.size m rd r1 r2 imm ∧ Below w.heap.size w W := ⟨InsC.below (insC_new (t := 49)) hb, ((Below.refl w.heap.size w).alloc (Nat.le_refl _) _).trans (hb.mono (by simp))⟩
  unfold insA at hM HM2 hX ⊢
  have HX := Lib.hid hX
  clear hM HL HS HF HK HT hv hlt h hs hX
  go_enter Tryz.func16, Tryz.ntmps16
  go_wp2_with fail
  refine (HM2.out _).mono ?_
  rintro e w1 ⟨rfl, hb⟩
  have hc := HX.out _ hb
  have H1 := Lib.hid hc
  obtain ⟨⟨x0, x1, x2, x3, x4⟩, _⟩ := hc
  clear hb HX
  go_wp2_with fail
  refine (HL2.out _).mono ?_
  rintro e w2 ⟨rfl, rfl⟩
  go_wp2_with fail
  have hS := H1.out
  clear H1 x0 x1 x2 x3 x4
  go_region_held3 (fun w' => InsC w' w.heap.size m rd r1 r2 imm ∧ Below w.heap.size w w') (first | (with_reducible assumption) | ((with_reducible apply encS_drew); (with_reducible assumption)) | ((with_reducible apply encS_drewN); (with_reducible assumption)) | ((with_reducible apply encS_below); (with_reducible assumption); (with_reducible assumption)))
    (first | (go_at_call 32; (with_reducible refine (HF2.out _).mono ?_); rintro e w' ⟨rfl, hb⟩))
  rename_i hh
  have H3 := Lib.hid hh
  obtain ⟨⟨x0, x1, x2, x3, x4⟩, _⟩ := hh
  clear hS
  skip
  go_wp2_with (first | (go_at_call 35; (with_reducible refine (Ha.out _).mono ?_); rintro e w' ⟨rfl, rfl⟩) | (go_at_call 36; (with_reducible refine (HS2.out _).mono ?_); rintro e w' ⟨rfl, rfl⟩) | (go_at_call 34; (with_reducible refine (HT2.out _).mono ?_); rintro e w' ⟨rfl, rfl⟩))
  all_goals
    go_ret2
    refine ⟨ret_word ?_, H3.out.2⟩
    have hv := HV.out.1
    have hl := HV.out.2
    omega
theorem enc_sum6 {n : Nat} {rd r1 r2 imm : Int} (hn : n < 43) (hs : opS n = 6) (h : mayB n rd r1 r2 imm = true) (hi : IsI imm) : encI n rd r1 r2 imm = (opF n : Int) + rd * 128 + r1 * 32768 + r2 * 1048576 + ((fldN (wordN imm) 1 10 * 2097152 : Nat) : Int) + ((fldN (wordN imm) 11 1 * 1048576 : Nat) : Int) + ((fldN (wordN imm) 12 8 * 4096 : Nat) : Int) + ((fldN (wordN imm) 20 1 * 2147483648 : Nat) : Int) ∧ encI n rd r1 r2 imm < 4294967296 := by
  obtain ⟨⟨g0, g1⟩, ⟨g2, g3⟩, ⟨g4, g5⟩, g6, g7⟩ := enc_parts hn h
  have w1 := (enc_read hn h).1.2
  refine ⟨?_, w1⟩
  have hf := may_fields hn h
  rw [encI_sum hn h]
  have hR := hf.fr
  have hK := hf.fkd
  rw [hs] at hR hK ⊢
  have hR : opR n < 1 := hR
  have hK : opK n = 0 := hK rfl
  skip
  skip
  show ((opF n + opK n * 4096 + opR n * 4294967296 % 4294967296 + rd.toNat * 128 + r1.toNat * 32768 + r2.toNat * 1048576 + (fldN (wordN imm) 1 10 * 2097152 + fldN (wordN imm) 11 1 * 1048576 + fldN (wordN imm) 12 8 * 4096 + fldN (wordN imm) 20 1 * 2147483648) : Nat) : Int) = _
  omega
set_option maxRecDepth 100000 in
set_option maxHeartbeats 4000000 in
theorem renc_s6 (n : Nat) (rd r1 r2 imm : Int) (w : World) (hn : n < 43) (hs : opS n = 6) (hi : IsI imm) (h : mayB n rd r1 r2 imm = true) :
    Calls Tryz.prog 16 #[.agg (insA n rd r1 r2 imm)] w fun e w' => e = .returned (.tuple #[.int .u32 (encI n rd r1 r2 imm), .int .i64 0]) ∧ Below w.heap.size w w' := by
  obtain ⟨⟨g0, g1⟩, ⟨g2, g3⟩, ⟨g4, g5⟩, g6, g7⟩ := enc_parts hn h
  have hM (w : World) := rmay_in n rd r1 r2 imm w hn hi
  rw [h] at hM
  have n42 : ((n : Int) == 42) = false := by
    rw [beq_eq_false_iff_ne]
    intro e
    have : n = 42 := by omega
    subst this
    exact absurd hs (by decide)
  obtain ⟨hv, hlt⟩ := enc_sum6 hn hs h hi
  have ha (w : World) := rbit imm 1 10 21 hi (by omega) (by omega) (by omega) (by omega) (by omega) w
  have la := fldN_lt2 (wordN imm) 1 10
  rw [show (2 : Nat) ^ 10 = 1024 from rfl] at la
  have ea : shl (fld (imm % 18446744073709551616) 1 10) 21 = ((fldN (wordN imm) 1 10 * 2097152 : Nat) : Int) := shl_word imm 1 10 21
  rw [← ea] at hv
  have pa : 0 ≤ shl (fld (imm % 18446744073709551616) 1 10) 21 ∧ shl (fld (imm % 18446744073709551616) 1 10) 21 < 4294967296 := by omega
  clear ea la
  generalize shl (fld (imm % 18446744073709551616) 1 10) 21 = a at ha hv pa
  have Ha := Lib.hid ha
  obtain ⟨pa0, pa1⟩ := pa
  clear ha
  have hb (w : World) := rbit imm 11 1 20 hi (by omega) (by omega) (by omega) (by omega) (by omega) w
  have lb := fldN_lt2 (wordN imm) 11 1
  rw [show (2 : Nat) ^ 1 = 2 from rfl] at lb
  have eb : shl (fld (imm % 18446744073709551616) 11 1) 20 = ((fldN (wordN imm) 11 1 * 1048576 : Nat) : Int) := shl_word imm 11 1 20
  rw [← eb] at hv
  have pb : 0 ≤ shl (fld (imm % 18446744073709551616) 11 1) 20 ∧ shl (fld (imm % 18446744073709551616) 11 1) 20 < 4294967296 := by omega
  clear eb lb
  generalize shl (fld (imm % 18446744073709551616) 11 1) 20 = b at hb hv pb
  have Hb := Lib.hid hb
  obtain ⟨pb0, pb1⟩ := pb
  clear hb
  have hc (w : World) := rbit imm 12 8 12 hi (by omega) (by omega) (by omega) (by omega) (by omega) w
  have lc := fldN_lt2 (wordN imm) 12 8
  rw [show (2 : Nat) ^ 8 = 256 from rfl] at lc
  have ec : shl (fld (imm % 18446744073709551616) 12 8) 12 = ((fldN (wordN imm) 12 8 * 4096 : Nat) : Int) := shl_word imm 12 8 12
  rw [← ec] at hv
  have pc : 0 ≤ shl (fld (imm % 18446744073709551616) 12 8) 12 ∧ shl (fld (imm % 18446744073709551616) 12 8) 12 < 4294967296 := by omega
  clear ec lc
  generalize shl (fld (imm % 18446744073709551616) 12 8) 12 = c at hc hv pc
  have Hc := Lib.hid hc
  obtain ⟨pc0, pc1⟩ := pc
  clear hc
  have hd (w : World) := rbit imm 20 1 31 hi (by omega) (by omega) (by omega) (by omega) (by omega) w
  have ld := fldN_lt2 (wordN imm) 20 1
  rw [show (2 : Nat) ^ 1 = 2 from rfl] at ld
  have ed : shl (fld (imm % 18446744073709551616) 20 1) 31 = ((fldN (wordN imm) 20 1 * 2147483648 : Nat) : Int) := shl_word imm 20 1 31
  rw [← ed] at hv
  have pd : 0 ≤ shl (fld (imm % 18446744073709551616) 20 1) 31 ∧ shl (fld (imm % 18446744073709551616) 20 1) 31 < 4294967296 := by omega
  clear ed ld
  generalize shl (fld (imm % 18446744073709551616) 20 1) 31 = d at hd hv pd
  have Hd := Lib.hid hd
  obtain ⟨pd0, pd1⟩ := pd
  clear hd
  have HL (w : World) := rform_let n w hn 74 (by rw [hs]; rfl)
  have HS (w : World) := rshift_at n w hn false (by unfold shiftB; rw [hs]; rfl)
  have HF (w : World) := rlow n w hn
  have HK (w : World) := rkind n w hn
  have HT (w : World) := rtop_any n w
  have t0 : ((rtop n : Nat) : Int) ≤ 32 := by unfold rtop; split <;> (try split) <;> omega
  have t1 : (0 : Int) ≤ (rtop n : Nat) := by omega
  have f0 : (0 : Int) ≤ (opF n : Nat) := by omega
  have f1 : ((opF n : Nat) : Int) ≤ 127 := by omega
  have k0 : (0 : Int) ≤ (opK n : Nat) := by omega
  have k1 : ((opK n : Nat) : Int) ≤ 7 := by omega
  have n0 : (0 : Int) ≤ n := by omega
  have n1 : (n : Int) < 43 := by omega
  generalize ((opF n : Nat) : Int) = F at *
  generalize ((opK n : Nat) : Int) = K at *
  generalize ((rtop n : Nat) : Int) = T at *
  generalize encI n rd r1 r2 imm = V at *
  generalize (n : Int) = m at *
  have HV := Lib.hid (And.intro hv hlt)
  have HM2 := Lib.hid hM
  have HL2 := Lib.hid HL
  have HS2 := Lib.hid HS
  have HF2 := Lib.hid HF
  have HK2 := Lib.hid HK
  have HT2 := Lib.hid HT
  have hX (W : World) (hb : Below (w.alloc (.cells (insA m rd r1 r2 imm) 49)).heap.size (w.alloc (.cells (insA m rd r1 r2 imm) 49)) W) : InsC W w.heap.size m rd r1 r2 imm ∧ Below w.heap.size w W := ⟨InsC.below (insC_new (t := 49)) hb, ((Below.refl w.heap.size w).alloc (Nat.le_refl _) _).trans (hb.mono (by simp))⟩
  unfold insA at hM HM2 hX ⊢
  have HX := Lib.hid hX
  clear hM HL HS HF HK HT hv hlt h hs hX
  go_enter Tryz.func16, Tryz.ntmps16
  go_wp2_with fail
  refine (HM2.out _).mono ?_
  rintro e w1 ⟨rfl, hb⟩
  have hc := HX.out _ hb
  have H1 := Lib.hid hc
  obtain ⟨⟨x0, x1, x2, x3, x4⟩, _⟩ := hc
  clear hb HX
  go_wp2_with fail
  refine (HL2.out _).mono ?_
  rintro e w2 ⟨rfl, rfl⟩
  go_wp2_with fail
  have hS := H1.out
  clear H1 x0 x1 x2 x3 x4
  go_region_held3 (fun w' => InsC w' w.heap.size m rd r1 r2 imm ∧ Below w.heap.size w w') (first | (with_reducible assumption) | ((with_reducible apply encS_drew); (with_reducible assumption)) | ((with_reducible apply encS_drewN); (with_reducible assumption)) | ((with_reducible apply encS_below); (with_reducible assumption); (with_reducible assumption)))
    (first | (go_at_call 32; (with_reducible refine (HF2.out _).mono ?_); rintro e w' ⟨rfl, hb⟩))
  rename_i hh
  have H3 := Lib.hid hh
  obtain ⟨⟨x0, x1, x2, x3, x4⟩, _⟩ := hh
  clear hS
  skip
  go_wp2_with (first | (go_at_call 35; (with_reducible refine (Ha.out _).mono ?_); rintro e w' ⟨rfl, rfl⟩) | (go_at_call 35; (with_reducible refine (Hb.out _).mono ?_); rintro e w' ⟨rfl, rfl⟩) | (go_at_call 35; (with_reducible refine (Hc.out _).mono ?_); rintro e w' ⟨rfl, rfl⟩) | (go_at_call 35; (with_reducible refine (Hd.out _).mono ?_); rintro e w' ⟨rfl, rfl⟩) | (go_at_call 36; (with_reducible refine (HS2.out _).mono ?_); rintro e w' ⟨rfl, rfl⟩) | (go_at_call 34; (with_reducible refine (HT2.out _).mono ?_); rintro e w' ⟨rfl, rfl⟩))
  all_goals
    go_ret2
    refine ⟨ret_word ?_, H3.out.2⟩
    have hv := HV.out.1
    have hl := HV.out.2
    omega
end Go.Proofs.YtjngkifoaljmaaaGreatDoor
namespace Go.Proofs.YtjngkifoaljmaaaGreatDoor
set_option maxRecDepth 100000
open Go.RowKit
set_option linter.unusedVariables false
set_option maxRecDepth 100000 in
theorem renc_bad (op rd r1 r2 imm : Int) (w : World) (HM : ∀ w : World, Calls Tryz.prog 30 #[.agg (insA op rd r1 r2 imm)] w fun e w' => e = .returned (.bool false) ∧ Below w.heap.size w w') :
    Calls Tryz.prog 16 #[.agg (insA op rd r1 r2 imm)] w fun e w' => e = .returned (.tuple #[.int .u32 0, .int .i64 1]) ∧ Below w.heap.size w w' := by
  unfold insA at HM ⊢
  have HM2 := Lib.hid HM
  clear HM
  go_enter Tryz.func16, Tryz.ntmps16
  go_wp2_with fail
  refine (HM2.out _).mono ?_
  rintro e w1 ⟨rfl, hb⟩
  have HB := Lib.hid (((Below.refl w.heap.size w).alloc (Nat.le_refl _) _).trans (hb.mono (by simp)))
  clear hb
  go_wp2
  go_ret2
  exact ⟨rfl, HB.out⟩
theorem only42 {n : Nat} (hn : n < 43) (hs : opS n = 7) : n = 42 :=
  all43 (p := fun n => opS n = 7 → n = 42) (by decide +kernel) hn hs
theorem zero42 {rd r1 r2 imm : Int} (hi : IsI imm) (h : mayB 42 rd r1 r2 imm = true) : rd = 0 ∧ r1 = 0 ∧ r2 = 0 ∧ imm = 0 := by
  obtain ⟨a, b, c, hk⟩ := may_parts h
  have hk : imm = 0 := (num_ok imm hi (s := 7) (by decide)).1 hk
  obtain ⟨a0, a1, a2⟩ := fitB_true a
  obtain ⟨b0, b1, b2⟩ := fitB_true b
  obtain ⟨c0, c1, c2⟩ := fitB_true c
  exact ⟨a2 rfl, b2 rfl, c2 rfl, hk⟩
theorem enc42 : encI 42 0 0 0 0 = 1048691 := by
  rw [encI_sum (by decide) (by decide +kernel)]
  decide +kernel
set_option maxRecDepth 100000 in
theorem renc_s7 (w : World) :
    Calls Tryz.prog 16 #[.agg (insA 42 0 0 0 0)] w fun e w' => e = .returned (.tuple #[.int .u32 1048691, .int .i64 0]) ∧ Below w.heap.size w w' := by
  have hM (w : World) := rmay_in 42 0 0 0 0 w (by decide) ⟨by omega, by omega⟩
  rw [show mayB 42 0 0 0 0 = true by decide +kernel] at hM
  have hX (W : World) (hb : Below (w.alloc (.cells (insA 42 0 0 0 0) 49)).heap.size (w.alloc (.cells (insA 42 0 0 0 0) 49)) W) : InsC W w.heap.size 42 0 0 0 0 ∧ Below w.heap.size w W := ⟨InsC.below (insC_new (t := 49)) hb, ((Below.refl w.heap.size w).alloc (Nat.le_refl _) _).trans (hb.mono (by simp))⟩
  have hM : ∀ w : World, Calls Tryz.prog 30 #[.agg (insA 42 0 0 0 0)] w fun e w' => e = .returned (.bool true) ∧ Below w.heap.size w w' := hM
  unfold insA at hM hX ⊢
  have HM2 := Lib.hid hM
  have HX := Lib.hid hX
  clear hM hX
  go_enter Tryz.func16, Tryz.ntmps16
  go_wp2_with fail
  refine (HM2.out _).mono ?_
  rintro e w1 ⟨rfl, hb⟩
  have hc := HX.out _ hb
  have H1 := Lib.hid hc
  obtain ⟨⟨x0, x1, x2, x3, x4⟩, _⟩ := hc
  clear hb HX
  go_wp2
  go_ret2
  exact ⟨rfl, H1.out.2⟩
theorem renc_yes (n : Nat) (rd r1 r2 imm : Int) (w : World) (hn : n < 43) (hi : IsI imm) (h : mayB n rd r1 r2 imm = true) :
    Calls Tryz.prog 16 #[.agg (insA n rd r1 r2 imm)] w fun e w' => e = .returned (.tuple #[.int .u32 (encI n rd r1 r2 imm), .int .i64 0]) ∧ Below w.heap.size w w' := by
  have h8 := opS_lt hn
  obtain e | e | e | e | e | e | e | e : opS n = 0 ∨ opS n = 1 ∨ opS n = 2 ∨ opS n = 3 ∨ opS n = 4 ∨ opS n = 5 ∨ opS n = 6 ∨ opS n = 7 := by omega
  · exact renc_s0 n rd r1 r2 imm w hn e hi h
  · exact renc_s1 n rd r1 r2 imm w hn e hi h
  · exact renc_s2 n rd r1 r2 imm w hn e hi h
  · exact renc_s3 n rd r1 r2 imm w hn e hi h
  · exact renc_s4 n rd r1 r2 imm w hn e hi h
  · exact renc_s5 n rd r1 r2 imm w hn e hi h
  · exact renc_s6 n rd r1 r2 imm w hn e hi h
  · obtain rfl := only42 hn e
    obtain ⟨rfl, rfl, rfl, rfl⟩ := zero42 hi h
    rw [enc42]
    exact renc_s7 w
theorem renc_no (n : Nat) (rd r1 r2 imm : Int) (w : World) (hn : n < 43) (hi : IsI imm) (h : mayB n rd r1 r2 imm = false) :
    Calls Tryz.prog 16 #[.agg (insA n rd r1 r2 imm)] w fun e w' => e = .returned (.tuple #[.int .u32 0, .int .i64 1]) ∧ Below w.heap.size w w' :=
  renc_bad _ _ _ _ _ w (fun w => h ▸ rmay_in n rd r1 r2 imm w hn hi)
theorem renc_out (op rd r1 r2 imm : Int) (w : World) (h : op < 0 ∨ 43 ≤ op) :
    Calls Tryz.prog 16 #[.agg (insA op rd r1 r2 imm)] w fun e w' => e = .returned (.tuple #[.int .u32 0, .int .i64 1]) ∧ Below w.heap.size w w' :=
  renc_bad _ _ _ _ _ w (fun w => rmay_out op rd r1 r2 imm w h)
end Go.Proofs.YtjngkifoaljmaaaGreatDoor
