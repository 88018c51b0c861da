/- Layer 5's reference: what Step, Run and New of its processor do. -/
import Derived.Test.YtoeagbcjnffpaaaGreatDoorRCpuF
import Derived.Test.YtoeagbcjnffpaaaGreatDoorCpuF
import Derived.Test.YtoeagbcjnffpaaaGreatDoorInsRDecode
import Derived.Test.YtoeagbcjnffpaaaGreatDoorCpuG
namespace Go.Proofs.YtoeagbcjnffpaaaGreatDoor
set_option maxRecDepth 100000
open Go.RowKit Go.Maps
set_option linter.unusedVariables false
def RStepP (w : World) (K : RK) (F : Nat → Prop) (b : Bool) (st : St) (e : Ending) (w' : World) : Prop := e = .returned (.bool b) ∧ RCpuAt w' K F st ∧ Out F w w'
section
variable (K : RK) (F : Nat → Prop) (st st1 : St) (v : Int) (w : World)
theorem rstep_idle (hA : RCpuAt w K F st) (hd : ¬ st.s.dn = 0) : Calls Tryz.prog 40 #[.pointer (some ⟨K.c, 0, none⟩)] w (RStepP w K F false st) := by
  have h1 : w.cell? ⟨K.c, 36, none⟩ = some (.int .i64 st.s.dn) := by obtain ⟨_, _, hC, _⟩ := hA; exact hC.blk.dn
  have h2 : (st.s.dn != 0) = true := by rw [bne_iff_ne]; exact hd
  have HA := Lib.hid hA
  clear hA hd
  go_enter Tryz.func40, Tryz.ntmps40
  go_wp2
  go_ret
  exact ⟨rfl, HA.out, .refl _ _⟩
set_option maxHeartbeats 2000000 in
/-- what can't be fetched -/
theorem rstep_none (a0 a1 a2 a3 a4 E : Int) (hd : st.s.dn = 0) (hA : RCpuAt w K F st)
    (hfe : Calls Tryz.prog 81 #[.pointer (some ⟨K.c, 0, none⟩)] w (RFetP w K F v false st1))
    (hde : ∀ w, Calls Tryz.prog 55 #[.int .u32 v] w fun e w' => e = .returned (.tuple #[.agg #[.int .i64 a0, .int .i64 a1, .int .i64 a2, .int .i64 a3, .int .i64 a4], .int .i64 E]) ∧ Below w.heap.size w w') :
    Calls Tryz.prog 40 #[.pointer (some ⟨K.c, 0, none⟩)] w (RBrokeP w K F (broke st1)) := by
  have hdn : w.cell? ⟨K.c, 36, none⟩ = some (.int .i64 0) := by obtain ⟨_, _, hC, _⟩ := hA; rw [← hd]; exact hC.blk.dn
  have HFe := Lib.hid hfe
  have HDe := Lib.hid hde
  clear hd hA hfe hde
  go_enter Tryz.func40, Tryz.ntmps40
  go_wp2_with fail
  refine HFe.out.mono ?_
  rintro e w1 ⟨rfl, hA1, hO1⟩
  have HA1 := Lib.hid hA1
  have HO1 := Lib.hid hO1
  clear hA1 hO1 hdn
  go_wp2_with fail
  refine (HDe.out w1).mono ?_
  rintro e w2 ⟨rfl, hb2⟩
  have hal := (Below.refl w2.heap.size w2).alloc (Nat.le_refl _) (.cells #[.int .i64 a0, .int .i64 a1, .int .i64 a2, .int .i64 a3, .int .i64 a4] 74)
  have HA2 := Lib.hid ((HA1.out.below hb2).below hal)
  have HO2 := Lib.hid ((HO1.out.trans (Out.of_below (F := F) hb2)).trans (Out.of_below (F := F) hal))
  clear hb2 hal HA1 HO1
  go_wp2_with fail
  refine (rbroken_any K F st1 _ HA2.out).mono ?_
  rintro e w5 ⟨rfl, hA5, hO5⟩
  have HZ := Lib.hid (And.intro hA5 (HO2.out.trans hO5))
  clear hA5 hO5
  go_wp2
  go_ret
  exact ⟨rfl, HZ.out⟩
set_option maxHeartbeats 2000000 in
/-- what is no instruction -/
theorem rstep_bad (a0 a1 a2 a3 a4 E : Int) (hE : E ≠ 0) (hd : st.s.dn = 0) (hA : RCpuAt w K F st)
    (hfe : Calls Tryz.prog 81 #[.pointer (some ⟨K.c, 0, none⟩)] w (RFetP w K F v true st1))
    (hde : ∀ w, Calls Tryz.prog 55 #[.int .u32 v] w fun e w' => e = .returned (.tuple #[.agg #[.int .i64 a0, .int .i64 a1, .int .i64 a2, .int .i64 a3, .int .i64 a4], .int .i64 E]) ∧ Below w.heap.size w w') :
    Calls Tryz.prog 40 #[.pointer (some ⟨K.c, 0, none⟩)] w (RBrokeP w K F (broke st1)) := by
  have hdn : w.cell? ⟨K.c, 36, none⟩ = some (.int .i64 0) := by obtain ⟨_, _, hC, _⟩ := hA; rw [← hd]; exact hC.blk.dn
  have hE2 : (E != 0) = true := by rw [bne_iff_ne]; exact hE
  have HFe := Lib.hid hfe
  have HDe := Lib.hid hde
  clear hd hA hfe hde hE
  go_enter Tryz.func40, Tryz.ntmps40
  go_wp2_with fail
  refine HFe.out.mono ?_
  rintro e w1 ⟨rfl, hA1, hO1⟩
  have HA1 := Lib.hid hA1
  have HO1 := Lib.hid hO1
  clear hA1 hO1 hdn
  go_wp2_with fail
  refine (HDe.out w1).mono ?_
  rintro e w2 ⟨rfl, hb2⟩
  have hal := (Below.refl w2.heap.size w2).alloc (Nat.le_refl _) (.cells #[.int .i64 a0, .int .i64 a1, .int .i64 a2, .int .i64 a3, .int .i64 a4] 74)
  have HA2 := Lib.hid ((HA1.out.below hb2).below hal)
  have HO2 := Lib.hid ((HO1.out.trans (Out.of_below (F := F) hb2)).trans (Out.of_below (F := F) hal))
  clear hb2 hal HA1 HO1
  go_wp2_with fail
  refine (rbroken_any K F st1 _ HA2.out).mono ?_
  rintro e w5 ⟨rfl, hA5, hO5⟩
  have HZ := Lib.hid (And.intro hA5 (HO2.out.trans hO5))
  clear hA5 hO5
  go_wp2
  go_ret
  exact ⟨rfl, HZ.out⟩
theorem noRd : ∀ n, n < 43 → 29 ≤ n → n < 38 → lRd (opS n) = false := by decide
/-- what is one -/
theorem rstep_x (x : X) (hx : XW x) (hd : st.s.dn = 0) (hA : RCpuAt w K F st)
    (hfe : Calls Tryz.prog 81 #[.pointer (some ⟨K.c, 0, none⟩)] w (RFetP w K F v true st1))
    (hde : ∀ w, Calls Tryz.prog 55 #[.int .u32 v] w fun e w' => e = .returned (.tuple #[.agg #[.int .i64 x.op, .int .i64 x.rd, .int .i64 x.r1, .int .i64 x.r2, .int .i64 x.imm], .int .i64 0]) ∧ Below w.heap.size w w')
    (hl : st1.lk.length < 90000000) :
    Calls Tryz.prog 40 #[.pointer (some ⟨K.c, 0, none⟩)] w (RBrokeP w K F (execC K.T x (showC st1 0 st1.s.pc 0))) := by
  obtain ⟨op, rd, r1, r2, imm⟩ := x
  obtain ⟨h43, ⟨d0, d1⟩, ⟨a0, a1⟩, ⟨b0, b1⟩, hi, hz⟩ := hx
  simp only at h43 d0 d1 a0 a1 b0 b1 hi hz hde
  obtain ⟨kd, rfl⟩ := Int.eq_ofNat_of_zero_le d0
  obtain ⟨k1, rfl⟩ := Int.eq_ofNat_of_zero_le a0
  obtain ⟨k2, rfl⟩ := Int.eq_ofNat_of_zero_le b0
  have q1 : k1 < 32 := by omega
  have q2 : k2 < 32 := by omega
  have q3 : kd < 32 := by omega
  by_cases c1 : op < 12
  · exact rstep_two K F st st1 v w op kd k1 k2 imm hd hA hfe hde q1 q2 q3 hi hl (by omega) c1
  by_cases c2 : op < 16
  · exact rstep_div K F st st1 v w op kd k1 k2 imm hd hA hfe hde q1 q2 q3 hi hl (by omega) c2
  by_cases c3 : op < 25
  · exact rstep_one K F st st1 v w op kd k1 k2 imm hd hA hfe hde q1 q2 q3 hi hl (by omega) c3
  by_cases c4 : op < 29
  · exact rstep_load K F st st1 v w op kd k1 k2 imm hd hA hfe hde q1 q2 q3 hi hl (by omega) c4
  by_cases c5 : op < 38
  · have e0 : (kd : Int) = 0 := hz (noRd op h43 (by omega) c5)
    rw [e0] at hde ⊢
    by_cases c6 : op < 32
    · exact rstep_store K F st st1 v w op k1 k2 imm hd hA hfe hde q1 q2 hi hl (by omega) c6
    · exact rstep_take K F st st1 v w op k1 k2 imm hd hA hfe hde q1 q2 hi hl (by omega) c5
  obtain c | c | c | c | c : op = 38 ∨ op = 39 ∨ op = 40 ∨ op = 41 ∨ op = 42 := by omega
  · exact rstep_lui K F st st1 v w op kd k1 k2 imm hd hA hfe hde q1 q2 q3 hi hl (by omega) (by omega)
  · exact rstep_auipc K F st st1 v w op kd k1 k2 imm hd hA hfe hde q1 q2 q3 hi hl (by omega) (by omega)
  · exact rstep_jal K F st st1 v w op kd k1 k2 imm hd hA hfe hde q1 q2 q3 hi hl (by omega) (by omega)
  · exact rstep_jalr K F st st1 v w op kd k1 k2 imm hd hA hfe hde q1 q2 q3 hi hl (by omega) (by omega)
  · exact rstep_stop K F st st1 v w op kd k1 k2 imm hd hA hfe hde q1 q2 q3 hi hl (by omega) (by omega)
/-- what Decode makes of whatever word: something -/
theorem rdecode_some (hv : IsW v) : ∃ a0 a1 a2 a3 a4 E : Int, ∀ w, Calls Tryz.prog 55 #[.int .u32 v] w fun e w' => e = .returned (.tuple #[.agg #[.int .i64 a0, .int .i64 a1, .int .i64 a2, .int .i64 a3, .int .i64 a4], .int .i64 E]) ∧ Below w.heap.size w w' := by
  rcases dec_or v with h | ⟨n, hn, hM⟩
  · exact ⟨_, _, _, _, _, _, fun w => rdecode_no v w hv h⟩
  · exact ⟨_, _, _, _, _, _, fun w => rdecode_yes v n w hv hn hM⟩
theorem risW_fetch (hA : RCpuAt w K F st) {x : Int} (h : fetchC K.T K.E st = some (x, st1)) : IsW x := by
  obtain ⟨_, _, hC, _⟩ := hA
  unfold fetchC at h
  cases h1 : loadM K.T st.B st.s.pc 4 st.s.own 4 with
  | some y => rw [h1] at h; cases h; exact rloadM_word hC.mem h1
  | none =>
    rw [h1] at h
    cases h2 : (st.s.own || hasE K.E st.s.pc) with
    | false => rw [h2] at h; cases h
    | true =>
      rw [h2] at h
      cases h3 : loadM K.T st.B st.s.pc 4 (!st.s.own) 4 with
      | none => rw [h3] at h; cases h
      | some y => rw [h3] at h; cases h; exact rloadM_word hC.mem h3
theorem rfetch_yes' (hA : RCpuAt w K F st) (hl : st.ev.length < 100000000) {x : Int} (h : fetchC K.T K.E st = some (x, st1)) :
    Calls Tryz.prog 81 #[.pointer (some ⟨K.c, 0, none⟩)] w (RFetP w K F x true st1) := by
  unfold fetchC at h
  cases h1 : loadM K.T st.B st.s.pc 4 st.s.own 4 with
  | some y => rw [h1] at h; cases h; exact rfetch_own K F st x w hA h1
  | none =>
    rw [h1] at h
    cases h2 : (st.s.own || hasE K.E st.s.pc) with
    | false => rw [h2] at h; cases h
    | true =>
      rw [h2] at h
      cases h3 : loadM K.T st.B st.s.pc 4 (!st.s.own) 4 with
      | none => rw [h3] at h; cases h
      | some y =>
        rw [h3] at h; cases h
        cases ho : st.s.own with
        | true => rw [ho] at h1 h3; exact rfetch_out K F st x w hA hl ho h1 h3
        | false =>
          rw [ho] at h1 h2 h3
          exact rfetch_in K F st x w hA hl ho h1 (by simpa using h2) h3
theorem rfetch_no' (hA : RCpuAt w K F st) (h : fetchC K.T K.E st = none) :
    Calls Tryz.prog 81 #[.pointer (some ⟨K.c, 0, none⟩)] w (RFetP w K F 0 false st) := by
  unfold fetchC at h
  cases h1 : loadM K.T st.B st.s.pc 4 st.s.own 4 with
  | some y => rw [h1] at h; cases h
  | none =>
    rw [h1] at h
    cases h3 : loadM K.T st.B st.s.pc 4 (!st.s.own) 4 with
    | none => exact rfetch_none K F st w hA h1 h3
    | some y =>
      cases h2 : (st.s.own || hasE K.E st.s.pc) with
      | false => exact rfetch_shut K F st y w hA h1 h2 h3
      | true => rw [h2, h3] at h; cases h
theorem rstep_any (hA : RCpuAt w K F st) (he : st.ev.length < 80000000) (hl : st.lk.length < 80000000) :
    Calls Tryz.prog 40 #[.pointer (some ⟨K.c, 0, none⟩)] w (RStepP w K F (decide (st.s.dn = 0)) (stepC K.T K.E st)) := by
  by_cases hd : st.s.dn = 0
  · rw [show decide (st.s.dn = 0) = true by simpa using hd]
    cases hf : fetchC K.T K.E st with
    | none =>
      rw [show stepC K.T K.E st = broke st by unfold stepC; rw [if_neg (by simpa using hd), hf]]
      obtain ⟨a0, a1, a2, a3, a4, E, h⟩ := rdecode_some 0 ⟨by omega, by omega⟩
      exact rstep_none K F st st 0 w a0 a1 a2 a3 a4 E hd hA (rfetch_no' K F st w hA hf) h
    | some p =>
      obtain ⟨v, st1⟩ := p
      have hW : IsW v := risW_fetch K F st st1 w hA hf
      have hfe := rfetch_yes' K F st st1 w hA (by omega) hf
      cases hx : decI v with
      | none =>
        rw [show stepC K.T K.E st = broke st1 by unfold stepC; rw [if_neg (by simpa using hd), hf]; simp only [hx]]
        refine rstep_bad K F st st1 v w 0 0 0 0 0 3 (by omega) hd hA hfe (fun w => ?_)
        rcases dec_or v with h | ⟨n, hn, hM⟩
        · exact rdecode_no v w hW h
        · rw [decI_yes hn hM] at hx; cases hx
      | some x =>
        rw [show stepC K.T K.E st = execC K.T x (showC st1 0 st1.s.pc 0) by unfold stepC; rw [if_neg (by simpa using hd), hf]; simp only [hx]]
        refine rstep_x K F st st1 v w x (decI_w hW hx) hd hA hfe (fun w => ?_) (by rw [(fetchC_rows hf).1]; omega)
        obtain ⟨n, hn, hM, rfl⟩ := decI_match hx
        exact rdecode_yes v n w hW hn hM
  · rw [show decide (st.s.dn = 0) = false by simpa using hd, show stepC K.T K.E st = st by unfold stepC; rw [if_pos hd]]
    exact rstep_idle K F st w hA hd
/-- what Run answers -/
def RRunP (w : World) (K : RK) (F : Nat → Prop) (n : Nat) (st : St) (e : Ending) (w' : World) : Prop := e = .returned (.int .i64 n) ∧ RCpuAt w' K F st ∧ Out F w w'
/-- under way: after j of k steps -/
def RRunK (w wr : World) (K : RK) (F : Nat → Prop) (st : St) (k j : Nat) (stj : St) : Prop :=
  RCpuAt wr K F stj ∧ Out F w wr ∧ (runC K.T K.E (k - j) stj).1 + j = (runC K.T K.E k st).1 ∧ (runC K.T K.E (k - j) stj).2 = (runC K.T K.E k st).2 ∧ stj.ev.length ≤ st.ev.length + j ∧ stj.lk.length ≤ st.lk.length + 2 * j
set_option maxHeartbeats 1000000 in
theorem rrun_any (k : Nat) (hA : RCpuAt w K F st) (he : st.ev.length + k < 79999999) (hl : st.lk.length + 2 * k < 79999990) :
    Calls Tryz.prog 12 #[.pointer (some ⟨K.c, 0, none⟩), .int .i64 k] w (RRunP w K F (ranN K.T K.E k st) (ranS K.T K.E k st)) := by
  have H0 := Lib.hid (show RRunK w w K F st k 0 st from ⟨hA, .refl _ _, rfl, rfl, by omega, by omega⟩)
  have HB := Lib.hid (And.intro he hl)
  have hk : (k : Int) ≤ 9223372036854775807 := by omega
  clear hA he hl
  go_enter Tryz.func12, Tryz.ntmps12
  go_wp2
  go_loopw [5] (fun i wr => ∃ (j : Nat) (stj : St), j ≤ k ∧ i = .int .i64 j ∧ RRunK w wr K F st k j stj) (fun i _ => k - (intOf i).toNat)
  case atStart => exact ⟨0, st, by omega, rfl, H0.out⟩
  case round =>
    obtain ⟨j, stj, hj, rfl, hR⟩ := hrel
    have HR := Lib.hid hR
    clear hR
    by_cases hlt : j < k
    · have hlt2 : ((j : Int) < k) := by omega
      have HS := Lib.hid (rstep_any K F stj wr HR.out.1 (by have := HR.out.2.2.2.2.1; have := HB.out.1; omega) (by have := HR.out.2.2.2.2.2; have := HB.out.2; omega))
      by_cases hd : stj.s.dn = 0
      · rw [show decide (stj.s.dn = 0) = true by simpa using hd] at HS
        have HD := Lib.hid hd
        clear hd hlt
        go_wp2_with fail
        refine HS.out.mono ?_
        rintro e w2 ⟨rfl, hA2, hO2⟩
        have HR2 := Lib.hid (show RRunK w w2 K F st k (j + 1) (stepC K.T K.E stj) from by
          obtain ⟨r1, r2, r4, r5, r6, r7⟩ := HR.out
          have hr := stepC_rows K.T K.E stj
          rw [show k - j = (k - (j + 1)) + 1 by omega, runC_succ _ _ _ _ HD.out] at r4 r5
          exact ⟨hA2, r2.trans hO2, by simp only at r4; omega, r5, by omega, by omega⟩)
        clear hA2 hO2 HR HS HD
        go_wp2
        go_roundw
        case rel => exact ⟨j + 1, _, by omega, by go_num, HR2.out⟩
        case measure => simp [intOf]; omega
      · rw [show decide (stj.s.dn = 0) = false by simpa using hd] at HS
        have HD := Lib.hid hd
        clear hd hlt
        go_wp2_with fail
        refine HS.out.mono ?_
        rintro e w2 ⟨rfl, hA2, hO2⟩
        have HZ := Lib.hid (show RRunP w K F (ranN K.T K.E k st) (ranS K.T K.E k st) (.returned (.int .i64 j)) w2 from by
          obtain ⟨r1, r2, r4, r5, r6, r7⟩ := HR.out
          rw [runC_stop _ _ _ _ HD.out] at r4 r5
          rw [show stepC K.T K.E stj = stj by unfold stepC; rw [if_pos HD.out]] at hA2
          refine ⟨?_, by rw [show ranS K.T K.E k st = stj from r5.symm]; exact hA2, r2.trans hO2⟩
          rw [show ranN K.T K.E k st = j by unfold ranN; simp only at r4; omega])
        clear hA2 hO2 HR HS HD
        go_wp2
        go_ret
        exact HZ.out
    · obtain rfl : j = k := by omega
      have HZ := Lib.hid (show RRunP w K F (ranN K.T K.E j st) (ranS K.T K.E j st) (.returned (.int .i64 j)) wr from by
        obtain ⟨r1, r2, r4, r5, r6, r7⟩ := HR.out
        rw [Nat.sub_self] at r4 r5
        refine ⟨?_, by rw [show ranS K.T K.E j st = stj from r5.symm]; exact r1, r2⟩
        rw [show ranN K.T K.E j st = j by unfold ranN; rw [runC_zero] at r4; simp only at r4; omega])
      clear HR
      go_wp2
      go_ret
      exact HZ.out
end
end Go.Proofs.YtoeagbcjnffpaaaGreatDoor
namespace Go.Proofs.YtoeagbcjnffpaaaGreatDoor
set_option maxRecDepth 100000
open Go.RowKit Go.Maps
set_option linter.unusedVariables false
/-! ### The bytes at first -/
theorem flat_zeros (T : List Rg) : ∀ n, List.replicate (offT T n) 0 = flatB (zerosB T) n := by
  intro n
  induction n with
  | zero => rfl
  | succ n ih =>
    simp only [flatB, offT]
    rw [← List.replicate_append_replicate, ih]
    rfl
theorem lens_zeros (T : List Rg) (n : Nat) : LensB T (zerosB T) n := fun i _ => by unfold zerosB; simp
theorem lens_bB (T : List Rg) (rows : List (List Int)) (n : Nat) : ∀ k, LensB T (bB T rows k) n := by
  intro k
  induction k with
  | zero => exact lens_zeros T n
  | succ k ih =>
    unfold bB pokeB
    split
    · rename_i hf
      by_cases hk : k < n
      · exact lens_set ih (length_splice _ _ _ (by have := ih k hk; have := hf.2; omega))
      · intro j hj
        rw [setB_other _ _ (show j ≠ k by omega)]
        exact ih j hj
    · exact ih
theorem flat_bL {T : List Rg} {rows : List (List Int)} {n : Nat} (hn : T.length = n) : ∀ k, k ≤ n → bL T rows k = flatB (bB T rows k) n := by
  intro k
  induction k with
  | zero => intro _; unfold bL bB; rw [hn]; exact flat_zeros T n
  | succ k ih =>
    intro hk
    unfold bL bB pokeL pokeB
    rw [ih (by omega)]
    by_cases hf : fitK T k (rowK rows k)
    · rw [if_pos hf, if_pos hf]
      have h := flat_splice (a := 0) (l := rowK rows k) (lens_bB T rows n k) (show k < n by omega) (by have := lens_bB T rows n k k (by omega); have := hf.2; omega)
      rw [Nat.add_zero] at h
      exact h
    · rw [if_neg hf, if_neg hf]
/-! ### New -/
def rcpuBuild (parts : Array (Nat × Value)) : Sem Value := Instr.build 47 parts
theorem build_rcpu (parts : Array (Nat × Value)) : Instr.build 47 parts = rcpuBuild parts := rfl
theorem buildR_is {w : World} (m : Nat) (A : Option Addr) (n c : Nat) (s : CS) (h : s.R.length = 32) :
    (rcpuBuild #[(0, .pointer (some ⟨m, 0, none⟩)), (1, .slice A n c), (2, .agg (stateL s).toArray)]).run Tryz.prog w = .ok (.agg (rcpuL m (.slice A n c) s (.slice none 0 0) (.slice none 0 0)).toArray) w := by
  unfold rcpuBuild rcpuL
  have hl := stateL_len h
  generalize stateL s = L at *
  match L, hl with
  | c0 :: c1 :: c2 :: c3 :: c4 :: c5 :: c6 :: c7 :: c8 :: c9 :: c10 :: c11 :: c12 :: c13 :: c14 :: c15 :: c16 :: c17 :: c18 :: c19 :: c20 :: c21 :: c22 :: c23 :: c24 :: c25 :: c26 :: c27 :: c28 :: c29 :: c30 :: c31 :: c32 :: c33 :: c34 :: [], _ => show _ = _; kernel_rfl
attribute [local go_sem ↓] loadAt_st build_rcpu
structure RNewOk (w : World) (r tb to tc bb bc n : Nat) (T : List Rg) (B : Nat → List Int) (EA : Option Addr) (E : List Int) (s : CS) : Prop where
  mem : RFl w r tb to tc bb bc n T B
  ent : SlU w EA E
  few : E.length ≤ 1000000
  entU : ∀ x ∈ E, IsU x
  apart : E = [] ∨ ∀ a, EA = some a → a.block ≠ bb
  len : s.R.length = 32
  regs : ∀ x ∈ s.R, IsU x
  pc : IsU s.pc
  one : 1 ≤ n
def RNewCP (w : World) (r tb bb n : Nat) (T : List Rg) (B : Nat → List Int) (EA : Option Addr) (E : List Int) (F : Nat → Prop) (s : CS) (e : Ending) (w' : World) : Prop :=
  ∃ K : RK, e = .returned (.pointer (some ⟨K.c, 0, none⟩)) ∧ K.r = r ∧ K.tb = tb ∧ K.bb = bb ∧ K.n = n ∧ K.T = T ∧ K.E = E ∧ K.EA = EA ∧ w.heap.size ≤ K.c ∧ RCpuAt w' K F { s := newS s, ev := [], lk := [], B := B } ∧ Below w.heap.size w w'
theorem rnew_fin {r tb to tc bb bc n : Nat} {T : List Rg} {B : Nat → List Int} {EA : Option Addr} {ec : Nat} {E : List Int} {F : Nat → Prop} {s : CS} {w w2 : World} {g : Nat} (hg : g = w2.heap.size) (hN : RNewOk w r tb to tc bb bc n T B EA E s) (hF : F bb ∧ ∀ b, w.heap.size ≤ b → F b) (hb : Below w.heap.size w w2) :
    RNewCP w r tb bb n T B EA E F s (.returned (.pointer (some ⟨g, 0, none⟩))) (w2.alloc (.cells (rcpuL r (.slice EA E.length ec) (newS s) (.slice none 0 0) (.slice none 0 0)).toArray 47)) := by
  subst hg
  have hW := newS_w hN.len hN.regs hN.pc
  have hs := hb.size
  have hal := (Below.refl w2.heap.size w2).alloc (Nat.le_refl _) (.cells (rcpuL r (.slice EA E.length ec) (newS s) (.slice none 0 0) (.slice none 0 0)).toArray 47)
  have h0 : Below w.heap.size w (w2.alloc (.cells (rcpuL r (.slice EA E.length ec) (newS s) (.slice none 0 0) (.slice none 0 0)).toArray 47)) := hb.trans (hal.mono hs)
  have hlt : r < w.heap.size ∧ tb < w.heap.size ∧ bb < w.heap.size := ⟨block_lt hN.mem.1.c0, block_lt (hN.mem.1.tab 0 (by rw [hN.mem.1.len]; exact hN.one)).1, hN.mem.1.row.lt⟩
  obtain ⟨l0, l1, l2⟩ := hlt
  refine ⟨⟨w2.heap.size, r, tb, to, tc, bb, bc, n, T, EA, ec, E⟩, rfl, rfl, rfl, rfl, rfl, rfl, rfl, rfl, hs, ⟨.slice none 0 0, .slice none 0 0, ⟨⟨heap_alloc_last _ _, hW.1⟩, World.ownsRow_nil _ _ _ _, World.ownsRow_nil _ _ _ _, hN.mem.below h0, ⟨hN.few, hN.entU, ?_⟩, hW, ⟨by show r < w2.heap.size; omega, by show tb < w2.heap.size; omega, by show bb < w2.heap.size; omega⟩, ⟨by simp, by simp⟩⟩, ⟨hF.2 _ hs, hF.1, (fun b hb => nomatch hb), (fun b hb => nomatch hb), fun b hb => hF.2 b ?_⟩⟩, h0⟩
  · rcases hN.ent with h | ⟨b, off, h1, h2⟩
    · exact .inl h
    · by_cases hE : E = []
      · exact .inl hE
      · have hp : 0 < E.length := List.length_pos_iff.2 hE
        have hb0 := block_lt (h2 0 hp)
        refine .inr ⟨b, off, h1, by show b < w2.heap.size; have hb1 : b < w.heap.size := hb0; omega, fun e => ?_, fun k hk => by rw [h0.cell (p := ⟨b, off + k, none⟩) (block_lt (h2 k hk))]; exact h2 k hk⟩
        rcases hN.apart with h | h
        · exact hE h
        · exact h _ h1 e.symm
  · have := h0.size; omega
set_option maxHeartbeats 2000000 in
theorem rnew_cpu (r tb to tc bb bc n : Nat) (T : List Rg) (B : Nat → List Int) (EA : Option Addr) (ec : Nat) (E : List Int) (F : Nat → Prop) (s : CS) (w : World) (hN : RNewOk w r tb to tc bb bc n T B EA E s) (hF : F bb) (hF2 : ∀ b, w.heap.size ≤ b → F b) :
    Calls Tryz.prog 10 #[.pointer (some ⟨r, 0, none⟩), .slice EA E.length ec, .agg (stateL s).toArray] w (RNewCP w r tb bb n T B EA E F s) := by
  have HN := Lib.hid hN
  have HF := Lib.hid (And.intro hF hF2)
  have hS0 := StB.new (w := w) s hN.len
  have k0 := hS0.reg0
  have f0 := hS0.free 0
  have l1 : ({ s with R := s.R.set 0 0 } : CS).R.length = 32 := by simpa using hN.len
  have e1 := stateL_zero s hN.len
  have k34 : (w.alloc (.cells ((stateL s).set 0 (.int .u64 0)).toArray 28)).cell? ⟨w.heap.size, 34, none⟩ = some (.int .i64 s.dn) := by
    have := (StB.new (w := w) { s with R := s.R.set 0 0 } l1).dn
    rw [← e1] at this; exact this
  have f34 : (w.alloc (.cells ((stateL s).set 0 (.int .u64 0)).toArray 28)).frozen? ⟨w.heap.size, 34, none⟩ = false := frozen_of_row _ _ 34 _ _ (heap_alloc_last w _)
  have ST1 : (s.dn = 0 ∨ s.dn = 1 ∨ s.dn = 2) → StB (w.alloc (.cells ((stateL s).set 0 (.int .u64 0)).toArray 28)) w.heap.size (newS s) := fun h => by
    rw [e1, show newS s = { s with R := s.R.set 0 0 } by
      unfold newS
      split
      · have h2 : s.dn = 2 := by omega
        rw [h2]
      · rfl]
    exact StB.new _ l1
  have ST2 : ¬ (s.dn = 0 ∨ s.dn = 1) → StB (w.alloc (.cells (((stateL s).set 0 (.int .u64 0)).set 34 (.int .i64 2)).toArray 28)) w.heap.size (newS s) := fun h => by
    rw [e1, stateL_done _ l1, show newS s = doneS { s with R := s.R.set 0 0 } 2 by unfold newS doneS; rw [if_pos (by omega)]]
    exact StB.new _ l1
  clear hN hF hF2 hS0 e1 l1
  by_cases hd : s.dn = 0
  · skip
    have ST := ST1 (.inl hd)
    rw [hd] at k34
    clear ST1 ST2 hd
    go_enter Tryz.func10, Tryz.ntmps10
    have HSt := Lib.hid (show StB (w.alloc (.cells ((stateL s).set 0 (.int .u64 0)).toArray 28)) w.heap.size (newS s) from ST)
    have HB := Lib.hid ((Below.refl w.heap.size w).alloc (Nat.le_refl _) (.cells ((stateL s).set 0 (.int .u64 0)).toArray 28))
    have st1 := loadS_is HSt.out
    have bu1 : ∀ (w2 : World), (rcpuBuild #[(0, .pointer (some ⟨r, 0, none⟩)), (1, .slice EA E.length ec), (2, .agg (stateL (newS s)).toArray)]).run Tryz.prog w2 = .ok (.agg (rcpuL r (.slice EA E.length ec) (newS s) (.slice none 0 0) (.slice none 0 0)).toArray) w2 := fun w2 => buildR_is r EA E.length ec (newS s) HSt.out.2
    have HZ := Lib.hid (rnew_fin (ec := ec) (g := w.heap.size + 1) (by simp) HN.out HF.out HB.out)
    clear ST
    go_wp2
    go_ret
    exact HZ.out
  have hd0 := hd
  clear hd
  by_cases hd : s.dn = 1
  · skip
    have ST := ST1 (.inr (.inl hd))
    rw [hd] at k34
    clear ST1 ST2 hd
    go_enter Tryz.func10, Tryz.ntmps10
    have HSt := Lib.hid (show StB (w.alloc (.cells ((stateL s).set 0 (.int .u64 0)).toArray 28)) w.heap.size (newS s) from ST)
    have HB := Lib.hid ((Below.refl w.heap.size w).alloc (Nat.le_refl _) (.cells ((stateL s).set 0 (.int .u64 0)).toArray 28))
    have st1 := loadS_is HSt.out
    have bu1 : ∀ (w2 : World), (rcpuBuild #[(0, .pointer (some ⟨r, 0, none⟩)), (1, .slice EA E.length ec), (2, .agg (stateL (newS s)).toArray)]).run Tryz.prog w2 = .ok (.agg (rcpuL r (.slice EA E.length ec) (newS s) (.slice none 0 0) (.slice none 0 0)).toArray) w2 := fun w2 => buildR_is r EA E.length ec (newS s) HSt.out.2
    have HZ := Lib.hid (rnew_fin (ec := ec) (g := w.heap.size + 1) (by simp) HN.out HF.out HB.out)
    clear ST
    go_wp2
    go_ret
    exact HZ.out
  have hd1 := hd
  clear hd
  by_cases hd : s.dn = 2
  · skip
    have ST := ST1 (.inr (.inr hd))
    rw [hd] at k34
    clear ST1 ST2 hd
    go_enter Tryz.func10, Tryz.ntmps10
    have HSt := Lib.hid (show StB (w.alloc (.cells ((stateL s).set 0 (.int .u64 0)).toArray 28)) w.heap.size (newS s) from ST)
    have HB := Lib.hid ((Below.refl w.heap.size w).alloc (Nat.le_refl _) (.cells ((stateL s).set 0 (.int .u64 0)).toArray 28))
    have st1 := loadS_is HSt.out
    have bu1 : ∀ (w2 : World), (rcpuBuild #[(0, .pointer (some ⟨r, 0, none⟩)), (1, .slice EA E.length ec), (2, .agg (stateL (newS s)).toArray)]).run Tryz.prog w2 = .ok (.agg (rcpuL r (.slice EA E.length ec) (newS s) (.slice none 0 0) (.slice none 0 0)).toArray) w2 := fun w2 => buildR_is r EA E.length ec (newS s) HSt.out.2
    have HZ := Lib.hid (rnew_fin (ec := ec) (g := w.heap.size + 1) (by simp) HN.out HF.out HB.out)
    clear ST
    go_wp2
    go_ret
    exact HZ.out
  · have hd2 := hd
    clear hd
    have ST := ST2 (by omega)
    have q0 : (s.dn != 0) = true := by rw [bne_iff_ne]; exact hd0
    have q1 : (s.dn != 1) = true := by rw [bne_iff_ne]; exact hd1
    have q2 : (s.dn != 2) = true := by rw [bne_iff_ne]; exact hd2
    clear ST1 ST2 hd0 hd1 hd2
    go_enter Tryz.func10, Tryz.ntmps10
    have HSt := Lib.hid (show StB (w.alloc (.cells (((stateL s).set 0 (.int .u64 0)).set 34 (.int .i64 2)).toArray 28)) w.heap.size (newS s) from ST)
    have HB := Lib.hid ((Below.refl w.heap.size w).alloc (Nat.le_refl _) (.cells (((stateL s).set 0 (.int .u64 0)).set 34 (.int .i64 2)).toArray 28))
    have st1 := loadS_is HSt.out
    have bu1 : ∀ (w2 : World), (rcpuBuild #[(0, .pointer (some ⟨r, 0, none⟩)), (1, .slice EA E.length ec), (2, .agg (stateL (newS s)).toArray)]).run Tryz.prog w2 = .ok (.agg (rcpuL r (.slice EA E.length ec) (newS s) (.slice none 0 0) (.slice none 0 0)).toArray) w2 := fun w2 => buildR_is r EA E.length ec (newS s) HSt.out.2
    have HZ := Lib.hid (rnew_fin (ec := ec) (g := w.heap.size + 1) (by simp) HN.out HF.out HB.out)
    clear ST
    go_wp2
    go_ret
    exact HZ.out
end Go.Proofs.YtoeagbcjnffpaaaGreatDoor
