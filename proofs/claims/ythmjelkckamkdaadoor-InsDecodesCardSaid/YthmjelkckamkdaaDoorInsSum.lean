/- Layer 2, plain mathematics: an instruction's word is the sum of its fields; its fields are read again. -/
import Derived.Test.YthmjelkckamkdaaDoorInsMath
namespace Go.Proofs.YthmjelkckamkdaaDoor
set_option linter.unusedVariables false

theorem or_mul (a b lo n m : Nat) (hm : m = 2 ^ lo) (hb : b < 2 ^ n) (ha : a / 2 ^ lo % 2 ^ n = 0) : a ||| (b * m) = a + b * m := by
  subst hm; exact or_add a b lo n hb ha
theorem or_regs (a rd r1 r2 : Nat) (h0 : rd < 32) (h1 : r1 < 32) (h2 : r2 < 32) (g0 : a / 128 % 32 = 0) (g1 : a / 32768 % 32 = 0) (g2 : a / 1048576 % 32 = 0) :
    a ||| ((rd * 128 ||| r1 * 32768) ||| r2 * 1048576) = a + rd * 128 + r1 * 32768 + r2 * 1048576 := by
  rw [← Nat.or_assoc, ← Nat.or_assoc, or_mul a rd 7 5 128 (by decide) (by simpa using h0) (by simpa using g0), or_mul _ r1 15 5 32768 (by decide) (by simpa using h1) (by omega), or_mul _ r2 20 5 1048576 (by decide) (by simpa using h2) (by omega)]
/-- the sum of the fields -/
def encN (s F K R rd r1 r2 y : Nat) : Nat := F + K * 4096 + R * 2 ^ lRest s % 4294967296 + rd * 128 + r1 * 32768 + r2 * 1048576 + spreadN s y
/-- what each field is bounded by, and which of them a shape has -/
structure FieldsOk (s F K R rd r1 r2 : Nat) : Prop where
  fs : s < 8
  ff : F < 128
  fk : K < 8
  fkd : lKd s = false → K = 0
  fr : R < 2 ^ (32 - lRest s)
  frd : rd < 32
  frdd : lRd s = false → rd = 0
  fr1 : r1 < 32
  fr1d : lR1 s = false → r1 = 0
  fr2 : r2 < 32
  fr2d : lR2 s = false → r2 = 0
theorem or_sum {s F K R rd r1 r2 : Nat} (y : Nat) (h : FieldsOk s F K R rd r1 r2) :
    (((F ||| K * 4096) ||| (R * 2 ^ min (lRest s) 32 % 4294967296)) ||| ((rd * 128 ||| r1 * 32768) ||| r2 * 1048576)) ||| spreadN s y = encN s F K R rd r1 r2 y := by
  obtain ⟨hs, hf, hk, hkd, hr, hrd, hrdd, hr1, hr1d, hr2, hr2d⟩ := h
  have e1 : F ||| K * 4096 = F + K * 4096 := or_mul F K 12 3 4096 (by decide) (by simpa using hk) (by omega)
  rw [e1]
  have a := fldN_lt2 y 0 12
  have b := fldN_lt2 y 0 6
  have c := fldN_lt2 y 0 5
  have d := fldN_lt2 y 5 7
  have e := fldN_lt2 y 1 4
  have f := fldN_lt2 y 5 6
  have g := fldN_lt2 y 11 1
  have i := fldN_lt2 y 12 1
  have j := fldN_lt2 y 12 20
  have k := fldN_lt2 y 1 10
  have l := fldN_lt2 y 12 8
  have m := fldN_lt2 y 20 1
  unfold encN
  obtain rfl | rfl | rfl | rfl | rfl | rfl | rfl | rfl : s = 0 ∨ s = 1 ∨ s = 2 ∨ s = 3 ∨ s = 4 ∨ s = 5 ∨ s = 6 ∨ s = 7 := by omega
  · have hr : R < 128 := hr
    show ((F + K * 4096) ||| (R * 33554432 % 4294967296)) ||| ((rd * 128 ||| r1 * 32768) ||| r2 * 1048576) ||| 0 = F + K * 4096 + R * 33554432 % 4294967296 + rd * 128 + r1 * 32768 + r2 * 1048576 + 0
    rw [Nat.or_zero, Nat.mod_eq_of_lt (by omega), or_mul _ R 25 7 33554432 (by decide) (by simpa using hr) (by omega), or_regs _ rd r1 r2 hrd hr1 hr2 (by omega) (by omega) (by omega)]
    omega
  · have hr : R < 1 := hr
    have hz : R = 0 := by omega
    have hz2 : r2 = 0 := hr2d rfl
    subst hz hz2
    show ((F + K * 4096) ||| (0 * 2 ^ min (lRest 1) 32 % 4294967296)) ||| ((rd * 128 ||| r1 * 32768) ||| 0 * 1048576) ||| fldN y 0 12 * 1048576 = F + K * 4096 + 0 * 2 ^ lRest 1 % 4294967296 + rd * 128 + r1 * 32768 + 0 * 1048576 + fldN y 0 12 * 1048576
    rw [Nat.zero_mul (2 ^ min (lRest 1) 32), Nat.zero_mod, Nat.or_zero, or_regs _ rd r1 0 hrd hr1 (by omega) (by omega) (by omega) (by omega), or_mul _ _ 20 12 1048576 (by decide) a (by omega)]
    omega
  · have hr : R < 64 := hr
    have hz2 : r2 = 0 := hr2d rfl
    subst hz2
    show ((F + K * 4096) ||| (R * 67108864 % 4294967296)) ||| ((rd * 128 ||| r1 * 32768) ||| 0 * 1048576) ||| fldN y 0 6 * 1048576 = F + K * 4096 + R * 67108864 % 4294967296 + rd * 128 + r1 * 32768 + 0 * 1048576 + fldN y 0 6 * 1048576
    rw [Nat.mod_eq_of_lt (by omega), or_mul _ R 26 6 67108864 (by decide) (by simpa using hr) (by omega), or_regs _ rd r1 0 hrd hr1 (by omega) (by omega) (by omega) (by omega), or_mul _ _ 20 6 1048576 (by decide) b (by omega)]
  · have hr : R < 1 := hr
    have hz : R = 0 := by omega
    have hz2 : rd = 0 := hrdd rfl
    subst hz hz2
    show ((F + K * 4096) ||| (0 * 2 ^ min (lRest 3) 32 % 4294967296)) ||| ((0 * 128 ||| r1 * 32768) ||| r2 * 1048576) ||| (fldN y 0 5 * 128 + fldN y 5 7 * 33554432) = F + K * 4096 + 0 * 2 ^ lRest 3 % 4294967296 + 0 * 128 + r1 * 32768 + r2 * 1048576 + (fldN y 0 5 * 128 + fldN y 5 7 * 33554432)
    rw [← or_mul (fldN y 0 5 * 128) (fldN y 5 7) 25 7 33554432 (by decide) d (by omega), Nat.zero_mul (2 ^ min (lRest 3) 32), Nat.zero_mod, Nat.or_zero, or_regs _ 0 r1 r2 (by omega) hr1 hr2 (by omega) (by omega) (by omega), ← Nat.or_assoc, or_mul _ _ 7 5 128 (by decide) c (by omega), or_mul _ _ 25 7 33554432 (by decide) d (by omega)]
    rw [or_mul (fldN y 0 5 * 128) (fldN y 5 7) 25 7 33554432 (by decide) d (by omega)]
    omega
  · have hr : R < 1 := hr
    have hz : R = 0 := by omega
    have hz2 : rd = 0 := hrdd rfl
    subst hz hz2
    show ((F + K * 4096) ||| (0 * 2 ^ min (lRest 4) 32 % 4294967296)) ||| ((0 * 128 ||| r1 * 32768) ||| r2 * 1048576) ||| (fldN y 1 4 * 256 + fldN y 5 6 * 33554432 + fldN y 11 1 * 128 + fldN y 12 1 * 2147483648) = F + K * 4096 + 0 * 2 ^ lRest 4 % 4294967296 + 0 * 128 + r1 * 32768 + r2 * 1048576 + (fldN y 1 4 * 256 + fldN y 5 6 * 33554432 + fldN y 11 1 * 128 + fldN y 12 1 * 2147483648)
    have t : fldN y 1 4 * 256 + fldN y 5 6 * 33554432 + fldN y 11 1 * 128 + fldN y 12 1 * 2147483648 = ((fldN y 1 4 * 256 ||| fldN y 5 6 * 33554432) ||| fldN y 11 1 * 128) ||| fldN y 12 1 * 2147483648 := by
      rw [or_mul (fldN y 1 4 * 256) (fldN y 5 6) 25 6 33554432 (by decide) f (by omega), or_mul _ (fldN y 11 1) 7 1 128 (by decide) g (by omega), or_mul _ (fldN y 12 1) 31 1 2147483648 (by decide) i (by omega)]
    rw [Nat.zero_mul (2 ^ min (lRest 4) 32), Nat.zero_mod, Nat.or_zero, or_regs _ 0 r1 r2 (by omega) hr1 hr2 (by omega) (by omega) (by omega)]
    have u : (F + K * 4096 + 0 * 128 + r1 * 32768 + r2 * 1048576) ||| (fldN y 1 4 * 256 + fldN y 5 6 * 33554432 + fldN y 11 1 * 128 + fldN y 12 1 * 2147483648) = F + K * 4096 + 0 * 128 + r1 * 32768 + r2 * 1048576 + fldN y 1 4 * 256 + fldN y 5 6 * 33554432 + fldN y 11 1 * 128 + fldN y 12 1 * 2147483648 := by
      rw [t, ← Nat.or_assoc, ← Nat.or_assoc, ← Nat.or_assoc, or_mul _ (fldN y 1 4) 8 4 256 (by decide) e (by omega), or_mul _ (fldN y 5 6) 25 6 33554432 (by decide) f (by omega), or_mul _ (fldN y 11 1) 7 1 128 (by decide) g (by omega), or_mul _ (fldN y 12 1) 31 1 2147483648 (by decide) i (by omega)]
    rw [u]
    omega
  · have hr : R < 1 := hr
    have hz : R = 0 := by omega
    have hz1 : r1 = 0 := hr1d rfl
    have hz2 : r2 = 0 := hr2d rfl
    have hz3 : K = 0 := hkd rfl
    subst hz hz1 hz2 hz3
    show ((F + 0 * 4096) ||| (0 * 2 ^ min (lRest 5) 32 % 4294967296)) ||| ((rd * 128 ||| 0 * 32768) ||| 0 * 1048576) ||| fldN y 12 20 * 4096 = F + 0 * 4096 + 0 * 2 ^ lRest 5 % 4294967296 + rd * 128 + 0 * 32768 + 0 * 1048576 + fldN y 12 20 * 4096
    rw [Nat.zero_mul (2 ^ min (lRest 5) 32), Nat.zero_mod, Nat.or_zero, or_regs _ rd 0 0 hrd (by omega) (by omega) (by omega) (by omega) (by omega), or_mul _ _ 12 20 4096 (by decide) j (by omega)]
    omega
  · have hr : R < 1 := hr
    have hz : R = 0 := by omega
    have hz1 : r1 = 0 := hr1d rfl
    have hz2 : r2 = 0 := hr2d rfl
    have hz3 : K = 0 := hkd rfl
    subst hz hz1 hz2 hz3
    show ((F + 0 * 4096) ||| (0 * 2 ^ min (lRest 6) 32 % 4294967296)) ||| ((rd * 128 ||| 0 * 32768) ||| 0 * 1048576) ||| (fldN y 1 10 * 2097152 + fldN y 11 1 * 1048576 + fldN y 12 8 * 4096 + fldN y 20 1 * 2147483648) = F + 0 * 4096 + 0 * 2 ^ lRest 6 % 4294967296 + rd * 128 + 0 * 32768 + 0 * 1048576 + (fldN y 1 10 * 2097152 + fldN y 11 1 * 1048576 + fldN y 12 8 * 4096 + fldN y 20 1 * 2147483648)
    have t : fldN y 1 10 * 2097152 + fldN y 11 1 * 1048576 + fldN y 12 8 * 4096 + fldN y 20 1 * 2147483648 = ((fldN y 1 10 * 2097152 ||| fldN y 11 1 * 1048576) ||| fldN y 12 8 * 4096) ||| fldN y 20 1 * 2147483648 := by
      rw [or_mul (fldN y 1 10 * 2097152) (fldN y 11 1) 20 1 1048576 (by decide) g (by omega), or_mul _ (fldN y 12 8) 12 8 4096 (by decide) l (by omega), or_mul _ (fldN y 20 1) 31 1 2147483648 (by decide) m (by omega)]
    rw [Nat.zero_mul (2 ^ min (lRest 6) 32), Nat.zero_mod, Nat.or_zero, or_regs _ rd 0 0 hrd (by omega) (by omega) (by omega) (by omega) (by omega)]
    have u : (F + 0 * 4096 + rd * 128 + 0 * 32768 + 0 * 1048576) ||| (fldN y 1 10 * 2097152 + fldN y 11 1 * 1048576 + fldN y 12 8 * 4096 + fldN y 20 1 * 2147483648) = F + 0 * 4096 + rd * 128 + 0 * 32768 + 0 * 1048576 + fldN y 1 10 * 2097152 + fldN y 11 1 * 1048576 + fldN y 12 8 * 4096 + fldN y 20 1 * 2147483648 := by
      rw [t, ← Nat.or_assoc, ← Nat.or_assoc, ← Nat.or_assoc, or_mul _ (fldN y 1 10) 21 10 2097152 (by decide) k (by omega), or_mul _ (fldN y 11 1) 20 1 1048576 (by decide) g (by omega), or_mul _ (fldN y 12 8) 12 8 4096 (by decide) l (by omega), or_mul _ (fldN y 20 1) 31 1 2147483648 (by decide) m (by omega)]
    rw [u]
    omega
  · have hr : R < 33554432 := hr
    have hz0 : rd = 0 := hrdd rfl
    have hz1 : r1 = 0 := hr1d rfl
    have hz2 : r2 = 0 := hr2d rfl
    have hz3 : K = 0 := hkd rfl
    subst hz0 hz1 hz2 hz3
    show ((F + 0 * 4096) ||| (R * 128 % 4294967296)) ||| ((0 * 128 ||| 0 * 32768) ||| 0 * 1048576) ||| 0 = F + 0 * 4096 + R * 128 % 4294967296 + 0 * 128 + 0 * 32768 + 0 * 1048576 + 0
    rw [Nat.mod_eq_of_lt (by omega), or_mul _ R 7 25 128 (by decide) (by simpa using hr) (by omega)]
    simp
/-- what an instruction of operation n may be made of -/
theorem table_ok {n : Nat} (hn : n < 43) : opS n < 8 ∧ opF n < 128 ∧ opK n < 8 ∧ (lKd (opS n) = false → opK n = 0) ∧ opR n < 2 ^ (32 - lRest (opS n)) :=
  all43 (p := fun n => opS n < 8 ∧ opF n < 128 ∧ opK n < 8 ∧ (lKd (opS n) = false → opK n = 0) ∧ opR n < 2 ^ (32 - lRest (opS n))) (by decide +kernel) hn
theorem fitB_true {r : Int} {has : Bool} (h : fitB r has = true) : 0 ≤ r ∧ r < 32 ∧ (has = false → r = 0) := by
  unfold fitB regB at h
  cases has with
  | true => simp at h; exact ⟨h.1, h.2, fun h => by cases h⟩
  | false => simp at h; exact ⟨by omega, by omega, fun _ => h⟩
theorem may_parts {n : Nat} {rd r1 r2 imm : Int} (h : mayB n rd r1 r2 imm = true) : fitB rd (lRd (opS n)) = true ∧ fitB r1 (lR1 (opS n)) = true ∧ fitB r2 (lR2 (opS n)) = true ∧ numberI (spreadI imm (opS n)) (opS n) = imm := by
  unfold mayB at h
  simp only [Bool.and_eq_true, beq_iff_eq] at h
  exact ⟨h.1.1.1, h.1.1.2, h.1.2, h.2⟩
theorem may_fields {n : Nat} {rd r1 r2 imm : Int} (hn : n < 43) (h : mayB n rd r1 r2 imm = true) : FieldsOk (opS n) (opF n) (opK n) (opR n) rd.toNat r1.toNat r2.toNat := by
  obtain ⟨a, b, c, _⟩ := may_parts h
  obtain ⟨a0, a1, a2⟩ := fitB_true a
  obtain ⟨b0, b1, b2⟩ := fitB_true b
  obtain ⟨c0, c1, c2⟩ := fitB_true c
  obtain ⟨t0, t1, t2, t3, t4⟩ := table_ok hn
  exact ⟨t0, t1, t2, t3, t4, by omega, fun h => by have := a2 h; omega, by omega, fun h => by have := b2 h; omega, by omega, fun h => by have := c2 h; omega⟩
theorem encW_nat (F K R s rd r1 r2 : Nat) (imm : Int) (hF : F < 4294967296) (hK : K < 8) (h0 : rd < 32) (h1 : r1 < 32) (h2 : r2 < 32) (hs : s < 8) :
    encW F K R s rd r1 r2 imm = ((((F ||| K * 4096) ||| (R * 2 ^ min (lRest s) 32 % 4294967296)) ||| ((rd * 128 ||| r1 * 32768) ||| r2 * 1048576)) ||| spreadN s (wordN imm) : Nat) := by
  have lt (a b : Nat) (ha : a < 4294967296) (hb : b < 4294967296) : a ||| b < 4294967296 := Nat.or_lt_two_pow (n := 32) ha hb
  have hm : R * 2 ^ min (lRest s) 32 % 4294967296 < 4294967296 := Nat.mod_lt _ (by decide)
  have hsp := spreadN_lt s (wordN imm)
  have c1 : ((K : Int) * 4096 % 4294967296) = ((K * 4096 : Nat) : Int) := by omega
  have c2 : ((R : Int) * 2 ^ min (lRest s) 32 % 4294967296) = ((R * 2 ^ min (lRest s) 32 % 4294967296 : Nat) : Int) := by simp
  have c3 : ((rd : Int) % 4294967296 * 128 % 4294967296) = ((rd * 128 : Nat) : Int) := by omega
  have c4 : ((r1 : Int) % 4294967296 * 32768 % 4294967296) = ((r1 * 32768 : Nat) : Int) := by omega
  have c5 : ((r2 : Int) % 4294967296 * 1048576 % 4294967296) = ((r2 * 1048576 : Nat) : Int) := by omega
  unfold encW
  rw [c1, c2, c3, c4, c5, spreadI_lit imm hs]
  have l1 : F ||| K * 4096 < 4294967296 := lt _ _ hF (by omega)
  have l2 := lt _ _ l1 hm
  have l3 : rd * 128 ||| r1 * 32768 < 4294967296 := lt _ _ (by omega) (by omega)
  have l4 : (rd * 128 ||| r1 * 32768) ||| r2 * 1048576 < 4294967296 := lt _ _ l3 (by omega)
  rw [u32_or_nat _ _ hF (by omega), u32_or_nat _ _ l1 hm, u32_or_nat _ _ (by omega) (by omega), u32_or_nat _ _ l3 (by omega), u32_or_nat _ _ l2 l4, u32_or_nat _ _ (lt _ _ l2 l4) hsp]
theorem encI_sum {n : Nat} {rd r1 r2 imm : Int} (hn : n < 43) (h : mayB n rd r1 r2 imm = true) : encI n rd r1 r2 imm = (encN (opS n) (opF n) (opK n) (opR n) rd.toNat r1.toNat r2.toNat (wordN imm) : Nat) := by
  have hf := may_fields hn h
  obtain ⟨a, b, c, _⟩ := may_parts h
  obtain ⟨a0, a1, _⟩ := fitB_true a
  obtain ⟨b0, b1, _⟩ := fitB_true b
  obtain ⟨c0, c1, _⟩ := fitB_true c
  unfold encI
  rw [← or_sum _ hf, ← encW_nat _ _ _ _ _ _ _ imm (by have := hf.ff; omega) hf.fk hf.frd hf.fr1 hf.fr2 hf.fs, Int.toNat_of_nonneg a0, Int.toNat_of_nonneg b0, Int.toNat_of_nonneg c0]
end Go.Proofs.YthmjelkckamkdaaDoor
