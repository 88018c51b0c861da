/- Layer 2, plain mathematics: what is read of an instruction's word is what was put there. -/
import Derived.Test.YthmjelkckamkdaaDoorInsSum
namespace Go.Proofs.YthmjelkckamkdaaDoor
set_option linter.unusedVariables false

def EncBack (s F K R rd r1 r2 y w : Nat) : Prop :=
  w < 4294967296 ∧ w % 128 = F ∧ (lKd s = true → w / 4096 % 8 = K) ∧ w / 2 ^ lRest s % 2 ^ (32 - lRest s) = R ∧ (lRd s = true → w / 128 % 32 = rd) ∧ (lR1 s = true → w / 32768 % 32 = r1) ∧ (lR2 s = true → w / 1048576 % 32 = r2) ∧ numberN s w = numberN s (spreadN s y)
theorem nN0 (v : Nat) : numberN 0 v = 0 := by simp [numberN]
theorem nN1 (v : Nat) : numberN 1 v = fldN v 20 12 := by simp [numberN]
theorem nN2 (v : Nat) : numberN 2 v = fldN v 20 6 := by simp [numberN]
theorem nN5 (v : Nat) : numberN 5 v = fldN v 12 20 * 4096 := by simp [numberN]
theorem nN7 (v : Nat) : numberN 7 v = 0 := by simp [numberN]
theorem sN1 (y : Nat) : spreadN 1 y = fldN y 0 12 * 1048576 := by simp [spreadN]
theorem sN2 (y : Nat) : spreadN 2 y = fldN y 0 6 * 1048576 := by simp [spreadN]
theorem sN5 (y : Nat) : spreadN 5 y = fldN y 12 20 * 4096 := by simp [spreadN]
theorem fldN_at {w q m : Nat} (f n : Nat) (hf : 2 ^ f = m) (hq : q < 2 ^ n) (h : w / m % 2 ^ n = q) : fldN w f n = fldN (q * m) f n := by
  subst hf
  unfold fldN
  rw [h, Nat.mul_div_cancel _ (Nat.two_pow_pos f), Nat.mod_eq_of_lt hq]
/-- shape B: the number's parts, in the word and alone -/
theorem parts4 {F K r1 r2 a b c d w : Nat} (hF : F < 128) (hK : K < 8) (h1 : r1 < 32) (h2 : r2 < 32) (ha : a < 16) (hb : b < 64) (hc : c < 2) (hd : d < 2) (hw : F + K * 4096 + r1 * 32768 + r2 * 1048576 + (a * 256 + b * 33554432 + c * 128 + d * 2147483648) = w) :
    w < 4294967296 ∧ w % 128 = F ∧ w / 4096 % 8 = K ∧ w / 32768 % 32 = r1 ∧ w / 1048576 % 32 = r2 ∧ w / 256 % 16 = a ∧ w / 33554432 % 64 = b ∧ w / 128 % 2 = c ∧ w / 2147483648 % 2 = d := by
  subst hw
  refine ⟨by omega, by omega, by omega, by omega, by omega, by omega, by omega, by omega, by omega⟩
/-- shape J -/
theorem parts6 {F rd a b c d w : Nat} (hF : F < 128) (h1 : rd < 32) (ha : a < 1024) (hb : b < 2) (hc : c < 256) (hd : d < 2) (hw : F + rd * 128 + (a * 2097152 + b * 1048576 + c * 4096 + d * 2147483648) = w) :
    w < 4294967296 ∧ w % 128 = F ∧ w / 128 % 32 = rd ∧ w / 2097152 % 1024 = a ∧ w / 1048576 % 2 = b ∧ w / 4096 % 256 = c ∧ w / 2147483648 % 2 = d := by
  subst hw
  refine ⟨by omega, by omega, by omega, by omega, by omega, by omega, by omega⟩
theorem enc_back0 {F K R rd r1 r2 : Nat} (y : Nat) (h : FieldsOk 0 F K R rd r1 r2) : EncBack 0 F K R rd r1 r2 y (encN 0 F K R rd r1 r2 y) := by
  obtain ⟨hs, hf, hk, hkd, hr, hrd, hrdd, hr1, hr1d, hr2, hr2d⟩ := h
  unfold EncBack
  have hr : R < 128 := hr
  generalize hw : encN 0 F K R rd r1 r2 y = w
  have hw : F + K * 4096 + R * 33554432 % 4294967296 + rd * 128 + r1 * 32768 + r2 * 1048576 + 0 = w := hw
  exact ⟨by omega, by omega, fun _ => by omega, by show w / 33554432 % 128 = R; omega, fun _ => by omega, fun _ => by omega, fun _ => by omega, by rw [nN0, nN0]⟩
theorem enc_back1 {F K R rd r1 r2 : Nat} (y : Nat) (h : FieldsOk 1 F K R rd r1 r2) : EncBack 1 F K R rd r1 r2 y (encN 1 F K R rd r1 r2 y) := by
  obtain ⟨hs, hf, hk, hkd, hr, hrd, hrdd, hr1, hr1d, hr2, hr2d⟩ := h
  have a := fldN_lt2 y 0 12
  unfold EncBack
  have hr : R < 1 := hr
  have hz : R = 0 := by omega
  have hz2 : r2 = 0 := hr2d rfl
  generalize hw : encN 1 F K R rd r1 r2 y = w
  have hw : F + K * 4096 + R * 4294967296 % 4294967296 + rd * 128 + r1 * 32768 + r2 * 1048576 + fldN y 0 12 * 1048576 = w := hw
  exact ⟨by omega, by omega, fun _ => by omega, by show w / 4294967296 % 1 = R; omega, fun _ => by omega, fun _ => by omega, (fun h => by cases h), by rw [nN1, nN1, sN1]; exact fldN_at 20 12 (by decide) a (by omega)⟩
theorem enc_back2 {F K R rd r1 r2 : Nat} (y : Nat) (h : FieldsOk 2 F K R rd r1 r2) : EncBack 2 F K R rd r1 r2 y (encN 2 F K R rd r1 r2 y) := by
  obtain ⟨hs, hf, hk, hkd, hr, hrd, hrdd, hr1, hr1d, hr2, hr2d⟩ := h
  have b := fldN_lt2 y 0 6
  unfold EncBack
  have hr : R < 64 := hr
  have hz2 : r2 = 0 := hr2d rfl
  generalize hw : encN 2 F K R rd r1 r2 y = w
  have hw : F + K * 4096 + R * 67108864 % 4294967296 + rd * 128 + r1 * 32768 + r2 * 1048576 + fldN y 0 6 * 1048576 = w := hw
  exact ⟨by omega, by omega, fun _ => by omega, by show w / 67108864 % 64 = R; omega, fun _ => by omega, fun _ => by omega, (fun h => by cases h), by rw [nN2, nN2, sN2]; exact fldN_at 20 6 (by decide) b (by omega)⟩
theorem enc_back3 {F K R rd r1 r2 : Nat} (y : Nat) (h : FieldsOk 3 F K R rd r1 r2) : EncBack 3 F K R rd r1 r2 y (encN 3 F K R rd r1 r2 y) := by
  obtain ⟨hs, hf, hk, hkd, hr, hrd, hrdd, hr1, hr1d, hr2, hr2d⟩ := h
  have c := fldN_lt2 y 0 5
  have d := fldN_lt2 y 5 7
  unfold EncBack
  have hr : R < 1 := hr
  have hz : R = 0 := by omega
  have hz2 : rd = 0 := hrdd rfl
  generalize hw : encN 3 F K R rd r1 r2 y = w
  have hw : F + K * 4096 + R * 4294967296 % 4294967296 + rd * 128 + r1 * 32768 + r2 * 1048576 + (fldN y 0 5 * 128 + fldN y 5 7 * 33554432) = w := hw
  exact ⟨by omega, by omega, fun _ => by omega, by show w / 4294967296 % 1 = R; omega, (fun h => by cases h), fun _ => by omega, fun _ => by omega,
    by show w / 128 % 32 + w / 33554432 % 128 * 32 = (fldN y 0 5 * 128 + fldN y 5 7 * 33554432) / 128 % 32 + (fldN y 0 5 * 128 + fldN y 5 7 * 33554432) / 33554432 % 128 * 32; omega⟩
theorem enc_back4 {F K R rd r1 r2 : Nat} (y : Nat) (h : FieldsOk 4 F K R rd r1 r2) : EncBack 4 F K R rd r1 r2 y (encN 4 F K R rd r1 r2 y) := by
  obtain ⟨hs, hf, hk, hkd, hr, hrd, hrdd, hr1, hr1d, hr2, hr2d⟩ := h
  have e := fldN_lt2 y 1 4
  have f := fldN_lt2 y 5 6
  have g := fldN_lt2 y 11 1
  have i := fldN_lt2 y 12 1
  unfold EncBack
  have hr : R < 1 := hr
  have hz : R = 0 := by omega
  have hz2 : rd = 0 := hrdd rfl
  subst hz hz2
  have t := parts4 hf hk hr1 hr2 e f g i (w := encN 4 F K 0 0 r1 r2 y) (by show _ = F + K * 4096 + 0 * 4294967296 % 4294967296 + 0 * 128 + r1 * 32768 + r2 * 1048576 + (fldN y 1 4 * 256 + fldN y 5 6 * 33554432 + fldN y 11 1 * 128 + fldN y 12 1 * 2147483648); omega)
  have u := parts4 (F := 0) (K := 0) (r1 := 0) (r2 := 0) (by omega) (by omega) (by omega) (by omega) e f g i (w := spreadN 4 y) (by show _ = fldN y 1 4 * 256 + fldN y 5 6 * 33554432 + fldN y 11 1 * 128 + fldN y 12 1 * 2147483648; omega)
  generalize encN 4 F K 0 0 r1 r2 y = w at t
  generalize spreadN 4 y = p at u
  obtain ⟨t0, t1, t2, t3, t4, t5, t6, t7, t8⟩ := t
  obtain ⟨u0, u1, u2, u3, u4, u5, u6, u7, u8⟩ := u
  refine ⟨t0, t1, fun _ => t2, by show w / 4294967296 % 1 = 0; exact Nat.mod_one _, (fun h => by cases h), fun _ => t3, fun _ => t4, ?_⟩
  show w / 256 % 16 * 2 + w / 33554432 % 64 * 32 + w / 128 % 2 * 2048 + w / 2147483648 % 2 * 4096 = p / 256 % 16 * 2 + p / 33554432 % 64 * 32 + p / 128 % 2 * 2048 + p / 2147483648 % 2 * 4096
  rw [t5, t6, t7, t8, u5, u6, u7, u8]
theorem enc_back5 {F K R rd r1 r2 : Nat} (y : Nat) (h : FieldsOk 5 F K R rd r1 r2) : EncBack 5 F K R rd r1 r2 y (encN 5 F K R rd r1 r2 y) := by
  obtain ⟨hs, hf, hk, hkd, hr, hrd, hrdd, hr1, hr1d, hr2, hr2d⟩ := h
  have j := fldN_lt2 y 12 20
  unfold EncBack
  have hr : R < 1 := hr
  have hz : R = 0 := by omega
  have hz1 : r1 = 0 := hr1d rfl
  have hz2 : r2 = 0 := hr2d rfl
  have hz3 : K = 0 := hkd rfl
  generalize hw : encN 5 F K R rd r1 r2 y = w
  have hw : F + K * 4096 + R * 4294967296 % 4294967296 + rd * 128 + r1 * 32768 + r2 * 1048576 + fldN y 12 20 * 4096 = w := hw
  exact ⟨by omega, by omega, (fun h => by cases h), by show w / 4294967296 % 1 = R; omega, fun _ => by omega, (fun h => by cases h), (fun h => by cases h), by show w / 4096 % 1048576 * 4096 = fldN y 12 20 * 4096 / 4096 % 1048576 * 4096; omega⟩
theorem enc_back6 {F K R rd r1 r2 : Nat} (y : Nat) (h : FieldsOk 6 F K R rd r1 r2) : EncBack 6 F K R rd r1 r2 y (encN 6 F K R rd r1 r2 y) := by
  obtain ⟨hs, hf, hk, hkd, hr, hrd, hrdd, hr1, hr1d, hr2, hr2d⟩ := h
  have k := fldN_lt2 y 1 10
  have g := fldN_lt2 y 11 1
  have l := fldN_lt2 y 12 8
  have m := fldN_lt2 y 20 1
  unfold EncBack
  have hr : R < 1 := hr
  have hz : R = 0 := by omega
  have hz1 : r1 = 0 := hr1d rfl
  have hz2 : r2 = 0 := hr2d rfl
  have hz3 : K = 0 := hkd rfl
  subst hz hz1 hz2 hz3
  have t := parts6 hf hrd k g l m (w := encN 6 F 0 0 rd 0 0 y) (by show _ = F + 0 * 4096 + 0 * 4294967296 % 4294967296 + rd * 128 + 0 * 32768 + 0 * 1048576 + (fldN y 1 10 * 2097152 + fldN y 11 1 * 1048576 + fldN y 12 8 * 4096 + fldN y 20 1 * 2147483648); omega)
  have u := parts6 (F := 0) (rd := 0) (by omega) (by omega) k g l m (w := spreadN 6 y) (by show _ = fldN y 1 10 * 2097152 + fldN y 11 1 * 1048576 + fldN y 12 8 * 4096 + fldN y 20 1 * 2147483648; omega)
  generalize encN 6 F 0 0 rd 0 0 y = w at t
  generalize spreadN 6 y = p at u
  obtain ⟨t0, t1, t2, t3, t4, t5, t6⟩ := t
  obtain ⟨u0, u1, u2, u3, u4, u5, u6⟩ := u
  refine ⟨t0, t1, (fun h => by cases h), by show w / 4294967296 % 1 = 0; exact Nat.mod_one _, fun _ => t2, (fun h => by cases h), (fun h => by cases h), ?_⟩
  show w / 2097152 % 1024 * 2 + w / 1048576 % 2 * 2048 + w / 4096 % 256 * 4096 + w / 2147483648 % 2 * 1048576 = p / 2097152 % 1024 * 2 + p / 1048576 % 2 * 2048 + p / 4096 % 256 * 4096 + p / 2147483648 % 2 * 1048576
  rw [t3, t4, t5, t6, u3, u4, u5, u6]
theorem enc_back7 {F K R rd r1 r2 : Nat} (y : Nat) (h : FieldsOk 7 F K R rd r1 r2) : EncBack 7 F K R rd r1 r2 y (encN 7 F K R rd r1 r2 y) := by
  obtain ⟨hs, hf, hk, hkd, hr, hrd, hrdd, hr1, hr1d, hr2, hr2d⟩ := h
  unfold EncBack
  have hr : R < 33554432 := hr
  have hz0 : rd = 0 := hrdd rfl
  have hz1 : r1 = 0 := hr1d rfl
  have hz2 : r2 = 0 := hr2d rfl
  have hz3 : K = 0 := hkd rfl
  generalize hw : encN 7 F K R rd r1 r2 y = w
  have hw : F + K * 4096 + R * 128 % 4294967296 + rd * 128 + r1 * 32768 + r2 * 1048576 + 0 = w := hw
  exact ⟨by omega, by omega, (fun h => by cases h), by show w / 128 % 33554432 = R; omega, (fun h => by cases h), (fun h => by cases h), (fun h => by cases h), by rw [nN7, nN7]⟩
theorem enc_back {s F K R rd r1 r2 : Nat} (y : Nat) (h : FieldsOk s F K R rd r1 r2) : EncBack s F K R rd r1 r2 y (encN s F K R rd r1 r2 y) := by
  have hs := h.fs
  obtain rfl | rfl | rfl | rfl | rfl | rfl | rfl | rfl : s = 0 ∨ s = 1 ∨ s = 2 ∨ s = 3 ∨ s = 4 ∨ s = 5 ∨ s = 6 ∨ s = 7 := by omega
  · exact enc_back0 y h
  · exact enc_back1 y h
  · exact enc_back2 y h
  · exact enc_back3 y h
  · exact enc_back4 y h
  · exact enc_back5 y h
  · exact enc_back6 y h
  · exact enc_back7 y h

/-! ### what the program reads of a word that is an instruction's -/
theorem fld_lit (w f n : Nat) : fld (w : Int) (f : Int) (n : Int) = ((w / 2 ^ f % 2 ^ n : Nat) : Int) := rfl
theorem numberI_of (w w' s : Nat) (hs : s < 8) (h : numberN s w = numberN s w') : numberI (w : Int) s = numberI (w' : Int) s := by
  unfold numberI
  rw [numberK_nat, numberK_nat, number_lit s w hs, number_lit s w' hs, h]
theorem enc_read {n : Nat} {rd r1 r2 imm : Int} (hn : n < 43) (h : mayB n rd r1 r2 imm = true) :
    IsW (encI n rd r1 r2 imm) ∧ Match (encI n rd r1 r2 imm) n ∧ regI (encI n rd r1 r2 imm) 7 (lRd (opS n)) = rd ∧ regI (encI n rd r1 r2 imm) 15 (lR1 (opS n)) = r1 ∧ regI (encI n rd r1 r2 imm) 20 (lR2 (opS n)) = r2 ∧ numberI (encI n rd r1 r2 imm) (opS n) = imm := by
  have hf := may_fields hn h
  obtain ⟨a, b, c, d⟩ := may_parts h
  obtain ⟨a0, a1, a2⟩ := fitB_true a
  obtain ⟨b0, b1, b2⟩ := fitB_true b
  obtain ⟨c0, c1, c2⟩ := fitB_true c
  have hb := enc_back (wordN imm) hf
  rw [encI_sum hn h]
  generalize encN (opS n) (opF n) (opK n) (opR n) rd.toNat r1.toNat r2.toNat (wordN imm) = w at hb
  obtain ⟨h0, h1, h2, h3, h4, h5, h6, h7⟩ := hb
  have lr := lRest_bd hf.fs
  refine ⟨⟨by omega, by omega⟩, ⟨?_, ?_, ?_⟩, ?_, ?_, ?_, ?_⟩
  · show ((opF n : Nat) : Int) = ((w / 1 % 128 : Nat) : Int)
    rw [Nat.div_one, h1]
  · unfold tK
    cases e : lKd (opS n) with
    | true =>
      show ((opK n : Nat) : Int) = ((w / 4096 % 8 : Nat) : Int)
      rw [h2 e]
    | false => rw [hf.fkd e]; rfl
  · unfold tR
    rw [show (32 - (lRest (opS n) : Int)) = ((32 - lRest (opS n) : Nat) : Int) by omega, fld_lit, h3]
  · unfold regI
    cases e : lRd (opS n) with
    | true =>
      show ((w / 128 % 32 : Nat) : Int) = rd
      rw [h4 e]; omega
    | false => exact (a2 e).symm
  · unfold regI
    cases e : lR1 (opS n) with
    | true =>
      show ((w / 32768 % 32 : Nat) : Int) = r1
      rw [h5 e]; omega
    | false => exact (b2 e).symm
  · unfold regI
    cases e : lR2 (opS n) with
    | true =>
      show ((w / 1048576 % 32 : Nat) : Int) = r2
      rw [h6 e]; omega
    | false => exact (c2 e).symm
  · rw [numberI_of w _ _ hf.fs h7, ← spreadI_lit imm hf.fs]
    exact d
end Go.Proofs.YthmjelkckamkdaaDoor
