/- The walk of the statement LexNumber: it returns true, and writes nothing that was there. -/
import Derived.Test.YtlkpfblpofjekaaDoorLexN
namespace Go.Proofs.YtlkpfblpofjekaaDoor.LexNumberWalk
set_option maxRecDepth 100000
open Go.RowKit Go.Sort
set_option linter.unusedVariables false
theorem num_dec {u : Nat} (h : u < 18446744073709551616) : numV ⟨(Lib.decDigits u).toArray⟩ = u ∧ numB ⟨(Lib.decDigits u).toArray⟩ = true := by
  unfold numV numB
  rw [show (⟨(Lib.decDigits u).toArray⟩ : ByteArray).data.toList = Lib.decDigits u from by simp, numP_dec h]
  exact ⟨rfl, rfl⟩
theorem cat_zero (l : List UInt8) : (⟨#[48]⟩ : ByteArray) ++ ⟨l.toArray⟩ = ⟨(48 :: l).toArray⟩ := by
  apply ByteArray.ext; simp [ByteArray.data_append]
theorem num_ahead (u : Nat) : numV ⟨(48 :: Lib.decDigits u).toArray⟩ = 0 ∧ numB ⟨(48 :: Lib.decDigits u).toArray⟩ = false := by
  unfold numV numB
  rw [show (⟨(48 :: Lib.decDigits u).toArray⟩ : ByteArray).data.toList = 48 :: Lib.decDigits u from by simp, dec_ahead u]
  exact ⟨rfl, rfl⟩
theorem num_beyond : numB ⟨#[49, 56, 52, 52, 54, 55, 52, 52, 48, 55, 51, 55, 48, 57, 53, 53, 49, 54, 49, 54]⟩ = false := by
  unfold numB
  rw [show (⟨#[49, 56, 52, 52, 54, 55, 52, 52, 48, 55, 51, 55, 48, 57, 53, 53, 49, 54, 49, 54]⟩ : ByteArray).data.toList = [49, 56, 52, 52, 54, 55, 52, 52, 48, 55, 51, 55, 48, 57, 53, 53, 49, 54, 49, 54] from rfl, numP_beyond]
  rfl
theorem digs_size (u : Nat) : (⟨(Lib.decDigits u).toArray⟩ : ByteArray).size = (Lib.decDigits u).length := by simp [ByteArray.size]
set_option maxHeartbeats 4000000 in
theorem walkN (u : Nat) (hu : u < 18446744073709551616) (w : World) (hT : LxT w) :
    Calls Tryd.prog 7 #[.int .u64 u] w fun e w' => e = .returned (.bool true) ∧ Below w.heap.size w w' := by
  have HT := Lib.hid hT
  have HU := Lib.hid hu
  have HAw := Lib.hid (awake_yes w hT)
  obtain ⟨l, hl⟩ : ∃ l, l = Lib.decDigits u := ⟨_, rfl⟩
  have HL := Lib.hid hl
  have hlen := dec_len64 hu
  rw [← hl] at hlen
  have h1 : 1 ≤ l.length := hlen.1
  have h2 : l.length ≤ 20 := hlen.2
  have hn0 : (0 : Int) ≤ (u : Int) := by omega
  clear hT hl hu hlen
  go_enter Tryd.func7, Tryd.ntmps7
  go_wp2_with fail
  refine HAw.out.mono ?_
  rintro e w1 ⟨rfl, hb1⟩
  have HB1 := Lib.hid hb1
  have HD := Lib.hid (digits_any u HU.out w1 (HT.out.below hb1))
  rw [← HL.out] at HD
  clear hb1 HAw
  go_wp2_with fail
  refine HD.out.mono ?_
  rintro e w2 ⟨rfl, hb2⟩
  have HB2 := Lib.hid (HB1.out.trans (hb2.mono HB1.out.size))
  have HN := Lib.hid (number_any ⟨l.toArray⟩ (by rw [HL.out, digs_size]; have := (dec_len64 HU.out).2; omega) w2 (HT.out.below HB2.out))
  clear hb2 HD
  go_wp2_with fail
  refine HN.out.mono ?_
  rintro e w3 ⟨rfl, hb3⟩
  rw [show numV ⟨l.toArray⟩ = u from by rw [HL.out]; exact (num_dec HU.out).1, show numB ⟨l.toArray⟩ = true from by rw [HL.out]; exact (num_dec HU.out).2]
  have HB3 := Lib.hid (HB2.out.trans (hb3.mono HB2.out.size))
  clear hb3 HN
  go_wp2_with fail
  rw [cat_zero]
  have HN := Lib.hid (number_any ⟨(48 :: l).toArray⟩ (by simp [ByteArray.size]; omega) w3 (HT.out.below HB3.out))
  refine HN.out.mono ?_
  rintro e w4 ⟨rfl, hb4⟩
  rw [show numV ⟨(48 :: l).toArray⟩ = 0 from by rw [HL.out]; exact (num_ahead u).1, show numB ⟨(48 :: l).toArray⟩ = false from by rw [HL.out]; exact (num_ahead u).2]
  have HB4 := Lib.hid (HB3.out.trans (hb4.mono HB3.out.size))
  clear hb4 HN
  by_cases he : u = 18446744073709551615
  · have hbe : ((u : Int) == 18446744073709551615) = true := by rw [he]; rfl
    have HN := Lib.hid (number_any ⟨#[49, 56, 52, 52, 54, 55, 52, 52, 48, 55, 51, 55, 48, 57, 53, 53, 49, 54, 49, 54]⟩ (by decide) w4 (HT.out.below HB4.out))
    clear he
    go_wp2_with fail
    refine HN.out.mono ?_
    rintro e w5 ⟨rfl, hb5⟩
    rw [num_beyond]
    have HB5 := Lib.hid (HB4.out.trans (hb5.mono HB4.out.size))
    clear hb5
    go_wp2
    go_ret
    exact ⟨rfl, HB5.out⟩
  · have hbe : ((u : Int) == 18446744073709551615) = false := by rw [beq_eq_false_iff_ne]; omega
    have hu1 : (u : Int) + 1 ≤ 18446744073709551615 := by have := HU.out; omega
    have hu2 : u + 1 < 18446744073709551616 := by have := HU.out; omega
    have HE := Lib.hid (show (u : Int) + 1 = ((u + 1 : Nat) : Int) from by omega)
    have HD := Lib.hid (digits_any (u + 1) hu2 w4 (HT.out.below HB4.out))
    have HS := Lib.hid (dec_len_step u)
    have HNe := Lib.hid (show Lib.decDigits (u + 1) ≠ l from fun e => by rw [HL.out] at e; have := dec_inj hu2 HU.out e; omega)
    rw [← HL.out] at HS
    generalize Lib.decDigits (u + 1) = m at *
    have hwr : IntKind.u64.wrap ((u : Int) + 1) = (u : Int) + 1 := by rw [IntKind.wrap_u64]; omega
    clear he hu2 hu1
    go_wp2_with fail
    rw [HE.out]
    refine HD.out.mono ?_
    rintro e w5 ⟨rfl, hb5⟩
    have HB5 := Lib.hid (HB4.out.trans (hb5.mono HB4.out.size))
    have hm1 : (m == l) = false := by simpa using HNe.out
    have hm2 : (m != l) = true := by simpa using HNe.out
    clear hb5
    rcases HS.out with h | h
    · have h1 : ((m.length : Int) == (l.length : Int)) = true := by rw [h]; simp
      clear h
      go_wp2
      go_ret
      exact ⟨rfl, HB5.out⟩
    · have h1 : ((m.length : Int) == (l.length : Int)) = false := by rw [h, beq_eq_false_iff_ne]; omega
      have h2 : ((m.length : Int) == (l.length : Int) + 1) = true := by rw [h]; simp
      clear h
      go_wp2
      go_ret
      exact ⟨rfl, HB5.out⟩
theorem walk (a0 : Int) (w : World) (w0 : (Lit.int .u64 a0).wf = true) (hT : LxT w) :
    Calls Tryd.prog 7 #[.int .u64 a0] w fun e w' => e = .returned (.bool true) ∧ Below w.heap.size w w' := by
  have hb := bounds_u64 w0
  obtain ⟨u, rfl⟩ : ∃ u : Nat, a0 = u := ⟨a0.toNat, by omega⟩
  exact walkN u (by omega) w hT
end Go.Proofs.YtlkpfblpofjekaaDoor.LexNumberWalk
