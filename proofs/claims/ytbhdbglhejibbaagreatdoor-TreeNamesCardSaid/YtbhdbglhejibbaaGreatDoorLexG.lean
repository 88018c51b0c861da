/- Layer 9: the reference's Digits. No condition. -/
import Derived.Test.YtbhdbglhejibbaaGreatDoorLexF
namespace Go.Proofs.YtbhdbglhejibbaaGreatDoor
set_option maxRecDepth 100000
open Go.RowKit Go.Sort
set_option linter.unusedVariables false
set_option maxHeartbeats 2000000 in
theorem rdigits_any (u : Nat) (hu64 : u < 18446744073709551616) (w : World) :
    Calls Tryz.prog 25 #[.int .u64 u] w fun e w' => e = .returned (.string ⟨(Lib.decDigits u).toArray⟩) ∧ Below w.heap.size w w' := by
  have HU := Lib.hid hu64
  have hu0 : (0 : Int) ≤ (u : Int) := by omega
  have hu1 : (u : Int) ≤ 18446744073709551615 := by omega
  go_enter Tryz.func25, Tryz.ntmps25
  go_wp2
  go_loopw [0, 3] (fun x t wr => ∃ (n : Nat) (l : List UInt8), n ≤ u ∧ x = .int .u64 n ∧ t = .string ⟨l.toArray⟩ ∧ Hid (Lib.decDigits u = Lib.decDigits n ++ l) ∧ Hid (Below w.heap.size w wr)) (fun x _ _ => (intOf x).toNat + 1)
  case atStart => exact ⟨u, [], by omega, rfl, rfl, Lib.hid (by simp), Lib.hid (Below.refl _ _)⟩
  case round =>
    obtain ⟨n, l, hn, rfl, rfl, HL, HB⟩ := hrel
    have hll : l.length ≤ 20 := by
      have h1 := (dec_len64 HU.out).2
      rw [HL.out, List.length_append] at h1; omega
    obtain ⟨c, hc⟩ : ∃ c : UInt8, c = UInt8.ofNat (48 + n % 10) := ⟨_, rfl⟩
    have HC := Lib.hid hc
    have hcn : (c.toNat : Int) = 48 + (n : Int) % 10 := by rw [hc, u8_digit (by omega)]; simp
    have hcv : (convert 91 9 (.slice (some ⟨wr.heap.size, 0, none⟩) 1 1)).run Tryz.prog (wr.alloc (.cells #[.int .u8 (48 + (n : Int) % 10)] 5)) = .ok (.string ⟨#[c]⟩) (wr.alloc (.cells #[.int .u8 (48 + (n : Int) % 10)] 5)) :=
      run_convert_bytes_back (P := Tryz.prog) (wr.alloc (.cells #[.int .u8 (48 + (n : Int) % 10)] 5)) 91 9 5 ⟨wr.heap.size, 0, none⟩ 1 [c] Tryz.underlying91 Tryz.underlying5 Tryz.underlying9 (fun j hj => by
        have hj0 : j = 0 := by simpa using hj
        subst hj0
        rw [Lib.add_plain, World.cell?_alloc_new, List.getElem_cons_zero, hcn]
        simp)
    have HBa := Lib.hid (HB.out.trans (((Below.refl _ wr).alloc (Nat.le_refl _) (.cells #[.int .u8 (48 + (n : Int) % 10)] 5)).mono HB.out.size))
    have HCat := Lib.hid (show (⟨#[c]⟩ : ByteArray) ++ ⟨l.toArray⟩ = ⟨(c :: l).toArray⟩ from by
      apply ByteArray.ext; simp [ByteArray.data_append])
    clear hc hcn
    go_wp2
    · have hz : n / 10 = 0 := by
        have h : ((n : Int) / 10 == 0) = true := by assumption
        rw [beq_iff_eq] at h; omega
      go_ret
      refine ⟨?_, HBa.out⟩
      rw [HCat.out, HL.out, HC.out, Lib.decDigits_one (show n < 10 by omega), show n % 10 = n by omega]
      rfl
    · have hz : ¬ n / 10 = 0 := by
        have h : ((n : Int) / 10 == 0) = false := by assumption
        rw [beq_eq_false_iff_ne] at h; omega
      go_roundw
      case rel => exact ⟨n / 10, c :: l, by omega, by go_num, by rw [HCat.out], Lib.hid (by rw [HL.out, decDigits_big (show ¬ n < 10 by omega), HC.out]; simp), HBa⟩
      case measure => simp [intOf]; omega
end Go.Proofs.YtbhdbglhejibbaaGreatDoor
