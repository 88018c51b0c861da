/- The walk of the statement InsBranches: it returns true, and writes nothing that was there. Condition: the two tables of package ins read as they should. -/
import Derived.Test.YtkcimpfbeghfkaaDoorInsAwake
import Derived.Test.YtkcimpfbeghfkaaDoorInsNum
import Derived.Test.YtkcimpfbeghfkaaDoorInsLaid
import Derived.OpenShut
namespace Go.Proofs.YtkcimpfbeghfkaaDoor.InsBranchesWalk
open Go.RowKit
set_option linter.unusedVariables false
theorem opS34 : opS 34 = 4 := rfl
theorem may34 {r1 r2 n : Int} (h1 : 0 ≤ r1) (h2 : r1 < 32) (h3 : 0 ≤ r2) (h4 : r2 < 32) (hn : IsI n) : mayB 34 0 r1 r2 n = true ↔ (-4096 ≤ n ∧ n ≤ 4094 ∧ n % 2 = 0) := by
  have hk := num_ok n hn (s := 4) (by decide)
  have g : NumOk 4 n = (-4096 ≤ n ∧ n ≤ 4094 ∧ n % 2 = 0) := rfl
  rw [← g, ← hk]
  unfold mayB
  rw [opS34]
  have e0 : fitB 0 (lRd 4) = true := rfl
  have e1 : fitB r1 (lR1 4) = true := by show regB r1 = true; unfold regB; simp; omega
  have e2 : fitB r2 (lR2 4) = true := by show regB r2 = true; unfold regB; simp; omega
  rw [e0, e1, e2]
  simp
theorem word34 {r1 r2 n : Int} (h : mayB 34 0 r1 r2 n = true) (hn : -4096 ≤ n ∧ n ≤ 4094 ∧ n % 2 = 0) : 0 ≤ encI 34 0 r1 r2 n ∧ encI 34 0 r1 r2 n < 4294967296 ∧ encI 34 0 r1 r2 n / 256 % 16 * 2 + encI 34 0 r1 r2 n / 33554432 % 64 * 32 + encI 34 0 r1 r2 n / 128 % 2 * 2048 - encI 34 0 r1 r2 n / 2147483648 * 4096 = n := by
  have hb := enc_back (wordN n) (may_fields (by decide) h)
  have hw := wordN_eq n
  rw [encI_sum (by decide) h]
  generalize encN (opS 34) (opF 34) (opK 34) (opR 34) (0 : Int).toNat r1.toNat r2.toNat (wordN n) = w at hb
  obtain ⟨w0, _, _, _, _, _, _, h7⟩ := hb
  rw [opS34] at h7
  have e := back_lit 4 (wordN n) (by decide)
  rw [e] at h7
  have e2 : numberN 4 w = w / 256 % 16 * 2 + w / 33554432 % 64 * 32 + w / 128 % 2 * 2048 + w / 2147483648 % 2 * 4096 := by simp [numberN, fldN]
  have e3 : backN 4 (wordN n) = wordN n % 8192 / 2 * 2 := by simp [backN]
  rw [e2, e3] at h7
  refine ⟨by omega, by omega, ?_⟩
  have c1 : ((w : Int) / 256 % 16) = ((w / 256 % 16 : Nat) : Int) := by omega
  have c2 : ((w : Int) / 33554432 % 64) = ((w / 33554432 % 64 : Nat) : Int) := by omega
  have c3 : ((w : Int) / 128 % 2) = ((w / 128 % 2 : Nat) : Int) := by omega
  have c4 : ((w : Int) / 2147483648) = ((w / 2147483648 % 2 : Nat) : Int) := by omega
  rw [c1, c2, c3, c4]
  generalize w / 256 % 16 = x1 at *
  generalize w / 33554432 % 64 = x2 at *
  have y3 : w / 128 % 2 < 2 := Nat.mod_lt _ (by decide)
  generalize w / 128 % 2 = x3 at *
  have y4 : w / 2147483648 % 2 < 2 := Nat.mod_lt _ (by decide)
  generalize w / 2147483648 % 2 = x4 at *
  omega
set_option maxHeartbeats 1000000 in
theorem walk_ok (n a b : Int) (w : World) (hT : Tabs w) (a0 : 0 ≤ a) (a1 : a ≤ 255) (b0 : 0 ≤ b) (b1 : b ≤ 255) (hn : -4096 ≤ n ∧ n ≤ 4094 ∧ n % 2 = 0) :
    Calls Tryd.prog 8 #[.int .i32 n, .int .u8 a, .int .u8 b] w fun e w' => e = .returned (.bool true) ∧ Below w.heap.size w w' := by
  have hM := (may34 (r1 := a % 32) (r2 := b % 32) (n := n) (by omega) (by omega) (by omega) (by omega) ⟨by omega, by omega⟩).2 hn
  obtain ⟨v0, v1, v2⟩ := word34 hM hn
  have HE (w : World) (hT : Tabs w) := encode_yes 34 0 (a % 32) (b % 32) n w (by decide) hT awI0 ⟨by omega, by omega⟩ ⟨by omega, by omega⟩ hM
  unfold insA at HE
  have HE2 := Lib.hid HE
  have HT := Lib.hid hT
  have HV := Lib.hid v2
  obtain ⟨n0, n1, n2⟩ := hn
  have HN := Lib.hid n2
  have t2 : n.tmod 2 = 0 := Int.tmod_eq_zero_of_dvd (Int.dvd_of_emod_eq_zero n2)
  generalize encI 34 0 (a % 32) (b % 32) n = v at *
  have m0 : ¬ n < -4096 := by omega
  have m1 : ¬ n > 4094 := by omega
  clear HE hT hM v2 n2
  go_enter Tryd.func8, Tryd.ntmps8
  go_wp2_with fail
  refine (awake_any _ HT.out).mono ?_
  rintro e w1 ⟨rfl, t1, hb⟩
  have H1 := Lib.hid (And.intro t1 hb)
  clear t1 hb HT
  go_wp2_with fail
  refine (HE2.out _ (H1.out.1.alloc _)).mono ?_
  rintro e w2 ⟨rfl, hb⟩
  have H2 := Lib.hid (step_below ⟨H1.out.1.alloc _, H1.out.2.alloc H1.out.2.size _⟩ hb)
  clear hb H1 HE2
  go_wp2
  go_ret
  refine ⟨ret_bool ?_, H2.out.2⟩
  rw [beq_iff_eq]
  exact HV.out
set_option maxHeartbeats 1000000 in
theorem walk_bad (n a b : Int) (w : World) (hT : Tabs w) (a0 : 0 ≤ a) (a1 : a ≤ 255) (b0 : 0 ≤ b) (b1 : b ≤ 255) (x0 : -2147483648 ≤ n) (x1 : n ≤ 2147483647) (hn : ¬ (-4096 ≤ n ∧ n ≤ 4094 ∧ n % 2 = 0)) :
    Calls Tryd.prog 8 #[.int .i32 n, .int .u8 a, .int .u8 b] w fun e w' => e = .returned (.bool true) ∧ Below w.heap.size w w' := by
  have hM : mayB 34 0 (a % 32) (b % 32) n = false := by
    cases e : mayB 34 0 (a % 32) (b % 32) n with
    | false => rfl
    | true => exact absurd ((may34 (by omega) (by omega) (by omega) (by omega) ⟨by omega, by omega⟩).1 e) hn
  have HE (w : World) (hT : Tabs w) := encode_no 34 0 (a % 32) (b % 32) n w (by decide) hT awI0 ⟨by omega, by omega⟩ ⟨by omega, by omega⟩ hM
  unfold insA at HE
  have HE2 := Lib.hid HE
  have HT := Lib.hid hT
  clear HE hT hM
  have hc : n < -4096 ∨ n > 4094 ∨ (-4096 ≤ n ∧ n ≤ 4094 ∧ ¬ n % 2 = 0) := by omega
  clear hn
  rcases hc with h | h | ⟨h, h', h2⟩
  · go_enter Tryd.func8, Tryd.ntmps8
    go_wp2_with fail
    refine (awake_any _ HT.out).mono ?_
    rintro e w1 ⟨rfl, t1, hb⟩
    have H1 := Lib.hid (And.intro t1 hb)
    clear t1 hb HT
    go_wp2_with fail
    refine (HE2.out _ (H1.out.1.alloc _)).mono ?_
    rintro e w2 ⟨rfl, hb⟩
    have H2 := Lib.hid (step_below ⟨H1.out.1.alloc _, H1.out.2.alloc H1.out.2.size _⟩ hb)
    clear hb H1 HE2
    go_wp2
    go_ret
    exact ⟨rfl, H2.out.2⟩
  · have h' : ¬ n < -4096 := by omega
    go_enter Tryd.func8, Tryd.ntmps8
    go_wp2_with fail
    refine (awake_any _ HT.out).mono ?_
    rintro e w1 ⟨rfl, t1, hb⟩
    have H1 := Lib.hid (And.intro t1 hb)
    clear t1 hb HT
    go_wp2_with fail
    refine (HE2.out _ (H1.out.1.alloc _)).mono ?_
    rintro e w2 ⟨rfl, hb⟩
    have H2 := Lib.hid (step_below ⟨H1.out.1.alloc _, H1.out.2.alloc H1.out.2.size _⟩ hb)
    clear hb H1 HE2
    go_wp2
    go_ret
    exact ⟨rfl, H2.out.2⟩
  · have m0 : ¬ n < -4096 := by omega
    have m1 : ¬ n > 4094 := by omega
    have t2 : (n.tmod 2 != 0) = true := by
      rw [bne_iff_ne]
      intro e
      have := Int.emod_eq_zero_of_dvd (Int.dvd_of_tmod_eq_zero e)
      omega
    go_enter Tryd.func8, Tryd.ntmps8
    go_wp2_with fail
    refine (awake_any _ HT.out).mono ?_
    rintro e w1 ⟨rfl, t1, hb⟩
    have H1 := Lib.hid (And.intro t1 hb)
    clear t1 hb HT
    go_wp2_with fail
    refine (HE2.out _ (H1.out.1.alloc _)).mono ?_
    rintro e w2 ⟨rfl, hb⟩
    have H2 := Lib.hid (step_below ⟨H1.out.1.alloc _, H1.out.2.alloc H1.out.2.size _⟩ hb)
    clear hb H1 HE2
    go_wp2
    go_ret
    exact ⟨rfl, H2.out.2⟩
theorem walk (a0 a1 a2 : Int) (w : World) (w0 : (Lit.int .i32 a0).wf = true) (w1 : (Lit.int .u8 a1).wf = true) (w2 : (Lit.int .u8 a2).wf = true) (hT : Tabs w) :
    Calls Tryd.prog 8 #[.int .i32 a0, .int .u8 a1, .int .u8 a2] w fun e w' => e = .returned (.bool true) ∧ Below w.heap.size w w' := by
  have b0 := bounds_i32 w0
  have b1 := bounds_u8 w1
  have b2 := bounds_u8 w2
  by_cases h : -4096 ≤ a0 ∧ a0 ≤ 4094 ∧ a0 % 2 = 0
  · exact walk_ok a0 a1 a2 w hT b1.1 (by omega) b2.1 (by omega) h
  · exact walk_bad a0 a1 a2 w hT b1.1 (by omega) b2.1 (by omega) (by omega) (by omega) h
end Go.Proofs.YtkcimpfbeghfkaaDoor.InsBranchesWalk
