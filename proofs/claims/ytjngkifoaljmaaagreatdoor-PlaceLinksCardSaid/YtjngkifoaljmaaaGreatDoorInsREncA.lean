/- Layer 2: what the reference's calls low, Kind, Top and bit answer. Conditions: said at each. -/
import Derived.Test.YtjngkifoaljmaaaGreatDoorInsC
import Derived.Test.YtjngkifoaljmaaaGreatDoorBitA
namespace Go.Proofs.YtjngkifoaljmaaaGreatDoor
set_option maxRecDepth 100000
open Go.RowKit
set_option linter.unusedVariables false
theorem opF_at {n : Nat} (hn : n < 43) : (n ≤ 15 → opF n = 51) ∧ (16 ≤ n → n ≤ 24 → opF n = 19) ∧ (25 ≤ n → n ≤ 28 → opF n = 3) ∧ (29 ≤ n → n ≤ 31 → opF n = 35) ∧ (32 ≤ n → n ≤ 37 → opF n = 99) :=
  all43 (p := fun n => (n ≤ 15 → opF n = 51) ∧ (16 ≤ n → n ≤ 24 → opF n = 19) ∧ (25 ≤ n → n ≤ 28 → opF n = 3) ∧ (29 ≤ n → n ≤ 31 → opF n = 35) ∧ (32 ≤ n → n ≤ 37 → opF n = 99)) (by decide +kernel) hn
set_option maxHeartbeats 1000000 in
theorem rlow (n : Nat) (w : World) (hn : n < 43) :
    Calls Tryz.prog 32 #[.int .i64 n] w fun e w' => e = .returned (.int .u64 (opF n)) ∧ Below w.heap.size w w' := by
  have H := Lib.hid (opF_at hn)
  have HB := Lib.hid (Below.refl w.heap.size w)
  have hc : n ≤ 15 ∨ (16 ≤ n ∧ n ≤ 24) ∨ (25 ≤ n ∧ n ≤ 28) ∨ (29 ≤ n ∧ n ≤ 31) ∨ (32 ≤ n ∧ n ≤ 37) ∨ n = 38 ∨ n = 39 ∨ n = 40 ∨ n = 41 ∨ n = 42 := by omega
  rcases hc with h | ⟨h, h'⟩ | ⟨h, h'⟩ | ⟨h, h'⟩ | ⟨h, h'⟩ | h | h | h | h | h
  · have k1 : (n : Int) ≤ 15 := by omega
    go_enter Tryz.func32, Tryz.ntmps32
    go_wp2
    go_ret
    exact ⟨ret_u64 (by rw [H.out.1 h]; rfl), HB.out⟩
  · have k1 : ¬ (n : Int) ≤ 15 := by omega
    have k2 : (n : Int) ≤ 24 := by omega
    go_enter Tryz.func32, Tryz.ntmps32
    go_wp2
    go_ret
    exact ⟨ret_u64 (by rw [H.out.2.1 h h']; rfl), HB.out⟩
  · have k1 : ¬ (n : Int) ≤ 15 := by omega
    have k2 : ¬ (n : Int) ≤ 24 := by omega
    have k3 : (n : Int) ≤ 28 := by omega
    go_enter Tryz.func32, Tryz.ntmps32
    go_wp2
    go_ret
    exact ⟨ret_u64 (by rw [H.out.2.2.1 h h']; rfl), HB.out⟩
  · have k1 : ¬ (n : Int) ≤ 15 := by omega
    have k2 : ¬ (n : Int) ≤ 24 := by omega
    have k3 : ¬ (n : Int) ≤ 28 := by omega
    have k4 : (n : Int) ≤ 31 := by omega
    go_enter Tryz.func32, Tryz.ntmps32
    go_wp2
    go_ret
    exact ⟨ret_u64 (by rw [H.out.2.2.2.1 h h']; rfl), HB.out⟩
  · have k1 : ¬ (n : Int) ≤ 15 := by omega
    have k2 : ¬ (n : Int) ≤ 24 := by omega
    have k3 : ¬ (n : Int) ≤ 28 := by omega
    have k4 : ¬ (n : Int) ≤ 31 := by omega
    have k5 : (n : Int) ≤ 37 := by omega
    go_enter Tryz.func32, Tryz.ntmps32
    go_wp2
    go_ret
    exact ⟨ret_u64 (by rw [H.out.2.2.2.2 h h']; rfl), HB.out⟩
  all_goals
    subst h
    go_enter Tryz.func32, Tryz.ntmps32
    go_wp2
    go_ret
    exact ⟨rfl, HB.out.alloc (Nat.le_refl _) _⟩
theorem row_at {l : List Value} {f : Nat → Value} {n : Nat} (e : l = (List.range 43).map f) (h : n < l.length) : l[n] = f n := by subst e; simp
set_option maxHeartbeats 1000000 in
theorem rkind (n : Nat) (w : World) (hn : n < 43) :
    Calls Tryz.prog 33 #[.int .i64 n] w fun e w' => e = .returned (.int .u64 (opK n)) ∧ Below w.heap.size w w' := by
  have HB := Lib.hid (Below.refl w.heap.size w)
  go_enter Tryz.func33, Tryz.ntmps33
  go_wp2
  go_ret
  exact ⟨congrArg Ending.returned (row_at (f := fun n => .int .u64 (opK n)) rfl _), HB.out.alloc (Nat.le_refl _) _⟩
/-- what stands at 25 and above -/
def rtop (n : Nat) : Nat := if n = 1 ∨ n = 7 ∨ n = 24 then 32 else if 10 ≤ n ∧ n ≤ 15 then 1 else 0
theorem rtop_any (n : Nat) (w : World) :
    Calls Tryz.prog 34 #[.int .i64 n] w fun e w' => e = .returned (.int .u64 (rtop n)) ∧ w = w' := by
  go_enter Tryz.func34, Tryz.ntmps34
  go_wp2
  all_goals
    go_ret
    refine ⟨ret_u64 ?_, rfl⟩
    unfold rtop
    try simp only [beq_iff_eq, beq_eq_false_iff_ne, ne_eq] at *
    split
    · omega
    · split <;> omega
/-- a number, so many places up -/
def shl (v i : Int) : Int := v * 2 ^ i.toNat
theorem shl_zero (v i : Int) (h : i = 0) : v = shl v i := by subst h; simp [shl]
theorem shl_step (v i j : Int) (h : 0 ≤ i) (e : j = i + 1) : shl v i * 2 = shl v j := by
  subst e
  unfold shl
  rw [show (i + 1).toNat = i.toNat + 1 from by omega, Int.pow_succ, Int.mul_assoc]
theorem shl_le {x f n i : Int} (h0 : 0 ≤ n) (hi : 0 ≤ i) (h : n + i ≤ 62) : 0 ≤ shl (fld x f n) i ∧ shl (fld x f n) i ≤ 4611686018427387904 := by
  have h1 := fldN_lt_pow x.toNat f.toNat n.toNat
  have h2 := Nat.pow_le_pow_right (n := 2) (by decide) (show n.toNat + i.toNat ≤ 62 by omega)
  have e : shl (fld x f n) i = ((fldN x.toNat f.toNat n.toNat * 2 ^ i.toNat : Nat) : Int) := by unfold shl fld; simp
  rw [e]
  have h3 : fldN x.toNat f.toNat n.toNat * 2 ^ i.toNat ≤ 2 ^ n.toNat * 2 ^ i.toNat := Nat.mul_le_mul_right _ (Nat.le_of_lt h1)
  rw [← Nat.pow_add] at h3
  omega
theorem rbit (x f n t : Int) (hx : IsI x) (hf : 0 ≤ f) (hn : 0 ≤ n) (h : f + n ≤ 64) (ht : 0 ≤ t) (h2 : n + t ≤ 61) (w : World) :
    Calls Tryz.prog 35 #[.int .i64 x, .int .i64 f, .int .i64 n, .int .i64 t] w fun e w' => e = .returned (.int .u64 (shl (fld (x % 18446744073709551616) f n) t)) ∧ w = w' := by
  have hu : IsU (x % 18446744073709551616) := by unfold IsU; omega
  have HF := Lib.hid (fun w => rfield_yes (x % 18446744073709551616) f n hu hf hn h w)
  obtain ⟨x0, x1⟩ := hx
  clear hu
  go_enter Tryz.func35, Tryz.ntmps35
  go_wp2_with (go_at_call 55; refine (HF.out _).mono ?_; rintro e w' ⟨rfl, rfl⟩)
  go_loop [9, 11] (fun v i => ∃ j : Int, 0 ≤ j ∧ j ≤ t ∧ i = .int .i64 j ∧ v = .int .u64 (shl (fld (x % 18446744073709551616) f n) j)) (fun _ i => (t - intOf i).toNat)
  case atStart => exact ⟨0, by omega, by omega, rfl, val_u64 (shl_zero _ _ rfl)⟩
  case round =>
    obtain ⟨j, hj0, hj1, rfl, rfl⟩ := hrel
    by_cases hlt : j < t
    · obtain ⟨b0, b1⟩ := shl_le (x := x % 18446744073709551616) (f := f) (n := n) (i := j) hn hj0 (by omega)
      go_wp2
      go_round
      case rel => exact ⟨j + 1, by omega, by omega, rfl, val_u64 (shl_step _ _ _ hj0 rfl)⟩
      case measure => simp [intOf]; omega
    · obtain rfl : j = t := by omega
      go_wp2
      go_ret
      exact ⟨rfl, rfl⟩
theorem shl_word (x f n t : Int) : shl (fld (x % 18446744073709551616) f n) t = ((fldN (wordN x) f.toNat n.toNat * 2 ^ t.toNat : Nat) : Int) := by
  unfold shl fld wordN; simp
/-- what is true of an instruction, beside its word -/
theorem enc_parts {n : Nat} {rd r1 r2 imm : Int} (hn : n < 43) (h : mayB n rd r1 r2 imm = true) : (0 ≤ rd ∧ rd ≤ 31) ∧ (0 ≤ r1 ∧ r1 ≤ 31) ∧ (0 ≤ r2 ∧ r2 ≤ 31) ∧ opF n ≤ 127 ∧ opK n ≤ 7 := by
  obtain ⟨a, b, c, _⟩ := may_parts h
  obtain ⟨a0, a1, _⟩ := fitB_true a
  obtain ⟨b0, b1, _⟩ := fitB_true b
  obtain ⟨c0, c1, _⟩ := fitB_true c
  have f := may_fields hn h
  have g1 := f.ff
  have g2 := f.fk
  exact ⟨⟨a0, by omega⟩, ⟨b0, by omega⟩, ⟨c0, by omega⟩, by omega, by omega⟩
end Go.Proofs.YtjngkifoaljmaaaGreatDoor
