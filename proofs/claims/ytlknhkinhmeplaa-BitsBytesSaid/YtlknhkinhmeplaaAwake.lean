/- What the guard of layer 1's statements asks first is true: a few fixed answers of package bits. -/
import Derived.Test.YtlknhkinhmeplaaWord
import Derived.Test.YtlknhkinhmeplaaRef
namespace Go.Proofs.Ytlknhkinhmeplaa
open Go.RowKit
set_option linter.unusedVariables false

theorem aw1 (w : World) : Calls Try.prog 12 #[.int .u64 43981, .int .i64 4, .int .i64 8] w fun e w' => e = .returned (.tuple #[.int .u64 188, .bool true]) ∧ ∃ k, w' = w.drewN k := by
  have h := field_yes 43981 4 8 (IsU.mk (by decide) (by decide)) (by decide) (by decide) (by decide) w
  rwa [show fld 43981 4 8 = 188 from by decide] at h
theorem aw2 (w : World) : Calls Try.prog 14 #[.int .u64 43981, .int .i64 4, .int .i64 8, .int .u64 274] w fun e w' => e = .returned (.tuple #[.int .u64 41261, .bool true]) ∧ ∃ k, w' = w.drewN k := by
  have h := put_yes 43981 4 8 274 (IsU.mk (by decide) (by decide)) (by decide) (by decide) (by decide) (IsU.mk (by decide) (by decide)) w
  rwa [show put 43981 4 8 274 = 41261 from by decide] at h
theorem aw3 (w : World) : Calls Try.prog 12 #[.int .u64 1, .int .i64 60, .int .i64 5] w fun e w' => e = .returned (.tuple #[.int .u64 0, .bool false]) ∧ w = w' :=
  field_no 1 60 5 (by unfold NoFld; decide) (by unfold IsI; decide) w
theorem aw4 (w : World) : Calls Try.prog 16 #[.int .u64 255, .int .i64 8] w fun e w' => e = .returned (.int .i64 (-1)) ∧ w = w' := by
  have h := sign_yes 255 8 (IsU.mk (by decide) (by decide)) (by decide) (by decide) w
  rwa [show sgn 255 8 = -1 from by decide] at h
theorem aw5 (w : World) : Calls Try.prog 18 #[.int .i64 (-1), .int .i64 1] w fun e w' => e = .returned (.bool true) ∧ w = w' := by
  have h := fits_yes (-1) 1 (by decide) (by decide) w
  rwa [show (sgn (-1 % 18446744073709551616) 1 == -1) = true from by decide] at h
theorem aw6 (w : World) : Calls Try.prog 18 #[.int .i64 1, .int .i64 1] w fun e w' => e = .returned (.bool false) ∧ w = w' := by
  have h := fits_yes 1 1 (by decide) (by decide) w
  rwa [show (sgn (1 % 18446744073709551616) 1 == 1) = false from by decide] at h
theorem aw7 (w : World) : Calls Try.prog 20 #[.int .u64 1, .int .i64 1] w fun e w' => e = .returned (.bool true) ∧ w = w' := by
  have h := fitsU_yes 1 1 (IsU.mk (by decide) (by decide)) (by decide) (by decide) w
  rwa [show (fld 1 0 1 == 1) = true from by decide] at h
theorem aw8 (w : World) : Calls Try.prog 22 #[.int .u64 258, .int .i64 2] w fun e w' => e = .returned (.slice (some ⟨w.heap.size, 0, none⟩) 2 2) ∧ Sl w' (some ⟨w.heap.size, 0, none⟩) [2, 1] ∧ Below w.heap.size w w' := by
  have h := bytes_yes 258 2 (IsU.mk (by decide) (by decide)) (by decide) w
  rwa [show bytesL 258 2 = [2, 1] from by decide] at h
theorem below_drewN {B : Nat} {a w : World} (h : Below B a w) (n : Nat) : Below B a (w.drewN n) := ⟨h.os, h.tape, h.output, h.size, h.block⟩
theorem sl_new2 (w : World) (a b : Int) (t : TypeId) : Sl (w.alloc (.cells #[.int .u8 a, .int .u8 b] t)) (some ⟨w.heap.size, 0, none⟩) [a, b] := by
  refine .inr ⟨_, 0, rfl, fun k hk => ?_⟩
  simp at hk
  match k, hk with
  | 0, _ => simp [go_sem, nth]
  | 1, _ => simp [go_sem, nth]
theorem awake_any (w : World) :
    Calls Try.prog 11 #[] w fun e w' => e = .returned (.bool true) ∧ Below w.heap.size w w' := by
  go_enter Try.func11, Try.ntmps11
  go_wp2_with fail
  refine (aw1 _).mono ?_
  rintro e w' ⟨rfl, k1, rfl⟩
  go_wp2_with fail
  refine (aw2 _).mono ?_
  rintro e w' ⟨rfl, k2, rfl⟩
  go_wp2_with fail
  refine (aw3 _).mono ?_
  rintro e w' ⟨rfl, rfl⟩
  go_wp2_with fail
  refine (aw4 _).mono ?_
  rintro e w' ⟨rfl, rfl⟩
  go_wp2_with fail
  refine (aw5 _).mono ?_
  rintro e w' ⟨rfl, rfl⟩
  go_wp2_with fail
  refine (aw6 _).mono ?_
  rintro e w' ⟨rfl, rfl⟩
  go_wp2_with fail
  refine (aw7 _).mono ?_
  rintro e w' ⟨rfl, rfl⟩
  go_wp2_with fail
  refine (aw8 _).mono ?_
  rintro e w1 ⟨rfl, hs, hb⟩
  have hb' : Below w.heap.size w w1 := (below_drewN (Below.refl w.heap.size w) _).trans hb
  have Hs := Lib.hid hs
  have Hb := Lib.hid hb'
  have hsz := hb'.size
  clear hs hb hb'
  go_wp2_with fail
  have hs1 : Sl (w1.alloc (.cells #[.int .u8 2, .int .u8 1] 5)) (some ⟨w.heap.size, 0, none⟩) [2, 1] := Hs.out.below ((Below.refl _ _).alloc (Nat.le_refl _) _)
  have hs2 : Sl (w1.alloc (.cells #[.int .u8 2, .int .u8 1] 5)) (some ⟨w1.heap.size, 0, none⟩) [2, 1] := sl_new2 w1 2 1 _
  refine (same_any _ _ [2, 1] [2, 1] 2 2 2 2 _ hs1 hs2 rfl rfl (by decide)).mono ?_
  clear hs1 hs2
  rintro e w' ⟨rfl, k3, rfl⟩
  go_wp2
  go_ret
  exact ⟨rfl, below_drewN (Hb.out.alloc hsz _) _⟩
end Go.Proofs.Ytlknhkinhmeplaa
