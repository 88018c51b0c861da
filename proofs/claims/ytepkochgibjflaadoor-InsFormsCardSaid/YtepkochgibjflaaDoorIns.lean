/- Layer 2: what the calls of package ins answer. Conditions: said at each; the two tables read as they should. -/
import Derived.Test.YtepkochgibjflaaDoorInsTab
namespace Go.Proofs.YtepkochgibjflaaDoor
open Go.RowKit
set_option linter.unusedVariables false

theorem known_yes (n : Int) (w : World) (h0 : 0 ≤ n) (h1 : n < 43) :
    Calls Tryd.prog 9 #[.int .i64 n] w fun e w' => e = .returned (.bool true) ∧ w = w' := by
  go_enter Tryd.func9, Tryd.ntmps9
  go_wp2
  go_ret
  simp
theorem known_no (n : Int) (w : World) (h : n < 0 ∨ 43 ≤ n) :
    Calls Tryd.prog 9 #[.int .i64 n] w fun e w' => e = .returned (.bool false) ∧ w = w' := by
  rcases h with h | h
  · go_enter Tryd.func9, Tryd.ntmps9
    go_wp2
    go_ret
    simp
  · have h' : 0 ≤ n := by omega
    go_enter Tryd.func9, Tryd.ntmps9
    go_wp2
    go_ret
    simp
    omega
theorem form_yes (n : Nat) (w : World) (h1 : n < 43) (hT : Tabs w) :
    Calls Tryd.prog 5 #[.int .i64 n] w fun e w' => e = .returned (.string (letS (opS n))) ∧ w = w' := by
  have h0 : (0 : Int) ≤ n := by omega
  have h2 : (n : Int) < 43 := by omega
  have c0 := hT.shape h1
  have c1 := hT.letter (opS_lt h1)
  have h3 : (0 : Int) ≤ opS n := by omega
  have h4 : ((opS n : Nat) : Int) < 8 := by have := opS_lt h1; omega
  clear hT
  go_enter Tryd.func5, Tryd.ntmps5
  go_wp2_with (go_at_call 9; refine (known_yes _ _ h0 h2).mono ?_; rintro e w' ⟨rfl, rfl⟩)
  go_ret
  exact ⟨rfl, rfl⟩
theorem form_no (n : Int) (w : World) (h : n < 0 ∨ 43 ≤ n) :
    Calls Tryd.prog 5 #[.int .i64 n] w fun e w' => e = .returned (.string ⟨#[]⟩) ∧ w = w' := by
  have H := Lib.hid h
  clear h
  go_enter Tryd.func5, Tryd.ntmps5
  go_wp2_with (go_at_call 9; refine (known_no _ _ H.out).mono ?_; rintro e w' ⟨rfl, rfl⟩)
  go_ret
  exact ⟨rfl, rfl⟩
/-- a word of 32 bits -/
def IsW (v : Int) : Prop := 0 ≤ v ∧ v < 4294967296
theorem IsW.u {v : Int} (h : IsW v) : IsU v := ⟨h.1, by have := h.2; omega⟩
theorem fldN_le (v f n : Nat) : fldN v f n ≤ v := Nat.le_trans (Nat.mod_le _ _) (Nat.div_le_self _ _)
theorem isW_fld {v : Int} (f n : Int) (h : IsW v) : IsW (fld v f n) := by
  have := fldN_le v.toNat f.toNat n.toNat
  obtain ⟨h0, h1⟩ := h
  unfold fld IsW
  omega
theorem ret_u32 {a b : Int} (h : a = b) : Ending.returned (.int .u32 a) = Ending.returned (.int .u32 b) := by rw [h]
theorem wrap_u32 {v : Int} (h : IsW v) : IntKind.u32.wrap v = v := by
  obtain ⟨h0, h1⟩ := h
  show v % 4294967296 = v
  omega
theorem wfield_any (v f n : Int) (hv : IsW v) (hf : 0 ≤ f) (hn : 0 ≤ n) (h : f + n ≤ 64) (w : World) :
    Calls Tryd.prog 17 #[.int .u32 v, .int .i64 f, .int .i64 n] w fun e w' => e = .returned (.int .u32 (fld v f n)) ∧ ∃ k, w' = w.drewN k := by
  have hu := hv.u
  have hw := Lib.hid (wrap_u32 (isW_fld f n hv))
  have h0 := hv.1
  have h1 := hv.2
  go_enter Tryd.func17, Tryd.ntmps17
  go_wp2_with (go_at_call 19; refine (field_yes _ _ _ hu hf hn h _).mono ?_; rintro e w' ⟨rfl, _, rfl⟩)
  go_ret
  exact ⟨ret_u32 hw.out, _, rfl⟩
/-- a register's number -/
def regB (r : Int) : Bool := decide (0 ≤ r ∧ r < 32)
/-- may r stand where a register does, or nothing? -/
def fitB (r : Int) (has : Bool) : Bool := if has then regB r else r == 0
theorem regB_eq {r : Int} (h : IsI r) : (fld (IntKind.u64.wrap r) 0 5 == IntKind.u64.wrap r) = regB r := by
  rw [IntKind.wrap_u64]
  obtain ⟨h0, h1⟩ := h
  unfold regB fld fldN
  have e : (r % 18446744073709551616).toNat / 2 ^ (0 : Int).toNat % 2 ^ (5 : Int).toNat = (r % 18446744073709551616).toNat % 32 := by simp
  rw [e, Bool.eq_iff_iff]
  simp
  omega
theorem fits_any (r : Int) (has : Bool) (w : World) (h : IsI r) :
    Calls Tryd.prog 10 #[.int .i64 r, .bool has] w fun e w' => e = .returned (.bool (fitB r has)) ∧ w = w' := by
  have hu : IsU (IntKind.u64.wrap r) := by rw [IntKind.wrap_u64]; exact isU_mod r
  have he := Lib.hid (regB_eq h)
  clear h
  cases has with
  | false =>
    go_enter Tryd.func10, Tryd.ntmps10
    go_wp2
    go_ret
    exact ⟨rfl, rfl⟩
  | true =>
    go_enter Tryd.func10, Tryd.ntmps10
    go_wp2_with (go_at_call 15; refine (fitsU_yes _ _ hu (by omega) (by omega) _).mono ?_; rintro e w' ⟨rfl, rfl⟩)
    go_ret
    exact ⟨ret_bool he.out, rfl⟩
/-- a register's field, or 0 -/
def regI (v a : Int) (has : Bool) : Int := if has then fld v a 5 else 0
theorem register_any (v a : Int) (has : Bool) (hv : IsW v) (h0 : 0 ≤ a) (h1 : a ≤ 59) (w : World) :
    Calls Tryd.prog 14 #[.int .u32 v, .int .i64 a, .bool has] w fun e w' => e = .returned (.int .i64 (regI v a has)) ∧ ∃ k, w' = w.drewN k := by
  have hf := isW_fld a 5 hv
  obtain ⟨hf0, hf1⟩ := hf
  cases has with
  | false =>
    go_enter Tryd.func14, Tryd.ntmps14
    go_wp2
    go_ret
    exact ⟨rfl, 0, rfl⟩
  | true =>
    go_enter Tryd.func14, Tryd.ntmps14
    go_wp2_with (go_at_call 17; refine (wfield_any _ _ _ hv h0 (by omega) (by omega) _).mono ?_; rintro e w' ⟨rfl, _, rfl⟩)
    go_ret
    exact ⟨rfl, _, rfl⟩

/-- the number x, laid in the word by the first k parts of shape s -/
def spreadK (x : Int) (s : Nat) : Nat → Int
  | 0 => 0
  | k + 1 => put (spreadK x s k) (pA s k) (pN s k) (fld (x % 18446744073709551616) (pF s k) (pN s k))
def spreadI (x : Int) (s : Nat) : Int := spreadK x s 4 % 4294967296
theorem parts_bd {s k : Nat} (hs : s < 8) (hk : k < 4) : 0 ≤ pF s k ∧ 0 ≤ pN s k ∧ 0 ≤ pA s k ∧ pF s k + pN s k ≤ 64 ∧ pA s k + pN s k ≤ 32 := by
  have h : ∀ k, k < 4 → (lP s k).1 + (lP s k).2.1 ≤ 64 ∧ (lP s k).2.2 + (lP s k).2.1 ≤ 32 := all8 (p := fun s => ∀ k, k < 4 → (lP s k).1 + (lP s k).2.1 ≤ 64 ∧ (lP s k).2.2 + (lP s k).2.1 ≤ 32) (by decide +kernel) hs
  have := h k hk
  unfold pF pN pA
  omega
theorem isU_spread (x : Int) {s : Nat} (hs : s < 8) : ∀ k, k ≤ 4 → IsU (spreadK x s k)
  | 0, _ => ⟨by simp [spreadK], by simp [spreadK]⟩
  | k + 1, h => by
    obtain ⟨h0, h1, h2, h3, h4⟩ := parts_bd hs (show k < 4 by omega)
    exact isU_put (isU_spread x hs k (by omega)) h2 h1 (by omega)
def layA (s : Nat) : Array Value := #[.string (letS s), .bool (lRd s), .bool (lR1 s), .bool (lR2 s), .bool (lKd s), .int .i64 (lRest s), .int .i64 (lSg s),
  .int .i64 (pF s 0), .int .i64 (pN s 0), .int .i64 (pA s 0), .int .i64 (pF s 1), .int .i64 (pN s 1), .int .i64 (pA s 1), .int .i64 (pF s 2), .int .i64 (pN s 2), .int .i64 (pA s 2), .int .i64 (pF s 3), .int .i64 (pN s 3), .int .i64 (pA s 3)]
theorem ix0 (a b c d e f g h i j k l : Value) (w : World) : (Instr.index 37 (.agg #[a, b, c, d, e, f, g, h, i, j, k, l]) (.int .i64 0)).run Tryd.prog w = .ok (.agg #[a, b, c]) w := by kernel_rfl
theorem ix1 (a b c d e f g h i j k l : Value) (w : World) : (Instr.index 37 (.agg #[a, b, c, d, e, f, g, h, i, j, k, l]) (.int .i64 1)).run Tryd.prog w = .ok (.agg #[d, e, f]) w := by kernel_rfl
theorem ix2 (a b c d e f g h i j k l : Value) (w : World) : (Instr.index 37 (.agg #[a, b, c, d, e, f, g, h, i, j, k, l]) (.int .i64 2)).run Tryd.prog w = .ok (.agg #[g, h, i]) w := by kernel_rfl
theorem ix3 (a b c d e f g h i j k l : Value) (w : World) : (Instr.index 37 (.agg #[a, b, c, d, e, f, g, h, i, j, k, l]) (.int .i64 3)).run Tryd.prog w = .ok (.agg #[j, k, l]) w := by kernel_rfl
theorem below_drewN {B : Nat} {a w : World} (h : Below B a w) (n : Nat) : Below B a (w.drewN n) := ⟨h.os, h.tape, h.output, h.size, h.block⟩
theorem val_u64 {a b : Int} (h : a = b) : Value.int .u64 a = Value.int .u64 b := by rw [h]
set_option maxHeartbeats 1000000 in
theorem spread_any (x : Int) (s : Nat) (hs : s < 8) (w : World) :
    Calls Tryd.prog 12 #[.int .i64 x, .agg (layA s)] w fun e w' => e = .returned (.int .u32 (spreadI x s)) ∧ Below w.heap.size w w' := by
  unfold layA
  have hx : IsU (IntKind.u64.wrap x) := by rw [IntKind.wrap_u64]; exact isU_mod x
  have HB : Hid (∀ k, k < 4 → 0 ≤ pF s k ∧ 0 ≤ pN s k ∧ 0 ≤ pA s k ∧ pF s k + pN s k ≤ 64 ∧ pA s k + pN s k ≤ 32) := Lib.hid (fun k hk => parts_bd hs hk)
  have HU : Hid (∀ k, k ≤ 4 → IsU (spreadK x s k)) := Lib.hid (isU_spread x hs)
  have i0 := ix0
  have i1 := ix1
  have i2 := ix2
  have i3 := ix3
  go_enter Tryd.func12, Tryd.ntmps12
  go_wp2
  go_loopw [5, 12] (fun v i wr => ∃ k : Nat, k ≤ 4 ∧ i = .int .i64 k ∧ v = .int .u64 (spreadK x s k) ∧ Below w.heap.size w wr) (fun _ i _ => 4 - (intOf i).toNat)
  case atStart => exact ⟨0, by omega, rfl, rfl, (Below.refl _ _).alloc (Nat.le_refl _) _⟩
  case round =>
    obtain ⟨k, hk, rfl, rfl, hb⟩ := hrel
    have Hb := Lib.hid hb
    clear hb
    have hu := HU.out k hk
    by_cases hlt : k < 4
    · obtain ⟨b0, b1, b2, b3, b4⟩ := HB.out k hlt
      have hf : IsU (fld (IntKind.u64.wrap x) (pF s k) (pN s k)) := isU_fld _ _ _ (by omega)
      obtain rfl | rfl | rfl | rfl : k = 0 ∨ k = 1 ∨ k = 2 ∨ k = 3 := by omega
      all_goals
        go_wp2_with (first | (go_at_call 19; refine (field_yes _ _ _ hx b0 b1 b3 _).mono ?_; rintro e w' ⟨rfl, _, rfl⟩) | (go_at_call 16; refine (put_yes _ _ _ _ hu b2 b1 (by omega) hf _).mono ?_; rintro e w' ⟨rfl, _, rfl⟩))
        go_roundw
        case rel => first | exact ⟨1, by omega, rfl, val_u64 (by rw [IntKind.wrap_u64]; rfl), below_drewN (Hb.out.alloc (Hb.out.size) _) _⟩ | exact ⟨2, by omega, rfl, val_u64 (by rw [IntKind.wrap_u64]; rfl), below_drewN (Hb.out.alloc (Hb.out.size) _) _⟩ | exact ⟨3, by omega, rfl, val_u64 (by rw [IntKind.wrap_u64]; rfl), below_drewN (Hb.out.alloc (Hb.out.size) _) _⟩ | exact ⟨4, by omega, rfl, val_u64 (by rw [IntKind.wrap_u64]; rfl), below_drewN (Hb.out.alloc (Hb.out.size) _) _⟩
        case measure => simp [intOf]
    · obtain rfl : k = 4 := by omega
      go_wp2
      go_ret
      exact ⟨rfl, Hb.out⟩

/-- the number that the first k parts of shape s hold in the word v -/
def numberK (v : Int) (s : Nat) : Nat → Int
  | 0 => 0
  | k + 1 => put (numberK v s k) (pF s k) (pN s k) (fld v (pA s k) (pN s k))
def numberI (v : Int) (s : Nat) : Int := if lSg s = 0 then wrap64 (numberK v s 4) else sgn (numberK v s 4) (lSg s)
theorem isU_number (v : Int) {s : Nat} (hs : s < 8) : ∀ k, k ≤ 4 → IsU (numberK v s k)
  | 0, _ => ⟨by simp [numberK], by simp [numberK]⟩
  | k + 1, h => by
    obtain ⟨h0, h1, h2, h3, h4⟩ := parts_bd hs (show k < 4 by omega)
    exact isU_put (isU_number v hs k (by omega)) h0 h1 (by omega)
theorem lSg_bd {s : Nat} (hs : s < 8) : lSg s ≤ 64 := all8 (p := fun s => lSg s ≤ 64) (by decide +kernel) hs
set_option maxHeartbeats 1000000 in
theorem number_any (v : Int) (s : Nat) (hv : IsW v) (hs : s < 8) (w : World) :
    Calls Tryd.prog 11 #[.int .u32 v, .agg (layA s)] w fun e w' => e = .returned (.int .i64 (numberI v s)) ∧ Below w.heap.size w w' := by
  unfold layA
  have HB : Hid (∀ k, k < 4 → 0 ≤ pF s k ∧ 0 ≤ pN s k ∧ 0 ≤ pA s k ∧ pF s k + pN s k ≤ 64 ∧ pA s k + pN s k ≤ 32) := Lib.hid (fun k hk => parts_bd hs hk)
  have HU : Hid (∀ k, k ≤ 4 → IsU (numberK v s k)) := Lib.hid (isU_number v hs)
  have HS := lSg_bd hs
  have i0 := ix0
  have i1 := ix1
  have i2 := ix2
  have i3 := ix3
  go_enter Tryd.func11, Tryd.ntmps11
  go_wp2
  go_loopw [5, 10] (fun u i wr => ∃ k : Nat, k ≤ 4 ∧ i = .int .i64 k ∧ u = .int .u64 (numberK v s k) ∧ Below (w.heap.size + 1) (w.alloc (.cells (layA s) 39)) wr) (fun _ i _ => 4 - (intOf i).toNat)
  case atStart => exact ⟨0, by omega, rfl, rfl, Below.refl _ _⟩
  case round =>
    obtain ⟨k, hk, rfl, rfl, hb⟩ := hrel
    have hsz : w.heap.size + 1 ≤ wr.heap.size := by have := hb.size; simp at this; omega
    have hcs : wr.cell? ⟨w.heap.size, 6, none⟩ = some (.int .i64 (lSg s)) := by
      rw [hb.cell (p := ⟨w.heap.size, 6, none⟩) (by simp)]; simp [go_sem, layA]
    have Hb := Lib.hid hb
    clear hb
    have hu := HU.out k hk
    by_cases hlt : k < 4
    · obtain ⟨b0, b1, b2, b3, b4⟩ := HB.out k hlt
      have hf := (isW_fld (pA s k) (pN s k) hv)
      obtain ⟨hf0, hf1⟩ := hf
      have hf : IsU (fld v (pA s k) (pN s k)) := ⟨hf0, by omega⟩
      obtain rfl | rfl | rfl | rfl : k = 0 ∨ k = 1 ∨ k = 2 ∨ k = 3 := by omega
      all_goals
        go_wp2
        go_quiet ((first | (go_at_call 17; exact Calls.quiet_of (wfield_any _ _ _ hv b2 b1 (by omega) _)) | (go_at_call 16; exact Calls.quiet_of (put_yes _ _ _ _ hu b0 b1 b3 hf _))))
        go_wp2
        go_roundw
        case rel => first | exact ⟨1, by omega, rfl, rfl, below_drewN (Hb.out.alloc (by omega) _) _⟩ | exact ⟨2, by omega, rfl, rfl, below_drewN (Hb.out.alloc (by omega) _) _⟩ | exact ⟨3, by omega, rfl, rfl, below_drewN (Hb.out.alloc (by omega) _) _⟩ | exact ⟨4, by omega, rfl, rfl, below_drewN (Hb.out.alloc (by omega) _) _⟩
        case measure => simp [intOf]
    · obtain rfl : k = 4 := by omega
      have hfin : Below w.heap.size w wr := ((Below.refl w.heap.size w).alloc (Nat.le_refl _) _).trans (Hb.out.mono (by omega))
      have HF := Lib.hid hfin
      clear hfin
      by_cases hz : lSg s = 0
      · have hz' : ((lSg s : Nat) : Int) = 0 := by omega
        have hn := Lib.hid (show numberI v s = wrap64 (numberK v s 4) by unfold numberI; rw [if_pos hz])
        rw [hz'] at hcs
        clear hz hz' HS
        go_wp2
        go_ret
        exact ⟨ret_i64 hn.out.symm, HF.out⟩
      · have hz' : (((lSg s : Nat) : Int) == 0) = false := by rw [beq_eq_false_iff_ne]; omega
        have h1 : (1 : Int) ≤ ((lSg s : Nat) : Int) := by omega
        have h2 : ((lSg s : Nat) : Int) ≤ 64 := by omega
        have hn := Lib.hid (show numberI v s = sgn (numberK v s 4) (lSg s) by unfold numberI; rw [if_neg hz])
        clear hz HS
        go_wp2_with (go_at_call 18; refine (sign_yes _ _ hu h1 h2 _).mono ?_; rintro e w' ⟨rfl, rfl⟩)
        go_ret
        exact ⟨ret_i64 hn.out.symm, HF.out⟩
end Go.Proofs.YtepkochgibjflaaDoor
