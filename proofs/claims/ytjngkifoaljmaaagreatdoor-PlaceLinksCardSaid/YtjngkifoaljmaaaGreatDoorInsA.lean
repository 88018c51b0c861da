/- Layer 2: what the two tables of package ins hold, as plain functions; what a world holds that reads so.
   Layer 2: what the calls of package ins answer. Conditions: said at each; the two tables read as they should.
   Layer 2: what May of package ins answers. Conditions: the two tables read as they should.
   Layer 2: what Encode of package ins answers. Conditions: the two tables read as they should. -/
import Derived.Test.YtjngkifoaljmaaaGreatDoorBitA
import Derived.Deep.RegionHeld3
import Derived.OpenShut
import Derived.Deep.WholeRow
namespace Go.Proofs.YtjngkifoaljmaaaGreatDoor
set_option maxRecDepth 100000
open Go.RowKit
set_option linter.unusedVariables false

/-- shape, first field, kind, rest of each operation -/
def opTab : List (Nat × Nat × Nat × Nat) := [(0, 0x33, 0, 0), (0, 0x33, 0, 0x20), (0, 0x33, 1, 0), (0, 0x33, 2, 0), (0, 0x33, 3, 0), (0, 0x33, 4, 0), (0, 0x33, 5, 0), (0, 0x33, 5, 0x20), (0, 0x33, 6, 0), (0, 0x33, 7, 0),
  (0, 0x33, 0, 1), (0, 0x33, 3, 1), (0, 0x33, 4, 1), (0, 0x33, 5, 1), (0, 0x33, 6, 1), (0, 0x33, 7, 1),
  (1, 0x13, 0, 0), (1, 0x13, 2, 0), (1, 0x13, 3, 0), (1, 0x13, 4, 0), (1, 0x13, 6, 0), (1, 0x13, 7, 0), (2, 0x13, 1, 0), (2, 0x13, 5, 0), (2, 0x13, 5, 0x10),
  (1, 0x03, 0, 0), (1, 0x03, 4, 0), (1, 0x03, 2, 0), (1, 0x03, 3, 0), (3, 0x23, 0, 0), (3, 0x23, 2, 0), (3, 0x23, 3, 0),
  (4, 0x63, 0, 0), (4, 0x63, 1, 0), (4, 0x63, 4, 0), (4, 0x63, 5, 0), (4, 0x63, 6, 0), (4, 0x63, 7, 0), (5, 0x37, 0, 0), (5, 0x17, 0, 0), (6, 0x6f, 0, 0), (1, 0x67, 0, 0), (7, 0x73, 0, 0x2000)]
def opS (n : Nat) : Nat := (opTab.getD n (0, 0, 0, 0)).1
def opF (n : Nat) : Nat := (opTab.getD n (0, 0, 0, 0)).2.1
def opK (n : Nat) : Nat := (opTab.getD n (0, 0, 0, 0)).2.2.1
def opR (n : Nat) : Nat := (opTab.getD n (0, 0, 0, 0)).2.2.2

/-- letter; which fields; rest, sign; the parts -/
def lLet (s : Nat) : UInt8 := [82, 73, 73, 83, 66, 85, 74, 69].getD s 0
def letS (s : Nat) : ByteArray := ⟨#[lLet s]⟩
def lRd (s : Nat) : Bool := [true, true, true, false, false, true, true, false].getD s false
def lR1 (s : Nat) : Bool := [true, true, true, true, true, false, false, false].getD s false
def lR2 (s : Nat) : Bool := [true, false, false, true, true, false, false, false].getD s false
def lKd (s : Nat) : Bool := [true, true, true, true, true, false, false, false].getD s false
def lRest (s : Nat) : Nat := [25, 32, 26, 32, 32, 32, 32, 7].getD s 0
def lSg (s : Nat) : Nat := [0, 12, 0, 12, 13, 32, 21, 0].getD s 0
/-- part k of shape s: from, how many, at -/
def lParts : List (List (Nat × Nat × Nat)) := [[], [(0, 12, 20)], [(0, 6, 20)], [(0, 5, 7), (5, 7, 25)], [(1, 4, 8), (5, 6, 25), (11, 1, 7), (12, 1, 31)], [(12, 20, 12)], [(1, 10, 21), (11, 1, 20), (12, 8, 12), (20, 1, 31)], []]
def lP (s k : Nat) : Nat × Nat × Nat := (lParts.getD s []).getD k (0, 0, 0)
def pF (s k : Nat) : Int := (lP s k).1
def pN (s k : Nat) : Int := (lP s k).2.1
def pA (s k : Nat) : Int := (lP s k).2.2

/-- the cells of an operation's row, and of a shape's -/
def opCells (n : Nat) : List Value := [.int .i64 (opS n), .int .u32 (opF n), .int .u32 (opK n), .int .u32 (opR n)]
def layCells (s : Nat) : List Value := [.string (letS s), .bool (lRd s), .bool (lR1 s), .bool (lR2 s), .bool (lKd s), .int .i64 (lRest s), .int .i64 (lSg s),
  .int .i64 (pF s 0), .int .i64 (pN s 0), .int .i64 (pA s 0), .int .i64 (pF s 1), .int .i64 (pN s 1), .int .i64 (pA s 1), .int .i64 (pF s 2), .int .i64 (pN s 2), .int .i64 (pA s 2), .int .i64 (pF s 3), .int .i64 (pN s 3), .int .i64 (pA s 3)]
def nthV (l : List Value) (j : Nat) : Value := l.getD j undef
/-- the world's two tables are these -/
def Tabs (w : World) : Prop :=
  (∀ n, n < 43 → ∀ j, j < 4 → w.cell? ⟨1, n * 4 + j, none⟩ = some (nthV (opCells n) j)) ∧
  (∀ s, s < 8 → ∀ j, j < 19 → w.cell? ⟨0, s * 19 + j, none⟩ = some (nthV (layCells s) j))

theorem all43 {p : Nat → Prop} [DecidablePred p] (h : (List.range 43).all (fun n => decide (p n)) = true) {n : Nat} (hn : n < 43) : p n := by
  have := List.all_eq_true.1 h n (List.mem_range.2 hn)
  simpa using this
theorem all8 {p : Nat → Prop} [DecidablePred p] (h : (List.range 8).all (fun n => decide (p n)) = true) {n : Nat} (hn : n < 8) : p n := by
  have := List.all_eq_true.1 h n (List.mem_range.2 hn)
  simpa using this
theorem opS_lt {n : Nat} (h : n < 43) : opS n < 8 := all43 (p := fun n => opS n < 8) (by decide +kernel) h

section
variable {w : World}
theorem Tabs.below {w' : World} (h : Tabs w) (hb : Below w.heap.size w w') : Tabs w' := by
  have lt (b o : Nat) (v : Value) (hc : w.cell? ⟨b, o, none⟩ = some v) : b < w.heap.size := by
    rcases Nat.lt_or_ge b w.heap.size with h1 | h1
    · exact h1
    · simp [World.cell?, Array.getElem?_eq_none h1] at hc
  refine ⟨fun n hn j hj => ?_, fun s hs j hj => ?_⟩
  · have h1 := h.1 n hn j hj
    rw [hb.cell (p := ⟨_, _, none⟩) (lt _ _ _ h1)]; exact h1
  · have h1 := h.2 s hs j hj
    rw [hb.cell (p := ⟨_, _, none⟩) (lt _ _ _ h1)]; exact h1
theorem Tabs.drewN (h : Tabs w) (k : Nat) : Tabs (w.drewN k) := h
theorem Tabs.size (h : Tabs w) : 2 ≤ w.heap.size := by
  have h1 := h.1 0 (by omega) 0 (by omega)
  have h2 := h.2 0 (by omega) 0 (by omega)
  have lt (b o : Nat) (v : Value) (hc : w.cell? ⟨b, o, none⟩ = some v) : b < w.heap.size := by
    rcases Nat.lt_or_ge b w.heap.size with h1 | h1
    · exact h1
    · simp [World.cell?, Array.getElem?_eq_none h1] at hc
  have a := lt _ _ _ h1
  have b := lt _ _ _ h2
  omega
theorem Tabs.alloc (h : Tabs w) (o : Obj) : Tabs (w.alloc o) := h.below ((Below.refl _ _).alloc (Nat.le_refl _) o)
theorem Tabs.shape (h : Tabs w) {n : Nat} (hn : n < 43) : w.cell? ⟨1, n * 4, none⟩ = some (.int .i64 (opS n)) := h.1 n hn 0 (by omega)
theorem Tabs.first (h : Tabs w) {n : Nat} (hn : n < 43) : w.cell? ⟨1, n * 4 + 1, none⟩ = some (.int .u32 (opF n)) := h.1 n hn 1 (by omega)
theorem Tabs.letter (h : Tabs w) {s : Nat} (hs : s < 8) : w.cell? ⟨0, s * 19, none⟩ = some (.string (letS s)) := h.2 s hs 0 (by omega)
end
end Go.Proofs.YtjngkifoaljmaaaGreatDoor
namespace Go.Proofs.YtjngkifoaljmaaaGreatDoor
set_option maxRecDepth 100000
open Go.RowKit
set_option linter.unusedVariables false

theorem known_yes (n : Int) (w : World) (h0 : 0 ≤ n) (h1 : n < 43) :
    Calls Tryz.prog 93 #[.int .i64 n] w fun e w' => e = .returned (.bool true) ∧ w = w' := by
  go_enter Tryz.func93, Tryz.ntmps93
  go_wp2
  go_ret
  simp
theorem known_no (n : Int) (w : World) (h : n < 0 ∨ 43 ≤ n) :
    Calls Tryz.prog 93 #[.int .i64 n] w fun e w' => e = .returned (.bool false) ∧ w = w' := by
  rcases h with h | h
  · go_enter Tryz.func93, Tryz.ntmps93
    go_wp2
    go_ret
    simp
  · have h' : 0 ≤ n := by omega
    go_enter Tryz.func93, Tryz.ntmps93
    go_wp2
    go_ret
    simp
    omega
theorem form_yes (n : Nat) (w : World) (h1 : n < 43) (hT : Tabs w) :
    Calls Tryz.prog 106 #[.int .i64 n] w fun e w' => e = .returned (.string (letS (opS n))) ∧ w = w' := by
  have h0 : (0 : Int) ≤ n := by omega
  have h2 : (n : Int) < 43 := by omega
  have c0 := hT.shape h1
  have c1 := hT.letter (opS_lt h1)
  have h3 : (0 : Int) ≤ opS n := by omega
  have h4 : ((opS n : Nat) : Int) < 8 := by have := opS_lt h1; omega
  clear hT
  go_enter Tryz.func106, Tryz.ntmps106
  go_wp2_with (go_at_call 93; refine (known_yes _ _ h0 h2).mono ?_; rintro e w' ⟨rfl, rfl⟩)
  go_ret
  exact ⟨rfl, rfl⟩
theorem form_no (n : Int) (w : World) (h : n < 0 ∨ 43 ≤ n) :
    Calls Tryz.prog 106 #[.int .i64 n] w fun e w' => e = .returned (.string ⟨#[]⟩) ∧ w = w' := by
  have H := Lib.hid h
  clear h
  go_enter Tryz.func106, Tryz.ntmps106
  go_wp2_with (go_at_call 93; refine (known_no _ _ H.out).mono ?_; rintro e w' ⟨rfl, rfl⟩)
  go_ret
  exact ⟨rfl, rfl⟩
/-- a word of 32 bits -/
def IsW (v : Int) : Prop := 0 ≤ v ∧ v < 4294967296
theorem IsW.u {v : Int} (h : IsW v) : IsU v := ⟨h.1, by have := h.2; omega⟩
theorem fldN_le (v f n : Nat) : fldN v f n ≤ v := Nat.le_trans (Nat.mod_le _ _) (Nat.div_le_self _ _)
theorem isW_fld {v : Int} (f n : Int) (h : IsW v) : IsW (fld v f n) := by
  have := fldN_le v.toNat f.toNat n.toNat
  obtain ⟨h0, h1⟩ := h
  unfold fld IsW
  omega
theorem ret_u32 {a b : Int} (h : a = b) : Ending.returned (.int .u32 a) = Ending.returned (.int .u32 b) := by rw [h]
theorem wrap_u32 {v : Int} (h : IsW v) : IntKind.u32.wrap v = v := by
  obtain ⟨h0, h1⟩ := h
  show v % 4294967296 = v
  omega
theorem wfield_any (v f n : Int) (hv : IsW v) (hf : 0 ≤ f) (hn : 0 ≤ n) (h : f + n ≤ 64) (w : World) :
    Calls Tryz.prog 88 #[.int .u32 v, .int .i64 f, .int .i64 n] w fun e w' => e = .returned (.int .u32 (fld v f n)) ∧ ∃ k, w' = w.drewN k := by
  have hu := hv.u
  have hw := Lib.hid (wrap_u32 (isW_fld f n hv))
  have h0 := hv.1
  have h1 := hv.2
  go_enter Tryz.func88, Tryz.ntmps88
  go_wp2_with (go_at_call 95; refine (field_yes _ _ _ hu hf hn h _).mono ?_; rintro e w' ⟨rfl, _, rfl⟩)
  go_ret
  exact ⟨ret_u32 hw.out, _, rfl⟩
/-- a register's number -/
def regB (r : Int) : Bool := decide (0 ≤ r ∧ r < 32)
/-- may r stand where a register does, or nothing? -/
def fitB (r : Int) (has : Bool) : Bool := if has then regB r else r == 0
theorem regB_eq {r : Int} (h : IsI r) : (fld (IntKind.u64.wrap r) 0 5 == IntKind.u64.wrap r) = regB r := by
  rw [IntKind.wrap_u64]
  obtain ⟨h0, h1⟩ := h
  unfold regB fld fldN
  have e : (r % 18446744073709551616).toNat / 2 ^ (0 : Int).toNat % 2 ^ (5 : Int).toNat = (r % 18446744073709551616).toNat % 32 := by simp
  rw [e, Bool.eq_iff_iff]
  simp
  omega
theorem fits_any (r : Int) (has : Bool) (w : World) (h : IsI r) :
    Calls Tryz.prog 94 #[.int .i64 r, .bool has] w fun e w' => e = .returned (.bool (fitB r has)) ∧ w = w' := by
  have hu : IsU (IntKind.u64.wrap r) := by rw [IntKind.wrap_u64]; exact isU_mod r
  have he := Lib.hid (regB_eq h)
  clear h
  cases has with
  | false =>
    go_enter Tryz.func94, Tryz.ntmps94
    go_wp2
    go_ret
    exact ⟨rfl, rfl⟩
  | true =>
    go_enter Tryz.func94, Tryz.ntmps94
    go_wp2_with (go_at_call 103; refine (fitsU_yes _ _ hu (by omega) (by omega) _).mono ?_; rintro e w' ⟨rfl, rfl⟩)
    go_ret
    exact ⟨ret_bool he.out, rfl⟩
/-- a register's field, or 0 -/
def regI (v a : Int) (has : Bool) : Int := if has then fld v a 5 else 0
theorem register_any (v a : Int) (has : Bool) (hv : IsW v) (h0 : 0 ≤ a) (h1 : a ≤ 59) (w : World) :
    Calls Tryz.prog 73 #[.int .u32 v, .int .i64 a, .bool has] w fun e w' => e = .returned (.int .i64 (regI v a has)) ∧ ∃ k, w' = w.drewN k := by
  have hf := isW_fld a 5 hv
  obtain ⟨hf0, hf1⟩ := hf
  cases has with
  | false =>
    go_enter Tryz.func73, Tryz.ntmps73
    go_wp2
    go_ret
    exact ⟨rfl, 0, rfl⟩
  | true =>
    go_enter Tryz.func73, Tryz.ntmps73
    go_wp2_with (go_at_call 88; refine (wfield_any _ _ _ hv h0 (by omega) (by omega) _).mono ?_; rintro e w' ⟨rfl, _, rfl⟩)
    go_ret
    exact ⟨rfl, _, rfl⟩

/-- the number x, laid in the word by the first k parts of shape s -/
def spreadK (x : Int) (s : Nat) : Nat → Int
  | 0 => 0
  | k + 1 => put (spreadK x s k) (pA s k) (pN s k) (fld (x % 18446744073709551616) (pF s k) (pN s k))
def spreadI (x : Int) (s : Nat) : Int := spreadK x s 4 % 4294967296
theorem parts_bd {s k : Nat} (hs : s < 8) (hk : k < 4) : 0 ≤ pF s k ∧ 0 ≤ pN s k ∧ 0 ≤ pA s k ∧ pF s k + pN s k ≤ 64 ∧ pA s k + pN s k ≤ 32 := by
  have h : ∀ k, k < 4 → (lP s k).1 + (lP s k).2.1 ≤ 64 ∧ (lP s k).2.2 + (lP s k).2.1 ≤ 32 := all8 (p := fun s => ∀ k, k < 4 → (lP s k).1 + (lP s k).2.1 ≤ 64 ∧ (lP s k).2.2 + (lP s k).2.1 ≤ 32) (by decide +kernel) hs
  have := h k hk
  unfold pF pN pA
  omega
theorem isU_spread (x : Int) {s : Nat} (hs : s < 8) : ∀ k, k ≤ 4 → IsU (spreadK x s k)
  | 0, _ => ⟨by simp [spreadK], by simp [spreadK]⟩
  | k + 1, h => by
    obtain ⟨h0, h1, h2, h3, h4⟩ := parts_bd hs (show k < 4 by omega)
    exact isU_put (isU_spread x hs k (by omega)) h2 h1 (by omega)
def layA (s : Nat) : Array Value := #[.string (letS s), .bool (lRd s), .bool (lR1 s), .bool (lR2 s), .bool (lKd s), .int .i64 (lRest s), .int .i64 (lSg s),
  .int .i64 (pF s 0), .int .i64 (pN s 0), .int .i64 (pA s 0), .int .i64 (pF s 1), .int .i64 (pN s 1), .int .i64 (pA s 1), .int .i64 (pF s 2), .int .i64 (pN s 2), .int .i64 (pA s 2), .int .i64 (pF s 3), .int .i64 (pN s 3), .int .i64 (pA s 3)]
theorem ix0 (a b c d e f g h i j k l : Value) (w : World) : (Instr.index 124 (.agg #[a, b, c, d, e, f, g, h, i, j, k, l]) (.int .i64 0)).run Tryz.prog w = .ok (.agg #[a, b, c]) w := by kernel_rfl
theorem ix1 (a b c d e f g h i j k l : Value) (w : World) : (Instr.index 124 (.agg #[a, b, c, d, e, f, g, h, i, j, k, l]) (.int .i64 1)).run Tryz.prog w = .ok (.agg #[d, e, f]) w := by kernel_rfl
theorem ix2 (a b c d e f g h i j k l : Value) (w : World) : (Instr.index 124 (.agg #[a, b, c, d, e, f, g, h, i, j, k, l]) (.int .i64 2)).run Tryz.prog w = .ok (.agg #[g, h, i]) w := by kernel_rfl
theorem ix3 (a b c d e f g h i j k l : Value) (w : World) : (Instr.index 124 (.agg #[a, b, c, d, e, f, g, h, i, j, k, l]) (.int .i64 3)).run Tryz.prog w = .ok (.agg #[j, k, l]) w := by kernel_rfl
theorem below_drewN {B : Nat} {a w : World} (h : Below B a w) (n : Nat) : Below B a (w.drewN n) := ⟨h.os, h.tape, h.output, h.size, h.block⟩
theorem val_u64 {a b : Int} (h : a = b) : Value.int .u64 a = Value.int .u64 b := by rw [h]
set_option maxHeartbeats 1000000 in
theorem spread_any (x : Int) (s : Nat) (hs : s < 8) (w : World) :
    Calls Tryz.prog 78 #[.int .i64 x, .agg (layA s)] w fun e w' => e = .returned (.int .u32 (spreadI x s)) ∧ Below w.heap.size w w' := by
  unfold layA
  have hx : IsU (IntKind.u64.wrap x) := by rw [IntKind.wrap_u64]; exact isU_mod x
  have HB : Hid (∀ k, k < 4 → 0 ≤ pF s k ∧ 0 ≤ pN s k ∧ 0 ≤ pA s k ∧ pF s k + pN s k ≤ 64 ∧ pA s k + pN s k ≤ 32) := Lib.hid (fun k hk => parts_bd hs hk)
  have HU : Hid (∀ k, k ≤ 4 → IsU (spreadK x s k)) := Lib.hid (isU_spread x hs)
  have i0 := ix0
  have i1 := ix1
  have i2 := ix2
  have i3 := ix3
  go_enter Tryz.func78, Tryz.ntmps78
  go_wp2
  go_loopw [5, 12] (fun v i wr => ∃ k : Nat, k ≤ 4 ∧ i = .int .i64 k ∧ v = .int .u64 (spreadK x s k) ∧ Below w.heap.size w wr) (fun _ i _ => 4 - (intOf i).toNat)
  case atStart => exact ⟨0, by omega, rfl, rfl, (Below.refl _ _).alloc (Nat.le_refl _) _⟩
  case round =>
    obtain ⟨k, hk, rfl, rfl, hb⟩ := hrel
    have Hb := Lib.hid hb
    clear hb
    have hu := HU.out k hk
    by_cases hlt : k < 4
    · obtain ⟨b0, b1, b2, b3, b4⟩ := HB.out k hlt
      have hf : IsU (fld (IntKind.u64.wrap x) (pF s k) (pN s k)) := isU_fld _ _ _ (by omega)
      obtain rfl | rfl | rfl | rfl : k = 0 ∨ k = 1 ∨ k = 2 ∨ k = 3 := by omega
      all_goals
        go_wp2_with (first | (go_at_call 95; refine (field_yes _ _ _ hx b0 b1 b3 _).mono ?_; rintro e w' ⟨rfl, _, rfl⟩) | (go_at_call 75; refine (put_yes _ _ _ _ hu b2 b1 (by omega) hf _).mono ?_; rintro e w' ⟨rfl, _, rfl⟩))
        go_roundw
        case rel => first | exact ⟨1, by omega, rfl, val_u64 (by rw [IntKind.wrap_u64]; rfl), below_drewN (Hb.out.alloc (Hb.out.size) _) _⟩ | exact ⟨2, by omega, rfl, val_u64 (by rw [IntKind.wrap_u64]; rfl), below_drewN (Hb.out.alloc (Hb.out.size) _) _⟩ | exact ⟨3, by omega, rfl, val_u64 (by rw [IntKind.wrap_u64]; rfl), below_drewN (Hb.out.alloc (Hb.out.size) _) _⟩ | exact ⟨4, by omega, rfl, val_u64 (by rw [IntKind.wrap_u64]; rfl), below_drewN (Hb.out.alloc (Hb.out.size) _) _⟩
        case measure => simp [intOf]
    · obtain rfl : k = 4 := by omega
      go_wp2
      go_ret
      exact ⟨rfl, Hb.out⟩

/-- the number that the first k parts of shape s hold in the word v -/
def numberK (v : Int) (s : Nat) : Nat → Int
  | 0 => 0
  | k + 1 => put (numberK v s k) (pF s k) (pN s k) (fld v (pA s k) (pN s k))
def numberI (v : Int) (s : Nat) : Int := if lSg s = 0 then wrap64 (numberK v s 4) else sgn (numberK v s 4) (lSg s)
theorem isU_number (v : Int) {s : Nat} (hs : s < 8) : ∀ k, k ≤ 4 → IsU (numberK v s k)
  | 0, _ => ⟨by simp [numberK], by simp [numberK]⟩
  | k + 1, h => by
    obtain ⟨h0, h1, h2, h3, h4⟩ := parts_bd hs (show k < 4 by omega)
    exact isU_put (isU_number v hs k (by omega)) h0 h1 (by omega)
theorem lSg_bd {s : Nat} (hs : s < 8) : lSg s ≤ 64 := all8 (p := fun s => lSg s ≤ 64) (by decide +kernel) hs
set_option maxHeartbeats 1000000 in
theorem number_any (v : Int) (s : Nat) (hv : IsW v) (hs : s < 8) (w : World) :
    Calls Tryz.prog 74 #[.int .u32 v, .agg (layA s)] w fun e w' => e = .returned (.int .i64 (numberI v s)) ∧ Below w.heap.size w w' := by
  unfold layA
  have HB : Hid (∀ k, k < 4 → 0 ≤ pF s k ∧ 0 ≤ pN s k ∧ 0 ≤ pA s k ∧ pF s k + pN s k ≤ 64 ∧ pA s k + pN s k ≤ 32) := Lib.hid (fun k hk => parts_bd hs hk)
  have HU : Hid (∀ k, k ≤ 4 → IsU (numberK v s k)) := Lib.hid (isU_number v hs)
  have HS := lSg_bd hs
  have i0 := ix0
  have i1 := ix1
  have i2 := ix2
  have i3 := ix3
  go_enter Tryz.func74, Tryz.ntmps74
  go_wp2
  go_loopw [5, 10] (fun u i wr => ∃ k : Nat, k ≤ 4 ∧ i = .int .i64 k ∧ u = .int .u64 (numberK v s k) ∧ Below (w.heap.size + 1) (w.alloc (.cells (layA s) 126)) wr) (fun _ i _ => 4 - (intOf i).toNat)
  case atStart => exact ⟨0, by omega, rfl, rfl, Below.refl _ _⟩
  case round =>
    obtain ⟨k, hk, rfl, rfl, hb⟩ := hrel
    have hsz : w.heap.size + 1 ≤ wr.heap.size := by have := hb.size; simp at this; omega
    have hcs : wr.cell? ⟨w.heap.size, 6, none⟩ = some (.int .i64 (lSg s)) := by
      rw [hb.cell (p := ⟨w.heap.size, 6, none⟩) (by simp)]; simp [go_sem, layA]
    have Hb := Lib.hid hb
    clear hb
    have hu := HU.out k hk
    by_cases hlt : k < 4
    · obtain ⟨b0, b1, b2, b3, b4⟩ := HB.out k hlt
      have hf := (isW_fld (pA s k) (pN s k) hv)
      obtain ⟨hf0, hf1⟩ := hf
      have hf : IsU (fld v (pA s k) (pN s k)) := ⟨hf0, by omega⟩
      obtain rfl | rfl | rfl | rfl : k = 0 ∨ k = 1 ∨ k = 2 ∨ k = 3 := by omega
      all_goals
        go_wp2
        go_quiet ((first | (go_at_call 88; exact Calls.quiet_of (wfield_any _ _ _ hv b2 b1 (by omega) _)) | (go_at_call 75; exact Calls.quiet_of (put_yes _ _ _ _ hu b0 b1 b3 hf _))))
        go_wp2
        go_roundw
        case rel => first | exact ⟨1, by omega, rfl, rfl, below_drewN (Hb.out.alloc (by omega) _) _⟩ | exact ⟨2, by omega, rfl, rfl, below_drewN (Hb.out.alloc (by omega) _) _⟩ | exact ⟨3, by omega, rfl, rfl, below_drewN (Hb.out.alloc (by omega) _) _⟩ | exact ⟨4, by omega, rfl, rfl, below_drewN (Hb.out.alloc (by omega) _) _⟩
        case measure => simp [intOf]
    · obtain rfl : k = 4 := by omega
      have hfin : Below w.heap.size w wr := ((Below.refl w.heap.size w).alloc (Nat.le_refl _) _).trans (Hb.out.mono (by omega))
      have HF := Lib.hid hfin
      clear hfin
      by_cases hz : lSg s = 0
      · have hz' : ((lSg s : Nat) : Int) = 0 := by omega
        have hn := Lib.hid (show numberI v s = wrap64 (numberK v s 4) by unfold numberI; rw [if_pos hz])
        rw [hz'] at hcs
        clear hz hz' HS
        go_wp2
        go_ret
        exact ⟨ret_i64 hn.out.symm, HF.out⟩
      · have hz' : (((lSg s : Nat) : Int) == 0) = false := by rw [beq_eq_false_iff_ne]; omega
        have h1 : (1 : Int) ≤ ((lSg s : Nat) : Int) := by omega
        have h2 : ((lSg s : Nat) : Int) ≤ 64 := by omega
        have hn := Lib.hid (show numberI v s = sgn (numberK v s 4) (lSg s) by unfold numberI; rw [if_neg hz])
        clear hz HS
        go_wp2_with (go_at_call 76; refine (sign_yes _ _ hu h1 h2 _).mono ?_; rintro e w' ⟨rfl, rfl⟩)
        go_ret
        exact ⟨ret_i64 hn.out.symm, HF.out⟩
end Go.Proofs.YtjngkifoaljmaaaGreatDoor
namespace Go.Proofs.YtjngkifoaljmaaaGreatDoor
set_option maxRecDepth 100000
open Go.RowKit
set_option linter.unusedVariables false

theorem fits_at (r : Int) (has b : Bool) (w : World) (h : IsI r) (hb : fitB r has = b) :
    Calls Tryz.prog 94 #[.int .i64 r, .bool has] w fun e w' => e = .returned (.bool b) ∧ w' = w := by
  subst hb
  exact (fits_any r has w h).mono fun _ _ ⟨h1, h2⟩ => ⟨h1, h2.symm⟩
theorem quiet_same {P : Program} {f : FuncId} {args : Array Value} {w : World} {n : Nat} {v : Value}
    (h : Calls P f args (w.drewN n) fun e w' => e = .returned v ∧ w' = w.drewN n) : Calls P f args (w.drewN n) fun e w'' => e = .returned v ∧ ∃ m, w'' = w.drewN m := Calls.quiet_of_same h
/-- an instruction, by value -/
def insA (op rd r1 r2 imm : Int) : Array Value := #[.int .i64 op, .int .i64 rd, .int .i64 r1, .int .i64 r2, .int .i64 imm]
/-- is it an instruction of operation n? -/
def mayB (n : Nat) (rd r1 r2 imm : Int) : Bool :=
  fitB rd (lRd (opS n)) && fitB r1 (lR1 (opS n)) && fitB r2 (lR2 (opS n)) && (numberI (spreadI imm (opS n)) (opS n) == imm)
/-- the row of a shape, cell by cell -/
def LayAt (w : World) (b o s : Nat) : Prop := ∀ j, j < 19 → w.cell? ⟨b, o + j, none⟩ = some (nthV (layCells s) j)
theorem Tabs.layAt {w : World} (h : Tabs w) {s : Nat} (hs : s < 8) : LayAt w 0 (s * 19) s := fun j hj => h.2 s hs j hj

theorem add_off (b o j : Nat) : (⟨b, o, none⟩ : Addr).add j = ⟨b, o + j, none⟩ := by unfold Addr.add; split <;> simp_all
theorem run_load_lay {w : World} {b o s : Nat} (h : LayAt w b o s) : (loadVar 126 ⟨b, o, none⟩).run Tryz.prog w = .ok (.agg (layA s)) w := by
  have hl : (loadCells ⟨b, o, none⟩ (layCells s).length).run Tryz.prog w = .ok (layCells s).toArray w :=
    run_loadCells_list (P := Tryz.prog) w ⟨b, o, none⟩ (layCells s) (fun j v hv => by
      rw [add_off]
      have hj : j < 19 := by
        have := (List.getElem?_eq_some_iff.1 hv).1
        exact this
      rw [h j hj]
      unfold nthV
      rw [List.getD_eq_getElem?_getD, hv]
      rfl)
  have hagg : (isAgg 126).run Tryz.prog w = .ok true w := by
    unfold isAgg
    rw [Sem.run_bind, run_underlying Tryz.underlying126 w]
    rfl
  have hl' : (loadCells ⟨b, o, none⟩ 19).run Tryz.prog w = .ok (layA s) w := hl
  have hsz : (sizeOf 126).run Tryz.prog w = .ok 19 w := by kernel_rfl
  unfold loadVar
  simp only [Sem.run_bind, hagg, hsz, hl', Result.andThen_ok, if_true, Sem.run_pure]
theorem wpList_load_lay {w : World} {ops : Array Oper} {rest : List Oper} {o : Oper} {a : Act} {Q : Exit → Act → World → Prop} (hgd : o.guard = none) (x : Operand) (ho : o.op = .load 126 x)
    (b off s : Nat) (hx : a.eval x = .pointer (some ⟨b, off, none⟩)) (hc : LayAt w b off s)
    (h : wpList Tryz.prog ops Q rest (a.put o.dst (.agg #[.string (letS s), .bool (lRd s), .bool (lR1 s), .bool (lR2 s), .bool (lKd s), .int .i64 (lRest s), .int .i64 (lSg s),
  .int .i64 (pF s 0), .int .i64 (pN s 0), .int .i64 (pA s 0), .int .i64 (pF s 1), .int .i64 (pN s 1), .int .i64 (pA s 1), .int .i64 (pF s 2), .int .i64 (pN s 2), .int .i64 (pA s 2), .int .i64 (pF s 3), .int .i64 (pN s 3), .int .i64 (pA s 3)])) w) : wpList Tryz.prog ops Q (o :: rest) a w :=
  wpList_plain hgd fun K hK => by
    unfold Oper.wp execOp
    simp only [ho, hx, Instr.loadAt, Instr.sureAddr, Sem.run_bind, Sem.run_pure, Result.andThen_ok, run_load_lay hc]
    exact hK _ _ h

theorem layInfo : (Tryz.prog.info? 126).map (·.size) = some 19 := by kernel_rfl
theorem wpList_store_new {P : Program} {ops : Array Oper} {rest : List Oper} {o : Oper} {a : Act} {Q : Exit → Act → World → Prop} (hgd : o.guard = none) (ty : TypeId) (x y : Operand) (ho : o.op = .store ty x y)
    (w0 : World) (c c' : Array Value) (g : Nat) (hx : a.eval x = .pointer (some ⟨g, 0, none⟩)) (hy : a.eval y = .agg c') (hi : (P.info? ty).map (·.size) = some c'.size) (hs : c.size = c'.size) (h1 : c'.all (·.oneCell') = true)
    (hd : o.dst = none) (hg : w0.heap.size = g) (h : wpList P ops Q rest a (w0.alloc (.cells c' ty))) : wpList P ops Q (o :: rest) a (w0.alloc (.cells c ty)) :=
  wpList_plain hgd fun K hK => by
    subst hg
    unfold Oper.wp execOp
    simp only [ho, hx, hy, run_storeAt_new w0 ty c c' hi hs h1, Sem.run_bind, Result.andThen_ok, Sem.run_pure]
    have e : a.put o.dst undef = a := by rw [hd]; rfl
    rw [← e] at h
    exact hK _ _ h

/-- block b begins with the row of shape s; with an instruction -/
abbrev LayC (w : World) (b s : Nat) : Prop := w.cell? ⟨b, 0, none⟩ = some (.string (letS s)) ∧ w.cell? ⟨b, 1, none⟩ = some (.bool (lRd s)) ∧ w.cell? ⟨b, 2, none⟩ = some (.bool (lR1 s)) ∧ w.cell? ⟨b, 3, none⟩ = some (.bool (lR2 s)) ∧ w.cell? ⟨b, 4, none⟩ = some (.bool (lKd s)) ∧ w.cell? ⟨b, 5, none⟩ = some (.int .i64 (lRest s)) ∧ w.cell? ⟨b, 6, none⟩ = some (.int .i64 (lSg s)) ∧ w.cell? ⟨b, 7, none⟩ = some (.int .i64 (pF s 0)) ∧ w.cell? ⟨b, 8, none⟩ = some (.int .i64 (pN s 0)) ∧ w.cell? ⟨b, 9, none⟩ = some (.int .i64 (pA s 0)) ∧ w.cell? ⟨b, 10, none⟩ = some (.int .i64 (pF s 1)) ∧ w.cell? ⟨b, 11, none⟩ = some (.int .i64 (pN s 1)) ∧ w.cell? ⟨b, 12, none⟩ = some (.int .i64 (pA s 1)) ∧ w.cell? ⟨b, 13, none⟩ = some (.int .i64 (pF s 2)) ∧ w.cell? ⟨b, 14, none⟩ = some (.int .i64 (pN s 2)) ∧ w.cell? ⟨b, 15, none⟩ = some (.int .i64 (pA s 2)) ∧ w.cell? ⟨b, 16, none⟩ = some (.int .i64 (pF s 3)) ∧ w.cell? ⟨b, 17, none⟩ = some (.int .i64 (pN s 3)) ∧ w.cell? ⟨b, 18, none⟩ = some (.int .i64 (pA s 3))
abbrev InsC (w : World) (b : Nat) (op rd r1 r2 imm : Int) : Prop := w.cell? ⟨b, 0, none⟩ = some (.int .i64 op) ∧ w.cell? ⟨b, 1, none⟩ = some (.int .i64 rd) ∧ w.cell? ⟨b, 2, none⟩ = some (.int .i64 r1) ∧ w.cell? ⟨b, 3, none⟩ = some (.int .i64 r2) ∧ w.cell? ⟨b, 4, none⟩ = some (.int .i64 imm)
theorem layC_iff {w : World} {b s : Nat} : LayC w b s ↔ LayAt w b 0 s := by
  constructor
  · rintro ⟨h0, h1, h2, h3, h4, h5, h6, h7, h8, h9, h10, h11, h12, h13, h14, h15, h16, h17, h18⟩ j hj
    rw [Nat.zero_add]
    match j, hj with
    | 0, _ => exact h0
    | 1, _ => exact h1
    | 2, _ => exact h2
    | 3, _ => exact h3
    | 4, _ => exact h4
    | 5, _ => exact h5
    | 6, _ => exact h6
    | 7, _ => exact h7
    | 8, _ => exact h8
    | 9, _ => exact h9
    | 10, _ => exact h10
    | 11, _ => exact h11
    | 12, _ => exact h12
    | 13, _ => exact h13
    | 14, _ => exact h14
    | 15, _ => exact h15
    | 16, _ => exact h16
    | 17, _ => exact h17
    | 18, _ => exact h18
    | j + 19, h => exact absurd h (by omega)
  · intro h
    have h' : ∀ j, j < 19 → w.cell? ⟨b, j, none⟩ = some (nthV (layCells s) j) := fun j hj => by
      have := h j hj
      rwa [Nat.zero_add] at this
    exact ⟨h' 0 (by omega), h' 1 (by omega), h' 2 (by omega), h' 3 (by omega), h' 4 (by omega), h' 5 (by omega), h' 6 (by omega), h' 7 (by omega), h' 8 (by omega), h' 9 (by omega), h' 10 (by omega), h' 11 (by omega), h' 12 (by omega), h' 13 (by omega), h' 14 (by omega), h' 15 (by omega), h' 16 (by omega), h' 17 (by omega), h' 18 (by omega)⟩
theorem cell_kept {w w' : World} {b o : Nat} {v : Value} (hb : Below w.heap.size w w') (h : w.cell? ⟨b, o, none⟩ = some v) : w'.cell? ⟨b, o, none⟩ = some v := by
  have lt : b < w.heap.size := by
    rcases Nat.lt_or_ge b w.heap.size with h1 | h1
    · exact h1
    · simp [World.cell?, Array.getElem?_eq_none h1] at h
  rw [hb.cell (p := ⟨b, o, none⟩) lt]; exact h
theorem LayAt.below {w w' : World} {b o s : Nat} (h : LayAt w b o s) (hb : Below w.heap.size w w') : LayAt w' b o s := fun j hj => cell_kept hb (h j hj)
theorem LayC.below {w w' : World} {b s : Nat} (h : LayC w b s) (hb : Below w.heap.size w w') : LayC w' b s := layC_iff.2 ((layC_iff.1 h).below hb)
theorem InsC.below {w w' : World} {b : Nat} {op rd r1 r2 imm : Int} (h : InsC w b op rd r1 r2 imm) (hb : Below w.heap.size w w') : InsC w' b op rd r1 r2 imm :=
  ⟨cell_kept hb h.1, cell_kept hb h.2.1, cell_kept hb h.2.2.1, cell_kept hb h.2.2.2.1, cell_kept hb h.2.2.2.2⟩
theorem layC_new {w : World} {s : Nat} {t : TypeId} : LayC (w.alloc (.cells (layA s) t)) w.heap.size s := by
  refine layC_iff.2 fun j hj => ?_
  rw [Nat.zero_add, World.cell?_alloc_new]
  have : (layA s)[j]? = (layCells s)[j]? := by show (layCells s).toArray[j]? = _; simp
  rw [this]
  have hl : j < (layCells s).length := hj
  rw [List.getElem?_eq_getElem hl]
  unfold nthV
  rw [List.getD_eq_getElem?_getD, List.getElem?_eq_getElem hl]
  rfl
theorem insC_new {w : World} {op rd r1 r2 imm : Int} {t : TypeId} : InsC (w.alloc (.cells (insA op rd r1 r2 imm) t)) w.heap.size op rd r1 r2 imm := by
  refine ⟨?_, ?_, ?_, ?_, ?_⟩ <;> simp [insA]
/-- the load of a whole row, shut: so that a region takes it at once, not cell by cell -/
def layLoad (v : Value) : Sem Value := Instr.loadAt 126 v
theorem loadAt_lay (v : Value) : Instr.loadAt 126 v = layLoad v := rfl
/-- what a region over an instruction in block b and a shape's row in block c may count on: a few cells, and the whole row at once -/
abbrev HeldL (w : World) (c s : Nat) : Prop := w.cell? ⟨c, 1, none⟩ = some (.bool (lRd s)) ∧ w.cell? ⟨c, 2, none⟩ = some (.bool (lR1 s)) ∧ w.cell? ⟨c, 3, none⟩ = some (.bool (lR2 s)) ∧ w.cell? ⟨c, 4, none⟩ = some (.bool (lKd s)) ∧ w.cell? ⟨c, 5, none⟩ = some (.int .i64 (lRest s)) ∧
  (layLoad (.pointer (some ⟨c, 0, none⟩))).run Tryz.prog w = .ok (.agg #[.string (letS s), .bool (lRd s), .bool (lR1 s), .bool (lR2 s), .bool (lKd s), .int .i64 (lRest s), .int .i64 (lSg s),
  .int .i64 (pF s 0), .int .i64 (pN s 0), .int .i64 (pA s 0), .int .i64 (pF s 1), .int .i64 (pN s 1), .int .i64 (pA s 1), .int .i64 (pF s 2), .int .i64 (pN s 2), .int .i64 (pA s 2), .int .i64 (pF s 3), .int .i64 (pN s 3), .int .i64 (pA s 3)]) w
theorem heldL_of {w : World} {c s : Nat} (h : LayAt w c 0 s) : HeldL w c s := by
  have hc : ∀ j, j < 19 → w.cell? ⟨c, j, none⟩ = some (nthV (layCells s) j) := fun j hj => by
    have := h j hj
    rwa [Nat.zero_add] at this
  refine ⟨hc 1 (by omega), hc 2 (by omega), hc 3 (by omega), hc 4 (by omega), hc 5 (by omega), ?_⟩
  unfold layLoad
  simp only [Instr.loadAt, Instr.sureAddr, Sem.run_bind, Sem.run_pure, Result.andThen_ok]
  exact run_load_lay h
abbrev Held (w0 w : World) (b c s : Nat) (op rd r1 r2 imm : Int) : Prop := InsC w b op rd r1 r2 imm ∧ HeldL w c s ∧ LayAt w c 0 s ∧ Below w0.heap.size w0 w
theorem held_below {w0 w w' : World} {b c s : Nat} {op rd r1 r2 imm : Int} (h : Held w0 w b c s op rd r1 r2 imm) (hb : Below w.heap.size w w') : Held w0 w' b c s op rd r1 r2 imm :=
  ⟨InsC.below h.1 hb, heldL_of (h.2.2.1.below hb), h.2.2.1.below hb, h.2.2.2.trans (hb.mono h.2.2.2.size)⟩
theorem held_drew {w0 w : World} {b c s : Nat} {op rd r1 r2 imm : Int} (h : Held w0 w b c s op rd r1 r2 imm) : Held w0 w.drew b c s op rd r1 r2 imm :=
  held_below h (Below.drew (Below.refl _ _))
theorem held_drewN {w0 w : World} {b c s : Nat} {op rd r1 r2 imm : Int} (h : Held w0 w b c s op rd r1 r2 imm) (n : Nat) : Held w0 (w.drewN n) b c s op rd r1 r2 imm :=
  held_below h (below_drewN (Below.refl _ _) n)
theorem held_bel {w0 w : World} {b c s : Nat} {op rd r1 r2 imm : Int} (h : Held w0 w b c s op rd r1 r2 imm) : Below w0.heap.size w0 w := h.2.2.2
theorem held_start {w : World} {s : Nat} {op rd r1 r2 imm : Int} {t u : TypeId} : Held w ((w.alloc (.cells (insA op rd r1 r2 imm) t)).alloc (.cells (layA s) u)) w.heap.size (w.heap.size + 1) s op rd r1 r2 imm := by
  have e : w.heap.size + 1 = (w.alloc (.cells (insA op rd r1 r2 imm) t)).heap.size := by simp
  have hl : LayAt ((w.alloc (.cells (insA op rd r1 r2 imm) t)).alloc (.cells (layA s) u)) (w.heap.size + 1) 0 s := by
    rw [e]; exact layC_iff.1 layC_new
  exact ⟨InsC.below insC_new ((Below.refl _ _).alloc (Nat.le_refl _) _), heldL_of hl, hl, ((Below.refl _ _).alloc (Nat.le_refl _) _).alloc (by simp) _⟩

theorem isW_spread (x : Int) (s : Nat) : IsW (spreadI x s) := by unfold spreadI IsW; omega
theorem spread_at (x : Int) (s : Nat) (hs : s < 8) (w : World) :
    Calls Tryz.prog 78 #[.int .i64 x, .agg #[.string (letS s), .bool (lRd s), .bool (lR1 s), .bool (lR2 s), .bool (lKd s), .int .i64 (lRest s), .int .i64 (lSg s),
  .int .i64 (pF s 0), .int .i64 (pN s 0), .int .i64 (pA s 0), .int .i64 (pF s 1), .int .i64 (pN s 1), .int .i64 (pA s 1), .int .i64 (pF s 2), .int .i64 (pN s 2), .int .i64 (pA s 2), .int .i64 (pF s 3), .int .i64 (pN s 3), .int .i64 (pA s 3)]] w fun e w' => e = .returned (.int .u32 (spreadI x s)) ∧ Below w.heap.size w w' := spread_any x s hs w
theorem number_at (v : Int) (s : Nat) (hv : IsW v) (hs : s < 8) (w : World) :
    Calls Tryz.prog 74 #[.int .u32 v, .agg #[.string (letS s), .bool (lRd s), .bool (lR1 s), .bool (lR2 s), .bool (lKd s), .int .i64 (lRest s), .int .i64 (lSg s),
  .int .i64 (pF s 0), .int .i64 (pN s 0), .int .i64 (pA s 0), .int .i64 (pF s 1), .int .i64 (pN s 1), .int .i64 (pA s 1), .int .i64 (pF s 2), .int .i64 (pN s 2), .int .i64 (pA s 2), .int .i64 (pF s 3), .int .i64 (pN s 3), .int .i64 (pA s 3)]] w fun e w' => e = .returned (.int .i64 (numberI v s)) ∧ Below w.heap.size w w' := number_any v s hv hs w
attribute [local go_sem ↓] loadAt_lay
theorem may_no (op rd r1 r2 imm : Int) (w : World) (h : op < 0 ∨ 43 ≤ op) :
    Calls Tryz.prog 77 #[.agg (insA op rd r1 r2 imm)] w fun e w' => e = .returned (.bool false) ∧ Below w.heap.size w w' := by
  unfold insA
  have H := Lib.hid h
  clear h
  go_enter Tryz.func77, Tryz.ntmps77
  go_wp2_with (go_at_call 93; refine (known_no _ _ H.out).mono ?_; rintro e w' ⟨rfl, rfl⟩)
  go_ret
  exact ⟨rfl, (Below.refl _ _).alloc (Nat.le_refl _) _⟩
set_option maxHeartbeats 1000000 in
theorem may_any (n : Nat) (rd r1 r2 imm : Int) (w : World) (hn : n < 43) (hT : Tabs w) (i0 : IsI rd) (i1 : IsI r1) (i2 : IsI r2) :
    Calls Tryz.prog 77 #[.agg (insA n rd r1 r2 imm)] w fun e w' => e = .returned (.bool (mayB n rd r1 r2 imm)) ∧ Below w.heap.size w w' := by
  unfold insA
  have h0 : (0 : Int) ≤ n := by omega
  have h2 : (n : Int) < 43 := by omega
  have h3 : (0 : Int) ≤ opS n := by omega
  have h4 : ((opS n : Nat) : Int) < 8 := by have := opS_lt hn; omega
  have hT1 := hT.alloc (.cells #[.int .i64 n, .int .i64 rd, .int .i64 r1, .int .i64 r2, .int .i64 imm] 49)
  have c0 := hT.shape hn
  have L := Lib.hid (hT1.layAt (opS_lt hn))
  have hs := opS_lt hn
  generalize hm : mayB n rd r1 r2 imm = M
  unfold mayB at hm
  have HM := Lib.hid hm
  clear hm
  generalize opS n = s at *
  have HT := Lib.hid hT1
  have z1 : 1 < w.heap.size := hT.size
  have z0 : 0 < w.heap.size := by omega
  clear hT1 hT
  go_enter Tryz.func77, Tryz.ntmps77
  go_wp2_with (first | (go_at_call 93; refine (known_yes _ _ h0 h2).mono ?_; rintro e w' ⟨rfl, rfl⟩) | (refine wpList_load_lay rfl _ rfl _ _ s rfl L.out ?_) | (refine wpList_store_new rfl 126 _ _ rfl _ _ _ _ rfl rfl ?hi ?hs ?h1 rfl ?hg ?_; (case hi => exact layInfo); (case hs => exact rfl); (case h1 => simp [Value.oneCell']); (case hg => simp)))
  have HS := held_start (w := w) (s := s) (op := n) (rd := rd) (r1 := r1) (r2 := r2) (imm := imm) (t := 49) (u := 126)
  unfold insA layA at HS
  generalize (w.alloc (.cells #[.int .i64 n, .int .i64 rd, .int .i64 r1, .int .i64 r2, .int .i64 imm] 49)).alloc _ = W at HS ⊢
  clear HT L c0 h0 h2
  have HH := Lib.hid HS
  obtain ⟨⟨x0, x1, x2, x3, x4⟩, ⟨y1, y2, y3, _, _, _⟩, _, HB⟩ := HS
  have HBel := Lib.hid HB
  clear HB
  cases e0 : fitB rd (lRd s) with
  | false =>
    have hM : false = M := by have := HM.out; rw [e0] at this; exact this
    subst hM
    go_quiet ((go_at_call 94; exact Calls.quiet_of_same (fits_at _ _ _ _ i0 e0)))
    go_wp2
    go_ret
    exact ⟨rfl, below_drewN HBel.out _⟩
  | true =>
    cases e1 : fitB r1 (lR1 s) with
    | false =>
      have hM : false = M := by have := HM.out; rw [e0, e1] at this; exact this
      subst hM
      go_quiet ((first | (go_at_call 94; (with_reducible refine quiet_same (fits_at rd (lRd s) true _ i0 e0))) | (go_at_call 94; (with_reducible refine quiet_same (fits_at r1 (lR1 s) false _ i1 e1)))))
      go_wp2
      go_ret
      exact ⟨rfl, below_drewN HBel.out _⟩
    | true =>
      cases e2 : fitB r2 (lR2 s) with
      | false =>
        have hM : false = M := by have := HM.out; rw [e0, e1, e2] at this; exact this
        subst hM
        go_quiet ((first | (go_at_call 94; (with_reducible refine quiet_same (fits_at rd (lRd s) true _ i0 e0))) | (go_at_call 94; (with_reducible refine quiet_same (fits_at r1 (lR1 s) true _ i1 e1))) | (go_at_call 94; (with_reducible refine quiet_same (fits_at r2 (lR2 s) false _ i2 e2)))))
        go_wp2
        go_ret
        exact ⟨rfl, below_drewN HBel.out _⟩
      | true =>
        have hW := isW_spread imm s
        have hF := HH.out
        clear x0 x1 x2 x3 x4 y1 y2 y3 HH HBel
        go_region_held3 (fun w' => InsC w' w.heap.size n rd r1 r2 imm ∧ HeldL w' (w.heap.size + 1) s ∧ LayAt w' (w.heap.size + 1) 0 s ∧ Below w.heap.size w w') (first | assumption | (with_reducible apply held_drew; assumption) | (with_reducible apply held_drewN; assumption) | (apply held_below; assumption; assumption))
          (first
          | (go_at_call 94; (with_reducible refine (fits_at rd (lRd s) true _ i0 e0).mono ?_); rintro e w' ⟨rfl, rfl⟩)
          | (go_at_call 94; (with_reducible refine (fits_at r1 (lR1 s) true _ i1 e1).mono ?_); rintro e w' ⟨rfl, rfl⟩)
          | (go_at_call 94; (with_reducible refine (fits_at r2 (lR2 s) true _ i2 e2).mono ?_); rintro e w' ⟨rfl, rfl⟩)
          | (go_at_call 78; (with_reducible refine (spread_at imm s hs _).mono ?_); rintro e w' ⟨rfl, hb⟩)
          | (go_at_call 74; (with_reducible refine (number_at _ s hW hs _).mono ?_); rintro e w' ⟨rfl, hb⟩))
        have hM := Lib.hid (show (numberI (spreadI imm s) s == imm) = M by have := HM.out; rw [e0, e1, e2] at this; exact this)
        go_wp2
        go_ret
        refine ⟨ret_bool hM.out, ?_⟩
        apply held_bel
        assumption
end Go.Proofs.YtjngkifoaljmaaaGreatDoor
namespace Go.Proofs.YtjngkifoaljmaaaGreatDoor
set_option maxRecDepth 100000
open Go.RowKit
set_option linter.unusedVariables false

theorem may_at (n : Nat) (rd r1 r2 imm : Int) (w : World) (hn : n < 43) (hT : Tabs w) (i0 : IsI rd) (i1 : IsI r1) (i2 : IsI r2) (b : Bool) (hb : mayB n rd r1 r2 imm = b) :
    Calls Tryz.prog 77 #[.agg #[.int .i64 n, .int .i64 rd, .int .i64 r1, .int .i64 r2, .int .i64 imm]] w fun e w' => e = .returned (.bool b) ∧ Below w.heap.size w w' := by
  subst hb
  exact may_any n rd r1 r2 imm w hn hT i0 i1 i2
theorem may_out (op rd r1 r2 imm : Int) (w : World) (h : op < 0 ∨ 43 ≤ op) :
    Calls Tryz.prog 77 #[.agg #[.int .i64 op, .int .i64 rd, .int .i64 r1, .int .i64 r2, .int .i64 imm]] w fun e w' => e = .returned (.bool false) ∧ Below w.heap.size w w' := may_no op rd r1 r2 imm w h
theorem encode_out (op rd r1 r2 imm : Int) (w : World) (h : op < 0 ∨ 43 ≤ op) :
    Calls Tryz.prog 60 #[.agg (insA op rd r1 r2 imm)] w fun e w' => e = .returned (.tuple #[.int .u32 0, .int .i64 1]) ∧ Below w.heap.size w w' := by
  unfold insA
  have H := Lib.hid h
  clear h
  go_enter Tryz.func60, Tryz.ntmps60
  go_wp2_with fail
  refine (may_out _ _ _ _ _ _ H.out).mono ?_
  rintro e w1 ⟨rfl, hb⟩
  have Hb := Lib.hid (((Below.refl w.heap.size w).alloc (Nat.le_refl _) _).trans (hb.mono (by simp)))
  clear hb
  go_wp2
  go_ret2
  exact ⟨rfl, Hb.out⟩
theorem encode_no (n : Nat) (rd r1 r2 imm : Int) (w : World) (hn : n < 43) (hT : Tabs w) (i0 : IsI rd) (i1 : IsI r1) (i2 : IsI r2) (hM : mayB n rd r1 r2 imm = false) :
    Calls Tryz.prog 60 #[.agg (insA n rd r1 r2 imm)] w fun e w' => e = .returned (.tuple #[.int .u32 0, .int .i64 1]) ∧ Below w.heap.size w w' := by
  unfold insA
  have HT := Lib.hid (hT.alloc (.cells #[.int .i64 n, .int .i64 rd, .int .i64 r1, .int .i64 r2, .int .i64 imm] 49))
  have HM := Lib.hid hM
  clear hT hM
  go_enter Tryz.func60, Tryz.ntmps60
  go_wp2_with fail
  refine (may_at n _ _ _ _ _ hn HT.out i0 i1 i2 _ HM.out).mono ?_
  rintro e w1 ⟨rfl, hb⟩
  have Hb := Lib.hid (((Below.refl w.heap.size w).alloc (Nat.le_refl _) _).trans (hb.mono (by simp)))
  clear hb
  go_wp2
  go_ret2
  exact ⟨rfl, Hb.out⟩
attribute [local go_sem ↓] loadAt_lay
theorem LayAt.drewN {w : World} {b o s : Nat} (h : LayAt w b o s) (n : Nat) : LayAt (w.drewN n) b o s := h
/-- the word that the text lays together -/
def encW (f k r s : Nat) (rd r1 r2 imm : Int) : Int :=
  bits .or .u32 (bits .or .u32 (bits .or .u32 (bits .or .u32 f ((k : Int) * 4096 % 4294967296)) ((r : Int) * 2 ^ min (lRest s) 32 % 4294967296))
    (bits .or .u32 (bits .or .u32 (rd % 4294967296 * 128 % 4294967296) (r1 % 4294967296 * 32768 % 4294967296)) (r2 % 4294967296 * 1048576 % 4294967296))) (spreadI imm s)
def encI (n : Nat) (rd r1 r2 imm : Int) : Int := encW (opF n) (opK n) (opR n) (opS n) rd r1 r2 imm
/-- a told's row in block b -/
abbrev ToldC (w : World) (b : Nat) (s f k r : Int) : Prop := w.cell? ⟨b, 0, none⟩ = some (.int .i64 s) ∧ w.cell? ⟨b, 1, none⟩ = some (.int .u32 f) ∧ w.cell? ⟨b, 2, none⟩ = some (.int .u32 k) ∧ w.cell? ⟨b, 3, none⟩ = some (.int .u32 r)
def toldA (s f k r : Int) : Array Value := #[.int .i64 s, .int .u32 f, .int .u32 k, .int .u32 r]
theorem toldC_new {w : World} {s f k r : Int} {t : TypeId} : ToldC (w.alloc (.cells (toldA s f k r) t)) w.heap.size s f k r := by
  refine ⟨?_, ?_, ?_, ?_⟩ <;> simp [toldA]
theorem ToldC.below {w w' : World} {b : Nat} {s f k r : Int} (h : ToldC w b s f k r) (hb : Below w.heap.size w w') : ToldC w' b s f k r :=
  ⟨cell_kept hb h.1, cell_kept hb h.2.1, cell_kept hb h.2.2.1, cell_kept hb h.2.2.2⟩
theorem enc_start {w0 w : World} {b s : Nat} {op rd r1 r2 imm f k r : Int} {t u : TypeId} (h : InsC w b op rd r1 r2 imm) (hb : Below w0.heap.size w0 w) :
    InsC ((w.alloc (.cells (toldA s f k r) t)).alloc (.cells (layA s) u)) b op rd r1 r2 imm ∧ ToldC ((w.alloc (.cells (toldA s f k r) t)).alloc (.cells (layA s) u)) w.heap.size s f k r ∧ HeldL ((w.alloc (.cells (toldA s f k r) t)).alloc (.cells (layA s) u)) (w.heap.size + 1) s ∧ LayAt ((w.alloc (.cells (toldA s f k r) t)).alloc (.cells (layA s) u)) (w.heap.size + 1) 0 s ∧ Below w0.heap.size w0 ((w.alloc (.cells (toldA s f k r) t)).alloc (.cells (layA s) u)) := by
  have e : w.heap.size + 1 = (w.alloc (.cells (toldA s f k r) t)).heap.size := by simp
  have hl : LayAt ((w.alloc (.cells (toldA s f k r) t)).alloc (.cells (layA s) u)) (w.heap.size + 1) 0 s := by
    rw [e]; exact layC_iff.1 layC_new
  have b1 : Below w.heap.size w (w.alloc (.cells (toldA s f k r) t)) := (Below.refl _ _).alloc (Nat.le_refl _) _
  have b2 : Below w.heap.size w ((w.alloc (.cells (toldA s f k r) t)).alloc (.cells (layA s) u)) := b1.alloc (by simp) _
  exact ⟨InsC.below h b2, ToldC.below toldC_new ((Below.refl _ _).alloc (Nat.le_refl _) _), heldL_of hl, hl, hb.trans (b2.mono hb.size)⟩
theorem ret_tup2 {a b : Int} {c d : Int} (h : a = b) (h2 : c = d) : Ending.returned (.tuple #[.int .u32 a, .int .i64 c]) = Ending.returned (.tuple #[.int .u32 b, .int .i64 d]) := by rw [h, h2]
theorem toldInfo : (Tryz.prog.info? 129).map (·.size) = some 4 := by kernel_rfl
set_option maxHeartbeats 1000000 in
theorem encode_yes (n : Nat) (rd r1 r2 imm : Int) (w : World) (hn : n < 43) (hT : Tabs w) (i0 : IsI rd) (i1 : IsI r1) (i2 : IsI r2) (hM : mayB n rd r1 r2 imm = true) :
    Calls Tryz.prog 60 #[.agg (insA n rd r1 r2 imm)] w fun e w' => e = .returned (.tuple #[.int .u32 (encI n rd r1 r2 imm), .int .i64 0]) ∧ Below w.heap.size w w' := by
  unfold insA
  have T1 := hT.alloc (.cells #[.int .i64 n, .int .i64 rd, .int .i64 r1, .int .i64 r2, .int .i64 imm] 49)
  have HT := Lib.hid T1
  have HM := Lib.hid hM
  have HC := Lib.hid (insC_new (w := w) (op := n) (rd := rd) (r1 := r1) (r2 := r2) (imm := imm) (t := 49))
  have hs := opS_lt hn
  have h0 : (0 : Int) ≤ n := by omega
  have h2 : (n : Int) < 43 := by omega
  clear hT T1 hM
  go_enter Tryz.func60, Tryz.ntmps60
  go_wp2_with fail
  refine (may_at n _ _ _ _ _ hn HT.out i0 i1 i2 _ HM.out).mono ?_
  rintro e w1 ⟨rfl, hb⟩
  have Hb := Lib.hid (((Below.refl w.heap.size w).alloc (Nat.le_refl _) _).trans (hb.mono (by simp)))
  have T := HT.out.below hb
  have XC := InsC.below HC.out hb
  have HE := Lib.hid (enc_start (s := opS n) (f := opF n) (k := opK n) (r := opR n) (t := 129) (u := 126) XC Hb.out)
  obtain ⟨x0, x1, x2, x3, x4⟩ := XC
  have hw : w.heap.size + 1 ≤ w1.heap.size := by have := hb.size; simp at this; omega
  have c0 := T.1 n hn 0 (by omega)
  have c1 := T.1 n hn 1 (by omega)
  have c2 := T.1 n hn 2 (by omega)
  have c3 := T.1 n hn 3 (by omega)
  simp only [nthV, opCells, Nat.add_zero, List.getD_cons_zero, List.getD_cons_succ] at c0 c1 c2 c3
  have h3 : (0 : Int) ≤ opS n := by omega
  have h4 : ((opS n : Nat) : Int) < 8 := by omega
  have h5 : (0 : Int) ≤ lRest (opS n) := by omega
  have z1 : 1 < w1.heap.size := T.size
  have z0 : 0 < w1.heap.size := by omega
  have zb : w.heap.size < w1.heap.size := by omega
  have L := Lib.hid ((T.alloc (.cells #[.int .i64 (opS n), .int .u32 (opF n), .int .u32 (opK n), .int .u32 (opR n)] 129)).layAt hs)
  clear hb T
  go_wp2_with (first | (refine wpList_load_lay rfl _ rfl _ _ (opS n) rfl L.out ?_) | (refine wpList_store_new rfl 126 _ _ rfl _ _ _ _ rfl rfl ?hi ?hs ?h1 rfl ?hg ?_; (case hi => exact layInfo); (case hs => exact rfl); (case h1 => simp [Value.oneCell']); (case hg => simp)))
  have hE := HE.out
  unfold toldA layA at hE
  generalize (w1.alloc (.cells #[.int .i64 (opS n), .int .u32 (opF n), .int .u32 (opK n), .int .u32 (opR n)] 129)).alloc _ = W at hE ⊢
  clear HE L c0 c1 c2 c3 x0 x1 x2 x3 x4 HT HC
  obtain ⟨⟨x0, x1, x2, x3, x4⟩, ⟨t0, t1, t2, t3⟩, ⟨y1, y2, y3, y4, y5, y6⟩, hL, HB⟩ := hE
  have L2 := Lib.hid hL
  clear hL y6
  have HBel := Lib.hid HB
  clear HB Hb
  have HEq := Lib.hid (show encW (opF n) (opK n) (opR n) (opS n) rd r1 r2 imm = encI n rd r1 r2 imm from rfl)
  generalize opS n = s at *
  generalize opF n = f at *
  generalize opK n = k at *
  generalize opR n = r at *
  go_quiet (fail)
  go_wp2_with (first | (refine wpList_load_lay rfl _ rfl _ 0 s rfl (L2.out.drewN _) ?_) | (go_at_call 78; (with_reducible refine (spread_at imm s hs _).mono ?_); rintro e w' ⟨rfl, hb⟩))
  go_ret2
  exact ⟨ret_tup2 HEq.out rfl, (below_drewN HBel.out _).trans (hb.mono (below_drewN HBel.out _).size)⟩
end Go.Proofs.YtjngkifoaljmaaaGreatDoor
