/- Layer 2: what the two tables of package ins hold, as plain functions; what a world holds that reads so.
   Layer 2: what the calls of package ins answer. Conditions: said at each; the two tables read as they should.
   Layer 2: what May of package ins answers. Conditions: the two tables read as they should.
   Layer 2: what Encode of package ins answers. Conditions: the two tables read as they should. -/
import Derived.Test.YtbhdbglhejibbaaGreatDoorBitA
import Derived.Deep.RegionHeld3
import Derived.OpenShut
import Derived.Deep.WholeRow
namespace Go.Proofs.YtbhdbglhejibbaaGreatDoor
set_option maxRecDepth 100000
open Go.RowKit
set_option linter.unusedVariables false

/-- shape, first field, kind, rest of each operation -/
def opTab : List (Nat × Nat × Nat × Nat) := [(0, 0x33, 0, 0), (0, 0x33, 0, 0x20), (0, 0x33, 1, 0), (0, 0x33, 2, 0), (0, 0x33, 3, 0), (0, 0x33, 4, 0), (0, 0x33, 5, 0), (0, 0x33, 5, 0x20), (0, 0x33, 6, 0), (0, 0x33, 7, 0),
  (0, 0x33, 0, 1), (0, 0x33, 3, 1), (0, 0x33, 4, 1), (0, 0x33, 5, 1), (0, 0x33, 6, 1), (0, 0x33, 7, 1),
  (1, 0x13, 0, 0), (1, 0x13, 2, 0), (1, 0x13, 3, 0), (1, 0x13, 4, 0), (1, 0x13, 6, 0), (1, 0x13, 7, 0), (2, 0x13, 1, 0), (2, 0x13, 5, 0), (2, 0x13, 5, 0x10),
  (1, 0x03, 0, 0), (1, 0x03, 4, 0), (1, 0x03, 2, 0), (1, 0x03, 3, 0), (3, 0x23, 0, 0), (3, 0x23, 2, 0), (3, 0x23, 3, 0),
  (4, 0x63, 0, 0), (4, 0x63, 1, 0), (4, 0x63, 4, 0), (4, 0x63, 5, 0), (4, 0x63, 6, 0), (4, 0x63, 7, 0), (5, 0x37, 0, 0), (5, 0x17, 0, 0), (6, 0x6f, 0, 0), (1, 0x67, 0, 0), (7, 0x73, 0, 0x2000)]
def opS (n : Nat) : Nat := (opTab.getD n (0, 0, 0, 0)).1
def opF (n : Nat) : Nat := (opTab.getD n (0, 0, 0, 0)).2.1
def opK (n : Nat) : Nat := (opTab.getD n (0, 0, 0, 0)).2.2.1
def opR (n : Nat) : Nat := (opTab.getD n (0, 0, 0, 0)).2.2.2

/-- letter; which fields; rest, sign; the parts -/
def lLet (s : Nat) : UInt8 := [82, 73, 73, 83, 66, 85, 74, 69].getD s 0
def letS (s : Nat) : ByteArray := ⟨#[lLet s]⟩
def lRd (s : Nat) : Bool := [true, true, true, false, false, true, true, false].getD s false
def lR1 (s : Nat) : Bool := [true, true, true, true, true, false, false, false].getD s false
def lR2 (s : Nat) : Bool := [true, false, false, true, true, false, false, false].getD s false
def lKd (s : Nat) : Bool := [true, true, true, true, true, false, false, false].getD s false
def lRest (s : Nat) : Nat := [25, 32, 26, 32, 32, 32, 32, 7].getD s 0
def lSg (s : Nat) : Nat := [0, 12, 0, 12, 13, 32, 21, 0].getD s 0
/-- part k of shape s: from, how many, at -/
def lParts : List (List (Nat × Nat × Nat)) := [[], [(0, 12, 20)], [(0, 6, 20)], [(0, 5, 7), (5, 7, 25)], [(1, 4, 8), (5, 6, 25), (11, 1, 7), (12, 1, 31)], [(12, 20, 12)], [(1, 10, 21), (11, 1, 20), (12, 8, 12), (20, 1, 31)], []]
def lP (s k : Nat) : Nat × Nat × Nat := (lParts.getD s []).getD k (0, 0, 0)
def pF (s k : Nat) : Int := (lP s k).1
def pN (s k : Nat) : Int := (lP s k).2.1
def pA (s k : Nat) : Int := (lP s k).2.2

/-- the cells of an operation's row, and of a shape's -/
def opCells (n : Nat) : List Value := [.int .i64 (opS n), .int .u32 (opF n), .int .u32 (opK n), .int .u32 (opR n)]
def layCells (s : Nat) : List Value := [.string (letS s), .bool (lRd s), .bool (lR1 s), .bool (lR2 s), .bool (lKd s), .int .i64 (lRest s), .int .i64 (lSg s),
  .int .i64 (pF s 0), .int .i64 (pN s 0), .int .i64 (pA s 0), .int .i64 (pF s 1), .int .i64 (pN s 1), .int .i64 (pA s 1), .int .i64 (pF s 2), .int .i64 (pN s 2), .int .i64 (pA s 2), .int .i64 (pF s 3), .int .i64 (pN s 3), .int .i64 (pA s 3)]
def nthV (l : List Value) (j : Nat) : Value := l.getD j undef
theorem all43 {p : Nat → Prop} [DecidablePred p] (h : (List.range 43).all (fun n => decide (p n)) = true) {n : Nat} (hn : n < 43) : p n := by
  have := List.all_eq_true.1 h n (List.mem_range.2 hn)
  simpa using this
theorem all8 {p : Nat → Prop} [DecidablePred p] (h : (List.range 8).all (fun n => decide (p n)) = true) {n : Nat} (hn : n < 8) : p n := by
  have := List.all_eq_true.1 h n (List.mem_range.2 hn)
  simpa using this
theorem opS_lt {n : Nat} (h : n < 43) : opS n < 8 := all43 (p := fun n => opS n < 8) (by decide +kernel) h

section
variable {w : World}
end
end Go.Proofs.YtbhdbglhejibbaaGreatDoor
namespace Go.Proofs.YtbhdbglhejibbaaGreatDoor
set_option maxRecDepth 100000
open Go.RowKit
set_option linter.unusedVariables false

/-- a word of 32 bits -/
def IsW (v : Int) : Prop := 0 ≤ v ∧ v < 4294967296
theorem IsW.u {v : Int} (h : IsW v) : IsU v := ⟨h.1, by have := h.2; omega⟩
theorem fldN_le (v f n : Nat) : fldN v f n ≤ v := Nat.le_trans (Nat.mod_le _ _) (Nat.div_le_self _ _)
theorem isW_fld {v : Int} (f n : Int) (h : IsW v) : IsW (fld v f n) := by
  have := fldN_le v.toNat f.toNat n.toNat
  obtain ⟨h0, h1⟩ := h
  unfold fld IsW
  omega
theorem ret_u32 {a b : Int} (h : a = b) : Ending.returned (.int .u32 a) = Ending.returned (.int .u32 b) := by rw [h]
theorem wrap_u32 {v : Int} (h : IsW v) : IntKind.u32.wrap v = v := by
  obtain ⟨h0, h1⟩ := h
  show v % 4294967296 = v
  omega
/-- a register's number -/
def regB (r : Int) : Bool := decide (0 ≤ r ∧ r < 32)
/-- may r stand where a register does, or nothing? -/
def fitB (r : Int) (has : Bool) : Bool := if has then regB r else r == 0
theorem regB_eq {r : Int} (h : IsI r) : (fld (IntKind.u64.wrap r) 0 5 == IntKind.u64.wrap r) = regB r := by
  rw [IntKind.wrap_u64]
  obtain ⟨h0, h1⟩ := h
  unfold regB fld fldN
  have e : (r % 18446744073709551616).toNat / 2 ^ (0 : Int).toNat % 2 ^ (5 : Int).toNat = (r % 18446744073709551616).toNat % 32 := by simp
  rw [e, Bool.eq_iff_iff]
  simp
  omega
/-- a register's field, or 0 -/
def regI (v a : Int) (has : Bool) : Int := if has then fld v a 5 else 0
/-- the number x, laid in the word by the first k parts of shape s -/
def spreadK (x : Int) (s : Nat) : Nat → Int
  | 0 => 0
  | k + 1 => put (spreadK x s k) (pA s k) (pN s k) (fld (x % 18446744073709551616) (pF s k) (pN s k))
def spreadI (x : Int) (s : Nat) : Int := spreadK x s 4 % 4294967296
theorem parts_bd {s k : Nat} (hs : s < 8) (hk : k < 4) : 0 ≤ pF s k ∧ 0 ≤ pN s k ∧ 0 ≤ pA s k ∧ pF s k + pN s k ≤ 64 ∧ pA s k + pN s k ≤ 32 := by
  have h : ∀ k, k < 4 → (lP s k).1 + (lP s k).2.1 ≤ 64 ∧ (lP s k).2.2 + (lP s k).2.1 ≤ 32 := all8 (p := fun s => ∀ k, k < 4 → (lP s k).1 + (lP s k).2.1 ≤ 64 ∧ (lP s k).2.2 + (lP s k).2.1 ≤ 32) (by decide +kernel) hs
  have := h k hk
  unfold pF pN pA
  omega
theorem isU_spread (x : Int) {s : Nat} (hs : s < 8) : ∀ k, k ≤ 4 → IsU (spreadK x s k)
  | 0, _ => ⟨by simp [spreadK], by simp [spreadK]⟩
  | k + 1, h => by
    obtain ⟨h0, h1, h2, h3, h4⟩ := parts_bd hs (show k < 4 by omega)
    exact isU_put (isU_spread x hs k (by omega)) h2 h1 (by omega)
def layA (s : Nat) : Array Value := #[.string (letS s), .bool (lRd s), .bool (lR1 s), .bool (lR2 s), .bool (lKd s), .int .i64 (lRest s), .int .i64 (lSg s),
  .int .i64 (pF s 0), .int .i64 (pN s 0), .int .i64 (pA s 0), .int .i64 (pF s 1), .int .i64 (pN s 1), .int .i64 (pA s 1), .int .i64 (pF s 2), .int .i64 (pN s 2), .int .i64 (pA s 2), .int .i64 (pF s 3), .int .i64 (pN s 3), .int .i64 (pA s 3)]
theorem below_drewN {B : Nat} {a w : World} (h : Below B a w) (n : Nat) : Below B a (w.drewN n) := ⟨h.os, h.tape, h.output, h.size, h.block⟩
theorem val_u64 {a b : Int} (h : a = b) : Value.int .u64 a = Value.int .u64 b := by rw [h]
/-- the number that the first k parts of shape s hold in the word v -/
def numberK (v : Int) (s : Nat) : Nat → Int
  | 0 => 0
  | k + 1 => put (numberK v s k) (pF s k) (pN s k) (fld v (pA s k) (pN s k))
def numberI (v : Int) (s : Nat) : Int := if lSg s = 0 then wrap64 (numberK v s 4) else sgn (numberK v s 4) (lSg s)
theorem isU_number (v : Int) {s : Nat} (hs : s < 8) : ∀ k, k ≤ 4 → IsU (numberK v s k)
  | 0, _ => ⟨by simp [numberK], by simp [numberK]⟩
  | k + 1, h => by
    obtain ⟨h0, h1, h2, h3, h4⟩ := parts_bd hs (show k < 4 by omega)
    exact isU_put (isU_number v hs k (by omega)) h0 h1 (by omega)
theorem lSg_bd {s : Nat} (hs : s < 8) : lSg s ≤ 64 := all8 (p := fun s => lSg s ≤ 64) (by decide +kernel) hs
end Go.Proofs.YtbhdbglhejibbaaGreatDoor
namespace Go.Proofs.YtbhdbglhejibbaaGreatDoor
set_option maxRecDepth 100000
open Go.RowKit
set_option linter.unusedVariables false

theorem quiet_same {P : Program} {f : FuncId} {args : Array Value} {w : World} {n : Nat} {v : Value}
    (h : Calls P f args (w.drewN n) fun e w' => e = .returned v ∧ w' = w.drewN n) : Calls P f args (w.drewN n) fun e w'' => e = .returned v ∧ ∃ m, w'' = w.drewN m := Calls.quiet_of_same h
/-- an instruction, by value -/
def insA (op rd r1 r2 imm : Int) : Array Value := #[.int .i64 op, .int .i64 rd, .int .i64 r1, .int .i64 r2, .int .i64 imm]
/-- is it an instruction of operation n? -/
def mayB (n : Nat) (rd r1 r2 imm : Int) : Bool :=
  fitB rd (lRd (opS n)) && fitB r1 (lR1 (opS n)) && fitB r2 (lR2 (opS n)) && (numberI (spreadI imm (opS n)) (opS n) == imm)
/-- the row of a shape, cell by cell -/
def LayAt (w : World) (b o s : Nat) : Prop := ∀ j, j < 19 → w.cell? ⟨b, o + j, none⟩ = some (nthV (layCells s) j)
theorem add_off (b o j : Nat) : (⟨b, o, none⟩ : Addr).add j = ⟨b, o + j, none⟩ := by unfold Addr.add; split <;> simp_all
theorem wpList_store_new {P : Program} {ops : Array Oper} {rest : List Oper} {o : Oper} {a : Act} {Q : Exit → Act → World → Prop} (hgd : o.guard = none) (ty : TypeId) (x y : Operand) (ho : o.op = .store ty x y)
    (w0 : World) (c c' : Array Value) (g : Nat) (hx : a.eval x = .pointer (some ⟨g, 0, none⟩)) (hy : a.eval y = .agg c') (hi : (P.info? ty).map (·.size) = some c'.size) (hs : c.size = c'.size) (h1 : c'.all (·.oneCell') = true)
    (hd : o.dst = none) (hg : w0.heap.size = g) (h : wpList P ops Q rest a (w0.alloc (.cells c' ty))) : wpList P ops Q (o :: rest) a (w0.alloc (.cells c ty)) :=
  wpList_plain hgd fun K hK => by
    subst hg
    unfold Oper.wp execOp
    simp only [ho, hx, hy, run_storeAt_new w0 ty c c' hi hs h1, Sem.run_bind, Result.andThen_ok, Sem.run_pure]
    have e : a.put o.dst undef = a := by rw [hd]; rfl
    rw [← e] at h
    exact hK _ _ h

/-- block b begins with the row of shape s; with an instruction -/
abbrev LayC (w : World) (b s : Nat) : Prop := w.cell? ⟨b, 0, none⟩ = some (.string (letS s)) ∧ w.cell? ⟨b, 1, none⟩ = some (.bool (lRd s)) ∧ w.cell? ⟨b, 2, none⟩ = some (.bool (lR1 s)) ∧ w.cell? ⟨b, 3, none⟩ = some (.bool (lR2 s)) ∧ w.cell? ⟨b, 4, none⟩ = some (.bool (lKd s)) ∧ w.cell? ⟨b, 5, none⟩ = some (.int .i64 (lRest s)) ∧ w.cell? ⟨b, 6, none⟩ = some (.int .i64 (lSg s)) ∧ w.cell? ⟨b, 7, none⟩ = some (.int .i64 (pF s 0)) ∧ w.cell? ⟨b, 8, none⟩ = some (.int .i64 (pN s 0)) ∧ w.cell? ⟨b, 9, none⟩ = some (.int .i64 (pA s 0)) ∧ w.cell? ⟨b, 10, none⟩ = some (.int .i64 (pF s 1)) ∧ w.cell? ⟨b, 11, none⟩ = some (.int .i64 (pN s 1)) ∧ w.cell? ⟨b, 12, none⟩ = some (.int .i64 (pA s 1)) ∧ w.cell? ⟨b, 13, none⟩ = some (.int .i64 (pF s 2)) ∧ w.cell? ⟨b, 14, none⟩ = some (.int .i64 (pN s 2)) ∧ w.cell? ⟨b, 15, none⟩ = some (.int .i64 (pA s 2)) ∧ w.cell? ⟨b, 16, none⟩ = some (.int .i64 (pF s 3)) ∧ w.cell? ⟨b, 17, none⟩ = some (.int .i64 (pN s 3)) ∧ w.cell? ⟨b, 18, none⟩ = some (.int .i64 (pA s 3))
abbrev InsC (w : World) (b : Nat) (op rd r1 r2 imm : Int) : Prop := w.cell? ⟨b, 0, none⟩ = some (.int .i64 op) ∧ w.cell? ⟨b, 1, none⟩ = some (.int .i64 rd) ∧ w.cell? ⟨b, 2, none⟩ = some (.int .i64 r1) ∧ w.cell? ⟨b, 3, none⟩ = some (.int .i64 r2) ∧ w.cell? ⟨b, 4, none⟩ = some (.int .i64 imm)
theorem layC_iff {w : World} {b s : Nat} : LayC w b s ↔ LayAt w b 0 s := by
  constructor
  · rintro ⟨h0, h1, h2, h3, h4, h5, h6, h7, h8, h9, h10, h11, h12, h13, h14, h15, h16, h17, h18⟩ j hj
    rw [Nat.zero_add]
    match j, hj with
    | 0, _ => exact h0
    | 1, _ => exact h1
    | 2, _ => exact h2
    | 3, _ => exact h3
    | 4, _ => exact h4
    | 5, _ => exact h5
    | 6, _ => exact h6
    | 7, _ => exact h7
    | 8, _ => exact h8
    | 9, _ => exact h9
    | 10, _ => exact h10
    | 11, _ => exact h11
    | 12, _ => exact h12
    | 13, _ => exact h13
    | 14, _ => exact h14
    | 15, _ => exact h15
    | 16, _ => exact h16
    | 17, _ => exact h17
    | 18, _ => exact h18
    | j + 19, h => exact absurd h (by omega)
  · intro h
    have h' : ∀ j, j < 19 → w.cell? ⟨b, j, none⟩ = some (nthV (layCells s) j) := fun j hj => by
      have := h j hj
      rwa [Nat.zero_add] at this
    exact ⟨h' 0 (by omega), h' 1 (by omega), h' 2 (by omega), h' 3 (by omega), h' 4 (by omega), h' 5 (by omega), h' 6 (by omega), h' 7 (by omega), h' 8 (by omega), h' 9 (by omega), h' 10 (by omega), h' 11 (by omega), h' 12 (by omega), h' 13 (by omega), h' 14 (by omega), h' 15 (by omega), h' 16 (by omega), h' 17 (by omega), h' 18 (by omega)⟩
theorem cell_kept {w w' : World} {b o : Nat} {v : Value} (hb : Below w.heap.size w w') (h : w.cell? ⟨b, o, none⟩ = some v) : w'.cell? ⟨b, o, none⟩ = some v := by
  have lt : b < w.heap.size := by
    rcases Nat.lt_or_ge b w.heap.size with h1 | h1
    · exact h1
    · simp [World.cell?, Array.getElem?_eq_none h1] at h
  rw [hb.cell (p := ⟨b, o, none⟩) lt]; exact h
theorem LayAt.below {w w' : World} {b o s : Nat} (h : LayAt w b o s) (hb : Below w.heap.size w w') : LayAt w' b o s := fun j hj => cell_kept hb (h j hj)
theorem LayC.below {w w' : World} {b s : Nat} (h : LayC w b s) (hb : Below w.heap.size w w') : LayC w' b s := layC_iff.2 ((layC_iff.1 h).below hb)
theorem InsC.below {w w' : World} {b : Nat} {op rd r1 r2 imm : Int} (h : InsC w b op rd r1 r2 imm) (hb : Below w.heap.size w w') : InsC w' b op rd r1 r2 imm :=
  ⟨cell_kept hb h.1, cell_kept hb h.2.1, cell_kept hb h.2.2.1, cell_kept hb h.2.2.2.1, cell_kept hb h.2.2.2.2⟩
theorem layC_new {w : World} {s : Nat} {t : TypeId} : LayC (w.alloc (.cells (layA s) t)) w.heap.size s := by
  refine layC_iff.2 fun j hj => ?_
  rw [Nat.zero_add, World.cell?_alloc_new]
  have : (layA s)[j]? = (layCells s)[j]? := by show (layCells s).toArray[j]? = _; simp
  rw [this]
  have hl : j < (layCells s).length := hj
  rw [List.getElem?_eq_getElem hl]
  unfold nthV
  rw [List.getD_eq_getElem?_getD, List.getElem?_eq_getElem hl]
  rfl
theorem insC_new {w : World} {op rd r1 r2 imm : Int} {t : TypeId} : InsC (w.alloc (.cells (insA op rd r1 r2 imm) t)) w.heap.size op rd r1 r2 imm := by
  refine ⟨?_, ?_, ?_, ?_, ?_⟩ <;> simp [insA]
theorem isW_spread (x : Int) (s : Nat) : IsW (spreadI x s) := by unfold spreadI IsW; omega
end Go.Proofs.YtbhdbglhejibbaaGreatDoor
namespace Go.Proofs.YtbhdbglhejibbaaGreatDoor
set_option maxRecDepth 100000
open Go.RowKit
set_option linter.unusedVariables false

theorem LayAt.drewN {w : World} {b o s : Nat} (h : LayAt w b o s) (n : Nat) : LayAt (w.drewN n) b o s := h
/-- the word that the text lays together -/
def encW (f k r s : Nat) (rd r1 r2 imm : Int) : Int :=
  bits .or .u32 (bits .or .u32 (bits .or .u32 (bits .or .u32 f ((k : Int) * 4096 % 4294967296)) ((r : Int) * 2 ^ min (lRest s) 32 % 4294967296))
    (bits .or .u32 (bits .or .u32 (rd % 4294967296 * 128 % 4294967296) (r1 % 4294967296 * 32768 % 4294967296)) (r2 % 4294967296 * 1048576 % 4294967296))) (spreadI imm s)
def encI (n : Nat) (rd r1 r2 imm : Int) : Int := encW (opF n) (opK n) (opR n) (opS n) rd r1 r2 imm
/-- a told's row in block b -/
abbrev ToldC (w : World) (b : Nat) (s f k r : Int) : Prop := w.cell? ⟨b, 0, none⟩ = some (.int .i64 s) ∧ w.cell? ⟨b, 1, none⟩ = some (.int .u32 f) ∧ w.cell? ⟨b, 2, none⟩ = some (.int .u32 k) ∧ w.cell? ⟨b, 3, none⟩ = some (.int .u32 r)
def toldA (s f k r : Int) : Array Value := #[.int .i64 s, .int .u32 f, .int .u32 k, .int .u32 r]
theorem toldC_new {w : World} {s f k r : Int} {t : TypeId} : ToldC (w.alloc (.cells (toldA s f k r) t)) w.heap.size s f k r := by
  refine ⟨?_, ?_, ?_, ?_⟩ <;> simp [toldA]
theorem ToldC.below {w w' : World} {b : Nat} {s f k r : Int} (h : ToldC w b s f k r) (hb : Below w.heap.size w w') : ToldC w' b s f k r :=
  ⟨cell_kept hb h.1, cell_kept hb h.2.1, cell_kept hb h.2.2.1, cell_kept hb h.2.2.2⟩
theorem ret_tup2 {a b : Int} {c d : Int} (h : a = b) (h2 : c = d) : Ending.returned (.tuple #[.int .u32 a, .int .i64 c]) = Ending.returned (.tuple #[.int .u32 b, .int .i64 d]) := by rw [h, h2]
end Go.Proofs.YtbhdbglhejibbaaGreatDoor
