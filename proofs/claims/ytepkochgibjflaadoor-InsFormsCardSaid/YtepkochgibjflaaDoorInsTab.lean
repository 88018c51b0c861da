/- Layer 2: what the two tables of package ins hold, as plain functions; what a world holds that reads so. -/
import Derived.Test.YtepkochgibjflaaDoorBits
namespace Go.Proofs.YtepkochgibjflaaDoor
open Go.RowKit
set_option linter.unusedVariables false

/-- shape, first field, kind, rest of each operation -/
def opTab : List (Nat × Nat × Nat × Nat) := [(0, 0x33, 0, 0), (0, 0x33, 0, 0x20), (0, 0x33, 1, 0), (0, 0x33, 2, 0), (0, 0x33, 3, 0), (0, 0x33, 4, 0), (0, 0x33, 5, 0), (0, 0x33, 5, 0x20), (0, 0x33, 6, 0), (0, 0x33, 7, 0),
  (0, 0x33, 0, 1), (0, 0x33, 3, 1), (0, 0x33, 4, 1), (0, 0x33, 5, 1), (0, 0x33, 6, 1), (0, 0x33, 7, 1),
  (1, 0x13, 0, 0), (1, 0x13, 2, 0), (1, 0x13, 3, 0), (1, 0x13, 4, 0), (1, 0x13, 6, 0), (1, 0x13, 7, 0), (2, 0x13, 1, 0), (2, 0x13, 5, 0), (2, 0x13, 5, 0x10),
  (1, 0x03, 0, 0), (1, 0x03, 4, 0), (1, 0x03, 2, 0), (1, 0x03, 3, 0), (3, 0x23, 0, 0), (3, 0x23, 2, 0), (3, 0x23, 3, 0),
  (4, 0x63, 0, 0), (4, 0x63, 1, 0), (4, 0x63, 4, 0), (4, 0x63, 5, 0), (4, 0x63, 6, 0), (4, 0x63, 7, 0), (5, 0x37, 0, 0), (5, 0x17, 0, 0), (6, 0x6f, 0, 0), (1, 0x67, 0, 0), (7, 0x73, 0, 0x2000)]
def opS (n : Nat) : Nat := (opTab.getD n (0, 0, 0, 0)).1
def opF (n : Nat) : Nat := (opTab.getD n (0, 0, 0, 0)).2.1
def opK (n : Nat) : Nat := (opTab.getD n (0, 0, 0, 0)).2.2.1
def opR (n : Nat) : Nat := (opTab.getD n (0, 0, 0, 0)).2.2.2

/-- letter; which fields; rest, sign; the parts -/
def lLet (s : Nat) : UInt8 := [82, 73, 73, 83, 66, 85, 74, 69].getD s 0
def letS (s : Nat) : ByteArray := ⟨#[lLet s]⟩
def lRd (s : Nat) : Bool := [true, true, true, false, false, true, true, false].getD s false
def lR1 (s : Nat) : Bool := [true, true, true, true, true, false, false, false].getD s false
def lR2 (s : Nat) : Bool := [true, false, false, true, true, false, false, false].getD s false
def lKd (s : Nat) : Bool := [true, true, true, true, true, false, false, false].getD s false
def lRest (s : Nat) : Nat := [25, 32, 26, 32, 32, 32, 32, 7].getD s 0
def lSg (s : Nat) : Nat := [0, 12, 0, 12, 13, 32, 21, 0].getD s 0
/-- part k of shape s: from, how many, at -/
def lParts : List (List (Nat × Nat × Nat)) := [[], [(0, 12, 20)], [(0, 6, 20)], [(0, 5, 7), (5, 7, 25)], [(1, 4, 8), (5, 6, 25), (11, 1, 7), (12, 1, 31)], [(12, 20, 12)], [(1, 10, 21), (11, 1, 20), (12, 8, 12), (20, 1, 31)], []]
def lP (s k : Nat) : Nat × Nat × Nat := (lParts.getD s []).getD k (0, 0, 0)
def pF (s k : Nat) : Int := (lP s k).1
def pN (s k : Nat) : Int := (lP s k).2.1
def pA (s k : Nat) : Int := (lP s k).2.2

/-- the cells of an operation's row, and of a shape's -/
def opCells (n : Nat) : List Value := [.int .i64 (opS n), .int .u32 (opF n), .int .u32 (opK n), .int .u32 (opR n)]
def layCells (s : Nat) : List Value := [.string (letS s), .bool (lRd s), .bool (lR1 s), .bool (lR2 s), .bool (lKd s), .int .i64 (lRest s), .int .i64 (lSg s),
  .int .i64 (pF s 0), .int .i64 (pN s 0), .int .i64 (pA s 0), .int .i64 (pF s 1), .int .i64 (pN s 1), .int .i64 (pA s 1), .int .i64 (pF s 2), .int .i64 (pN s 2), .int .i64 (pA s 2), .int .i64 (pF s 3), .int .i64 (pN s 3), .int .i64 (pA s 3)]
def nthV (l : List Value) (j : Nat) : Value := l.getD j undef
/-- the world's two tables are these -/
def Tabs (w : World) : Prop :=
  (∀ n, n < 43 → ∀ j, j < 4 → w.cell? ⟨1, n * 4 + j, none⟩ = some (nthV (opCells n) j)) ∧
  (∀ s, s < 8 → ∀ j, j < 19 → w.cell? ⟨0, s * 19 + j, none⟩ = some (nthV (layCells s) j))

theorem all43 {p : Nat → Prop} [DecidablePred p] (h : (List.range 43).all (fun n => decide (p n)) = true) {n : Nat} (hn : n < 43) : p n := by
  have := List.all_eq_true.1 h n (List.mem_range.2 hn)
  simpa using this
theorem all8 {p : Nat → Prop} [DecidablePred p] (h : (List.range 8).all (fun n => decide (p n)) = true) {n : Nat} (hn : n < 8) : p n := by
  have := List.all_eq_true.1 h n (List.mem_range.2 hn)
  simpa using this
theorem opS_lt {n : Nat} (h : n < 43) : opS n < 8 := all43 (p := fun n => opS n < 8) (by decide +kernel) h

section
variable {w : World}
theorem Tabs.below {w' : World} (h : Tabs w) (hb : Below w.heap.size w w') : Tabs w' := by
  have lt (b o : Nat) (v : Value) (hc : w.cell? ⟨b, o, none⟩ = some v) : b < w.heap.size := by
    rcases Nat.lt_or_ge b w.heap.size with h1 | h1
    · exact h1
    · simp [World.cell?, Array.getElem?_eq_none h1] at hc
  refine ⟨fun n hn j hj => ?_, fun s hs j hj => ?_⟩
  · have h1 := h.1 n hn j hj
    rw [hb.cell (p := ⟨_, _, none⟩) (lt _ _ _ h1)]; exact h1
  · have h1 := h.2 s hs j hj
    rw [hb.cell (p := ⟨_, _, none⟩) (lt _ _ _ h1)]; exact h1
theorem Tabs.drewN (h : Tabs w) (k : Nat) : Tabs (w.drewN k) := h
theorem Tabs.size (h : Tabs w) : 2 ≤ w.heap.size := by
  have h1 := h.1 0 (by omega) 0 (by omega)
  have h2 := h.2 0 (by omega) 0 (by omega)
  have lt (b o : Nat) (v : Value) (hc : w.cell? ⟨b, o, none⟩ = some v) : b < w.heap.size := by
    rcases Nat.lt_or_ge b w.heap.size with h1 | h1
    · exact h1
    · simp [World.cell?, Array.getElem?_eq_none h1] at hc
  have a := lt _ _ _ h1
  have b := lt _ _ _ h2
  omega
theorem Tabs.alloc (h : Tabs w) (o : Obj) : Tabs (w.alloc o) := h.below ((Below.refl _ _).alloc (Nat.le_refl _) o)
theorem Tabs.shape (h : Tabs w) {n : Nat} (hn : n < 43) : w.cell? ⟨1, n * 4, none⟩ = some (.int .i64 (opS n)) := h.1 n hn 0 (by omega)
theorem Tabs.first (h : Tabs w) {n : Nat} (hn : n < 43) : w.cell? ⟨1, n * 4 + 1, none⟩ = some (.int .u32 (opF n)) := h.1 n hn 1 (by omega)
theorem Tabs.letter (h : Tabs w) {s : Nat} (hs : s < 8) : w.cell? ⟨0, s * 19, none⟩ = some (.string (letS s)) := h.2 s hs 0 (by omega)
end
end Go.Proofs.YtepkochgibjflaaDoor
