/- Layer 6: the reader of package obj: what it is in memory, and what its parts answer.
   Layer 6: the reader of package obj: want, take, number and what rests on them.
   Layer 6: the reader of package obj: numbers of so many bytes, names.
   Layer 6: the reader of package obj: lists.
   Layer 6: the reader of package obj: a Sym, a Rel.
   Layer 6: the reader of package obj: a Rel.
   Layer 6: the reader of package obj: lists of Syms and of Rels.
   Layer 6: the reader of package obj: an Entry.
   Layer 6: the reader of package obj: lists of Entries. -/
import Derived.Test.YtjngkifoaljmaaaGreatDoorObjB
import Derived.Test.YtjngkifoaljmaaaGreatDoorObjA
import Derived.Test.YtjngkifoaljmaaaGreatDoorBitA
import Derived.Laws.IdiomStrings
namespace Go.Proofs.YtjngkifoaljmaaaGreatDoor
set_option maxRecDepth 100000
open Go.RowKit
set_option linter.unusedVariables false
/-- bytes that lie below B, and not in block p -/
def SlO (w : World) (p B : Nat) (A : Option Addr) (l : List Int) : Prop := l = [] ∨ ∃ b off, A = some ⟨b, off, none⟩ ∧ b < B ∧ b ≠ p ∧ ∀ k, k < l.length → w.cell? ⟨b, off + k, none⟩ = some (.int .u8 (nth l k))
/-- nothing that was has turned but block p -/
def RdOut (p : Nat) (w w' : World) : Prop := OutO (fun k => k = p) w w'
section
variable {w w1 w2 w' : World} {p B : Nat} {l : List Int} {A : Option Addr} {n c : Nat}
theorem SlO.keep (h : SlO w p B A l) (hk : ∀ k, k < B → k ≠ p → w'.heap[k]? = w.heap[k]?) : SlO w' p B A l := by
  rcases h with h | ⟨b, off, e, hb, hp, hc⟩
  · exact .inl h
  · exact .inr ⟨b, off, e, hb, hp, fun k hk' => by rw [World.cell?_of_block (hk b hb hp)]; exact hc k hk'⟩
end
/-- the address behind k of c bytes -/
def dropA (A : Option Addr) (k c : Nat) : Option Addr := if c = k then A else A.map (·.add (k * 1))
theorem SlO.take {w : World} {p B : Nat} {A : Option Addr} {l : List Int} (h : SlO w p B A l) (k : Nat) : SlO w p B A (l.take k) := by
  rcases h with h | ⟨b, off, e, hb, hp, hc⟩
  · exact .inl (by rw [h, List.take_nil])
  · refine .inr ⟨b, off, e, hb, hp, fun j hj => ?_⟩
    have hj' : j < l.length := by rw [List.length_take] at hj; omega
    have hj2 : j < k := by rw [List.length_take] at hj; omega
    rw [hc j hj', nth_get hj, nth_get hj', List.getElem_take]
theorem SlO.drop {w : World} {p B : Nat} {A : Option Addr} {l : List Int} (h : SlO w p B A l) (k c : Nat) (hc : l.length ≤ c) : SlO w p B (dropA A k c) (l.drop k) := by
  by_cases e : c = k
  · left; rw [List.drop_eq_nil_iff]; omega
  unfold dropA
  rw [if_neg e]
  rcases h with h | ⟨b, off, rfl, hb, hp, hcell⟩
  · exact .inl (by rw [h]; simp)
  · refine .inr ⟨b, off + k, by simp [Addr.add], hb, hp, fun j hj => ?_⟩
    have hj' : k + j < l.length := by rw [List.length_drop] at hj; omega
    have := hcell (k + j) hj'
    rw [← Nat.add_assoc] at this
    rw [this, nth_get hj, nth_get hj', List.getElem_drop]
theorem SlO.sl {w : World} {p B : Nat} {A : Option Addr} {l : List Int} (h : SlO w p B A l) : Sl w A l := by
  rcases h with h | ⟨b, off, e, hb, hp, hc⟩
  · exact .inl h
  · exact .inr ⟨b, off, e, hc⟩
end Go.Proofs.YtjngkifoaljmaaaGreatDoor
namespace Go.Proofs.YtjngkifoaljmaaaGreatDoor
set_option maxRecDepth 100000
open Go.RowKit
set_option linter.unusedVariables false
def SliceV (p B k : Nat) (x : List Int) (v : Value) (w : World) : Prop := ∃ A c, v = .slice A k c ∧ SlO w p B A x ∧ x.length = k
theorem dropSl (A : Option Addr) (n k c : Nat) : sliced A k n c 1 = .slice (dropA A k c) (n - k) (c - k) := by
  unfold sliced dropA; rfl
theorem wpost_panic {P : Program} {fn : Func} {R : Ending → World → Prop} {c : List PanicEntry} {t : Array Value} {w : World} (h : R (.panicked c) w) : bodyPost P fn R (.panic c) { tmps := t, defers := [] } w := ⟨rfl, h⟩
theorem rdN_ofB_no {n : Nat} {l : List Int} (h : ¬ n ≤ l.length) : rdN n l = none ∧ rdB n l = none := by
  unfold rdN rdB; rw [if_neg h, if_neg h]; exact ⟨rfl, rfl⟩
theorem rdN_ofB_yes {n : Nat} {l : List Int} (h : n ≤ l.length) : rdN n l = some (wordI (l.take n), l.drop n) ∧ rdB n l = some (l.take n, l.drop n) := by
  unfold rdN rdB; rw [if_pos h, if_pos h]; exact ⟨rfl, rfl⟩
theorem RdOut.trans {p : Nat} {w w1 w2 : World} (h : RdOut p w w1) (k : RdOut p w1 w2) : RdOut p w w2 := OutO.trans h k
theorem RdOut.below {p : Nat} {w w1 : World} (h : Below w.heap.size w w1) : RdOut p w w1 := OutO.of_below h
def NumV (x : Int) (v : Value) (w : World) : Prop := v = .int .u64 x
end Go.Proofs.YtjngkifoaljmaaaGreatDoor
namespace Go.Proofs.YtjngkifoaljmaaaGreatDoor
set_option maxRecDepth 100000
open Go.RowKit
set_option linter.unusedVariables false
def IntV (x : Int) (v : Value) (w : World) : Prop := v = .int .i64 x
def W32V (x : Int) (v : Value) (w : World) : Prop := v = .int .u32 x
def StrV (s : ByteArray) (v : Value) (w : World) : Prop := v = .string s
theorem rdN_bd {n : Nat} {l l' : List Int} {x : Int} (hn : n ≤ 8) (ha : AllB l) (h : rdN n l = some (x, l')) : 0 ≤ x ∧ x < 256 ^ n := by
  have := rdN_back hn ha h
  exact ⟨this.2.2.1.1, this.2.2.2.1⟩
end Go.Proofs.YtjngkifoaljmaaaGreatDoor
namespace Go.Proofs.YtjngkifoaljmaaaGreatDoor
set_option maxRecDepth 100000
open Go.RowKit
set_option linter.unusedVariables false
/-- cells that lie in a block from lo on, below hi -/
def RowC (w : World) (lo hi : Nat) (A : Option Addr) (cs : List Value) : Prop := cs = [] ∨ ∃ b o, A = some ⟨b, o, none⟩ ∧ lo ≤ b ∧ b < hi ∧ ∀ j v, cs[j]? = some v → w.cell? ⟨b, o + j, none⟩ = some v
theorem RowC.of_own {w : World} {base sz n c : Nat} {ty : TypeId} {A : Option Addr} {cs : List Value} (h : w.ownsRow base ty sz (.slice A n c) n cs) : RowC w base w.heap.size A cs := by
  by_cases e : cs = []
  · exact .inl e
  rcases h.2 with ⟨h1, h2⟩ | ⟨g, cap, cur, h1, h2, h3, _⟩
  · exact absurd (List.eq_nil_of_length_eq_zero (by rw [h.1, h2, Nat.zero_mul])) e
  · cases h1
    refine .inr ⟨g, 0, rfl, h2, (Array.getElem?_eq_some_iff.1 h3).1, fun j v hj => ?_⟩
    have := h.cells (g := g) rfl j v hj
    rwa [addO] at this
theorem rdL_fail {α : Type} {f : Rd α} {l : List Int} {k : Nat} (h : rdL f k l = none) : ∀ n, k ≤ n → rdL f n l = none := by
  intro n hn
  induction n with
  | zero => have : k = 0 := by omega
            subst this; exact h
  | succ n ih =>
    by_cases e : k = n + 1
    · subst e; exact h
    · rw [rdL_snoc]; exact rdBind_no (ih (by omega))
theorem rdL_stop {α : Type} {f : Rd α} {l r : List Int} {k n : Nat} {xs : List α} (h : rdL f k l = some (xs, r)) (hf : f r = none) (hn : k < n) : rdL f n l = none :=
  rdL_fail (k := k + 1) (by rw [rdL_snoc, rdBind_at h]; exact rdBind_no hf) n hn
theorem rdL_go {α : Type} {f : Rd α} {l r r' : List Int} {k : Nat} {xs : List α} {x : α} (h : rdL f k l = some (xs, r)) (hf : f r = some (x, r')) : rdL f (k + 1) l = some (xs ++ [x], r') := by
  rw [rdL_snoc, rdBind_at h, rdBind_at hf]; rfl
theorem news_at {w w2 : World} {cs : List Value} {ty : TypeId} (e : w2 = w.alloc (.cells cs.toArray ty)) : ∀ j u, cs[j]? = some u → w2.cell? ((⟨w.heap.size, 0, none⟩ : Addr).add j) = some u := by
  intro j u hu
  subst e
  rw [addO]
  have h1 : (w.alloc (.cells cs.toArray ty)).heap[w.heap.size]? = some (.cells cs.toArray ty) := heap_alloc_new w _
  have := cell_of_row (w.alloc (.cells cs.toArray ty)) w.heap.size (0 + j) _ _ _ h1
  rw [this]
  simpa using hu
theorem OutO.rowKept {w w' : World} {p base sz n : Nat} {ty : TypeId} {v : Value} {cs : List Value} (h : w.ownsRow base ty sz v n cs) (ho : RdOut p w w') (hp : p < base) : w'.ownsRow base ty sz v n cs := by
  refine ⟨h.1, ?_⟩
  rcases h.2 with h | ⟨g, cap, cur, rfl, h1, h2, h3⟩
  · exact .inl h
  · exact .inr ⟨g, cap, cur, rfl, h1, by rw [ho.block g (Array.getElem?_eq_some_iff.1 h2).1 (by omega)]; exact h2, h3⟩
theorem RdOut.grown {p : Nat} {w w1 w2 : World} {row : Option Nat} (h : RdOut p w w1) (hg : w1.grownBy w2 row) (hr : ∀ g, row = some g → w.heap.size ≤ g) : RdOut p w w2 :=
  ⟨hg.os.trans h.os, hg.tape.trans h.tape, hg.output.trans h.output, Nat.le_trans h.size hg.size, fun k hk hn => by
    rw [hg.block k (Nat.lt_of_lt_of_le hk h.size) (fun e => by have := hr k e.symm; omega)]; exact h.block k hk hn⟩
theorem own_ge {w : World} {base sz n : Nat} {ty : TypeId} {v : Value} {cs : List Value} (h : w.ownsRow base ty sz v n cs) : ∀ g, v.ownBlock = some g → base ≤ g := fun g hg => (ownO_lt h hg).2.1
/-- what a list of elements is read as: a row of their cells -/
def LisV {α : Type} (enc : α → List Value) (w : World) (n : Nat) (xs : List α) (v : Value) (w' : World) : Prop := ∃ A c, v = .slice A n c ∧ xs.length = n ∧ RowC w' w.heap.size w'.heap.size A (xs.flatMap enc)
def encI64 (x : Int) : List Value := [.int .i64 x]
def encU32 (x : Int) : List Value := [.int .u32 x]
def encU64 (x : Int) : List Value := [.int .u64 x]

theorem info_small : (Tryz.prog.info? 3).map (fun i => (i.zero, i.size, i.bytes)) = some (some (.int .i64 0), 1, 8) := by kernel_rfl
theorem info_u32 : (Tryz.prog.info? 45).map (fun i => (i.zero, i.size, i.bytes)) = some (some (.int .u32 0), 1, 4) := by kernel_rfl
theorem info_u64 : (Tryz.prog.info? 23).map (fun i => (i.zero, i.size, i.bytes)) = some (some (.int .u64 0), 1, 8) := by kernel_rfl
end Go.Proofs.YtjngkifoaljmaaaGreatDoor
namespace Go.Proofs.YtjngkifoaljmaaaGreatDoor
set_option maxRecDepth 100000
open Go.RowKit
set_option linter.unusedVariables false
def symA (s : SymD) : Array Value := #[.string s.1, .bool s.2.1, .int .i64 s.2.2.1, .bool s.2.2.2]
def SymV (s : SymD) (v : Value) (w : World) : Prop := v = .agg (symA s)
theorem RdOut.setNew {p : Nat} {w w1 : World} {b o : Nat} {v : Value} (h : RdOut p w w1) (hb : w.heap.size ≤ b) : RdOut p w (w1.setCell ⟨b, o, none⟩ v) := h.grown (grown_setO w1 b o v) (fun g e => by cases e; exact hb)
theorem RdOut.alloc {p : Nat} {w w1 : World} (h : RdOut p w w1) (o : Obj) : RdOut p w (w1.alloc o) := h.trans (RdOut.below ((Below.refl _ _).alloc (Nat.le_refl _) o))
theorem RdOut.cellOf {p b : Nat} {w w1 : World} (h : RdOut p w w1) (hb : b < w.heap.size) (hp : b ≠ p) : ∀ o, w1.cell? ⟨b, o, none⟩ = w.cell? ⟨b, o, none⟩ := fun o => World.cell?_of_block (h.block b hb hp)
theorem RdOut.frozenOf {p b : Nat} {w w1 : World} (h : RdOut p w w1) (hb : b < w.heap.size) (hp : b ≠ p) : ∀ o, w1.frozen? ⟨b, o, none⟩ = w.frozen? ⟨b, o, none⟩ := fun o => World.frozen?_of_block (h.block b hb hp)
theorem setNew_row {w : World} {b c o : Nat} {v : Value} (h : b ≠ c) : (w.setCell ⟨c, o, none⟩ v).heap[b]? = w.heap[b]? := heap_setCell_other w _ b v (fun e => h e)
theorem fill4 {W : World} {b : Nat} {a0 a1 a2 a3 : Value} {T : TypeId} (h : W.heap[b]? = some (.cells #[a0, a1, a2, a3] T (0, 0))) (v0 v1 v2 v3 : Value) :
    ((((W.setCell ⟨b, 0, none⟩ v0).setCell ⟨b, 1, none⟩ v1).setCell ⟨b, 2, none⟩ v2).setCell ⟨b, 3, none⟩ v3).heap[b]? = some (.cells #[v0, v1, v2, v3] T (0, 0)) := by
  rw [heap_setCell_same _ b 3 _ _ _ (heap_setCell_same _ b 2 _ _ _ (heap_setCell_same _ b 1 _ _ _ (heap_setCell_same W b 0 _ _ _ h)))]
  rfl
theorem mark1 {m : Int} (h0 : 0 ≤ m) (h1 : m ≤ 3) : (bits BinOp.and IntKind.i64 m 1 != 0) = decide (m % 2 = 1) := by
  rcases (by omega : m = 0 ∨ m = 1 ∨ m = 2 ∨ m = 3) with rfl | rfl | rfl | rfl <;> decide +kernel
theorem mark2 {m : Int} (h0 : 0 ≤ m) (h1 : m ≤ 3) : (bits BinOp.and IntKind.i64 m 2 != 0) = decide (m / 2 % 2 = 1) := by
  rcases (by omega : m = 0 ∨ m = 1 ∨ m = 2 ∨ m = 3) with rfl | rfl | rfl | rfl <;> decide +kernel
theorem RdOut.refl (p : Nat) (w : World) : RdOut p w w := OutO.refl _ w
end Go.Proofs.YtjngkifoaljmaaaGreatDoor
namespace Go.Proofs.YtjngkifoaljmaaaGreatDoor
set_option maxRecDepth 100000
open Go.RowKit
set_option linter.unusedVariables false
def relA (s : RelD) : Array Value := #[.int .i64 s.1, .int .i64 s.2.1, .string s.2.2.1, .int .i64 s.2.2.2]
def RelV (s : RelD) (v : Value) (w : World) : Prop := v = .agg (relA s)
/-- a row that a call of the reader's leaves alone -/
theorem RdOut.row {p b : Nat} {w w1 : World} {o : Obj} (h : RdOut p w w1) (hr : w.heap[b]? = some o) (hp : b ≠ p) : w1.heap[b]? = some o := (h.block b (Array.getElem?_eq_some_iff.1 hr).1 hp).trans hr
theorem row_cells4 {W : World} {b : Nat} {v0 v1 v2 v3 : Value} {T : TypeId} (h : W.heap[b]? = some (.cells #[v0, v1, v2, v3] T (0, 0))) : W.cell? ⟨b, 0, none⟩ = some v0 ∧ W.cell? ⟨b, 1, none⟩ = some v1 ∧ W.cell? ⟨b, 2, none⟩ = some v2 ∧ W.cell? ⟨b, 3, none⟩ = some v3 ∧ ∀ o, W.frozen? ⟨b, o, none⟩ = false := by
  have h0 := cell_of_row W b 0 _ _ _ h
  have h1 := cell_of_row W b 1 _ _ _ h
  have h2 := cell_of_row W b 2 _ _ _ h
  have h3 := cell_of_row W b 3 _ _ _ h
  simp only [List.getElem?_toArray, List.getElem?_cons_zero, List.getElem?_cons_succ] at h0 h1 h2 h3
  exact ⟨h0, h1, h2, h3, fun o => frozen_of_row W b o _ _ h⟩
abbrev relZ : Array Value := #[.int .i64 0, .int .i64 0, .string ⟨#[]⟩, .int .i64 0]
end Go.Proofs.YtjngkifoaljmaaaGreatDoor
namespace Go.Proofs.YtjngkifoaljmaaaGreatDoor
set_option maxRecDepth 100000
open Go.RowKit
set_option linter.unusedVariables false
def encSym (s : SymD) : List Value := [.string s.1, .bool s.2.1, .int .i64 s.2.2.1, .bool s.2.2.2]
def encRel (s : RelD) : List Value := [.int .i64 s.1, .int .i64 s.2.1, .string s.2.2.1, .int .i64 s.2.2.2]

theorem info_sym : (Tryz.prog.info? 52).map (fun i => (i.zero, i.size, i.bytes)) = some (some (.agg #[.string ⟨#[]⟩, .bool false, .int .i64 0, .bool false]), 4, 40) := by kernel_rfl
theorem info_rel : (Tryz.prog.info? 55).map (fun i => (i.zero, i.size, i.bytes)) = some (some (.agg #[.int .i64 0, .int .i64 0, .string ⟨#[]⟩, .int .i64 0]), 4, 40) := by kernel_rfl
end Go.Proofs.YtjngkifoaljmaaaGreatDoor
namespace Go.Proofs.YtjngkifoaljmaaaGreatDoor
set_option maxRecDepth 100000
open Go.RowKit
set_option linter.unusedVariables false
/-- an entry as it lies: its parameters' row lies from lo on -/
def EntV (lo : Nat) (s : EntD) (v : Value) (w : World) : Prop := ∃ A c, v = .agg #[.string s.1, .slice A s.2.length c] ∧ RowC w lo w.heap.size A (s.2.flatMap encI64)
theorem fill2 {W : World} {b : Nat} {a0 a1 : Value} {T : TypeId} (h : W.heap[b]? = some (.cells #[a0, a1] T (0, 0))) (v0 v1 : Value) :
    ((W.setCell ⟨b, 0, none⟩ v0).setCell ⟨b, 1, none⟩ v1).heap[b]? = some (.cells #[v0, v1] T (0, 0)) := by
  rw [heap_setCell_same _ b 1 _ _ _ (heap_setCell_same W b 0 _ _ _ h)]
  rfl
theorem row_cells2 {W : World} {b : Nat} {v0 v1 : Value} {T : TypeId} (h : W.heap[b]? = some (.cells #[v0, v1] T (0, 0))) : W.cell? ⟨b, 0, none⟩ = some v0 ∧ W.cell? ⟨b, 1, none⟩ = some v1 ∧ ∀ o, W.frozen? ⟨b, o, none⟩ = false := by
  have h0 := cell_of_row W b 0 _ _ _ h
  have h1 := cell_of_row W b 1 _ _ _ h
  simp only [List.getElem?_toArray, List.getElem?_cons_zero, List.getElem?_cons_succ] at h0 h1
  exact ⟨h0, h1, fun o => frozen_of_row W b o _ _ h⟩
end Go.Proofs.YtjngkifoaljmaaaGreatDoor
namespace Go.Proofs.YtjngkifoaljmaaaGreatDoor
set_option maxRecDepth 100000
open Go.RowKit
set_option linter.unusedVariables false
/-- cells in a block from lo on, below hi, which isn't ob -/
def RowO (w : World) (lo hi : Nat) (ob : Option Nat) (A : Option Addr) (cs : List Value) : Prop := cs = [] ∨ ∃ b o, A = some ⟨b, o, none⟩ ∧ lo ≤ b ∧ b < hi ∧ some b ≠ ob ∧ ∀ j v, cs[j]? = some v → w.cell? ⟨b, o + j, none⟩ = some v
/-- the cells of entries, each with the row of its parameters -/
def EntC (w : World) (lo hi : Nat) (ob : Option Nat) : List EntD → List Value → Prop
  | [], cs => cs = []
  | e :: es, cs => ∃ A c rest, cs = .string e.1 :: .slice A e.2.length c :: rest ∧ RowO w lo hi ob A (e.2.flatMap encI64) ∧ EntC w lo hi ob es rest
theorem RowO.move {w w' : World} {lo hi hi' : Nat} {ob ob' : Option Nat} {A : Option Addr} {cs : List Value} (h : RowO w lo hi ob A cs) (hh : hi ≤ hi') (ho : ∀ b, lo ≤ b → b < hi → some b ≠ ob → some b ≠ ob') (hk : ∀ b, lo ≤ b → b < hi → some b ≠ ob → w'.heap[b]? = w.heap[b]?) : RowO w' lo hi' ob' A cs := by
  rcases h with h | ⟨b, o, e, h1, h2, h3, h4⟩
  · exact .inl h
  · exact .inr ⟨b, o, e, h1, by omega, ho b h1 h2 h3, fun j v hj => by rw [World.cell?_of_block (hk b h1 h2 h3)]; exact h4 j v hj⟩
theorem EntC.move {w w' : World} {lo hi hi' : Nat} {ob ob' : Option Nat} (hh : hi ≤ hi') (ho : ∀ b, lo ≤ b → b < hi → some b ≠ ob → some b ≠ ob') (hk : ∀ b, lo ≤ b → b < hi → some b ≠ ob → w'.heap[b]? = w.heap[b]?) : ∀ {es : List EntD} {cs : List Value}, EntC w lo hi ob es cs → EntC w' lo hi' ob' es cs
  | [], cs, h => h
  | e :: es, cs, ⟨A, c, rest, h1, h2, h3⟩ => ⟨A, c, rest, h1, h2.move hh ho hk, EntC.move hh ho hk h3⟩
theorem EntC.snoc {w : World} {lo hi : Nat} {ob : Option Nat} {e : EntD} {A : Option Addr} {c : Nat} (hr : RowO w lo hi ob A (e.2.flatMap encI64)) : ∀ {es : List EntD} {cs : List Value}, EntC w lo hi ob es cs → EntC w lo hi ob (es ++ [e]) (cs ++ [.string e.1, .slice A e.2.length c])
  | [], cs, h => by cases h; exact ⟨A, c, [], rfl, hr, rfl⟩
  | f :: es, cs, ⟨A1, c1, rest, h1, h2, h3⟩ => by subst h1; exact ⟨A1, c1, rest ++ [.string e.1, .slice A e.2.length c], rfl, h2, EntC.snoc hr h3⟩
theorem EntC.len {w : World} {lo hi : Nat} {ob : Option Nat} : ∀ {es : List EntD} {cs : List Value}, EntC w lo hi ob es cs → cs.length = es.length * 2
  | [], cs, h => by cases h; rfl
  | e :: es, cs, ⟨A, c, rest, h1, h2, h3⟩ => by subst h1; simp only [List.length_cons]; rw [EntC.len h3]; omega
/-- what a list of entries is read as -/
def EntsV (w : World) (n : Nat) (es : List EntD) (v : Value) (w' : World) : Prop := ∃ A c cs, v = .slice A n c ∧ es.length = n ∧ RowC w' w.heap.size w'.heap.size A cs ∧ EntC w' w.heap.size w'.heap.size none es cs
theorem info_ent : (Tryz.prog.info? 84).map (fun i => (i.zero, i.size, i.bytes)) = some (some (.agg #[.string ⟨#[]⟩, .slice none 0 0]), 2, 40) := by kernel_rfl
end Go.Proofs.YtjngkifoaljmaaaGreatDoor
