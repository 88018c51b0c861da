/- Layer 10: what is printed of a tree, plainly; where the writer stands. No condition.
   Layer 10: the writer as it lies; put, gap, word, count, begin, end. No condition.
   Layer 10: gap, word, count, begin, end of the writer. Condition: the library's variables are what they are.
   Layer 10: the lists that were gone through: looked up, and put down. No condition.
   Layer 10: what a list's place tells; which lists may be passed over. No condition.
   Layer 10: expressions, written. Condition: the tables read as they should.
   Layer 10: expressions, written. Condition: the tables read as they should.
   Layer 10: an expression, written. Condition: the tables read as they should. -/
import Derived.Test.YtbhdbglhejibbaaGreatDoorTraA
import Derived.Test.YtbhdbglhejibbaaGreatDoorLexD
import Derived.LaidEqlPtr
import Derived.Laws.StructEq
import Derived.StillTailTactics
namespace Go.Proofs.YtbhdbglhejibbaaGreatDoor
set_option maxRecDepth 100000
open Go.RowKit
set_option linter.unusedVariables false
/-! ### a writer's text: what is too long grows no more -/
def putL (t : List Int) (s : ByteArray) : List Int := if 20000 < t.length then t else t ++ sB s
def gapL (t : List Int) (o : Nat) : List Int := if 0 < o ∧ t.getD (t.length - 1) 0 ≠ 40 then putL t ⟨#[32]⟩ else t
def wordL (t : List Int) (o : Nat) (s : ByteArray) : List Int := putL (gapL t o) s
def begL (t : List Int) (o : Nat) : List Int := putL (gapL t o) ⟨#[40]⟩
def endL (t : List Int) (o : Nat) : List Int := if o = 1 then putL (putL t ⟨#[41]⟩) ⟨#[10]⟩ else putL t ⟨#[41]⟩
def dgtB (n : Int) : ByteArray := ⟨(Lib.decDigits n.toNat).toArray⟩
def opwB (n : Int) : ByteArray := match (List.range 13).find? (fun k => (opsR k).2 == n) with
  | some k => opsW k
  | none => ⟨#[]⟩
def expW (k : Int) : ByteArray := ⟨(expR k.toNat).1.toArray⟩
def stmW (k : Int) : ByteArray := ⟨(stmR k.toNat).1.toArray⟩
/-- an expression's word, and its name, behind its parenthesis -/
def nesL (k n : Int) (s : ByteArray) (t : List Int) (o : Nat) : List Int :=
  if s.toList.isEmpty then wordL (begL t o) (o + 1) (if k = 3 then opwB n else expW k)
  else wordL (wordL (begL t o) (o + 1) (if k = 3 then opwB n else expW k)) (o + 1) s
mutual
/-- whether an expression may be there, where so many parentheses are open -/
def exK : ExprD → Nat → Bool
  | .mk k n s args, o => exB k n s args.length && (k == 0 || k == 1 || (decide (o < 24) && exsK args (o + 1)))
def exsK : List ExprD → Nat → Bool
  | [], _ => true
  | e :: es, o => exK e o && exsK es o
end
mutual
/-- the text behind an expression -/
def exT : ExprD → Nat → List Int → List Int
  | .mk k n s args, o, t => if k = 0 then wordL t o (dgtB n) else if k = 1 then wordL t o s else endL (exsT args (o + 1) (nesL k n s t o)) (o + 1)
def exsT : List ExprD → Nat → List Int → List Int
  | [], _, t => t
  | e :: es, o, t => exsT es o (exT e o t)
end
/-- a statement's word, its name and its count -/
def staL (k : Int) (s : ByteArray) (n : Int) (t : List Int) (o : Nat) : List Int :=
  let t1 := wordL (begL t o) (o + 1) (stmW k)
  let t2 := if (stmR k.toNat).2.1 then wordL t1 (o + 1) s else t1
  if (stmR k.toNat).2.2.1 then wordL t2 (o + 1) (dgtB n) else t2
mutual
def stK : StmtD → Nat → Bool
  | .mk k s n args one two, o => stB k s n args.length one.length two.length && (decide (o < 24) && (exsK args (o + 1) &&
      (if (stmR k.toNat).2.2.2.2 = 1 then stsK one (o + 1) else if (stmR k.toNat).2.2.2.2 = 2 then decide (o < 23) && (stsK one (o + 2) && stsK two (o + 2)) else true)))
def stsK : List StmtD → Nat → Bool
  | [], _ => true
  | e :: es, o => stK e o && stsK es o
end
mutual
def stT : StmtD → Nat → List Int → List Int
  | .mk k s n args one two, o, t =>
    let t1 := exsT args (o + 1) (staL k s n t o)
    let t2 := if (stmR k.toNat).2.2.2.2 = 1 then stsT one (o + 1) t1
      else if (stmR k.toNat).2.2.2.2 = 2 then endL (stsT two (o + 2) (begL (endL (stsT one (o + 2) (begL t1 (o + 1))) (o + 2)) (o + 1))) (o + 2) else t1
    endL t2 (o + 1)
def stsT : List StmtD → Nat → List Int → List Int
  | [], _, t => t
  | e :: es, o, t => stsT es o (stT e o t)
end
theorem ExprD.ind {P : ExprD → Prop} (h : ∀ k n s args, (∀ e ∈ args, P e) → P (.mk k n s args)) : ∀ e, P e := fun e =>
  ExprD.rec (motive_1 := P) (motive_2 := fun l => ∀ e ∈ l, P e) (fun k n s args ih => h k n s args ih) (fun e he => by cases he)
    (fun e es h1 h2 x hx => by rcases List.mem_cons.1 hx with rfl | hx; exact h1; exact h2 x hx) e
theorem StmtD.ind {P : StmtD → Prop} (h : ∀ k s n args one two, (∀ e ∈ one, P e) → (∀ e ∈ two, P e) → P (.mk k s n args one two)) : ∀ e, P e := fun e =>
  StmtD.rec (motive_1 := P) (motive_2 := fun l => ∀ e ∈ l, P e) (fun k s n args one two ih1 ih2 => h k s n args one two ih1 ih2) (fun e he => by cases he)
    (fun e es h1 h2 x hx => by rcases List.mem_cons.1 hx with rfl | hx; exact h1; exact h2 x hx) e
theorem exsK_all : ∀ {l : List ExprD} {o : Nat}, exsK l o = l.all fun e => exK e o
  | [], _ => by simp [exsK]
  | e :: es, o => by unfold exsK; rw [exsK_all (l := es)]; simp
theorem stsK_all : ∀ {l : List StmtD} {o : Nat}, stsK l o = l.all fun e => stK e o
  | [], _ => by simp [stsK]
  | e :: es, o => by unfold stsK; rw [stsK_all (l := es)]; simp
theorem exsT_fold : ∀ {l : List ExprD} {o : Nat} {t : List Int}, exsT l o t = l.foldl (fun t e => exT e o t) t
  | [], _, _ => by simp [exsT]
  | e :: es, o, t => by unfold exsT; rw [exsT_fold (l := es)]; simp
theorem stsT_fold : ∀ {l : List StmtD} {o : Nat} {t : List Int}, stsT l o t = l.foldl (fun t e => stT e o t) t
  | [], _, _ => by simp [stsT]
  | e :: es, o, t => by unfold stsT; rw [stsT_fold (l := es)]; simp
theorem exsT_snoc {l : List ExprD} {o : Nat} {t : List Int} {i : Nat} (h : i < l.length) : exsT (l.take (i + 1)) o t = exT l[i] o (exsT (l.take i) o t) := by
  rw [exsT_fold, exsT_fold, List.take_succ_eq_append_getElem h, List.foldl_append]; rfl
theorem stsT_snoc {l : List StmtD} {o : Nat} {t : List Int} {i : Nat} (h : i < l.length) : stsT (l.take (i + 1)) o t = stT l[i] o (stsT (l.take i) o t) := by
  rw [stsT_fold, stsT_fold, List.take_succ_eq_append_getElem h, List.foldl_append]; rfl
/-! ### what is too long stays -/
section
variable {t : List Int} (h : 20000 < t.length)
include h
theorem putL_long (s : ByteArray) : putL t s = t := by unfold putL; rw [if_pos h]
theorem gapL_long (o : Nat) : gapL t o = t := by unfold gapL; rw [putL_long h]; simp
theorem wordL_long (o : Nat) (s : ByteArray) : wordL t o s = t := by unfold wordL; rw [gapL_long h, putL_long h]
theorem begL_long (o : Nat) : begL t o = t := by unfold begL; rw [gapL_long h, putL_long h]
theorem endL_long (o : Nat) : endL t o = t := by unfold endL; rw [putL_long h, putL_long h]; simp
theorem nesL_long (k n : Int) (s : ByteArray) (o : Nat) : nesL k n s t o = t := by unfold nesL; rw [begL_long h, wordL_long h, wordL_long h]; simp
theorem staL_long (k : Int) (s : ByteArray) (n : Int) (o : Nat) : staL k s n t o = t := by unfold staL; simp only [begL_long h, wordL_long h, ite_self]
end
mutual
theorem exT_long {t : List Int} (h : 20000 < t.length) : ∀ (e : ExprD) (o : Nat), exT e o t = t
  | .mk k n s args, o => by
    unfold exT
    rw [wordL_long h, wordL_long h, nesL_long h, exsT_long h args, endL_long h]
    simp
theorem exsT_long {t : List Int} (h : 20000 < t.length) : ∀ (l : List ExprD) (o : Nat), exsT l o t = t
  | [], _ => rfl
  | e :: es, o => by unfold exsT; rw [exT_long h e, exsT_long h es]
end
mutual
theorem stT_long {t : List Int} (h : 20000 < t.length) : ∀ (e : StmtD) (o : Nat), stT e o t = t
  | .mk k s n args one two, o => by
    unfold stT
    simp only [staL_long h, exsT_long h, begL_long h, endL_long h, stsT_long h one, stsT_long h two, ite_self]
theorem stsT_long {t : List Int} (h : 20000 < t.length) : ∀ (l : List StmtD) (o : Nat), stsT l o t = t
  | [], _ => rfl
  | e :: es, o => by unfold stsT; rw [stT_long h e, stsT_long h es]
end
end Go.Proofs.YtbhdbglhejibbaaGreatDoor
namespace Go.Proofs.YtbhdbglhejibbaaGreatDoor
set_option maxRecDepth 100000
open Go.RowKit
set_option linter.unusedVariables false
/-- where a writer stands: the world in which the tree lies, the blocks of its lists, the writer's block, its maps' -/
structure PrC where
  w0 : World
  S : Nat → Prop
  p : Nat
  m1 : Nat
  m2 : Nat
  B : Nat
/-- a list that was gone through: its block, its place there, its length, how many parentheses were open -/
abbrev VKey := Nat × Nat × Nat × Nat
def vkV (x : VKey) : Value := .agg #[.pointer (some ⟨x.1, x.2.1, none⟩), .int .i64 x.2.2.1, .int .i64 x.2.2.2]
/-- block m is a map that holds just those keys, and nothing at them -/
def SetAt {κ : Type} (kv : κ → Value) (w : World) (m : Nat) (V : List κ) : Prop := ∃ es clock, w.heap[m]? = some (.map es clock) ∧ es.toList.map (·.key) = V.map kv ∧ ∀ e ∈ es.toList, e.val = .agg #[]
abbrev VisAt (w : World) (m : Nat) (V : List VKey) : Prop := SetAt vkV w m V
structure PrOk (C : PrC) : Prop where
  tab : TrT C.w0
  lib : LxT C.w0
  flat : ∀ b, C.S b → ∃ cs T, C.w0.heap[b]? = some (.cells cs T (0, 0))
  order : C.p < C.B ∧ C.m1 < C.B ∧ C.m2 < C.B ∧ C.p ≠ C.m1 ∧ C.p ≠ C.m2 ∧ C.m1 ≠ C.m2
theorem PrOk.lt {C : PrC} (h : PrOk C) {b : Nat} (hb : C.S b) : b < C.w0.heap.size := by
  obtain ⟨cs, T, e⟩ := h.flat b hb
  exact (Array.getElem?_eq_some_iff.1 e).1
structure TwV (C : PrC) (F : Nat → Prop) (w : World) (t : List Int) (o : Nat) (V1 V2 : List VKey) (v : Value) : Prop where
  ok : PrOk C
  blk : w.heap[C.p]? = some (.cells #[v, .int .i64 o, .map (some C.m1), .map (some C.m2)] 93 (0, 0))
  row : w.ownsRow C.B 5 1 v t.length (t.map (Value.int .u8))
  vis1 : VisAt w C.m1 V1
  vis2 : VisAt w C.m2 V2
  key1 : ∀ x ∈ V1, C.S x.1
  key2 : ∀ x ∈ V2, C.S x.1
  fp : F C.p
  f1 : F C.m1
  f2 : F C.m2
  fv : ∀ b, v.ownBlock = some b → F b
  fn : ∀ b, w.heap.size ≤ b → F b
  fk : ∀ b, F b → C.w0.heap.size ≤ b
  base : Below C.w0.heap.size C.w0 w
  bound : C.B ≤ w.heap.size
  len : t.length ≤ 21000
  some_ : 0 < o → t ≠ []
def TwIs (C : PrC) (F : Nat → Prop) (w : World) (t : List Int) (o : Nat) (V1 V2 : List VKey) : Prop := ∃ v, TwV C F w t o V1 V2 v
theorem OutO.low {F : Nat → Prop} {K : Nat} {w0 w w' : World} (h : OutO F w w') (hk : ∀ b, F b → K ≤ b) (hb : Below K w0 w) (hw : K ≤ w.heap.size) : Below K w0 w' :=
  hb.trans ⟨h.os, h.tape, h.output, h.size, fun k hk' => h.block k (by omega) (fun e => by have := hk k e; omega)⟩
section
variable {C : PrC} {F : Nat → Prop} {w w1 w2 w' : World} {t : List Int} {o : Nat} {V1 V2 : List VKey} {v v' : Value}
theorem TwV.lt (h : TwV C F w t o V1 V2 v) : C.p < w.heap.size := (Array.getElem?_eq_some_iff.1 h.blk).1
theorem TwV.cell0 (h : TwV C F w t o V1 V2 v) : w.cell? ⟨C.p, 0, none⟩ = some v := by rw [cell_of_row w C.p 0 _ _ _ h.blk]; rfl
theorem TwV.cell1 (h : TwV C F w t o V1 V2 v) : w.cell? ⟨C.p, 1, none⟩ = some (.int .i64 o) := by rw [cell_of_row w C.p 1 _ _ _ h.blk]; rfl
theorem TwV.cell2 (h : TwV C F w t o V1 V2 v) : w.cell? ⟨C.p, 2, none⟩ = some (.map (some C.m1)) := by rw [cell_of_row w C.p 2 _ _ _ h.blk]; rfl
theorem TwV.cell3 (h : TwV C F w t o V1 V2 v) : w.cell? ⟨C.p, 3, none⟩ = some (.map (some C.m2)) := by rw [cell_of_row w C.p 3 _ _ _ h.blk]; rfl
theorem TwV.free (h : TwV C F w t o V1 V2 v) (i : Nat) : w.frozen? ⟨C.p, i, none⟩ = false := frozen_of_row w C.p i _ _ h.blk
theorem SetAt.lt {κ : Type} {kv : κ → Value} {m : Nat} {V : List κ} (h : SetAt kv w m V) : m < w.heap.size := by obtain ⟨es, c, h, _⟩ := h; exact (Array.getElem?_eq_some_iff.1 h).1
theorem SetAt.move {κ : Type} {kv : κ → Value} {m : Nat} {V : List κ} (h : SetAt kv w m V) (hk : w'.heap[m]? = w.heap[m]?) : SetAt kv w' m V := by
  obtain ⟨es, c, h, h2⟩ := h
  exact ⟨es, c, hk.trans h, h2⟩
theorem TwV.big (h : TwV C F w t o V1 V2 v) : C.w0.heap.size ≤ w.heap.size := h.base.size
theorem TwV.below (h : TwV C F w t o V1 V2 v) (hb : Below w.heap.size w w') : TwV C F w' t o V1 V2 v :=
  { h with
    blk := by rw [hb.block C.p h.lt]; exact h.blk
    row := rowO_below h.row hb
    vis1 := h.vis1.move (hb.block _ h.vis1.lt)
    vis2 := h.vis2.move (hb.block _ h.vis2.lt)
    fn := fun b h' => h.fn b (Nat.le_trans hb.size h')
    base := h.base.trans (hb.mono h.big)
    bound := Nat.le_trans h.bound hb.size }
theorem TwIs.below (h : TwIs C F w t o V1 V2) (hb : Below w.heap.size w w') : TwIs C F w' t o V1 V2 := by obtain ⟨v, h⟩ := h; exact ⟨v, h.below hb⟩
/-- more is put behind, and the slice stored -/
theorem TwV.more (h : TwV C F w t o V1 V2 v) {m : List Int} {n : Nat} {xs : List Value} (hn : (t ++ m).length = n) (hx : xs = (t ++ m).map (Value.int .u8)) (hl : (t ++ m).length ≤ 21000) (hr : w2.ownsRow C.B 5 1 v' n xs) (hg : w.grownBy w2 v.ownBlock) (hv : v'.ownBlock = v.ownBlock ∨ v'.ownBlock = some w.heap.size) :
    TwV C F (w2.setCell ⟨C.p, 0, none⟩ v') (t ++ m) o V1 V2 v' ∧ OutO F w (w2.setCell ⟨C.p, 0, none⟩ v') := by
  subst hn hx
  have ho := h.ok.order
  have hB : ∀ b, v.ownBlock = some b → C.B ≤ b := fun b e => (ownO_lt h.row e).2.1
  have hp : w2.heap[C.p]? = some (.cells #[v, .int .i64 o, .map (some C.m1), .map (some C.m2)] 93 (0, 0)) := by
    rw [hg.block C.p h.lt (fun e => by have := hB _ e.symm; omega)]; exact h.blk
  have hm1 : w2.heap[C.m1]? = w.heap[C.m1]? := hg.block _ h.vis1.lt (fun e => by have := hB _ e.symm; omega)
  have hm2 : w2.heap[C.m2]? = w.heap[C.m2]? := hg.block _ h.vis2.lt (fun e => by have := hB _ e.symm; omega)
  have g2 := grown_setO w2 C.p 0 v'
  have hO : OutO F w (w2.setCell ⟨C.p, 0, none⟩ v') := (OutO.of_grown hg (fun g e => h.fv g e)).trans (OutO.of_grown g2 (fun g e => by cases e; exact h.fp))
  refine ⟨{ ok := h.ok, blk := ?_, row := rowO_kept hr g2 (fun b hb e => ?_), vis1 := h.vis1.move ?_, vis2 := h.vis2.move ?_, key1 := h.key1, key2 := h.key2, fp := h.fp, f1 := h.f1, f2 := h.f2, fv := fun b hb => ?_, fn := fun b hb => h.fn b ?_, fk := h.fk, base := hO.low h.fk h.base h.big, bound := Nat.le_trans h.bound hO.size, len := hl, some_ := fun h0 e => ?_ }, hO⟩
  · rw [heap_setCell_same w2 C.p 0 _ _ _ hp]; rfl
  · have := (ownO_lt hr hb).2.1; cases e; omega
  · rw [g2.block C.m1 (by have := hg.size; have := h.vis1.lt; omega) (fun e => by have := Option.some.inj e; omega)]; exact hm1
  · rw [g2.block C.m2 (by have := hg.size; have := h.vis2.lt; omega) (fun e => by have := Option.some.inj e; omega)]; exact hm2
  · rcases hv with e | e
    · rw [e] at hb; exact h.fv b hb
    · rw [e] at hb; cases hb; exact h.fn _ (Nat.le_refl _)
  · have := hg.size; have hb : w2.heap.size ≤ b := by simpa [World.setCell] using hb
    omega
  · have := h.some_ h0
    rw [List.append_eq_nil_iff] at e
    exact this e.1
/-- so many are open now -/
theorem TwV.opens (h : TwV C F w t o V1 V2 v) (q : Nat) (hq : 0 < q → t ≠ []) : TwV C F (w.setCell ⟨C.p, 1, none⟩ (.int .i64 q)) t q V1 V2 v ∧ OutO F w (w.setCell ⟨C.p, 1, none⟩ (.int .i64 q)) := by
  have ho := h.ok.order
  have g2 := grown_setO w C.p 1 (.int .i64 q)
  have hO : OutO F w (w.setCell ⟨C.p, 1, none⟩ (.int .i64 q)) := OutO.of_grown g2 (fun g e => by cases e; exact h.fp)
  refine ⟨{ ok := h.ok, blk := ?_, row := rowO_kept h.row g2 (fun b hb e => ?_), vis1 := h.vis1.move ?_, vis2 := h.vis2.move ?_, key1 := h.key1, key2 := h.key2, fp := h.fp, f1 := h.f1, f2 := h.f2, fv := h.fv, fn := fun b hb => h.fn b ?_, fk := h.fk, base := hO.low h.fk h.base h.big, bound := Nat.le_trans h.bound hO.size, len := h.len, some_ := hq }, hO⟩
  · rw [heap_setCell_same w C.p 1 _ _ _ h.blk]; rfl
  · have := (ownO_lt h.row hb).2.1; cases e; omega
  · exact g2.block C.m1 h.vis1.lt (fun e => by have := Option.some.inj e; omega)
  · exact g2.block C.m2 h.vis2.lt (fun e => by have := Option.some.inj e; omega)
  · simpa [World.setCell] using hb
theorem TwIs.box (h : TwIs C F w t o V1 V2) (x : Obj) : TwIs C (NBo F w.heap.size) (w.alloc x) t o V1 V2 := by
  obtain ⟨v, h⟩ := h
  have hb := h.below ((Below.refl w.heap.size w).alloc (Nat.le_refl _) x)
  refine ⟨v, { hb with fp := ⟨hb.fp, by have := h.lt; omega⟩, f1 := ⟨hb.f1, by have := h.vis1.lt; omega⟩, f2 := ⟨hb.f2, by have := h.vis2.lt; omega⟩, fv := fun b e => ⟨hb.fv b e, ?_⟩, fn := fun b e => ⟨hb.fn b e, ?_⟩, fk := fun b e => hb.fk b e.1 }⟩
  · have := (ownO_lt h.row e).1; omega
  · simp at e; omega
theorem TwIs.unbox {g : Nat} (h : TwIs C (NBo F g) w t o V1 V2) (hg : C.w0.heap.size ≤ g) (hf : ∀ b, F b → C.w0.heap.size ≤ b) : TwIs C F w t o V1 V2 := by
  obtain ⟨v, h⟩ := h
  exact ⟨v, { h with fp := h.fp.1, f1 := h.f1.1, f2 := h.f2.1, fv := fun b e => (h.fv b e).1, fn := fun b e => (h.fn b e).1, fk := hf }⟩
end
/-- what a writer's call leaves -/
def TwP (C : PrC) (F : Nat → Prop) (w : World) (t : List Int) (o : Nat) (V1 V2 : List VKey) (e : Ending) (w' : World) : Prop := e = .returned (.tuple #[]) ∧ TwIs C F w' t o V1 V2 ∧ OutO F w w'
/-- or a lack -/
def TwX (C : PrC) (F : Nat → Prop) (w : World) (ok : Bool) (t : List Int) (o : Nat) (V1 V2 : List VKey) (e : Ending) (w' : World) : Prop := if ok = true then TwP C F w t o V1 V2 e w' else e = tlackP ∧ OutO F w w'
theorem TwX.yes {C : PrC} {F : Nat → Prop} {w w' : World} {ok : Bool} {t : List Int} {o : Nat} {V1 V2 : List VKey} {e : Ending} (hk : ok = true) (h : TwP C F w t o V1 V2 e w') : TwX C F w ok t o V1 V2 e w' := by unfold TwX; rw [if_pos hk]; exact h
theorem TwX.no {C : PrC} {F : Nat → Prop} {w w' : World} {ok : Bool} {t : List Int} {o : Nat} {V1 V2 : List VKey} {e : Ending} (hk : ok = false) (he : e = tlackP) (h : OutO F w w') : TwX C F w ok t o V1 V2 e w' := by unfold TwX; rw [if_neg (by rw [hk]; simp)]; exact ⟨he, h⟩
theorem TwX.get {C : PrC} {F : Nat → Prop} {w w' : World} {ok : Bool} {t : List Int} {o : Nat} {V1 V2 : List VKey} {e : Ending} (h : TwX C F w ok t o V1 V2 e w') : (ok = true ∧ TwP C F w t o V1 V2 e w') ∨ (ok = false ∧ e = tlackP ∧ OutO F w w') := by
  unfold TwX at h
  cases ok
  · exact .inr ⟨rfl, by simpa using h⟩
  · exact .inl ⟨rfl, by simpa using h⟩
theorem long_any (C : PrC) (F : Nat → Prop) (t : List Int) (o : Nat) (V1 V2 : List VKey) (v : Value) (w : World) (h : TwV C F w t o V1 V2 v) :
    Calls Tryz.prog 116 #[.pointer (some ⟨C.p, 0, none⟩)] w fun e w' => e = .returned (.bool (decide (20000 < t.length))) ∧ w = w' := by
  have hc := h.cell0
  obtain ⟨A, c, rfl⟩ := ownO_slice h.row
  have HR := Lib.hid (show decide ((t.length : Int) > 20000) = decide (20000 < t.length) from by by_cases h : 20000 < t.length <;> simp [h] <;> omega)
  clear h
  go_enter Tryz.func116, Tryz.ntmps116
  go_wp2
  go_ret
  exact ⟨ret_bool HR.out, rfl⟩
set_option maxHeartbeats 1000000 in
theorem tput_any (C : PrC) (F : Nat → Prop) (t : List Int) (o : Nat) (V1 V2 : List VKey) (s : ByteArray) (hs : s.size ≤ 1000) (w : World) (h : TwIs C F w t o V1 V2) :
    Calls Tryz.prog 98 #[.pointer (some ⟨C.p, 0, none⟩), .string s] w (TwP C F w (putL t s) o V1 V2) := by
  obtain ⟨v, hV⟩ := h
  have HV := Lib.hid hV
  have HL := Lib.hid (long_any C F t o V1 V2 v w hV)
  by_cases hl : 20000 < t.length
  · have HR := Lib.hid (show putL t s = t from putL_long hl s)
    have e1 : decide (20000 < t.length) = true := by simpa using hl
    rw [e1] at HL
    clear e1 hl hV
    go_enter Tryz.func98, Tryz.ntmps98
    go_wp2_with fail
    refine HL.out.mono ?_
    rintro e w2 ⟨rfl, rfl⟩
    go_wp2
    go_end0
    exact ⟨rfl, ⟨v, by rw [HR.out]; exact HV.out⟩, OutO.of_below (Below.refl _ _)⟩
  · have HR := Lib.hid (show putL t s = t ++ sB s from by unfold putL; rw [if_neg hl])
    have e1 : decide (20000 < t.length) = false := by simpa using hl
    rw [e1] at HL
    have HS := Lib.hid (sB_len s)
    have hc := hV.cell0
    have hlt := hV.lt
    have hf := hV.free 0
    have HM := Lib.hid (show t.length + s.size ≤ maxLen by unfold maxLen; omega)
    have HB := Lib.hid (show (t.length + s.size) * 1 ≤ 140737488355328 by omega)
    have HZ := Lib.hid (show C.B ≤ w.heap.size from hV.bound)
    obtain ⟨i0, hi, hz0, hz1, hz2⟩ := info_parts infoU8
    have HQ := Lib.hid (show (t ++ sB s).length ≤ 21000 by rw [List.length_append, HS.out]; omega)
    clear e1 hl hV
    go_enter Tryz.func98, Tryz.ntmps98
    go_wp2_with fail
    refine HL.out.mono ?_
    rintro e w2 ⟨rfl, rfl⟩
    go_wp2_with (at_builtin; (refine wpList_append_str rfl _ _ 91 9 rfl C.B 5 i0 (.int .u8 0) 1 Tryz.underlying91 Tryz.underlying9 hi hz0 hz1 hz2 rfl v _ _ ?hs HV.out.row s ?hx HM.out HB.out HZ.out ?_; (case hs => rfl); (case hx => rfl); intro v' w3 hr hg hv'; obtain ⟨A3, c3, rfl⟩ := ownO_slice hr; have HR2 := Lib.hid (HV.out.more (m := sB s) (by rw [List.length_append, HS.out]) (by unfold sC; rw [← List.map_append]) HQ.out hr hg hv'); have hc3 : w3.cell? ⟨C.p, 0, none⟩ = some v := (by rw [World.cell?_of_block (hg.block C.p HV.out.lt (fun e => by have := (ownO_lt HV.out.row e.symm).2.1; have := HV.out.ok.order; omega))]; exact HV.out.cell0); have hf3 : w3.frozen? ⟨C.p, 0, none⟩ = false := (by rw [World.frozen?_of_block (hg.block C.p HV.out.lt (fun e => by have := (ownO_lt HV.out.row e.symm).2.1; have := HV.out.ok.order; omega))]; exact HV.out.free 0); clear hr hg hv' hc hlt hf))
    go_end0
    rw [HR.out]
    have hR := HR2.out
    exact ⟨rfl, ⟨_, hR.1⟩, hR.2⟩
end Go.Proofs.YtbhdbglhejibbaaGreatDoor
namespace Go.Proofs.YtbhdbglhejibbaaGreatDoor
set_option maxRecDepth 100000
open Go.RowKit
set_option linter.unusedVariables false
theorem tdrewN {B : Nat} {a w : World} (h : Below B a w) (n : Nat) : Below B a (w.drewN n) := ⟨h.os, h.tape, h.output, h.size, h.block⟩
theorem sB_one (x : UInt8) : (sB ⟨#[x]⟩).length = 1 := sB_len _
theorem last_cell {C : PrC} {F : Nat → Prop} {w : World} {t : List Int} {o : Nat} {V1 V2 : List VKey} {v : Value} (h : TwV C F w t o V1 V2 v) (ht : t ≠ []) :
    ∃ g c, v = .slice (some ⟨g, 0, none⟩) t.length c ∧ t.length ≤ c ∧ w.cell? ⟨g, t.length - 1, none⟩ = some (.int .u8 (t.getD (t.length - 1) 0)) := by
  have hpos : 0 < t.length := List.length_pos_iff.2 ht
  rcases h.row.2 with ⟨rfl, h0⟩ | ⟨g, cap, cur, rfl, h1, h2, h3⟩
  · omega
  · refine ⟨g, cap, rfl, h3.1, ?_⟩
    have hc := h.row.cells (g := g) rfl (t.length - 1) (.int .u8 (t.getD (t.length - 1) 0)) (by
      rw [List.getElem?_map, List.getElem?_eq_getElem (by omega), List.getD_eq_getElem?_getD, List.getElem?_eq_getElem (by omega)]; rfl)
    rw [addO, Nat.zero_add] at hc
    exact hc
set_option maxHeartbeats 1000000 in
theorem gap_any (C : PrC) (F : Nat → Prop) (t : List Int) (o : Nat) (V1 V2 : List VKey) (w : World) (h : TwIs C F w t o V1 V2) :
    Calls Tryz.prog 97 #[.pointer (some ⟨C.p, 0, none⟩)] w (TwP C F w (gapL t o) o V1 V2) := by
  obtain ⟨v, hV⟩ := h
  have HV := Lib.hid hV
  have hc0 := hV.cell0
  have hc1 := hV.cell1
  by_cases ho : 0 < o
  · obtain ⟨g, c, rfl, hcap, hcl⟩ := last_cell hV (hV.some_ ho)
    have h0 : (o : Int) > 0 := by omega
    have hn : 0 < t.length := List.length_pos_iff.2 (hV.some_ ho)
    have hl1 : (0 : Int) ≤ (t.length : Int) - 1 := by omega
    have hl2 : (t.length : Int) - 1 < t.length := by omega
    have hlen := hV.len
    have e1 : ((t.length : Int) - 1).toNat = t.length - 1 := by omega
    by_cases hx : t.getD (t.length - 1) 0 = 40
    · have HR := Lib.hid (show gapL t o = t from by unfold gapL; rw [if_neg (by simp only [hx, ne_eq, not_true_eq_false, and_false, not_false_eq_true])])
      rw [hx] at hcl
      clear hx hV
      go_enter Tryz.func97, Tryz.ntmps97
      go_wp2
      go_quiet (fail)
      go_wp2
      go_end0
      exact ⟨rfl, ⟨_, by rw [HR.out]; exact HV.out.below (tdrewN (Below.refl _ _) _)⟩, OutO.of_below (tdrewN (Below.refl _ _) _)⟩
    · have HR := Lib.hid (show gapL t o = putL t ⟨#[32]⟩ from by unfold gapL; rw [if_pos ⟨ho, hx⟩])
      have hne : (t.getD (t.length - 1) 0 != 40) = true := by simpa using hx
      have HP := Lib.hid (fun k => tput_any C F t o V1 V2 ⟨#[32]⟩ (by decide) (w.drewN k) ⟨_, hV.below (tdrewN (Below.refl _ _) k)⟩)
      have HO0 := Lib.hid (fun k => OutO.of_below (F := F) (tdrewN (Below.refl w.heap.size w) k))
      clear hx hV
      generalize t.getD (t.length - 1) 0 = q at *
      go_enter Tryz.func97, Tryz.ntmps97
      go_wp2
      go_quiet (fail)
      go_wp2_with fail
      refine (HP.out _).mono ?_
      rintro e w2 ⟨rfl, hW, hO⟩
      have HW := Lib.hid (And.intro hW ((HO0.out _).trans hO))
      clear hW hO
      go_wp2
      go_end0
      exact ⟨rfl, by rw [HR.out]; exact HW.out.1, HW.out.2⟩
  · obtain rfl : o = 0 := by omega
    have hc1 : w.cell? ⟨C.p, 1, none⟩ = some (.int .i64 0) := hV.cell1
    have HR := Lib.hid (show gapL t 0 = t from by unfold gapL; rw [if_neg (fun e => absurd e.1 (by omega))])
    clear ho
    obtain ⟨A, c, rfl⟩ := ownO_slice hV.row
    clear hV
    go_enter Tryz.func97, Tryz.ntmps97
    go_wp2
    go_quiet (fail)
    go_wp2
    go_end0
    exact ⟨rfl, ⟨_, by rw [HR.out]; exact HV.out.below (tdrewN (Below.refl _ _) _)⟩, OutO.of_below (tdrewN (Below.refl _ _) _)⟩
theorem tword_any (C : PrC) (F : Nat → Prop) (t : List Int) (o : Nat) (V1 V2 : List VKey) (s : ByteArray) (hs : s.size ≤ 1000) (w : World) (h : TwIs C F w t o V1 V2) :
    Calls Tryz.prog 70 #[.pointer (some ⟨C.p, 0, none⟩), .string s] w (TwP C F w (wordL t o s) o V1 V2) := by
  have HG := Lib.hid (gap_any C F t o V1 V2 w h)
  have HS := Lib.hid hs
  clear h hs
  go_enter Tryz.func70, Tryz.ntmps70
  go_wp2_with fail
  refine HG.out.mono ?_
  rintro e w2 ⟨rfl, hW, hO⟩
  have HO := Lib.hid hO
  have HP := Lib.hid (tput_any C F _ o V1 V2 s HS.out w2 hW)
  clear hW hO
  go_wp2_with fail
  refine HP.out.mono ?_
  rintro e w3 ⟨rfl, hW, hO⟩
  have HW := Lib.hid (And.intro hW (HO.out.trans hO))
  clear hW hO
  go_wp2
  go_end0
  exact ⟨rfl, HW.out.1, HW.out.2⟩
theorem dgtB_size (n : Nat) (h : n < 18446744073709551616) : (dgtB n).size ≤ 1000 := by
  have := (dec_len64 h).2
  show (Lib.decDigits n).toArray.size ≤ 1000
  rw [List.size_toArray]; omega
theorem tcount_any (C : PrC) (F : Nat → Prop) (t : List Int) (o : Nat) (V1 V2 : List VKey) (n : Int) (hn : 0 ≤ n) (hn2 : n ≤ 1000000) (w : World) (h : TwIs C F w t o V1 V2) :
    Calls Tryz.prog 71 #[.pointer (some ⟨C.p, 0, none⟩), .int .i64 n] w (TwP C F w (wordL t o (dgtB n)) o V1 V2) := by
  obtain ⟨q, rfl⟩ := Int.eq_ofNat_of_zero_le hn
  have HL := Lib.hid (show LxT w from by obtain ⟨v, hV⟩ := h; exact hV.ok.lib.below hV.base)
  have HU := Lib.hid (show IntKind.u64.wrap (q : Int) = q by rw [IntKind.wrap_u64]; omega)
  have hU := HU.out
  have HW0 := Lib.hid h
  have HD := Lib.hid (digits_any q (by omega) w HL.out)
  have HS := Lib.hid (dgtB_size q (by omega))
  have hdig : dgtB (q : Int) = ⟨(Lib.decDigits q).toArray⟩ := rfl
  have HE := Lib.hid hdig
  clear h hn hn2 hdig
  go_enter Tryz.func71, Tryz.ntmps71
  go_wp2_with fail
  refine HD.out.mono ?_
  rintro e w2 ⟨rfl, hb⟩
  have HB := Lib.hid hb
  rw [← HE.out]
  have HP := Lib.hid (tword_any C F t o V1 V2 (dgtB (q : Int)) HS.out w2 (HW0.out.below hb))
  clear hb
  go_wp2_with fail
  refine HP.out.mono ?_
  rintro e w3 ⟨rfl, hW, hO⟩
  have HW := Lib.hid (And.intro hW ((OutO.of_below HB.out).trans hO))
  clear hW hO
  go_wp2
  go_end0
  exact ⟨rfl, HW.out.1, HW.out.2⟩
theorem putL_some {t : List Int} {s : ByteArray} (h : 0 < s.size) : putL t s ≠ [] := by
  intro e
  have e : (putL t s).length = 0 := by rw [e]; rfl
  unfold putL at e
  split at e
  · omega
  · rw [List.length_append, sB_len] at e; omega
theorem begL_some (t : List Int) (o : Nat) : begL t o ≠ [] := putL_some (by decide)
set_option maxHeartbeats 1000000 in
theorem begin_any (C : PrC) (F : Nat → Prop) (t : List Int) (o : Nat) (ho : o ≤ 24) (V1 V2 : List VKey) (w : World) (h : TwIs C F w t o V1 V2) :
    Calls Tryz.prog 69 #[.pointer (some ⟨C.p, 0, none⟩)] w (TwX C F w (decide (o < 24)) (begL t o) (o + 1) V1 V2) := by
  have HG := Lib.hid (gap_any C F t o V1 V2 w h)
  have HN := Lib.hid (begL_some t o)
  clear h
  go_enter Tryz.func69, Tryz.ntmps69
  go_wp2_with fail
  refine HG.out.mono ?_
  rintro e w2 ⟨rfl, hW, hO⟩
  have HO := Lib.hid hO
  have HP := Lib.hid (tput_any C F _ o V1 V2 ⟨#[40]⟩ (by decide) w2 hW)
  clear hW hO
  go_wp2_with fail
  refine HP.out.mono ?_
  rintro e w3 ⟨rfl, hW, hO⟩
  have HO2 := Lib.hid (HO.out.trans hO)
  obtain ⟨v, hV⟩ := hW
  have hc1 := hV.cell1
  have hlt := hV.lt
  have hf := hV.free 1
  have hq := hV.opens (o + 1) (fun _ => HN.out)
  have HQ := Lib.hid hq
  have hc2 := hq.1.cell1
  have e1 : (((o + 1 : Nat) : Int)) = (o : Int) + 1 := by omega
  rw [e1] at hc2
  clear hO hV hq
  by_cases h24 : o < 24
  · have h1 : (o : Int) + 1 ≤ 24 := by omega
    have E2 := Lib.hid (show decide (o < 24) = true by simpa using h24)
    have hb : (o : Int) ≤ 24 := by omega
    clear h24 e1 ho
    go_wp2_with fail
    refine (twant_yes _).mono ?_
    rintro e w4 ⟨rfl, rfl⟩
    go_wp2
    go_end0
    exact TwX.yes E2.out ⟨rfl, ⟨v, HQ.out.1⟩, HO2.out.trans HQ.out.2⟩
  · have h1 : decide ((o : Int) + 1 ≤ 24) = false := by simp; omega
    have E2 := Lib.hid (show decide (o < 24) = false by simpa using h24)
    have hb : (o : Int) ≤ 24 := by omega
    clear h24 e1 ho
    go_wp2_with fail
    refine (twant_no _).mono ?_
    rintro e w4 ⟨rfl, rfl⟩
    exact ⟨rfl, TwX.no E2.out rfl (HO2.out.trans HQ.out.2)⟩
set_option maxHeartbeats 1000000 in
theorem tend_any (C : PrC) (F : Nat → Prop) (t : List Int) (o : Nat) (ho : o ≤ 23) (V1 V2 : List VKey) (w : World) (h : TwIs C F w t (o + 1) V1 V2) :
    Calls Tryz.prog 72 #[.pointer (some ⟨C.p, 0, none⟩)] w (TwP C F w (endL t (o + 1)) o V1 V2) := by
  have HG := Lib.hid (tput_any C F t (o + 1) V1 V2 ⟨#[41]⟩ (by decide) w h)
  have HN := Lib.hid (show putL t ⟨#[41]⟩ ≠ [] from putL_some (by decide))
  clear h
  go_enter Tryz.func72, Tryz.ntmps72
  go_wp2_with fail
  refine HG.out.mono ?_
  rintro e w3 ⟨rfl, hW, hO⟩
  have HO2 := Lib.hid hO
  obtain ⟨v, hV⟩ := hW
  have hc1 : w3.cell? ⟨C.p, 1, none⟩ = some (.int .i64 ((o : Int) + 1)) := by have := hV.cell1; rw [show ((o + 1 : Nat) : Int) = (o : Int) + 1 by omega] at this; exact this
  have hlt := hV.lt
  have hf := hV.free 1
  have hq := hV.opens o (fun _ => HN.out)
  have HQ := Lib.hid hq
  have hb : (o : Int) ≤ 23 := by omega
  have h0' : (0 : Int) ≤ o := by omega
  have e1 : (o : Int) + 1 - 1 = o := by omega
  clear hO hV hq
  by_cases h0 : o = 0
  · subst h0
    have HR := Lib.hid (show endL t (0 + 1) = putL (putL t ⟨#[41]⟩) ⟨#[10]⟩ from by unfold endL; rw [if_pos rfl])
    have HP := Lib.hid (tput_any C F _ 0 V1 V2 ⟨#[10]⟩ (by decide) _ ⟨v, HQ.out.1⟩)
    go_wp2_with fail
    refine HP.out.mono ?_
    rintro e w4 ⟨rfl, hW, hO⟩
    have HW := Lib.hid (And.intro hW ((HO2.out.trans HQ.out.2).trans hO))
    clear hW hO
    go_wp2
    go_end0
    exact ⟨rfl, by rw [HR.out]; exact HW.out.1, HW.out.2⟩
  · have HR := Lib.hid (show endL t (o + 1) = putL t ⟨#[41]⟩ from by unfold endL; rw [if_neg (by omega)])
    have h1 : ((o : Int) == 0) = false := by rw [beq_eq_false_iff_ne]; omega
    go_wp2
    go_end0
    exact ⟨rfl, ⟨v, by rw [HR.out]; exact HQ.out.1⟩, HO2.out.trans HQ.out.2⟩
end Go.Proofs.YtbhdbglhejibbaaGreatDoor
namespace Go.Proofs.YtbhdbglhejibbaaGreatDoor
set_option maxRecDepth 100000
open Go.RowKit
set_option linter.unusedVariables false
def PlB (w : World) (b : Nat) : Prop := ∃ cs T, w.heap[b]? = some (.cells cs T (0, 0))
theorem eq_ptr {tp te : TypeId} {j : TypeInfo} (hp : Tryz.prog.underlying tp = some (.pointer te)) (hte : Tryz.prog.info? te = some j) (hsz : j.size ≠ 0) (d : Nat) (a b : Addr) (w : World) (ha : PlB w a.block) (hb : PlB w b.block) :
    (Op.equalIn (d + 1) tp (.pointer (some a)) (.pointer (some b))).run Tryz.prog w = .ok (decide (a = b)) w := by
  obtain ⟨ca, ta, ha⟩ := ha
  obtain ⟨cb, tb, hb⟩ := hb
  by_cases e : a = b
  · subst e
    rw [decide_eq_true rfl]
    simp [Op.equalIn, run_underlying hp, sizeOf, typeInfo, hte, run_sameAddr_same]
  · rw [decide_eq_false e]
    simp [Op.equalIn, run_underlying hp, sizeOf, typeInfo, hte, hsz, run_sameAddr_other w e ha hb]
theorem infoEx : (Tryz.prog.info? 42).map (fun i => (i.zero, i.size, i.bytes)) = some (some (.agg #[.int .i64 0, .int .u64 0, .string ⟨#[]⟩, .slice none 0 0]), 4, 56) := by kernel_rfl
theorem infoSt : (Tryz.prog.info? 45).map (fun i => (i.zero, i.size, i.bytes)) = some (some (.agg #[.int .i64 0, .string ⟨#[]⟩, .int .i64 0, .slice none 0 0, .slice none 0 0, .slice none 0 0]), 6, 104) := by kernel_rfl
theorem vk_inj {x y : VKey} : x = y ↔ ((⟨x.1, x.2.1, none⟩ : Addr) = ⟨y.1, y.2.1, none⟩ ∧ (x.2.2.1 : Int) = y.2.2.1 ∧ (x.2.2.2 : Int) = y.2.2.2) := by
  obtain ⟨a, b, c, d⟩ := x
  obtain ⟨a', b', c', d'⟩ := y
  simp only [Prod.mk.injEq, Addr.mk.injEq, and_true]
  omega
theorem eqVisE (x y : VKey) (w : World) (hx : PlB w x.1) (hy : PlB w y.1) : (Op.equal 245 (vkV x) (vkV y)).run Tryz.prog w = .ok (decide (x = y)) w := by
  obtain ⟨i0, hi, hz0, hz1, hz2⟩ := info_parts infoEx
  have hpt := eq_ptr Tryz.underlying195 hi (by rw [hz1]; decide) 9998 ⟨x.1, x.2.1, none⟩ ⟨y.1, y.2.1, none⟩ w hx hy
  have ai := Tryz.isAgg3
  have ui := Tryz.underlying3
  have ap : ∀ w, (isAgg 195).run Tryz.prog w = .ok false w := fun w => by kernel_rfl
  have hS : Tryz.prog.underlying 245 = some (.struct (Tryz.prog.fieldsOf 245)) := by kernel_rfl
  have hh : Tryz.prog.stoodInHeld 245 = false := by kernel_rfl
  unfold Op.equal Op.maxDepth vkV
  rw [show (10000 : Nat) = 9999 + 1 from rfl, run_equalIn_agg w 9999 _ _ _ hS hh]
  simp only [Program.fieldsOf, Tryz.underlying245]
  rw [show (9999 : Nat) = 9998 + 1 from rfl]
  simp only [Op.eqFields]
  clear hx hy
  obtain ⟨a, b, c, d⟩ := x
  obtain ⟨a', b', c', d'⟩ := y
  simp only at hpt ⊢
  go_simp
  by_cases h1 : a = a' <;> by_cases h2 : b = b' <;> by_cases h3 : c = c' <;> by_cases h4 : d = d' <;> simp [h1, h2, h3, h4, Int.natCast_inj]
theorem chkVisE (em : Bool) (x : VKey) (w : World) : (Instr.checkKey em 10000 245 (vkV x)).run Tryz.prog w = .ok () w := by
  have ai := Tryz.isAgg3
  have ui := Tryz.underlying3
  have up := Tryz.underlying195
  have ap : ∀ w, (isAgg 195).run Tryz.prog w = .ok false w := fun w => by kernel_rfl
  unfold vkV
  rw [show (10000 : Nat) = 9998 + 1 + 1 from rfl]
  unfold Instr.checkKey
  simp only [Sem.run_bind, run_underlying Tryz.underlying245, Result.andThen_ok]
  rw [← Array.forIn_toList]
  simp only [List.forIn_cons, List.forIn_nil]
  unfold Instr.checkKey
  go_simp
theorem eqVisS (x y : VKey) (w : World) (hx : PlB w x.1) (hy : PlB w y.1) : (Op.equal 214 (vkV x) (vkV y)).run Tryz.prog w = .ok (decide (x = y)) w := by
  obtain ⟨i0, hi, hz0, hz1, hz2⟩ := info_parts infoSt
  have hpt := eq_ptr Tryz.underlying169 hi (by rw [hz1]; decide) 9998 ⟨x.1, x.2.1, none⟩ ⟨y.1, y.2.1, none⟩ w hx hy
  have ai := Tryz.isAgg3
  have ui := Tryz.underlying3
  have ap : ∀ w, (isAgg 169).run Tryz.prog w = .ok false w := fun w => by kernel_rfl
  have hS : Tryz.prog.underlying 214 = some (.struct (Tryz.prog.fieldsOf 214)) := by kernel_rfl
  have hh : Tryz.prog.stoodInHeld 214 = false := by kernel_rfl
  unfold Op.equal Op.maxDepth vkV
  rw [show (10000 : Nat) = 9999 + 1 from rfl, run_equalIn_agg w 9999 _ _ _ hS hh]
  simp only [Program.fieldsOf, Tryz.underlying214]
  rw [show (9999 : Nat) = 9998 + 1 from rfl]
  simp only [Op.eqFields]
  clear hx hy
  obtain ⟨a, b, c, d⟩ := x
  obtain ⟨a', b', c', d'⟩ := y
  simp only at hpt ⊢
  go_simp
  by_cases h1 : a = a' <;> by_cases h2 : b = b' <;> by_cases h3 : c = c' <;> by_cases h4 : d = d' <;> simp [h1, h2, h3, h4, Int.natCast_inj]
theorem chkVisS (em : Bool) (x : VKey) (w : World) : (Instr.checkKey em 10000 214 (vkV x)).run Tryz.prog w = .ok () w := by
  have ai := Tryz.isAgg3
  have ui := Tryz.underlying3
  have up := Tryz.underlying169
  have ap : ∀ w, (isAgg 169).run Tryz.prog w = .ok false w := fun w => by kernel_rfl
  unfold vkV
  rw [show (10000 : Nat) = 9998 + 1 + 1 from rfl]
  unfold Instr.checkKey
  simp only [Sem.run_bind, run_underlying Tryz.underlying214, Result.andThen_ok]
  rw [← Array.forIn_toList]
  simp only [List.forIn_cons, List.forIn_nil]
  unfold Instr.checkKey
  go_simp
/-- a key is looked for among those that are there -/
theorem find_vis {κ : Type} [DecidableEq κ] {kv : κ → Value} {T : TypeId} {w : World} {x : κ} {K : κ → Prop} (heq : ∀ y : κ, K y → (Op.equal T (kv x) (kv y)).run Tryz.prog w = .ok (decide (x = y)) w) :
    ∀ (es : List MapEntry) (V : List κ) (i : Nat), es.map (·.key) = V.map kv → (∀ y ∈ V, K y) → (∀ e ∈ es, e.val = .agg #[]) →
      ∃ r, (Instr.findAsking T (kv x) es i).run Tryz.prog w = .ok r w ∧ ((x ∈ V ∧ ∃ j, j < es.length ∧ r = some (i + j, .agg #[]) ∧ (es[j]?).map (·.key) = some (kv x)) ∨ (x ∉ V ∧ r = none))
  | [], V, i, hV, _, _ => by
    have : V = [] := by simpa using hV.symm
    subst this
    exact ⟨none, by simp [Instr.findAsking], .inr ⟨by simp, rfl⟩⟩
  | e :: es, [], i, hV, _, _ => by simp at hV
  | e :: es, y :: V, i, hV, hp, hv => by
    simp only [List.map_cons, List.cons.injEq] at hV
    obtain ⟨hk, hV⟩ := hV
    have h1 := heq y (hp y (by simp))
    by_cases he : x = y
    · subst he
      rw [decide_eq_true rfl] at h1
      refine ⟨some (i, .agg #[]), ?_, .inl ⟨by simp, 0, by simp, rfl, by simp [hk]⟩⟩
      simp [Instr.findAsking, hk, h1, hv e (by simp)]
    · rw [decide_eq_false he] at h1
      obtain ⟨r, hr, h⟩ := find_vis heq es V (i + 1) hV (fun y hy => hp y (by simp [hy])) (fun e he => hv e (by simp [he]))
      refine ⟨r, by simp [Instr.findAsking, hk, h1, hr], ?_⟩
      rcases h with ⟨h2, j, h3, h4, h5⟩ | ⟨h2, h3⟩
      · exact .inl ⟨by simp [h2], j + 1, by simp; omega, by rw [h4, Nat.add_assoc, Nat.add_comm 1 j], by simpa using h5⟩
      · exact .inr ⟨by simp [he, h2], h3⟩
def memG {κ : Type} [DecidableEq κ] (V : List κ) (x : κ) : Bool := decide (x ∈ V)
def addG {κ : Type} [DecidableEq κ] (V : List κ) (x : κ) : List κ := if x ∈ V then V else V ++ [x]
theorem memG_iff {κ : Type} [DecidableEq κ] {V : List κ} {x : κ} : memG V x = true ↔ x ∈ V := by unfold memG; exact decide_eq_true_iff
theorem addG_mem {κ : Type} [DecidableEq κ] {V : List κ} {x : κ} (h : memG V x = true) : addG V x = V := by unfold addG; rw [if_pos (memG_iff.1 h)]
theorem addG_new {κ : Type} [DecidableEq κ] {V : List κ} {x : κ} (h : memG V x = false) : addG V x = V ++ [x] := by unfold addG; rw [if_neg (fun e => by rw [memG_iff.2 e] at h; cases h)]
theorem find_set {κ : Type} [DecidableEq κ] {kv : κ → Value} {T : TypeId} {w : World} {x : κ} {K : κ → Prop} (hT : ∃ fs, Tryz.prog.underlying T = some (.struct fs)) (heq : ∀ y : κ, K y → (Op.equal T (kv x) (kv y)).run Tryz.prog w = .ok (decide (x = y)) w)
    (es : List MapEntry) (V : List κ) (hV : es.map (·.key) = V.map kv) (hK : ∀ y ∈ V, K y) (hv : ∀ e ∈ es, e.val = .agg #[]) :
      ∃ r, (Instr.findKey T (kv x) es).run Tryz.prog w = .ok r w ∧ ((x ∈ V ∧ ∃ j, j < es.length ∧ r = some (j, .agg #[]) ∧ (es[j]?).map (·.key) = some (kv x)) ∨ (x ∉ V ∧ r = none)) := by
  obtain ⟨fs, hT⟩ := hT
  obtain ⟨r, h1, h2⟩ := find_vis heq es V 0 hV hK hv
  refine ⟨r, ?_, by simpa using h2⟩
  have hn : ∀ (k : Value), es ≠ [] → Instr.findNow (.struct fs) k es 0 = none := fun k h => by
    cases es with
    | nil => exact absurd rfl h
    | cons e es => simp [Instr.findNow, Instr.sameNow]
  unfold Instr.findKey
  simp only [Sem.run_bind, run_underlying hT, Result.andThen_ok]
  by_cases h0 : es = []
  · subst h0
    simp only [Instr.findNow]
    rw [← h1]
    simp [Instr.findAsking]
  · rw [hn _ h0]
    exact h1
theorem theap_set {w : World} {r : Nat} {o o' : Obj} (hb : w.heap[r]? = some o) : (w.heap.setIfInBounds r o')[r]? = some o' ∧ ∀ r', r' ≠ r → (w.heap.setIfInBounds r o')[r']? = w.heap[r']? := by
  have hlt : r < w.heap.size := (Array.getElem?_eq_some_iff.1 hb).1
  exact ⟨by simp [hlt], fun r' hne => by simp [Ne.symm hne]⟩
theorem tget_map {w : World} {r : Nat} {es : Array MapEntry} {c : Nat} (hb : w.heap[r]? = some (.map es c)) : (getObj r).run Tryz.prog w = .ok (.map es c) w := by
  simp [getObj, Sem.run, hb]
theorem tset_map {w : World} {r : Nat} {es : Array MapEntry} {c : Nat} (o : Obj) (hb : w.heap[r]? = some (.map es c)) : (setObj r o).run Tryz.prog w = .ok () { w with heap := w.heap.setIfInBounds r o } := by
  simp [setObj, Sem.run, hb]
theorem SetAt.look {κ : Type} [DecidableEq κ] {kv : κ → Value} {T M E : TypeId} {w : World} {m : Nat} {V : List κ} {x : κ} {K : κ → Prop} (h : SetAt kv w m V) (hM : Tryz.prog.underlying M = some (.map T E)) (hT : ∃ fs, Tryz.prog.underlying T = some (.struct fs)) (hE : (zeroValue E).run Tryz.prog w = .ok (.agg #[]) w)
    (heq : ∀ y : κ, K y → (Op.equal T (kv x) (kv y)).run Tryz.prog w = .ok (decide (x = y)) w) (hch : ∀ em, (Instr.checkKey em 10000 T (kv x)).run Tryz.prog w = .ok () w) (hK : ∀ y ∈ V, K y) :
    (Instr.lookup M (.map (some m)) (kv x) true).run Tryz.prog w = .ok (.tuple #[.agg #[], .bool (memG V x)]) w := by
  obtain ⟨es, c, hb, hk, hv⟩ := h
  obtain ⟨r, hr, h2⟩ := find_set hT heq es.toList V hk hK hv
  unfold Instr.lookup
  simp only [Sem.run_bind, run_underlying hM, Result.andThen_ok, tget_map hb, Sem.run_pure, hch, hr]
  rcases h2 with ⟨h3, j, _, rfl, _⟩ | ⟨h3, rfl⟩
  · rw [memG_iff.2 h3]
    simp
  · rw [show memG V x = false from by unfold memG; exact decide_eq_false h3]
    simp [hE]
theorem SetAt.put {κ : Type} [DecidableEq κ] {kv : κ → Value} {T M E : TypeId} {w : World} {m : Nat} {V : List κ} {x : κ} {K : κ → Prop} (h : SetAt kv w m V) (hM : Tryz.prog.underlying M = some (.map T E)) (hT : ∃ fs, Tryz.prog.underlying T = some (.struct fs))
    (heq : ∀ y : κ, K y → (Op.equal T (kv x) (kv y)).run Tryz.prog w = .ok (decide (x = y)) w) (hch : ∀ em, (Instr.checkKey em 10000 T (kv x)).run Tryz.prog w = .ok () w) (hsm : Instr.sameBits 10000 (kv x) (kv x) = true) (hK : ∀ y ∈ V, K y) :
    ∃ w', (Instr.mapUpdate M (.map (some m)) (kv x) (.agg #[])).run Tryz.prog w = .ok () w' ∧ SetAt kv w' m (addG V x) ∧ w.grownBy w' (some m) := by
  obtain ⟨es, c, hb, hk, hv⟩ := h
  obtain ⟨r, hr, h2⟩ := find_set hT heq es.toList V hk hK hv
  have hgr : ∀ o, w.grownBy { w with heap := w.heap.setIfInBounds m o } (some m) := fun o => ⟨rfl, rfl, rfl, by simp, fun i _ hi => (theap_set hb).2 i (fun e => hi (by rw [e]))⟩
  rcases h2 with ⟨h3, j, hj, rfl, hkj⟩ | ⟨h3, rfl⟩
  · refine ⟨{ w with heap := w.heap.setIfInBounds m (.map (es.modify j fun e => { e with key := kv x, val := .agg #[] }) c) }, ?_, ⟨_, _, (theap_set hb).1, ?_, ?_⟩, hgr _⟩
    · have hj' : j < es.size := by simpa using hj
      have hk0 : (es[j]?).map (·.key) = some (kv x) := by simpa using hkj
      have hks : ((es[j]?).map (·.key)).getD (kv x) = kv x := by rw [hk0]; rfl
      unfold Instr.mapUpdate
      simp only [Sem.run_bind, run_underlying hM, Result.andThen_ok, tget_map hb, hch, hr]
      simp only [hks, Instr.keyThatStays, hsm, if_true, Sem.run_pure, Result.andThen_ok]
      exact tset_map _ hb
    · rw [addG_mem (memG_iff.2 h3), ← hk]
      apply List.ext_getElem?
      intro i
      have hk0 : (es[j]?).map (·.key) = some (kv x) := by simpa using hkj
      simp only [List.getElem?_map, Array.getElem?_toList, Array.getElem?_modify]
      by_cases e : j = i
      · subst e
        rw [if_pos rfl, hk0]
        cases hq : es[j]? with
        | none => rw [hq] at hk0; cases hk0
        | some y => rfl
      · rw [if_neg e]
    · intro e he
      obtain ⟨i, hi, rfl⟩ := List.mem_iff_getElem.1 he
      simp only [Array.getElem_toList, Array.getElem_modify]
      split
      · rfl
      · exact hv _ (by simp)
  · refine ⟨{ w with heap := w.heap.setIfInBounds m (.map (es.push { key := kv x, val := .agg #[], born := c }) (c + 1)) }, ?_, ⟨_, _, (theap_set hb).1, ?_, ?_⟩, hgr _⟩
    · unfold Instr.mapUpdate
      simp only [Sem.run_bind, run_underlying hM, Result.andThen_ok, tget_map hb, hch, hr]
      exact tset_map _ hb
    · rw [show addG V x = V ++ [x] from by unfold addG; rw [if_neg h3]]
      simp [hk]
    · intro e he
      simp only [Array.toList_push, List.mem_append, List.mem_singleton] at he
      rcases he with he | rfl
      · exact hv e he
      · rfl
theorem TwV.flat {C : PrC} {F : Nat → Prop} {w : World} {t : List Int} {o : Nat} {V1 V2 : List VKey} {v : Value} (h : TwV C F w t o V1 V2 v) {b : Nat} (hb : C.S b) : PlB w b := by
  obtain ⟨cs, T, e⟩ := h.ok.flat b hb
  exact ⟨cs, T, (h.base.block b (h.ok.lt hb)).trans e⟩
/-- one key more in the one map -/
theorem TwV.keyE {C : PrC} {F : Nat → Prop} {w w' : World} {t : List Int} {o : Nat} {V1 V2 V : List VKey} {v : Value} (h : TwV C F w t o V1 V2 v) (hs : SetAt vkV w' C.m2 V) (hg : w.grownBy w' (some C.m2)) (hV : ∀ x ∈ V, C.S x.1) : TwV C F w' t o V1 V v ∧ OutO F w w' := by
  have ho := h.ok.order
  have hO : OutO F w w' := OutO.of_grown hg (fun g e => by cases e; exact h.f2)
  refine ⟨{ h with
    blk := (hg.block C.p h.lt (fun e => by have := Option.some.inj e; omega)).trans h.blk
    row := rowO_kept h.row hg (fun b hb e => by have := (ownO_lt h.row hb).2.1; have := Option.some.inj e; omega)
    vis1 := h.vis1.move (hg.block C.m1 h.vis1.lt (fun e => by have := Option.some.inj e; omega))
    vis2 := hs
    key2 := hV
    fn := fun b hb => h.fn b (Nat.le_trans hg.size hb)
    base := hO.low h.fk h.base h.big
    bound := Nat.le_trans h.bound hg.size }, hO⟩
theorem TwV.keyS {C : PrC} {F : Nat → Prop} {w w' : World} {t : List Int} {o : Nat} {V1 V2 V : List VKey} {v : Value} (h : TwV C F w t o V1 V2 v) (hs : SetAt vkV w' C.m1 V) (hg : w.grownBy w' (some C.m1)) (hV : ∀ x ∈ V, C.S x.1) : TwV C F w' t o V V2 v ∧ OutO F w w' := by
  have ho := h.ok.order
  have hO : OutO F w w' := OutO.of_grown hg (fun g e => by cases e; exact h.f1)
  refine ⟨{ h with
    blk := (hg.block C.p h.lt (fun e => by have := Option.some.inj e; omega)).trans h.blk
    row := rowO_kept h.row hg (fun b hb e => by have := (ownO_lt h.row hb).2.1; have := Option.some.inj e; omega)
    vis2 := h.vis2.move (hg.block C.m2 h.vis2.lt (fun e => by have := Option.some.inj e; omega))
    vis1 := hs
    key1 := hV
    fn := fun b hb => h.fn b (Nat.le_trans hg.size hb)
    base := hO.low h.fk h.base h.big
    bound := Nat.le_trans h.bound hg.size }, hO⟩
theorem addV_all {V : List VKey} {x : VKey} {S : Nat → Prop} (h : ∀ y ∈ V, S y.1) (hx : S x.1) : ∀ y ∈ addG V x, S y.1 := fun y hy => by
  unfold addG at hy
  split at hy
  · exact h y hy
  · rcases List.mem_append.1 hy with hy | hy
    · exact h y hy
    · simp only [List.mem_singleton] at hy; subst hy; exact hx
set_option maxHeartbeats 1000000 in
theorem againE_any (C : PrC) (F : Nat → Prop) (t : List Int) (o : Nat) (V1 V2 : List VKey) (b q n c : Nat) (hb : C.S b) (hn : 0 < n) (w : World) (h : TwIs C F w t o V1 V2) :
    Calls Tryz.prog 142 #[.map (some C.m2), .slice (some ⟨b, q, none⟩) n c, .int .i64 o] w fun e w' => e = .returned (.bool (memG V2 (b, q, n, o))) ∧ TwIs C F w' t o V1 (addG V2 (b, q, n, o)) ∧ OutO F w w' := by
  obtain ⟨v, hV⟩ := h
  have hb1 := (Below.refl w.heap.size w).alloc (Nat.le_refl _) (.cells #[.pointer (some ⟨b, q, none⟩), .int .i64 n, .int .i64 o] 245)
  have hV1 := hV.below hb1
  have hb2 := (Below.refl _ (w.alloc (.cells #[.pointer (some ⟨b, q, none⟩), .int .i64 n, .int .i64 o] 245))).alloc (Nat.le_refl _) (.cells #[] 85)
  have hV2 := hV1.below hb2
  have hlk := hV1.vis2.look (K := fun y => PlB (w.alloc (.cells #[.pointer (some ⟨b, q, none⟩), .int .i64 n, .int .i64 o] 245)) y.1) (x := (b, q, n, o)) Tryz.underlying90 ⟨_, Tryz.underlying245⟩ (by kernel_rfl) (fun y hy => eqVisE _ _ _ (hV1.flat hb) hy) (fun em => chkVisE _ _ _) (fun y hy => hV1.flat (hV1.key2 y hy))
  obtain ⟨w3, hup, hs3, hg3⟩ := hV2.vis2.put (K := fun y => PlB ((w.alloc (.cells #[.pointer (some ⟨b, q, none⟩), .int .i64 n, .int .i64 o] 245)).alloc (.cells #[] 85)) y.1) (x := (b, q, n, o)) Tryz.underlying90 ⟨_, Tryz.underlying245⟩ (fun y hy => eqVisE _ _ _ (hV2.flat hb) hy) (fun em => chkVisE _ _ _) (by simp [vkV, Instr.sameBits]) (fun y hy => hV2.flat (hV2.key2 y hy))
  have HR := Lib.hid (hV2.keyE hs3 hg3 (addV_all (x := (b, q, n, o)) hV2.key2 hb))
  have HO := Lib.hid ((OutO.of_below (F := F) hb1).trans (OutO.of_below hb2))
  have h0 : ((n : Int) == 0) = false := by rw [beq_eq_false_iff_ne]; omega
  have h1 : (0 : Int) < n := by omega
  unfold vkV at hlk hup
  simp only at hlk hup
  clear hV hV1 hV2 hb1 hb2 hs3 hg3
  go_enter Tryz.func142, Tryz.ntmps142
  go_wp2
  go_ret
  exact ⟨rfl, ⟨v, HR.out.1⟩, HO.out.trans HR.out.2⟩
set_option maxHeartbeats 1000000 in
theorem againS_any (C : PrC) (F : Nat → Prop) (t : List Int) (o : Nat) (V1 V2 : List VKey) (b q n c : Nat) (hb : C.S b) (hn : 0 < n) (w : World) (h : TwIs C F w t o V1 V2) :
    Calls Tryz.prog 118 #[.map (some C.m1), .slice (some ⟨b, q, none⟩) n c, .int .i64 o] w fun e w' => e = .returned (.bool (memG V1 (b, q, n, o))) ∧ TwIs C F w' t o (addG V1 (b, q, n, o)) V2 ∧ OutO F w w' := by
  obtain ⟨v, hV⟩ := h
  have hb1 := (Below.refl w.heap.size w).alloc (Nat.le_refl _) (.cells #[.pointer (some ⟨b, q, none⟩), .int .i64 n, .int .i64 o] 214)
  have hV1 := hV.below hb1
  have hb2 := (Below.refl _ (w.alloc (.cells #[.pointer (some ⟨b, q, none⟩), .int .i64 n, .int .i64 o] 214))).alloc (Nat.le_refl _) (.cells #[] 85)
  have hV2 := hV1.below hb2
  have hlk := hV1.vis1.look (K := fun y => PlB (w.alloc (.cells #[.pointer (some ⟨b, q, none⟩), .int .i64 n, .int .i64 o] 214)) y.1) (x := (b, q, n, o)) Tryz.underlying88 ⟨_, Tryz.underlying214⟩ (by kernel_rfl) (fun y hy => eqVisS _ _ _ (hV1.flat hb) hy) (fun em => chkVisS _ _ _) (fun y hy => hV1.flat (hV1.key1 y hy))
  obtain ⟨w3, hup, hs3, hg3⟩ := hV2.vis1.put (K := fun y => PlB ((w.alloc (.cells #[.pointer (some ⟨b, q, none⟩), .int .i64 n, .int .i64 o] 214)).alloc (.cells #[] 85)) y.1) (x := (b, q, n, o)) Tryz.underlying88 ⟨_, Tryz.underlying214⟩ (fun y hy => eqVisS _ _ _ (hV2.flat hb) hy) (fun em => chkVisS _ _ _) (by simp [vkV, Instr.sameBits]) (fun y hy => hV2.flat (hV2.key1 y hy))
  have HR := Lib.hid (hV2.keyS hs3 hg3 (addV_all (x := (b, q, n, o)) hV2.key1 hb))
  have HO := Lib.hid ((OutO.of_below (F := F) hb1).trans (OutO.of_below hb2))
  have h0 : ((n : Int) == 0) = false := by rw [beq_eq_false_iff_ne]; omega
  have h1 : (0 : Int) < n := by omega
  unfold vkV at hlk hup
  simp only at hlk hup
  clear hV hV1 hV2 hb1 hb2 hs3 hg3
  go_enter Tryz.func118, Tryz.ntmps118
  go_wp2
  go_ret
  exact ⟨rfl, ⟨v, HR.out.1⟩, HO.out.trans HR.out.2⟩
end Go.Proofs.YtbhdbglhejibbaaGreatDoor
namespace Go.Proofs.YtbhdbglhejibbaaGreatDoor
set_option maxRecDepth 100000
open Go.RowKit
set_option linter.unusedVariables false
mutual
def exZ : ExprD → Nat
  | .mk _ _ _ args => 1 + exsZ args
def exsZ : List ExprD → Nat
  | [] => 0
  | e :: es => exZ e + exsZ es
end
mutual
def stZ : StmtD → Nat
  | .mk _ _ _ _ one two => 1 + (stsZ one + stsZ two)
def stsZ : List StmtD → Nat
  | [] => 0
  | e :: es => stZ e + stsZ es
end
theorem exZ_mem : ∀ {l : List ExprD} {e : ExprD}, e ∈ l → exZ e ≤ exsZ l
  | x :: xs, e, h => by
    unfold exsZ
    rcases List.mem_cons.1 h with rfl | h
    · omega
    · have := exZ_mem h; omega
theorem stZ_mem : ∀ {l : List StmtD} {e : StmtD}, e ∈ l → stZ e ≤ stsZ l
  | x :: xs, e, h => by
    unfold stsZ
    rcases List.mem_cons.1 h with rfl | h
    · omega
    · have := stZ_mem h; omega
section
variable {w : World} {S : Nat → Prop}
mutual
theorem ExprAt.same : ∀ (e e' : ExprD) (b o : Nat), ExprAt w S e b o → ExprAt w S e' b o → e = e'
  | .mk k n s args, .mk k' n' s' args', b, o, h, h' => by
    unfold ExprAt at h h'
    obtain ⟨g0, g1, g2, A, c, g3, g4, g5⟩ := h
    obtain ⟨g0', g1', g2', A', c', g3', g4', g5'⟩ := h'
    rw [g0] at g0'
    rw [g1] at g1'
    rw [g2] at g2'
    rw [g3] at g3'
    simp only [Option.some.injEq, Value.int.injEq, Value.string.injEq, Value.slice.injEq, true_and] at g0' g1' g2' g3'
    obtain ⟨rfl, hl, rfl⟩ := g3'
    subst g0' g1' g2'
    have ha : args = args' := by
      rcases g5 with e | ⟨b1, o1, rfl, q1, q2⟩
      · subst e
        have : args'.length = 0 := by simpa using hl.symm
        exact (List.length_eq_zero_iff.1 this).symm
      · rcases g5' with e | ⟨b2, o2, e, q3, q4⟩
        · subst e
          have : args.length = 0 := by simpa using hl
          exact List.length_eq_zero_iff.1 this
        · simp only [Option.some.injEq, Addr.mk.injEq, and_true] at e
          obtain ⟨rfl, rfl⟩ := e
          exact ExprsIn.same args args' b1 o1 hl q2 q4
    rw [ha]
theorem ExprsIn.same : ∀ (l l' : List ExprD) (b o : Nat), l.length = l'.length → ExprsIn w S l b o → ExprsIn w S l' b o → l = l'
  | [], [], _, _, _, _, _ => rfl
  | [], _ :: _, _, _, h, _, _ => by simp at h
  | _ :: _, [], _, _, h, _, _ => by simp at h
  | e :: es, e' :: es', b, o, hl, h, h' => by
    rw [ExprAt.same e e' b o h.1 h'.1, ExprsIn.same es es' b (o + 4) (by simpa using hl) h.2 h'.2]
end
mutual
theorem StmtAt.same : ∀ (e e' : StmtD) (b o : Nat), StmtAt w S e b o → StmtAt w S e' b o → e = e'
  | .mk k s n args one two, .mk k' s' n' args' one' two', b, o, h, h' => by
    unfold StmtAt at h h'
    obtain ⟨g0, g1, g2, ⟨A, c, g3, g4, g5⟩, ⟨A1, c1, g6, g7, g8⟩, A2, c2, g9, g10, g11⟩ := h
    obtain ⟨g0', g1', g2', ⟨A', c', g3', g4', g5'⟩, ⟨A1', c1', g6', g7', g8'⟩, A2', c2', g9', g10', g11'⟩ := h'
    rw [g0] at g0'
    rw [g1] at g1'
    rw [g2] at g2'
    rw [g3] at g3'
    rw [g6] at g6'
    rw [g9] at g9'
    simp only [Option.some.injEq, Value.int.injEq, Value.string.injEq, Value.slice.injEq, true_and] at g0' g1' g2' g3' g6' g9'
    obtain ⟨rfl, hl, rfl⟩ := g3'
    obtain ⟨rfl, hl1, rfl⟩ := g6'
    obtain ⟨rfl, hl2, rfl⟩ := g9'
    subst g0' g1' g2'
    have ha : args = args' := by
      rcases g5 with e | ⟨b1, o1, rfl, q1, q2⟩
      · subst e
        have : args'.length = 0 := by simpa using hl.symm
        exact (List.length_eq_zero_iff.1 this).symm
      · rcases g5' with e | ⟨b2, o2, e, q3, q4⟩
        · subst e
          have : args.length = 0 := by simpa using hl
          exact List.length_eq_zero_iff.1 this
        · simp only [Option.some.injEq, Addr.mk.injEq, and_true] at e
          obtain ⟨rfl, rfl⟩ := e
          exact ExprsIn.same args args' b1 o1 hl q2 q4
    have h1 : one = one' := by
      rcases g8 with e | ⟨b1, o1, rfl, q1, q2⟩
      · subst e
        have : one'.length = 0 := by simpa using hl1.symm
        exact (List.length_eq_zero_iff.1 this).symm
      · rcases g8' with e | ⟨b2, o2, e, q3, q4⟩
        · subst e
          have : one.length = 0 := by simpa using hl1
          exact List.length_eq_zero_iff.1 this
        · simp only [Option.some.injEq, Addr.mk.injEq, and_true] at e
          obtain ⟨rfl, rfl⟩ := e
          exact StmtsIn.same one one' b1 o1 hl1 q2 q4
    have h2 : two = two' := by
      rcases g11 with e | ⟨b1, o1, rfl, q1, q2⟩
      · subst e
        have : two'.length = 0 := by simpa using hl2.symm
        exact (List.length_eq_zero_iff.1 this).symm
      · rcases g11' with e | ⟨b2, o2, e, q3, q4⟩
        · subst e
          have : two.length = 0 := by simpa using hl2
          exact List.length_eq_zero_iff.1 this
        · simp only [Option.some.injEq, Addr.mk.injEq, and_true] at e
          obtain ⟨rfl, rfl⟩ := e
          exact StmtsIn.same two two' b1 o1 hl2 q2 q4
    rw [ha, h1, h2]
theorem StmtsIn.same : ∀ (l l' : List StmtD) (b o : Nat), l.length = l'.length → StmtsIn w S l b o → StmtsIn w S l' b o → l = l'
  | [], [], _, _, _, _, _ => rfl
  | [], _ :: _, _, _, h, _, _ => by simp at h
  | _ :: _, [], _, _, h, _, _ => by simp at h
  | e :: es, e' :: es', b, o, hl, h, h' => by
    rw [StmtAt.same e e' b o h.1 h'.1, StmtsIn.same es es' b (o + 6) (by simpa using hl) h.2 h'.2]
end
end
/-- a list that is put down may be: whatever lies there -/
def KeyE (C : PrC) (x : VKey) : Prop := ∀ l, ExprsIn C.w0 C.S l x.1 x.2.1 → l.length = x.2.2.1 → exsK l x.2.2.2 = true
def KeyS (C : PrC) (x : VKey) : Prop := ∀ l, StmtsIn C.w0 C.S l x.1 x.2.1 → l.length = x.2.2.1 → stsK l x.2.2.2 = true
/-- so are the small ones among those -/
def SmallE (C : PrC) (V : List VKey) (m : Nat) : Prop := ∀ x ∈ V, ∀ l, ExprsIn C.w0 C.S l x.1 x.2.1 → l.length = x.2.2.1 → exsZ l ≤ m → exsK l x.2.2.2 = true
def SmallS (C : PrC) (V : List VKey) (m : Nat) : Prop := ∀ x ∈ V, ∀ l, StmtsIn C.w0 C.S l x.1 x.2.1 → l.length = x.2.2.1 → stsZ l ≤ m → stsK l x.2.2.2 = true
def GrowE (C : PrC) (V V' : List VKey) : Prop := ∀ x ∈ V', x ∈ V ∨ KeyE C x
def GrowS (C : PrC) (V V' : List VKey) : Prop := ∀ x ∈ V', x ∈ V ∨ KeyS C x
section
variable {C : PrC} {V V' V'' : List VKey} {m m' : Nat}
theorem GrowE.refl : GrowE C V V := fun x h => .inl h
theorem GrowS.refl : GrowS C V V := fun x h => .inl h
theorem GrowE.trans (h : GrowE C V V') (h' : GrowE C V' V'') : GrowE C V V'' := fun x hx => (h' x hx).elim (fun h2 => h x h2) .inr
theorem GrowS.trans (h : GrowS C V V') (h' : GrowS C V' V'') : GrowS C V V'' := fun x hx => (h' x hx).elim (fun h2 => h x h2) .inr
theorem SmallE.grow (h : SmallE C V m) (h' : GrowE C V V') : SmallE C V' m := fun x hx l h1 h2 h3 => (h' x hx).elim (fun q => h x q l h1 h2 h3) (fun q => q l h1 h2)
theorem SmallS.grow (h : SmallS C V m) (h' : GrowS C V V') : SmallS C V' m := fun x hx l h1 h2 h3 => (h' x hx).elim (fun q => h x q l h1 h2 h3) (fun q => q l h1 h2)
theorem SmallE.mono (h : SmallE C V m) (hm : m' ≤ m) : SmallE C V m' := fun x hx l h1 h2 h3 => h x hx l h1 h2 (by omega)
theorem SmallS.mono (h : SmallS C V m) (hm : m' ≤ m) : SmallS C V m' := fun x hx l h1 h2 h3 => h x hx l h1 h2 (by omega)
/-- a list that is put down: what is smaller still may be -/
theorem SmallE.put {l : List ExprD} {b o q : Nat} (h : SmallE C V m) (hl : ExprsIn C.w0 C.S l b o) (hm : m < exsZ l) : SmallE C (V ++ [(b, o, l.length, q)]) m := fun x hx l' h1 h2 h3 => by
  rcases List.mem_append.1 hx with hx | hx
  · exact h x hx l' h1 h2 h3
  · simp only [List.mem_singleton] at hx
    subst hx
    have := ExprsIn.same l' l b o h2 h1 hl
    subst this
    omega
theorem SmallS.put {l : List StmtD} {b o q : Nat} (h : SmallS C V m) (hl : StmtsIn C.w0 C.S l b o) (hm : m < stsZ l) : SmallS C (V ++ [(b, o, l.length, q)]) m := fun x hx l' h1 h2 h3 => by
  rcases List.mem_append.1 hx with hx | hx
  · exact h x hx l' h1 h2 h3
  · simp only [List.mem_singleton] at hx
    subst hx
    have := StmtsIn.same l' l b o h2 h1 hl
    subst this
    omega
theorem GrowE.put {l : List ExprD} {b o q : Nat} (hl : ExprsIn C.w0 C.S l b o) (hk : exsK l q = true) (h : GrowE C (V ++ [(b, o, l.length, q)]) V') : GrowE C V V' := fun x hx => by
  rcases h x hx with h | h
  · rcases List.mem_append.1 h with h | h
    · exact .inl h
    · simp only [List.mem_singleton] at h
      subst h
      refine .inr fun l' h1 h2 => ?_
      have := ExprsIn.same l' l b o h2 h1 hl
      subst this
      exact hk
  · exact .inr h
theorem GrowS.put {l : List StmtD} {b o q : Nat} (hl : StmtsIn C.w0 C.S l b o) (hk : stsK l q = true) (h : GrowS C (V ++ [(b, o, l.length, q)]) V') : GrowS C V V' := fun x hx => by
  rcases h x hx with h | h
  · rcases List.mem_append.1 h with h | h
    · exact .inl h
    · simp only [List.mem_singleton] at h
      subst h
      refine .inr fun l' h1 h2 => ?_
      have := StmtsIn.same l' l b o h2 h1 hl
      subst this
      exact hk
  · exact .inr h
end
end Go.Proofs.YtbhdbglhejibbaaGreatDoor
namespace Go.Proofs.YtbhdbglhejibbaaGreatDoor
set_option maxRecDepth 100000
open Go.RowKit
set_option linter.unusedVariables false
def exV (k n : Int) (s : ByteArray) (A : Option Addr) (m c : Nat) : Value := .agg #[.int .i64 k, .int .u64 n, .string s, .slice A m c]
/-- what writing an expression does -/
def ExC (C : PrC) : ExprD → Prop
  | .mk k n s args => ExprW (.mk k n s args) → ∀ (F : Nat → Prop) (t : List Int) (o : Nat) (V1 V2 : List VKey) (w : World) (A : Option Addr) (c : Nat), o ≤ 24 → TwIs C F w t o V1 V2 → ExprsAt C.w0 C.S args A → args.length ≤ c → SmallE C V2 (exsZ args) →
      Calls Tryz.prog 130 #[.pointer (some ⟨C.p, 0, none⟩), exV k n s A args.length c] w fun e w' => ∃ V2', GrowE C V2 V2' ∧ TwX C F w (exK (.mk k n s args) o) (exT (.mk k n s args) o t) o V1 V2' e w'
/-- and a list of them -/
def ExsC (C : PrC) (f : Nat) (l : List ExprD) : Prop := ∀ (F : Nat → Prop) (t : List Int) (o : Nat) (V1 V2 : List VKey) (w : World) (A : Option Addr) (c : Nat), o ≤ 24 → TwIs C F w t o V1 V2 → ExprsAt C.w0 C.S l A → l.length ≤ c → ExprsW l → l.length ≤ maxLen → SmallE C V2 (exsZ l) →
      Calls Tryz.prog 119 #[.pointer (some ⟨C.p, 0, none⟩), .slice A l.length c] w fun e w' => ∃ V2', GrowE C V2 V2' ∧ TwX C F w (exsK l o) (exsT l o t) o V1 V2' e w'
theorem tcell_at {C : PrC} {w : World} (hb : Below C.w0.heap.size C.w0 w) {b q : Nat} (hlt : b < C.w0.heap.size) {v : Value} (h : C.w0.cell? ⟨b, q, none⟩ = some v) : w.cell? ⟨b, q, none⟩ = some v := by
  rw [World.cell?_of_block (hb.block b hlt)]; exact h
theorem againE_nil (m : Option Nat) (A : Option Addr) (c : Nat) (o : Int) (w : World) :
    Calls Tryz.prog 142 #[.map m, .slice A 0 c, .int .i64 o] w fun e w' => e = .returned (.bool false) ∧ w = w' := by
  go_enter Tryz.func142, Tryz.ntmps142
  go_wp2
  go_ret
  exact ⟨rfl, rfl⟩
set_option maxHeartbeats 4000000 in
theorem eachE_of (C : PrC) (l : List ExprD) (hl : ∀ e ∈ l, ExC C e) (F : Nat → Prop) (t : List Int) (o : Nat) (V1 V2 : List VKey) (w : World) (A : Option Addr) (c : Nat) (ho : o ≤ 24) (h : TwIs C F w t o V1 V2) (hA : ExprsAt C.w0 C.S l A) (hc : l.length ≤ c) (hW : ExprsW l) (hm : l.length ≤ maxLen) (hS : SmallE C V2 (exsZ l)) :
    Calls Tryz.prog 129 #[.pointer (some ⟨C.p, 0, none⟩), .map (some C.m2), .slice A l.length c, .func (.func 130) #[.pointer (some ⟨C.p, 0, none⟩)] #[]] w fun e w' => ∃ V2', GrowE C V2 V2' ∧ TwX C F w (exsK l o) (exsT l o t) o V1 V2' e w' := by
  obtain ⟨v, hV⟩ := h
  have HLo := Lib.hid (long_any C F t o V1 V2 v w hV)
  have hc1 := hV.cell1
  have hcf : ∀ (args : Array Value) (w : World), (callFunc 130 args).run Tryz.prog w = .ok (.enter 130 args) w := fun args w => by kernel_rfl
  unfold maxLen at hm
  by_cases hl0 : l = []
  · subst hl0
    have HR := Lib.hid (show ∃ V2', GrowE C V2 V2' ∧ TwX C F w (exsK [] o) (exsT [] o t) o V1 V2' (.returned (.tuple #[])) w from ⟨V2, GrowE.refl, TwX.yes rfl ⟨rfl, ⟨v, hV⟩, OutO.of_below (Below.refl _ _)⟩⟩)
    rw [show ([] : List ExprD).length = 0 from rfl]
    clear hV hA hc hW hm hS hl
    by_cases hlg : 20000 < t.length
    all_goals
      first | rw [decide_eq_true hlg] at HLo | rw [decide_eq_false hlg] at HLo
      clear hlg
      go_enter Tryz.func129, Tryz.ntmps129
      go_wp2_with fail
      refine HLo.out.mono ?_
      rintro e w2 ⟨rfl, rfl⟩
    · go_wp2_with fail
      refine (againE_nil _ _ _ _ _).mono ?_
      rintro e w2 ⟨rfl, rfl⟩
      go_wp2
      go_loopw [23] (fun i wr => i = .int .i64 0 ∧ wr = w) (fun i _ => 0)
      case atStart => exact ⟨rfl, rfl⟩
      case round =>
        obtain ⟨rfl, rfl⟩ := hrel
        go_wp2
        go_end0
        exact HR.out
    · go_wp2
      go_loopw [23] (fun i wr => i = .int .i64 0 ∧ wr = w) (fun i _ => 0)
      case atStart => exact ⟨rfl, rfl⟩
      case round =>
        obtain ⟨rfl, rfl⟩ := hrel
        go_wp2
        go_end0
        exact HR.out
  obtain ⟨b, q, rfl, hb, hin⟩ : ∃ b q, A = some ⟨b, q, none⟩ ∧ C.S b ∧ ExprsIn C.w0 C.S l b q := by
    rcases hA with e | h
    · exact absurd e hl0
    · exact h
  have hpos : 0 < l.length := List.length_pos_iff.2 hl0
  have HL := Lib.hid (And.intro hl (And.intro hW ho))
  have HI := Lib.hid hin
  have HB := Lib.hid (hV.ok.lt hb)
  by_cases hlg : 20000 < t.length
  · rw [decide_eq_true hlg] at HLo
    have HA := Lib.hid (againE_any C F t o V1 V2 b q l.length c hb hpos w ⟨v, hV⟩)
    cases hmem : memG V2 (b, q, l.length, o) with
    | true =>
      have HR := Lib.hid (show exsK l o = true ∧ exsT l o t = t from ⟨hS _ (memG_iff.1 hmem) l hin rfl (Nat.le_refl _), exsT_long hlg l o⟩)
      rw [hmem, addG_mem hmem] at HA
      clear hV hA hW hS hl hlg hmem hin hb
      go_enter Tryz.func129, Tryz.ntmps129
      go_wp2_with fail
      refine HLo.out.mono ?_
      rintro e w2 ⟨rfl, rfl⟩
      go_wp2_with fail
      refine HA.out.mono ?_
      rintro e w3 ⟨rfl, hW3, hO3⟩
      have HW3 := Lib.hid (And.intro hW3 hO3)
      clear hW3 hO3
      go_wp2
      (try simp only [Exit.inBlock, Exit.then])
      refine bodyPost_ret (results_none rfl _ _ _) rfl ?_
      exact ⟨V2, GrowE.refl, TwX.yes HR.out.1 ⟨rfl, by rw [HR.out.2]; exact HW3.out.1, HW3.out.2⟩⟩
    | false =>
    rw [hmem, addG_new hmem] at HA
    have hzp : 0 < exsZ l := by
      cases l with
      | nil => exact absurd rfl hl0
      | cons e es => obtain ⟨a1, a2, a3, a4⟩ := e; unfold exsZ exZ; omega
    obtain ⟨Va, hVa⟩ : ∃ Va, Va = V2 ++ [(b, q, l.length, o)] := ⟨_, rfl⟩
    have HSm := Lib.hid (show SmallE C Va (exsZ l - 1) from by rw [hVa]; exact (hS.mono (by omega)).put hin (by omega))
    have HFin := Lib.hid (show exsK l o = true → ∀ V', GrowE C Va V' → GrowE C V2 V' from fun hk V' h => by rw [hVa] at h; exact GrowE.put hin hk h)
    have HLt := Lib.hid (show exsZ l - 1 + 1 = exsZ l from by omega)
    rw [← hVa] at HA
    clear hV hA hW hS hl hlg hmem hin hb hVa hzp
    go_enter Tryz.func129, Tryz.ntmps129
    go_wp2_with fail
    refine HLo.out.mono ?_
    rintro e w2 ⟨rfl, rfl⟩
    go_wp2_with fail
    refine HA.out.mono ?_
    rintro e w3 ⟨rfl, hW3, hO3⟩
    have HW0 := Lib.hid hW3
    have HO0 := Lib.hid hO3
    clear hW3 hO3
    go_wp2
    go_loopw [23] (fun i wr => ∃ k : Nat, k ≤ l.length ∧ i = .int .i64 k ∧ Hid (∃ V', TwIs C F wr (exsT (l.take k) o t) o V1 V' ∧ GrowE C Va V') ∧ Hid (OutO F w wr) ∧ Hid (∀ (j : Nat) (hj : j < l.length), j < k → exK l[j] o = true)) (fun i _ => l.length - (intOf i).toNat)
    case atStart => exact ⟨0, by omega, rfl, Lib.hid ⟨Va, HW0.out, GrowE.refl⟩, HO0, Lib.hid (fun j _ hj => by omega)⟩
    case round =>
      obtain ⟨k, hk, rfl, HW, HO, HY⟩ := hrel
      by_cases hlt : k < l.length
      · obtain ⟨V', hW', hG'⟩ := HW.out
        obtain ⟨v', hV'⟩ := hW'
        have hE := HL.out.1 _ (List.getElem_mem hlt)
        have hEw := (exprsW_iff.1 HL.out.2.1) _ (List.getElem_mem hlt)
        have hAt := ExprsIn.get HI.out hlt
        have hZ := exZ_mem (List.getElem_mem hlt)
        have HK1 := Lib.hid (exsT_snoc (o := o) (t := t) hlt)
        have HKl := Lib.hid (show ∀ (j : Nat) (hj : j < l.length), j < k + 1 → exK l[k] o = true → exK l[j] o = true from fun j hj h1 h2 => by
          by_cases e : j = k
          · subst e; exact h2
          · exact HY.out j hj (by omega))
        have HKn := Lib.hid (show exK l[k] o = false → exsK l o = false from fun h => by
          rw [exsK_all, List.all_eq_false]; exact ⟨l[k], List.getElem_mem hlt, by rw [h]; simp⟩)
        generalize l[k] = e at *
        obtain ⟨kd, nm, s, args⟩ := e
        unfold ExprAt at hAt
        obtain ⟨g0, g1, g2, Ar, cr, g3, g4, g5⟩ := hAt
        have x0 := tcell_at hV'.base HB.out g0
        have x1 := tcell_at hV'.base HB.out g1
        have x2 := tcell_at hV'.base HB.out g2
        have x3 := tcell_at hV'.base HB.out g3
        have hbx := (Below.refl wr.heap.size wr).alloc (Nat.le_refl _) (.cells #[.int .i64 kd, .int .u64 nm, .string s, .slice Ar args.length cr] 42)
        have HC := Lib.hid (hE hEw F (exsT (l.take k) o t) o V1 V' _ Ar cr HL.out.2.2 ⟨v', hV'.below hbx⟩ g5 g4 ((HSm.out.grow hG').mono (by unfold exZ at hZ; have := HLt.out; omega)))
        have HO2 := Lib.hid (HO.out.trans (OutO.of_below (F := F) hbx))
        have HG := Lib.hid hG'
        have k0 : (0 : Int) ≤ k := by omega
        have k1 : (k : Int) < l.length := by omega
        clear hV' hE hEw hZ g0 g1 g2 g3 g4 g5 hbx hG' HW
        unfold exV at HC
        go_wp2_with fail
        refine HC.out.mono ?_
        rintro e w2 ⟨V'', hG2, hX⟩
        rcases hX.get with ⟨hy, rfl, hW2, hO2⟩ | ⟨hy, rfl, hO2⟩
        · have HW2 := Lib.hid (show ∃ V', TwIs C F w2 (exsT (l.take (k + 1)) o t) o V1 V' ∧ GrowE C Va V' from ⟨V'', by rw [HK1.out]; exact hW2, HG.out.trans hG2⟩)
          have HO3 := Lib.hid (HO2.out.trans hO2)
          have HY2 := Lib.hid (fun (j : Nat) (hj : j < l.length) (h : j < k + 1) => HKl.out j hj h hy)
          clear hG2 hX hW2 hO2 hy
          go_wp2
          go_roundw
          case rel => exact ⟨k + 1, by omega, by go_num, HW2, HO3, HY2⟩
          case measure => simp [intOf]; omega
        · have HO3 := Lib.hid (HO2.out.trans hO2)
          have HN := Lib.hid (HKn.out hy)
          clear hG2 hX hO2 hy
          exact ⟨rfl, V2, GrowE.refl, TwX.no HN.out rfl HO3.out⟩
      · have hkn : k = l.length := by omega
        subst hkn
        have HT := Lib.hid (show exsK l o = true from by
          rw [exsK_all, List.all_eq_true]; intro e he; obtain ⟨j, hj, rfl⟩ := List.mem_iff_getElem.1 he; exact HY.out j hj hj)
        have k1 : ¬ (l.length : Int) < l.length := by omega
        have HW3 := Lib.hid (show ∃ V', TwIs C F wr (exsT l o t) o V1 V' ∧ GrowE C V2 V' from by
          obtain ⟨V', h1, h2⟩ := HW.out
          rw [List.take_length] at h1
          exact ⟨V', h1, HFin.out HT.out V' h2⟩)
        clear hlt HW
        go_wp2
        go_end0
        obtain ⟨V', h1, h2⟩ := HW3.out
        exact ⟨V', h2, TwX.yes HT.out ⟨rfl, h1, HO.out⟩⟩
  · rw [decide_eq_false hlg] at HLo
    obtain ⟨Va, hVa⟩ : ∃ Va, Va = V2 := ⟨_, rfl⟩
    have HSm := Lib.hid (show SmallE C Va (exsZ l) from by rw [hVa]; exact hS)
    have HFin := Lib.hid (show exsK l o = true → ∀ V', GrowE C Va V' → GrowE C V2 V' from fun hk V' h => by rw [hVa] at h; exact h)
    have HLt := Lib.hid (show exsZ l = exsZ l from rfl)
    have HW0 := Lib.hid (show TwIs C F w t o V1 Va from by rw [hVa]; exact ⟨v, hV⟩)
    have HO0 := Lib.hid (OutO.of_below (F := F) (Below.refl w.heap.size w))
    clear hV hA hW hS hl hlg hin hb hVa
    go_enter Tryz.func129, Tryz.ntmps129
    go_wp2_with fail
    refine HLo.out.mono ?_
    rintro e w2 ⟨rfl, rfl⟩
    go_wp2
    go_loopw [23] (fun i wr => ∃ k : Nat, k ≤ l.length ∧ i = .int .i64 k ∧ Hid (∃ V', TwIs C F wr (exsT (l.take k) o t) o V1 V' ∧ GrowE C Va V') ∧ Hid (OutO F w wr) ∧ Hid (∀ (j : Nat) (hj : j < l.length), j < k → exK l[j] o = true)) (fun i _ => l.length - (intOf i).toNat)
    case atStart => exact ⟨0, by omega, rfl, Lib.hid ⟨Va, HW0.out, GrowE.refl⟩, HO0, Lib.hid (fun j _ hj => by omega)⟩
    case round =>
      obtain ⟨k, hk, rfl, HW, HO, HY⟩ := hrel
      by_cases hlt : k < l.length
      · obtain ⟨V', hW', hG'⟩ := HW.out
        obtain ⟨v', hV'⟩ := hW'
        have hE := HL.out.1 _ (List.getElem_mem hlt)
        have hEw := (exprsW_iff.1 HL.out.2.1) _ (List.getElem_mem hlt)
        have hAt := ExprsIn.get HI.out hlt
        have hZ := exZ_mem (List.getElem_mem hlt)
        have HK1 := Lib.hid (exsT_snoc (o := o) (t := t) hlt)
        have HKl := Lib.hid (show ∀ (j : Nat) (hj : j < l.length), j < k + 1 → exK l[k] o = true → exK l[j] o = true from fun j hj h1 h2 => by
          by_cases e : j = k
          · subst e; exact h2
          · exact HY.out j hj (by omega))
        have HKn := Lib.hid (show exK l[k] o = false → exsK l o = false from fun h => by
          rw [exsK_all, List.all_eq_false]; exact ⟨l[k], List.getElem_mem hlt, by rw [h]; simp⟩)
        generalize l[k] = e at *
        obtain ⟨kd, nm, s, args⟩ := e
        unfold ExprAt at hAt
        obtain ⟨g0, g1, g2, Ar, cr, g3, g4, g5⟩ := hAt
        have x0 := tcell_at hV'.base HB.out g0
        have x1 := tcell_at hV'.base HB.out g1
        have x2 := tcell_at hV'.base HB.out g2
        have x3 := tcell_at hV'.base HB.out g3
        have hbx := (Below.refl wr.heap.size wr).alloc (Nat.le_refl _) (.cells #[.int .i64 kd, .int .u64 nm, .string s, .slice Ar args.length cr] 42)
        have HC := Lib.hid (hE hEw F (exsT (l.take k) o t) o V1 V' _ Ar cr HL.out.2.2 ⟨v', hV'.below hbx⟩ g5 g4 ((HSm.out.grow hG').mono (by unfold exZ at hZ; have := HLt.out; omega)))
        have HO2 := Lib.hid (HO.out.trans (OutO.of_below (F := F) hbx))
        have HG := Lib.hid hG'
        have k0 : (0 : Int) ≤ k := by omega
        have k1 : (k : Int) < l.length := by omega
        clear hV' hE hEw hZ g0 g1 g2 g3 g4 g5 hbx hG' HW
        unfold exV at HC
        go_wp2_with fail
        refine HC.out.mono ?_
        rintro e w2 ⟨V'', hG2, hX⟩
        rcases hX.get with ⟨hy, rfl, hW2, hO2⟩ | ⟨hy, rfl, hO2⟩
        · have HW2 := Lib.hid (show ∃ V', TwIs C F w2 (exsT (l.take (k + 1)) o t) o V1 V' ∧ GrowE C Va V' from ⟨V'', by rw [HK1.out]; exact hW2, HG.out.trans hG2⟩)
          have HO3 := Lib.hid (HO2.out.trans hO2)
          have HY2 := Lib.hid (fun (j : Nat) (hj : j < l.length) (h : j < k + 1) => HKl.out j hj h hy)
          clear hG2 hX hW2 hO2 hy
          go_wp2
          go_roundw
          case rel => exact ⟨k + 1, by omega, by go_num, HW2, HO3, HY2⟩
          case measure => simp [intOf]; omega
        · have HO3 := Lib.hid (HO2.out.trans hO2)
          have HN := Lib.hid (HKn.out hy)
          clear hG2 hX hO2 hy
          exact ⟨rfl, V2, GrowE.refl, TwX.no HN.out rfl HO3.out⟩
      · have hkn : k = l.length := by omega
        subst hkn
        have HT := Lib.hid (show exsK l o = true from by
          rw [exsK_all, List.all_eq_true]; intro e he; obtain ⟨j, hj, rfl⟩ := List.mem_iff_getElem.1 he; exact HY.out j hj hj)
        have k1 : ¬ (l.length : Int) < l.length := by omega
        have HW3 := Lib.hid (show ∃ V', TwIs C F wr (exsT l o t) o V1 V' ∧ GrowE C V2 V' from by
          obtain ⟨V', h1, h2⟩ := HW.out
          rw [List.take_length] at h1
          exact ⟨V', h1, HFin.out HT.out V' h2⟩)
        clear hlt HW
        go_wp2
        go_end0
        obtain ⟨V', h1, h2⟩ := HW3.out
        exact ⟨V', h2, TwX.yes HT.out ⟨rfl, h1, HO.out⟩⟩
end Go.Proofs.YtbhdbglhejibbaaGreatDoor
namespace Go.Proofs.YtbhdbglhejibbaaGreatDoor
set_option maxRecDepth 100000
open Go.RowKit
set_option linter.unusedVariables false
theorem exprs_of (C : PrC) (l : List ExprD) (hl : ∀ e ∈ l, ExC C e) (F : Nat → Prop) (t : List Int) (o : Nat) (V1 V2 : List VKey) (w : World) (A : Option Addr) (c : Nat) (ho : o ≤ 24) (h : TwIs C F w t o V1 V2) (hA : ExprsAt C.w0 C.S l A) (hc : l.length ≤ c) (hW : ExprsW l) (hm : l.length ≤ maxLen) (hS : SmallE C V2 (exsZ l)) :
    Calls Tryz.prog 119 #[.pointer (some ⟨C.p, 0, none⟩), .slice A l.length c] w fun e w' => ∃ V2', GrowE C V2 V2' ∧ TwX C F w (exsK l o) (exsT l o t) o V1 V2' e w' := by
  have hmf : ∀ (fn : Fn) (first cap : Array Value) (w : World), (Instr.makeFunc fn first cap).run Tryz.prog w = .ok (.func fn first cap) w := fun _ _ _ _ => rfl
  have HE := Lib.hid (eachE_of C l hl F t o V1 V2 w A c ho h hA hc hW hm hS)
  obtain ⟨v, hV⟩ := h
  have hc3 := hV.cell3
  have HS := Lib.hid hS
  clear hl hA hc hW hm hS hV
  go_enter Tryz.func119, Tryz.ntmps119
  go_wp2_with fail
  refine HE.out.mono ?_
  rintro e w2 ⟨V', hG, hX⟩
  rcases hX.get with ⟨hy, rfl, hW2, hO2⟩ | ⟨hy, rfl, hO2⟩
  · have HR := Lib.hid (show ∃ V2', GrowE C V2 V2' ∧ TwX C F w (exsK l o) (exsT l o t) o V1 V2' (.returned (.tuple #[])) w2 from ⟨V', hG, hX⟩)
    clear hX hW2 hO2 hy hG
    go_wp2
    go_end0
    exact HR.out
  · exact ⟨rfl, V', hG, hX⟩
def nesW (word s : ByteArray) (t : List Int) (o : Nat) : List Int :=
  if s.toList.isEmpty then wordL (begL t o) (o + 1) word else wordL (wordL (begL t o) (o + 1) word) (o + 1) s
/-- a box's cells stay, whatever the writer does -/
theorem OutO.boxed {F : Nat → Prop} {w w' : World} {x : Obj} (h : OutO (NBo F w.heap.size) (w.alloc x) w') : w'.heap[w.heap.size]? = some x := by
  rw [h.block w.heap.size (by simp) (fun e => e.2 rfl)]; exact heap_alloc_new w x
set_option maxHeartbeats 2000000 in
theorem nested_of (C : PrC) (args : List ExprD) (hl : ∀ e ∈ args, ExC C e) (word : ByteArray) (hwd : word.size ≤ 1000) (k n : Int) (s : ByteArray) (hs : s.size ≤ 1000) (F : Nat → Prop) (t : List Int) (o : Nat) (V1 V2 : List VKey) (w : World) (A : Option Addr) (c : Nat) (ho : o ≤ 24) (h : TwIs C F w t o V1 V2) (hA : ExprsAt C.w0 C.S args A) (hc : args.length ≤ c) (hW : ExprsW args) (hm : args.length ≤ maxLen) (hS : SmallE C V2 (exsZ args)) :
    Calls Tryz.prog 143 #[.pointer (some ⟨C.p, 0, none⟩), .string word, exV k n s A args.length c] w fun e w' => ∃ V2', GrowE C V2 V2' ∧ TwX C F w (decide (o < 24) && exsK args (o + 1)) (endL (exsT args (o + 1) (nesW word s t o)) (o + 1)) o V1 V2' e w' := by
  unfold exV
  have hk : ∃ v, TwV C F w t o V1 V2 v := h
  obtain ⟨v, hV⟩ := hk
  have HF := Lib.hid hV.fk
  have HG := Lib.hid hV.big
  have HB := Lib.hid (begin_any C _ t o ho V1 V2 _ (h.box (.cells #[.int .i64 k, .int .u64 n, .string s, .slice A args.length c] 42)))
  have HL := Lib.hid (And.intro hl (And.intro hA (And.intro hc (And.intro hW (And.intro hm hS)))))
  have HD := Lib.hid (And.intro hwd hs)
  clear h hV hl hA hc hW hm hS hwd hs
  go_enter Tryz.func143, Tryz.ntmps143
  go_wp2_with fail
  refine HB.out.mono ?_
  intro e w2 hX
  rcases hX.get with ⟨hy, rfl, hW2, hO2⟩ | ⟨hy, rfl, hO2⟩
  case inr =>
    exact ⟨rfl, V2, GrowE.refl, TwX.no (by rw [hy]; rfl) rfl hO2.ofAlloc⟩
  have HO2 := Lib.hid hO2
  have HY := Lib.hid hy
  have HP := Lib.hid (tword_any C _ _ (o + 1) V1 V2 word HD.out.1 w2 hW2)
  clear hX hW2 hO2 hy
  go_wp2_with fail
  refine HP.out.mono ?_
  rintro e w3 ⟨rfl, hW3, hO3⟩
  have HO3 := Lib.hid (HO2.out.trans hO3)
  have hbx := HO3.out.boxed
  have x2 := cell_of_row w3 w.heap.size 2 _ _ _ hbx
  have x3 := cell_of_row w3 w.heap.size 3 _ _ _ hbx
  simp only [List.getElem?_toArray, List.getElem?_cons_zero, List.getElem?_cons_succ] at x2 x3
  have ho2 : o < 24 := by simpa using HY.out
  have HT := Lib.hid (show Calls Tryz.prog 70 #[.pointer (some ⟨C.p, 0, none⟩), .string s] w3 _ from tword_any C _ _ (o + 1) V1 V2 s HD.out.2 w3 hW3)
  have HE := fun (t' : List Int) (w4 : World) (h4 : TwIs C (NBo F w.heap.size) w4 t' (o + 1) V1 V2) => exprs_of C args HL.out.1 _ t' (o + 1) V1 V2 w4 A c (by omega) h4 HL.out.2.1 HL.out.2.2.1 HL.out.2.2.2.1 HL.out.2.2.2.2.1 HL.out.2.2.2.2.2
  have HN := Lib.hid (fun (t' : List Int) (V2' : List VKey) (w5 : World) (h5 : TwIs C (NBo F w.heap.size) w5 (exsT args (o + 1) t') (o + 1) V1 V2') => tend_any C _ _ o (by omega) V1 V2' w5 h5)
  cases hn : s.toList.isEmpty with
  | true =>
    have HR := Lib.hid (show nesW word s t o = wordL (begL t o) (o + 1) word from by unfold nesW; rw [if_pos hn])
    have hs0 : s.toList = [] := by simpa using hn
    have HX := Lib.hid (HE _ w3 hW3)
    clear hW3 hO3 hbx hn HT HE
    go_wp2_with fail
    refine HX.out.mono ?_
    rintro e w4 ⟨V', hG, hX⟩
    rcases hX.get with ⟨hy, rfl, hW4, hO4⟩ | ⟨hy, rfl, hO4⟩
    case inr =>
      exact ⟨rfl, V', hG, TwX.no (by rw [hy]; simp) rfl (HO3.out.trans hO4).ofAlloc⟩
    have HO4 := Lib.hid (HO3.out.trans hO4)
    have HY4 := Lib.hid hy
    have HG4 := Lib.hid hG
    have HN4 := Lib.hid (HN.out _ _ _ hW4)
    clear hX hW4 hO4 hy hG
    go_wp2_with fail
    refine HN4.out.mono ?_
    rintro e w5 ⟨rfl, hW5, hO5⟩
    have HW5 := Lib.hid (And.intro (hW5.unbox HG.out HF.out) (HO4.out.trans hO5).ofAlloc)
    clear hW5 hO5
    go_wp2
    go_end0
    exact ⟨V', HG4.out, TwX.yes (by rw [HY.out, HY4.out]; rfl) ⟨rfl, by rw [HR.out]; exact HW5.out.1, HW5.out.2⟩⟩
  | false =>
    have HR := Lib.hid (show nesW word s t o = wordL (wordL (begL t o) (o + 1) word) (o + 1) s from by unfold nesW; rw [if_neg (by rw [hn]; simp)])
    have hs0 : (s.toList == []) = false := by rw [beq_eq_false_iff_ne]; intro e; rw [e] at hn; cases hn
    have HE := Lib.hid HE
    clear hW3 hO3 hbx hn
    go_wp2_with fail
    refine HT.out.mono ?_
    rintro e w3' ⟨rfl, hW3, hO3⟩
    have HO3 := Lib.hid (HO3.out.trans hO3)
    have hbx := HO3.out.boxed
    have x3 := cell_of_row w3' w.heap.size 3 _ _ _ hbx
    simp only [List.getElem?_toArray, List.getElem?_cons_zero, List.getElem?_cons_succ] at x3
    have HX := Lib.hid (HE.out _ w3' hW3)
    clear hW3 hO3 hbx
    go_wp2_with fail
    refine HX.out.mono ?_
    rintro e w4 ⟨V', hG, hX⟩
    rcases hX.get with ⟨hy, rfl, hW4, hO4⟩ | ⟨hy, rfl, hO4⟩
    case inr =>
      exact ⟨rfl, V', hG, TwX.no (by rw [hy]; simp) rfl (HO3.out.trans hO4).ofAlloc⟩
    have HO4 := Lib.hid (HO3.out.trans hO4)
    have HY4 := Lib.hid hy
    have HG4 := Lib.hid hG
    have HN4 := Lib.hid (HN.out _ _ _ hW4)
    clear hX hW4 hO4 hy hG
    go_wp2_with fail
    refine HN4.out.mono ?_
    rintro e w5 ⟨rfl, hW5, hO5⟩
    have HW5 := Lib.hid (And.intro (hW5.unbox HG.out HF.out) (HO4.out.trans hO5).ofAlloc)
    clear hW5 hO5
    go_wp2
    go_end0
    exact ⟨V', HG4.out, TwX.yes (by rw [HY.out, HY4.out]; rfl) ⟨rfl, by rw [HR.out]; exact HW5.out.1, HW5.out.2⟩⟩
end Go.Proofs.YtbhdbglhejibbaaGreatDoor
namespace Go.Proofs.YtbhdbglhejibbaaGreatDoor
set_option maxRecDepth 100000
open Go.RowKit
set_option linter.unusedVariables false
theorem OwP.word {n : Int} {e : Ending} (h : OwP n e) (hb : opB n = true) : e = .returned (.tuple #[.string (opwB n), .bool true]) := by
  rcases h with ⟨k, hk, e1, hf, rfl⟩ | ⟨hn, rfl⟩
  · have hx : (List.range 13).find? (fun k => (opsR k).2 == n) = some k := by
      rw [List.find?_range_eq_some]
      refine ⟨by rw [beq_iff_eq]; exact e1, by simpa using hk, fun j hj => ?_⟩
      have := hf j hj
      simpa using this
    unfold opwB
    rw [hx]
  · exfalso
    unfold opB at hb
    rw [List.any_eq_true] at hb
    obtain ⟨k, hk, e1⟩ := hb
    rw [beq_iff_eq] at e1
    exact hn k (by simpa using hk) e1
theorem opsW_small : ∀ k, (opsW k).size ≤ 1000 := fun k => by
  by_cases h : k < 13
  · match k, h with
    | 0, _ => decide
    | 1, _ => decide
    | 2, _ => decide
    | 3, _ => decide
    | 4, _ => decide
    | 5, _ => decide
    | 6, _ => decide
    | 7, _ => decide
    | 8, _ => decide
    | 9, _ => decide
    | 10, _ => decide
    | 11, _ => decide
    | 12, _ => decide
  · have : opsR k = ([], 0) := by unfold opsR; rw [List.getD_eq_getElem?_getD, List.getElem?_eq_none (by show 13 ≤ k; omega)]; rfl
    unfold opsW
    rw [this]
    decide
theorem opwB_small (n : Int) : (opwB n).size ≤ 1000 := by
  unfold opwB
  split
  · exact opsW_small _
  · decide
theorem empty_size {s : ByteArray} (h : s.toList.isEmpty = true) : s.size = 0 := by
  have : s.toList = [] := by simpa using h
  have h2 := congrArg List.length this
  rw [ByteArray.toList_eq] at h2
  simpa using h2
theorem nmB_size {c : Bool} {s : ByteArray} (h : nmB c s = true) : s.size ≤ 1000 := by
  unfold nmB at h
  split at h
  · by_cases h2 : 24 < (sB s).length
    · rw [nameB_long h2] at h; cases h
    · rw [sB_len] at h2; omega
  · have := empty_size h; omega
theorem exB_parts {k n : Int} {s : ByteArray} {m : Nat} (h : exB k n s m = true) : (0 ≤ k ∧ k ≤ 6) ∧ nmB (expR k.toNat).2.1 s = true ∧ mnB k n = true ∧ betB m (expR k.toNat).2.2.1 (expR k.toNat).2.2.2 = true := by
  unfold exB at h
  simp only [Bool.and_eq_true] at h
  obtain ⟨⟨⟨h1, h2⟩, h3⟩, h4⟩ := h
  unfold betB at h1
  simp only [Bool.and_eq_true, decide_eq_true_eq] at h1
  exact ⟨h1, h2, h3, h4⟩
theorem exK_no {k n : Int} {s : ByteArray} {args : List ExprD} {o : Nat} (h : exB k n s args.length = false) : exK (.mk k n s args) o = false := by unfold exK; rw [h]; rfl
theorem exK_word {k n : Int} {s : ByteArray} {args : List ExprD} {o : Nat} (h : exB k n s args.length = true) (hk : k = 0 ∨ k = 1) : exK (.mk k n s args) o = true := by
  unfold exK; rw [h]
  rcases hk with rfl | rfl <;> rfl
theorem exK_nest {k n : Int} {s : ByteArray} {args : List ExprD} {o : Nat} (h : exB k n s args.length = true) (h0 : k ≠ 0) (h1 : k ≠ 1) : exK (.mk k n s args) o = (decide (o < 24) && exsK args (o + 1)) := by
  unfold exK; rw [h, beq_eq_false_iff_ne.2 h0, beq_eq_false_iff_ne.2 h1]; rfl
theorem exT_nest {k n : Int} {s : ByteArray} {args : List ExprD} {o : Nat} {t : List Int} (h0 : k ≠ 0) (h1 : k ≠ 1) : exT (.mk k n s args) o t = endL (exsT args (o + 1) (nesW (if k = 3 then opwB n else expW k) s t o)) (o + 1) := by
  unfold exT; rw [if_neg h0, if_neg h1]; rfl
theorem cell_belowT {w w' : World} {b q : Nat} {v : Value} (h : w.cell? ⟨b, q, none⟩ = some v) (hb : Below w.heap.size w w') : w'.cell? ⟨b, q, none⟩ = some v :=
  (hb.cell (p := ⟨b, q, none⟩) (block_lt h)).trans h
set_option maxHeartbeats 4000000 in
theorem expr_of (C : PrC) : ∀ e, ExC C e := ExprD.ind fun k n s args ih => by
  intro hW F t o V1 V2 w A c ho h hA hc hS
  unfold exV
  unfold ExprW at hW
  obtain ⟨hk, hn, hs, hm, hWa⟩ := hW
  obtain ⟨v, hV⟩ := h
  have hbx := (Below.refl w.heap.size w).alloc (Nat.le_refl _) (.cells #[.int .i64 k, .int .u64 n, .string s, .slice A args.length c] 42)
  have hY := heap_alloc_new w (.cells #[.int .i64 k, .int .u64 n, .string s, .slice A args.length c] 42)
  have HV := Lib.hid (hV.below hbx)
  have HO := Lib.hid (OutO.of_below (F := F) hbx)
  have HM := Lib.hid (mayExpr_any k n s A args.length c _ (hV.ok.tab.below (HV.out.base)))
  have HX := Lib.hid hY
  clear hV hbx hY
  go_enter Tryz.func130, Tryz.ntmps130
  go_wp2_with fail
  refine HM.out.mono ?_
  rintro e w2 ⟨rfl, hb⟩
  generalize (w.alloc (.cells #[.int .i64 k, .int .u64 n, .string s, .slice A args.length c] 42)) = W at *
  have HV2 := Lib.hid (HV.out.below hb)
  have HO2 := Lib.hid (HO.out.trans (OutO.of_below hb))
  have HX2 := Lib.hid ((hb.block _ (Array.getElem?_eq_some_iff.1 HX.out).1).trans HX.out)
  clear hb HM
  cases hx : exB k n s args.length with
  | false =>
    have HN := Lib.hid (exK_no (o := o) hx)
    go_wp2_with fail
    refine (twant_no _).mono ?_
    rintro e w3 ⟨rfl, rfl⟩
    exact ⟨rfl, V2, GrowE.refl, TwX.no HN.out rfl HO2.out⟩
  | true =>
    obtain ⟨⟨hk0, hk6⟩, hnm, hmn, _⟩ := exB_parts hx
    have HD := Lib.hid (nmB_size hnm)
    go_wp2_with fail
    refine (twant_yes _).mono ?_
    rintro e w3 ⟨rfl, rfl⟩
    have x0 := cell_of_row w2 w.heap.size 0 _ _ _ HX2.out
    have x1 := cell_of_row w2 w.heap.size 1 _ _ _ HX2.out
    have x2 := cell_of_row w2 w.heap.size 2 _ _ _ HX2.out
    have x3 := cell_of_row w2 w.heap.size 3 _ _ _ HX2.out
    simp only [List.getElem?_toArray, List.getElem?_cons_zero, List.getElem?_cons_succ] at x0 x1 x2 x3
    by_cases e0 : k = 0
    · subst e0
      obtain ⟨q, rfl⟩ := Int.eq_ofNat_of_zero_le hn.1
      have hq : q < 18446744073709551616 := by have := hn.2; omega
      have HDg := Lib.hid (digits_any q hq w2 (HV2.out.ok.lib.below HV2.out.base))
      have HE := Lib.hid (show dgtB (q : Int) = ⟨(Lib.decDigits q).toArray⟩ from rfl)
      have HSz := Lib.hid (dgtB_size q hq)
      have HR := Lib.hid (And.intro (exK_word (o := o) hx (.inl rfl)) (show exT (.mk 0 (q : Int) s args) o t = wordL t o (dgtB q) by unfold exT; rw [if_pos rfl]))
      clear hx hn hk hs hm hnm hmn
      go_wp2_with fail
      refine HDg.out.mono ?_
      rintro e w3 ⟨rfl, hb⟩
      rw [← HE.out]
      have HP := Lib.hid (tword_any C F t o V1 V2 (dgtB (q : Int)) HSz.out w3 ⟨v, HV2.out.below hb⟩)
      have HO3 := Lib.hid (HO2.out.trans (OutO.of_below hb))
      clear hb
      go_wp2_with fail
      refine HP.out.mono ?_
      rintro e w4 ⟨rfl, hW4, hO4⟩
      have HZ := Lib.hid (show ∃ V2', GrowE C V2 V2' ∧ TwX C F w (exK (.mk 0 (q : Int) s args) o) (exT (.mk 0 (q : Int) s args) o t) o V1 V2' (.returned (.tuple #[])) w4 from ⟨V2, GrowE.refl, TwX.yes HR.out.1 ⟨rfl, by rw [HR.out.2]; exact hW4, HO3.out.trans hO4⟩⟩)
      clear hW4 hO4
      go_wp2
      go_end0
      exact HZ.out
    by_cases e1 : k = 1
    · subst e1
      have HR := Lib.hid (And.intro (exK_word (o := o) hx (.inr rfl)) (show exT (.mk 1 n s args) o t = wordL t o s by unfold exT; rw [if_neg (by omega), if_pos rfl]))
      have HP := Lib.hid (tword_any C F t o V1 V2 s HD.out w2 ⟨v, HV2.out⟩)
      clear hx hn hk hs hm hnm hmn e0
      go_wp2_with fail
      refine HP.out.mono ?_
      rintro e w4 ⟨rfl, hW4, hO4⟩
      have HZ := Lib.hid (show ∃ V2', GrowE C V2 V2' ∧ TwX C F w (exK (.mk 1 n s args) o) (exT (.mk 1 n s args) o t) o V1 V2' (.returned (.tuple #[])) w4 from ⟨V2, GrowE.refl, TwX.yes HR.out.1 ⟨rfl, by rw [HR.out.2]; exact hW4, HO2.out.trans hO4⟩⟩)
      clear hW4 hO4
      go_wp2
      go_end0
      exact HZ.out
    have HNe := fun (word : ByteArray) (hwd : word.size ≤ 1000) (w3 : World) (h3 : TwIs C F w3 t o V1 V2) => nested_of C args ih word hwd k n s HD.out F t o V1 V2 w3 A c ho h3 hA hc hWa hm hS
    have HR := Lib.hid (And.intro (exK_nest (o := o) hx e0 e1) (exT_nest (n := n) (s := s) (args := args) (o := o) (t := t) e0 e1))
    unfold exV at HNe
    by_cases e3 : k = 3
    · subst e3
      have hob : opB n = true := by unfold mnB at hmn; rw [if_neg (by omega), if_pos rfl] at hmn; exact hmn
      have HOw := Lib.hid (opWord_any n w2 (HV2.out.ok.tab.below HV2.out.base))
      have HOb := Lib.hid hob
      have HNe := Lib.hid HNe
      clear hx hn hk hs hm hnm hmn e0 e1 ih hA hc hWa hS hob
      go_wp2_with fail
      refine HOw.out.mono ?_
      rintro e w3 ⟨h3, hb⟩
      have h4 := h3.word HOb.out
      subst h4
      have HO3 := Lib.hid (HO2.out.trans (OutO.of_below hb))
      have HN3 := Lib.hid (HNe.out (opwB n) (opwB_small n) w3 ⟨v, HV2.out.below hb⟩)
      have y0 := cell_belowT x0 hb
      have y1 := cell_belowT x1 hb
      have y2 := cell_belowT x2 hb
      have y3 := cell_belowT x3 hb
      clear h3 hb x0 x1 x2 x3
      go_wp2_with fail
      refine HN3.out.mono ?_
      rintro e w4 ⟨V', hG, hX⟩
      have HZ := Lib.hid (show ∃ V2', GrowE C V2 V2' ∧ TwX C F w (exK (.mk 3 n s args) o) (exT (.mk 3 n s args) o t) o V1 V2' e w4 from ⟨V', hG, by
        rw [HR.out.1, HR.out.2]
        simp only [if_true]
        rcases hX.get with ⟨hy, h5, h6, h7⟩ | ⟨hy, h5, h6⟩
        · exact TwX.yes hy ⟨h5, h6, HO3.out.trans h7⟩
        · exact TwX.no hy h5 (HO3.out.trans h6)⟩)
      rcases hX.get with ⟨hy, rfl, hW2, hO2⟩ | ⟨hy, rfl, hO2⟩
      · clear hX hW2 hO2 hy hG
        go_wp2
        go_end0
        exact HZ.out
      · exact ⟨rfl, HZ.out⟩
    have HT := Lib.hid (show TrT w2.drew from (HV2.out.ok.tab.below HV2.out.base).below (Below.refl _ _).drew)
    have HNe := Lib.hid (HNe (expW k) (by
      have h7 : k = 0 ∨ k = 1 ∨ k = 2 ∨ k = 3 ∨ k = 4 ∨ k = 5 ∨ k = 6 := by omega
      rcases h7 with rfl | rfl | rfl | rfl | rfl | rfl | rfl <;> decide) w2.drew ⟨v, HV2.out.below (Below.refl _ _).drew⟩)
    have hcs : k = 2 ∨ k = 4 ∨ k = 5 ∨ k = 6 := by omega
    have HQ := Lib.hid (And.intro e3 HX2.out)
    clear hx hn hk hs hm hnm hmn e0 e1 e3 ih hA hc hWa hS hk0 hk6 x0 x1 x2 x3
    have x0 : w2.drew.cell? ⟨w.heap.size, 0, none⟩ = some (.int .i64 k) := by rw [cell_of_row w2.drew w.heap.size 0 _ _ _ HX2.out]; rfl
    have x1 : w2.drew.cell? ⟨w.heap.size, 1, none⟩ = some (.int .u64 n) := by rw [cell_of_row w2.drew w.heap.size 1 _ _ _ HX2.out]; rfl
    have x2 : w2.drew.cell? ⟨w.heap.size, 2, none⟩ = some (.string s) := by rw [cell_of_row w2.drew w.heap.size 2 _ _ _ HX2.out]; rfl
    have x3 : w2.drew.cell? ⟨w.heap.size, 3, none⟩ = some (.slice A args.length c) := by rw [cell_of_row w2.drew w.heap.size 3 _ _ _ HX2.out]; rfl
    have z0 : w2.cell? ⟨w.heap.size, 0, none⟩ = some (.int .i64 k) := x0
    have HO4 := Lib.hid (HO2.out.trans (OutO.of_below (F := F) (Below.refl w2.heap.size w2).drew))
    clear HQ
    rcases hcs with rfl | rfl | rfl | rfl
    · have xt : w2.drew.cell? ⟨2, 8, none⟩ = some (.string (expW 2)) := HT.out.exp 2 (by decide) 0 (by decide)
      clear HT
      go_wp2
      refine wp_region_still_tail 7 (by kernel_rfl) (by kernel_rfl) ?_
      simp only [List.take_succ_cons, List.take_zero, List.drop_succ_cons, List.drop_zero]
      change wpStill _ _ (World.drew _) (fun a' => wpList _ _ _ _ a' (World.drew _)) _ _
      repeat still_step
      refine wpStill_nil ?_
      go_wp2_with fail
      refine HNe.out.mono ?_
      rintro e w4 ⟨V', hG, hX⟩
      have HZ := Lib.hid (show ∃ V2', GrowE C V2 V2' ∧ TwX C F w (exK (.mk 2 n s args) o) (exT (.mk 2 n s args) o t) o V1 V2' e w4 from ⟨V', hG, by
        rw [HR.out.1, HR.out.2, if_neg (by decide)]
        rcases hX.get with ⟨hy, h5, h6, h7⟩ | ⟨hy, h5, h6⟩
        · exact TwX.yes hy ⟨h5, h6, HO4.out.trans h7⟩
        · exact TwX.no hy h5 (HO4.out.trans h6)⟩)
      rcases hX.get with ⟨hy, rfl, hW2, hO2⟩ | ⟨hy, rfl, hO2⟩
      · clear hX hW2 hO2 hy hG
        go_wp2
        go_end0
        exact HZ.out
      · exact ⟨rfl, HZ.out⟩
    · have xt : w2.drew.cell? ⟨2, 16, none⟩ = some (.string (expW 4)) := HT.out.exp 4 (by decide) 0 (by decide)
      clear HT
      go_wp2
      refine wp_region_still_tail 7 (by kernel_rfl) (by kernel_rfl) ?_
      simp only [List.take_succ_cons, List.take_zero, List.drop_succ_cons, List.drop_zero]
      change wpStill _ _ (World.drew _) (fun a' => wpList _ _ _ _ a' (World.drew _)) _ _
      repeat still_step
      refine wpStill_nil ?_
      go_wp2_with fail
      refine HNe.out.mono ?_
      rintro e w4 ⟨V', hG, hX⟩
      have HZ := Lib.hid (show ∃ V2', GrowE C V2 V2' ∧ TwX C F w (exK (.mk 4 n s args) o) (exT (.mk 4 n s args) o t) o V1 V2' e w4 from ⟨V', hG, by
        rw [HR.out.1, HR.out.2, if_neg (by decide)]
        rcases hX.get with ⟨hy, h5, h6, h7⟩ | ⟨hy, h5, h6⟩
        · exact TwX.yes hy ⟨h5, h6, HO4.out.trans h7⟩
        · exact TwX.no hy h5 (HO4.out.trans h6)⟩)
      rcases hX.get with ⟨hy, rfl, hW2, hO2⟩ | ⟨hy, rfl, hO2⟩
      · clear hX hW2 hO2 hy hG
        go_wp2
        go_end0
        exact HZ.out
      · exact ⟨rfl, HZ.out⟩
    · have xt : w2.drew.cell? ⟨2, 20, none⟩ = some (.string (expW 5)) := HT.out.exp 5 (by decide) 0 (by decide)
      clear HT
      go_wp2
      refine wp_region_still_tail 7 (by kernel_rfl) (by kernel_rfl) ?_
      simp only [List.take_succ_cons, List.take_zero, List.drop_succ_cons, List.drop_zero]
      change wpStill _ _ (World.drew _) (fun a' => wpList _ _ _ _ a' (World.drew _)) _ _
      repeat still_step
      refine wpStill_nil ?_
      go_wp2_with fail
      refine HNe.out.mono ?_
      rintro e w4 ⟨V', hG, hX⟩
      have HZ := Lib.hid (show ∃ V2', GrowE C V2 V2' ∧ TwX C F w (exK (.mk 5 n s args) o) (exT (.mk 5 n s args) o t) o V1 V2' e w4 from ⟨V', hG, by
        rw [HR.out.1, HR.out.2, if_neg (by decide)]
        rcases hX.get with ⟨hy, h5, h6, h7⟩ | ⟨hy, h5, h6⟩
        · exact TwX.yes hy ⟨h5, h6, HO4.out.trans h7⟩
        · exact TwX.no hy h5 (HO4.out.trans h6)⟩)
      rcases hX.get with ⟨hy, rfl, hW2, hO2⟩ | ⟨hy, rfl, hO2⟩
      · clear hX hW2 hO2 hy hG
        go_wp2
        go_end0
        exact HZ.out
      · exact ⟨rfl, HZ.out⟩
    · have xt : w2.drew.cell? ⟨2, 24, none⟩ = some (.string (expW 6)) := HT.out.exp 6 (by decide) 0 (by decide)
      clear HT
      go_wp2
      refine wp_region_still_tail 7 (by kernel_rfl) (by kernel_rfl) ?_
      simp only [List.take_succ_cons, List.take_zero, List.drop_succ_cons, List.drop_zero]
      change wpStill _ _ (World.drew _) (fun a' => wpList _ _ _ _ a' (World.drew _)) _ _
      repeat still_step
      refine wpStill_nil ?_
      go_wp2_with fail
      refine HNe.out.mono ?_
      rintro e w4 ⟨V', hG, hX⟩
      have HZ := Lib.hid (show ∃ V2', GrowE C V2 V2' ∧ TwX C F w (exK (.mk 6 n s args) o) (exT (.mk 6 n s args) o t) o V1 V2' e w4 from ⟨V', hG, by
        rw [HR.out.1, HR.out.2, if_neg (by decide)]
        rcases hX.get with ⟨hy, h5, h6, h7⟩ | ⟨hy, h5, h6⟩
        · exact TwX.yes hy ⟨h5, h6, HO4.out.trans h7⟩
        · exact TwX.no hy h5 (HO4.out.trans h6)⟩)
      rcases hX.get with ⟨hy, rfl, hW2, hO2⟩ | ⟨hy, rfl, hO2⟩
      · clear hX hW2 hO2 hy hG
        go_wp2
        go_end0
        exact HZ.out
      · exact ⟨rfl, HZ.out⟩
end Go.Proofs.YtbhdbglhejibbaaGreatDoor
