/- Layers 10 and on: sources as trees: what they are, how they lie, how one that came in is opened. No condition.
   Layers 10 and on: a source that came in as a tree is opened. No condition.
   Layer 10: the three tables of package tree, out of what a row's condition says of them.
   Layer 10: what there may be, but for the tables: within, mayCount, mayName, mayNum's ends, want. No condition.
   Layer 10: Op and opWord. Condition: the tables of package tree read as they should.
   Layer 10: mayNum, mayExpr, mayStmt. Condition: the tables of package tree read as they should. -/
import Derived.Test.YtbhdbglhejibbaaGreatDoorChecked
import Derived.WalkKit
import Derived.ProofKit
import Derived.OpenShut
import Derived.ShutString
import Derived.ChangeOld
import Derived.Below
import Derived.Deep.Slices
import Derived.Test.YtbhdbglhejibbaaGreatDoorInsLays
import Derived.Test.YtbhdbglhejibbaaGreatDoorObjA
namespace Go.Proofs.YtbhdbglhejibbaaGreatDoor
set_option maxRecDepth 100000
open Go.RowKit Go.ChangeShapes Go.WideShapes Go.ChangeAt Go.Deep
set_option linter.unusedVariables false
/-- an expression: its kind, its number, its name, its arguments -/
inductive ExprD where
  | mk (kind num : Int) (name : ByteArray) (args : List ExprD)
/-- a statement: its kind, its name, its number, its arguments, its two lists -/
inductive StmtD where
  | mk (kind : Int) (name : ByteArray) (num : Int) (args : List ExprD) (one two : List StmtD)
abbrev ParD := ByteArray × Int × Int
abbrev ArrD := ByteArray × Int
abbrev FunD := ByteArray × Bool × List ParD × List StmtD
abbrev ProD := List ArrD × List FunD
def fitsU (x : Int) : Prop := 0 ≤ x ∧ x < 18446744073709551616
def fitsI (x : Int) : Prop := -9223372036854775808 ≤ x ∧ x < 9223372036854775808
mutual
def ExprW : ExprD → Prop
  | .mk k n s args => fitsI k ∧ fitsU n ∧ s.size ≤ maxLen ∧ args.length ≤ maxLen ∧ ExprsW args
def ExprsW : List ExprD → Prop
  | [] => True
  | e :: es => ExprW e ∧ ExprsW es
end
mutual
def StmtW : StmtD → Prop
  | .mk k s n args one two => fitsI k ∧ s.size ≤ maxLen ∧ fitsI n ∧ (args.length ≤ maxLen ∧ ExprsW args) ∧ (one.length ≤ maxLen ∧ StmtsW one) ∧ two.length ≤ maxLen ∧ StmtsW two
def StmtsW : List StmtD → Prop
  | [] => True
  | e :: es => StmtW e ∧ StmtsW es
end
mutual
/-- an expression's four cells, and what they lead to, in the blocks from lo up to hi -/
def ExprAt (w : World) (S : Nat → Prop) : ExprD → Nat → Nat → Prop
  | .mk k n s args, b, o => w.cell? ⟨b, o, none⟩ = some (.int .i64 k) ∧ w.cell? ⟨b, o + 1, none⟩ = some (.int .u64 n) ∧ w.cell? ⟨b, o + 2, none⟩ = some (.string s) ∧
    ∃ A c, w.cell? ⟨b, o + 3, none⟩ = some (.slice A args.length c) ∧ args.length ≤ c ∧ (args = [] ∨ ∃ b' o', A = some ⟨b', o', none⟩ ∧ S b' ∧ ExprsIn w S args b' o')
def ExprsIn (w : World) (S : Nat → Prop) : List ExprD → Nat → Nat → Prop
  | [], _, _ => True
  | e :: es, b, o => ExprAt w S e b o ∧ ExprsIn w S es b (o + 4)
end
/-- a list of expressions, as a slice leads to it -/
def ExprsAt (w : World) (S : Nat → Prop) (l : List ExprD) (A : Option Addr) : Prop := l = [] ∨ ∃ b o, A = some ⟨b, o, none⟩ ∧ S b ∧ ExprsIn w S l b o
mutual
def StmtAt (w : World) (S : Nat → Prop) : StmtD → Nat → Nat → Prop
  | .mk k s n args one two, b, o => w.cell? ⟨b, o, none⟩ = some (.int .i64 k) ∧ w.cell? ⟨b, o + 1, none⟩ = some (.string s) ∧ w.cell? ⟨b, o + 2, none⟩ = some (.int .i64 n) ∧
    (∃ A c, w.cell? ⟨b, o + 3, none⟩ = some (.slice A args.length c) ∧ args.length ≤ c ∧ ExprsAt w S args A) ∧
    (∃ A c, w.cell? ⟨b, o + 4, none⟩ = some (.slice A one.length c) ∧ one.length ≤ c ∧ (one = [] ∨ ∃ b' o', A = some ⟨b', o', none⟩ ∧ S b' ∧ StmtsIn w S one b' o')) ∧
    (∃ A c, w.cell? ⟨b, o + 5, none⟩ = some (.slice A two.length c) ∧ two.length ≤ c ∧ (two = [] ∨ ∃ b' o', A = some ⟨b', o', none⟩ ∧ S b' ∧ StmtsIn w S two b' o'))
def StmtsIn (w : World) (S : Nat → Prop) : List StmtD → Nat → Nat → Prop
  | [], _, _ => True
  | e :: es, b, o => StmtAt w S e b o ∧ StmtsIn w S es b (o + 6)
end
def StmtsAt (w : World) (S : Nat → Prop) (l : List StmtD) (A : Option Addr) : Prop := l = [] ∨ ∃ b o, A = some ⟨b, o, none⟩ ∧ S b ∧ StmtsIn w S l b o
section
variable {w w' : World} {S S' : Nat → Prop}
theorem exprsW_iff : ∀ {l : List ExprD}, ExprsW l ↔ ∀ e ∈ l, ExprW e
  | [] => by simp [ExprsW]
  | e :: es => by
    unfold ExprsW
    rw [exprsW_iff (l := es)]
    simp
theorem stmtsW_iff : ∀ {l : List StmtD}, StmtsW l ↔ ∀ e ∈ l, StmtW e
  | [] => by simp [StmtsW]
  | e :: es => by
    unfold StmtsW
    rw [stmtsW_iff (l := es)]
    simp
theorem exprsIn_of : ∀ (l : List ExprD) (b o : Nat), (∀ i (h : i < l.length), ExprAt w S l[i] b (o + i * 4)) → ExprsIn w S l b o
  | [], _, _, _ => trivial
  | e :: es, b, o, h => ⟨by have := h 0 (by simp); simpa using this, exprsIn_of es b (o + 4) fun i hi => by
      have := h (i + 1) (by simpa using hi)
      rw [show o + 4 + i * 4 = o + (i + 1) * 4 by omega]
      simpa using this⟩
theorem ExprsIn.get : ∀ {l : List ExprD} {b o i : Nat}, ExprsIn w S l b o → (h : i < l.length) → ExprAt w S l[i] b (o + i * 4)
  | e :: es, b, o, 0, h, _ => by simpa using h.1
  | e :: es, b, o, i + 1, h, hi => by
    have := ExprsIn.get (i := i) h.2 (by simpa using hi)
    rw [show o + 4 + i * 4 = o + (i + 1) * 4 by omega] at this
    simpa using this
theorem stmtsIn_of : ∀ (l : List StmtD) (b o : Nat), (∀ i (h : i < l.length), StmtAt w S l[i] b (o + i * 6)) → StmtsIn w S l b o
  | [], _, _, _ => trivial
  | e :: es, b, o, h => ⟨by have := h 0 (by simp); simpa using this, stmtsIn_of es b (o + 6) fun i hi => by
      have := h (i + 1) (by simpa using hi)
      rw [show o + 6 + i * 6 = o + (i + 1) * 6 by omega]
      simpa using this⟩
theorem StmtsIn.get : ∀ {l : List StmtD} {b o i : Nat}, StmtsIn w S l b o → (h : i < l.length) → StmtAt w S l[i] b (o + i * 6)
  | e :: es, b, o, 0, h, _ => by simpa using h.1
  | e :: es, b, o, i + 1, h, hi => by
    have := StmtsIn.get (i := i) h.2 (by simpa using hi)
    rw [show o + 6 + i * 6 = o + (i + 1) * 6 by omega] at this
    simpa using this
theorem tcell_kept (hk : ∀ b, S b → w'.heap[b]? = w.heap[b]?) {b o : Nat} (h1 : S b) {v : Value} (h : w.cell? ⟨b, o, none⟩ = some v) : w'.cell? ⟨b, o, none⟩ = some v := by
  rw [World.cell?_of_block (hk b h1)]; exact h
mutual
theorem ExprAt.move (hl : ∀ b, S b → S' b) (hk : ∀ b, S b → w'.heap[b]? = w.heap[b]?) : ∀ (e : ExprD) (b o : Nat), S b → ExprAt w S e b o → ExprAt w' S' e b o
  | .mk k n s args, b, o, h1, h => by
    unfold ExprAt at h ⊢
    obtain ⟨g0, g1, g2, A, c, g3, g4, g5⟩ := h
    refine ⟨tcell_kept hk h1 g0, tcell_kept hk h1 g1, tcell_kept hk h1 g2, A, c, tcell_kept hk h1 g3, g4, ?_⟩
    rcases g5 with e | ⟨b', o', e, g6, g8⟩
    · exact .inl e
    · exact .inr ⟨b', o', e, hl _ g6, ExprsIn.move hl hk args b' o' g6 g8⟩
theorem ExprsIn.move (hl : ∀ b, S b → S' b) (hk : ∀ b, S b → w'.heap[b]? = w.heap[b]?) : ∀ (l : List ExprD) (b o : Nat), S b → ExprsIn w S l b o → ExprsIn w' S' l b o
  | [], _, _, _, _ => trivial
  | e :: es, b, o, h1, h => ⟨ExprAt.move hl hk e b o h1 h.1, ExprsIn.move hl hk es b (o + 4) h1 h.2⟩
end
theorem ExprsAt.move {l : List ExprD} {A : Option Addr} (hl : ∀ b, S b → S' b) (hk : ∀ b, S b → w'.heap[b]? = w.heap[b]?) (h : ExprsAt w S l A) : ExprsAt w' S' l A := by
  rcases h with e | ⟨b, o, e, h1, h3⟩
  · exact .inl e
  · exact .inr ⟨b, o, e, hl _ h1, ExprsIn.move hl hk l b o h1 h3⟩
mutual
theorem StmtAt.move (hl : ∀ b, S b → S' b) (hk : ∀ b, S b → w'.heap[b]? = w.heap[b]?) : ∀ (e : StmtD) (b o : Nat), S b → StmtAt w S e b o → StmtAt w' S' e b o
  | .mk k s n args one two, b, o, h1, h => by
    unfold StmtAt at h ⊢
    obtain ⟨g0, g1, g2, ⟨A, c, g3, g4, g5⟩, ⟨A1, c1, g6, g7, g8⟩, A2, c2, g9, g10, g11⟩ := h
    refine ⟨tcell_kept hk h1 g0, tcell_kept hk h1 g1, tcell_kept hk h1 g2, ⟨A, c, tcell_kept hk h1 g3, g4, g5.move hl hk⟩, ⟨A1, c1, tcell_kept hk h1 g6, g7, ?_⟩, A2, c2, tcell_kept hk h1 g9, g10, ?_⟩
    · rcases g8 with e | ⟨b', o', e, q1, q3⟩
      · exact .inl e
      · exact .inr ⟨b', o', e, hl _ q1, StmtsIn.move hl hk one b' o' q1 q3⟩
    · rcases g11 with e | ⟨b', o', e, q1, q3⟩
      · exact .inl e
      · exact .inr ⟨b', o', e, hl _ q1, StmtsIn.move hl hk two b' o' q1 q3⟩
theorem StmtsIn.move (hl : ∀ b, S b → S' b) (hk : ∀ b, S b → w'.heap[b]? = w.heap[b]?) : ∀ (l : List StmtD) (b o : Nat), S b → StmtsIn w S l b o → StmtsIn w' S' l b o
  | [], _, _, _, _ => trivial
  | e :: es, b, o, h1, h => ⟨StmtAt.move hl hk e b o h1 h.1, StmtsIn.move hl hk es b (o + 6) h1 h.2⟩
end
theorem StmtsAt.move {l : List StmtD} {A : Option Addr} (hl : ∀ b, S b → S' b) (hk : ∀ b, S b → w'.heap[b]? = w.heap[b]?) (h : StmtsAt w S l A) : StmtsAt w' S' l A := by
  rcases h with e | ⟨b, o, e, h1, h3⟩
  · exact .inl e
  · exact .inr ⟨b, o, e, hl _ h1, StmtsIn.move hl hk l b o h1 h3⟩
theorem ExprsAt.below {l : List ExprD} {A : Option Addr} (h : ExprsAt w S l A) (hh : ∀ b, S b → b < w.heap.size) (hb : Below w.heap.size w w') : ExprsAt w' S l A := h.move (fun _ h => h) fun b hb' => hb.block b (hh b hb')
theorem StmtsAt.below {l : List StmtD} {A : Option Addr} (h : StmtsAt w S l A) (hh : ∀ b, S b → b < w.heap.size) (hb : Below w.heap.size w w') : StmtsAt w' S l A := h.move (fun _ h => h) fun b hb' => hb.block b (hh b hb')
end
/-- parameters: three cells each -/
def ParsAt (w : World) (S : Nat → Prop) (l : List ParD) (A : Option Addr) : Prop := l = [] ∨ ∃ b o, A = some ⟨b, o, none⟩ ∧ S b ∧ ∀ i (h : i < l.length), w.cell? ⟨b, o + i * 3, none⟩ = some (.string l[i].1) ∧ w.cell? ⟨b, o + i * 3 + 1, none⟩ = some (.int .i64 l[i].2.1) ∧ w.cell? ⟨b, o + i * 3 + 2, none⟩ = some (.int .i64 l[i].2.2)
/-- secret arrays: two cells each -/
def ArrsAt (w : World) (S : Nat → Prop) (l : List ArrD) (A : Option Addr) : Prop := l = [] ∨ ∃ b o, A = some ⟨b, o, none⟩ ∧ S b ∧ ∀ i (h : i < l.length), w.cell? ⟨b, o + i * 2, none⟩ = some (.string l[i].1) ∧ w.cell? ⟨b, o + i * 2 + 1, none⟩ = some (.int .i64 l[i].2)
/-- a function's four cells, and what they lead to -/
def FunAt (w : World) (S : Nat → Prop) (f : FunD) (b o : Nat) : Prop := w.cell? ⟨b, o, none⟩ = some (.string f.1) ∧ w.cell? ⟨b, o + 1, none⟩ = some (.bool f.2.1) ∧
  (∃ A c, w.cell? ⟨b, o + 2, none⟩ = some (.slice A f.2.2.1.length c) ∧ f.2.2.1.length ≤ c ∧ ParsAt w S f.2.2.1 A) ∧ ∃ A c, w.cell? ⟨b, o + 3, none⟩ = some (.slice A f.2.2.2.length c) ∧ f.2.2.2.length ≤ c ∧ StmtsAt w S f.2.2.2 A
def FunsAt (w : World) (S : Nat → Prop) (l : List FunD) (A : Option Addr) : Prop := l = [] ∨ ∃ b o, A = some ⟨b, o, none⟩ ∧ S b ∧ ∀ i (h : i < l.length), FunAt w S l[i] b (o + i * 4)
/-- a source, as the value that it is -/
def ProAt (w : World) (S : Nat → Prop) (p : ProD) (v : Value) : Prop := ∃ A1 c1 A2 c2, v = .agg #[.slice A1 p.1.length c1, .slice A2 p.2.length c2] ∧ p.1.length ≤ c1 ∧ p.2.length ≤ c2 ∧ ArrsAt w S p.1 A1 ∧ FunsAt w S p.2 A2
def ParW (x : ParD) : Prop := x.1.size ≤ maxLen ∧ fitsI x.2.1 ∧ fitsI x.2.2
def ArrW (x : ArrD) : Prop := x.1.size ≤ maxLen ∧ fitsI x.2
def FunW (x : FunD) : Prop := x.1.size ≤ maxLen ∧ (x.2.2.1.length ≤ maxLen ∧ ∀ y ∈ x.2.2.1, ParW y) ∧ x.2.2.2.length ≤ maxLen ∧ StmtsW x.2.2.2
def ProW (p : ProD) : Prop := (p.1.length ≤ maxLen ∧ ∀ x ∈ p.1, ArrW x) ∧ p.2.length ≤ maxLen ∧ ∀ x ∈ p.2, FunW x
section
variable {w w' : World} {S S' : Nat → Prop}
theorem ParsAt.move {l : List ParD} {A : Option Addr} (hl : ∀ b, S b → S' b) (hk : ∀ b, S b → w'.heap[b]? = w.heap[b]?) (h : ParsAt w S l A) : ParsAt w' S' l A := by
  rcases h with e | ⟨b, o, e, h1, h3⟩
  · exact .inl e
  · exact .inr ⟨b, o, e, hl _ h1, fun i hi => ⟨tcell_kept hk h1 (h3 i hi).1, tcell_kept hk h1 (h3 i hi).2.1, tcell_kept hk h1 (h3 i hi).2.2⟩⟩
theorem ArrsAt.move {l : List ArrD} {A : Option Addr} (hl : ∀ b, S b → S' b) (hk : ∀ b, S b → w'.heap[b]? = w.heap[b]?) (h : ArrsAt w S l A) : ArrsAt w' S' l A := by
  rcases h with e | ⟨b, o, e, h1, h3⟩
  · exact .inl e
  · exact .inr ⟨b, o, e, hl _ h1, fun i hi => ⟨tcell_kept hk h1 (h3 i hi).1, tcell_kept hk h1 (h3 i hi).2⟩⟩
theorem FunAt.move {f : FunD} {b o : Nat} (hl : ∀ b, S b → S' b) (hk : ∀ b, S b → w'.heap[b]? = w.heap[b]?) (h1 : S b) (h : FunAt w S f b o) : FunAt w' S' f b o := by
  obtain ⟨g0, g1, ⟨A, c, g2, g3, g4⟩, A', c', g5, g6, g7⟩ := h
  exact ⟨tcell_kept hk h1 g0, tcell_kept hk h1 g1, ⟨A, c, tcell_kept hk h1 g2, g3, g4.move hl hk⟩, A', c', tcell_kept hk h1 g5, g6, g7.move hl hk⟩
theorem FunsAt.move {l : List FunD} {A : Option Addr} (hl : ∀ b, S b → S' b) (hk : ∀ b, S b → w'.heap[b]? = w.heap[b]?) (h : FunsAt w S l A) : FunsAt w' S' l A := by
  rcases h with e | ⟨b, o, e, h1, h3⟩
  · exact .inl e
  · exact .inr ⟨b, o, e, hl _ h1, fun i hi => (h3 i hi).move hl hk h1⟩
theorem ProAt.move {p : ProD} {v : Value} (hl : ∀ b, S b → S' b) (hk : ∀ b, S b → w'.heap[b]? = w.heap[b]?) (h : ProAt w S p v) : ProAt w' S' p v := by
  obtain ⟨A1, c1, A2, c2, e, h1, h2, h3, h4⟩ := h
  exact ⟨A1, c1, A2, c2, e, h1, h2, h3.move hl hk, h4.move hl hk⟩
theorem ProAt.below {p : ProD} {v : Value} (h : ProAt w S p v) (hh : ∀ b, S b → b < w.heap.size) (hb : Below w.heap.size w w') : ProAt w' S p v := h.move (fun _ h => h) fun b hb' => hb.block b (hh b hb')
end
theorem choose_list {α : Type} {P : Nat → α → Prop} : ∀ n : Nat, (∀ i, i < n → ∃ x, P i x) → ∃ l : List α, l.length = n ∧ ∀ i (h : i < l.length), P i l[i]
  | 0, _ => ⟨[], rfl, fun i h => by cases h⟩
  | n + 1, h => by
    obtain ⟨l, hl, hp⟩ := choose_list n fun i hi => h i (by omega)
    obtain ⟨x, hx⟩ := h n (by omega)
    refine ⟨l ++ [x], by simp [hl], fun i hi => ?_⟩
    by_cases e : i < l.length
    · rw [List.getElem_append_left e]; exact hp i e
    · have e2 : i = l.length := by simp at hi; omega
      subst e2
      rw [List.getElem_append_right (by omega)]
      simp only [Nat.sub_self, List.getElem_cons_zero]
      rw [hl]; exact hx
end Go.Proofs.YtbhdbglhejibbaaGreatDoor
namespace Go.Proofs.YtbhdbglhejibbaaGreatDoor
set_option maxRecDepth 100000
open Go.RowKit Go.ChangeShapes Go.WideShapes Go.ChangeAt Go.Deep
set_option linter.unusedVariables false
theorem fitsI_of {a : Int} (h : (Lit.int .i64 a).wf = true) : fitsI a := by
  have := bounds_i64 h
  exact ⟨by omega, by omega⟩
theorem fitsU_of {a : Int} (h : (Lit.int .u64 a).wf = true) : fitsU a := by
  have := bounds_u64 h
  exact ⟨by omega, by omega⟩
theorem add_add8 (a : Addr) (i j : Nat) : (a.add i).add j = a.add (i + j) := by
  obtain ⟨b, o, s⟩ := a
  unfold Addr.add
  by_cases hi : i = 0 <;> by_cases hj : j = 0 <;> simp_all [Nat.add_assoc]
theorem add_none8 (b o j : Nat) : (⟨b, o, none⟩ : Addr).add j = ⟨b, o + j, none⟩ := by
  unfold Addr.add
  by_cases e0 : j = 0
  · subst e0; simp
  · simp [e0]
theorem cell_lt8 {W : World} {b o : Nat} {v : Value} (h : W.cell? ⟨b, o, none⟩ = some v) : b < W.heap.size := by
  by_cases hb : b < W.heap.size
  · exact hb
  · exfalso
    have : W.heap[b]? = none := Array.getElem?_eq_none (by omega)
    simp [World.cell?, this] at h
section
variable {H : Type} {enc : TypeId × Value → H} {W : World} {base b0 : Nat} {sp : Nat → Bool} {held : Bool} {d : DataW H} {p : List MemPlace}
/-- a slice, one step down: each element's cells, and what they read as -/
theorem row_down {t te : TypeId} {sz fuel : Nat} {cs : List Value} {x : DataW H × List MemPlace} (ht : Tryz.prog.underlying t = some (.slice te)) (hc : Tryz.prog.cellsOf te = sz) (hsz : 0 < sz) (h : DataW.trod enc Tryz.prog W base sp held fuel t cs = some x) :
    ∃ A len cap n, cs = [.slice A len cap] ∧ len ≤ cap ∧ cap ≤ maxLen ∧ n < fuel ∧ (len = 0 ∨ ∃ b o, A = some ⟨b, o, none⟩ ∧ b < W.heap.size ∧ ∀ i, i < len → ∃ cs' y, cs'.length = sz ∧ DataW.trod enc Tryz.prog W base sp held n te cs' = some y ∧ ∀ j, j < sz → W.cell? ⟨b, o + i * sz + j, none⟩ = cs'[j]?) := by
  rcases DataW.trod_slice ht h with ⟨rfl, _⟩ | ⟨a, len, cap, elems, rest, n, rfl, rfl, _, _, hl, hm, hlen, hel, _⟩
  · refine ⟨none, 0, 0, 0, rfl, Nat.le_refl _, Nat.zero_le _, ?_, .inl rfl⟩
    cases fuel with
    | zero => simp [DataW.trod] at h
    | succ n => omega
  refine ⟨some a, len, cap, n, rfl, hl, hm, by omega, ?_⟩
  by_cases h0 : len = 0
  · exact .inl h0
  have hall : ∀ i, i < len → ∃ cs' y, cs'.length = sz ∧ DataW.trod enc Tryz.prog W base sp held n te cs' = some y ∧ ∀ j, j < sz → W.cell? (a.add (i * sz + j)) = cs'[j]? := fun i hi => by
    have he := hel i hi
    have hi' : i < elems.length := by omega
    rw [List.getElem?_eq_getElem hi', Option.bind_eq_some_iff] at he
    obtain ⟨cs', h1, h2⟩ := he
    rw [hc] at h1
    obtain ⟨_, h3, h4⟩ := World.cells?_some h1
    exact ⟨cs', _, h3, h2, fun j hj => by have := h4 j hj; rw [add_add8] at this; exact this⟩
  obtain ⟨cs', y, g1, _, g3⟩ := hall 0 (by omega)
  have g4 := g3 0 hsz
  rw [List.getElem?_eq_getElem (by omega)] at g4
  obtain ⟨b, o, spot⟩ := a
  have hsp : spot = none := by simpa [Addr.add] using World.cell?_spot g4
  subst hsp
  rw [add_none8] at g4
  refine .inr ⟨b, o, rfl, cell_lt8 g4, fun i hi => ?_⟩
  obtain ⟨cs', y, g1, g2, g3⟩ := hall i hi
  refine ⟨cs', y, g1, g2, fun j hj => ?_⟩
  have := g3 j hj
  rw [add_none8] at this
  rw [Nat.add_assoc]; exact this
theorem open_exprs : ∀ (fuel : Nat) (cs : List Value) (x : DataW H × List MemPlace), DataW.trod enc Tryz.prog W base sp held fuel 40 cs = some x →
    ∃ A c l, cs = [.slice A (l : List ExprD).length c] ∧ l.length ≤ c ∧ c ≤ maxLen ∧ ExprsW l ∧ ExprsAt W (fun b => b < W.heap.size) l A := by
  intro fuel
  induction fuel using Nat.strongRecOn with
  | _ fuel ih =>
  intro cs x h
  have hc : Tryz.prog.cellsOf 42 = 4 := by kernel_rfl
  have ci : Tryz.prog.cellsOf 3 = 1 := by kernel_rfl
  have cu : Tryz.prog.cellsOf 39 = 1 := by kernel_rfl
  have cS : Tryz.prog.cellsOf 9 = 1 := by kernel_rfl
  have cL : Tryz.prog.cellsOf 40 = 1 := by kernel_rfl
  obtain ⟨A, len, cap, n, rfl, hl, hm, hn, hr⟩ := row_down Tryz.underlying40 hc (by omega) h
  rcases hr with h0 | ⟨b, o, rfl, hb, hr⟩
  · subst h0
    exact ⟨A, cap, [], rfl, hl, hm, trivial, .inl rfl⟩
  have hall : ∀ i, i < len → ∃ e : ExprD, ExprW e ∧ ExprAt W (fun b => b < W.heap.size) e b (o + i * 4) := fun i hi => by
    obtain ⟨cs', y, g1, g2, g3⟩ := hr i hi
    obtain ⟨xs, m, hm2, hx, hl2, hlen, hg⟩ := DataW.trod_struct Tryz.underlying42 g2
    match cs', g1 with
    | [k0, k1, k2, k3], _ =>
      match xs, hlen with
      | [y0, y1, y2, y3], _ =>
        have q0 := hg 0 _ rfl
        have q1 := hg 1 _ rfl
        have q2 := hg 2 _ rfl
        have q3 := hg 3 _ rfl
        obtain ⟨v0, e0, _, w0⟩ := DataW.trod_int Tryz.underlying3 q0
        obtain ⟨v1, e1, _, w1⟩ := DataW.trod_int Tryz.underlying39 q1
        obtain ⟨v2, e2, _, w2⟩ := DataW.trod_string Tryz.underlying9 q2
        obtain ⟨A', c', args, e3, l1, l2, l3, l4⟩ := ih m (by omega) _ _ q3
        simp [ci, cu, cS, cL] at e0 e1 e2 e3
        subst e0 e1 e2 e3
        refine ⟨.mk v0 v1 v2 args, ⟨fitsI_of w0, fitsU_of w1, w2, Nat.le_trans l1 l2, l3⟩, ?_⟩
        unfold ExprAt
        exact ⟨g3 0 (by omega), g3 1 (by omega), g3 2 (by omega), A', c', g3 3 (by omega), l1, l4⟩
  obtain ⟨l, hll, hP⟩ := choose_list len hall
  subst hll
  refine ⟨some ⟨b, o, none⟩, cap, l, rfl, hl, hm, exprsW_iff.2 fun e he => ?_, .inr ⟨b, o, rfl, hb, exprsIn_of l b o fun i hi => (hP i hi).2⟩⟩
  obtain ⟨i, hi, rfl⟩ := List.mem_iff_getElem.1 he
  exact (hP i hi).1
theorem open_stmts : ∀ (fuel : Nat) (cs : List Value) (x : DataW H × List MemPlace), DataW.trod enc Tryz.prog W base sp held fuel 43 cs = some x →
    ∃ A c l, cs = [.slice A (l : List StmtD).length c] ∧ l.length ≤ c ∧ c ≤ maxLen ∧ StmtsW l ∧ StmtsAt W (fun b => b < W.heap.size) l A := by
  intro fuel
  induction fuel using Nat.strongRecOn with
  | _ fuel ih =>
  intro cs x h
  have hc : Tryz.prog.cellsOf 45 = 6 := by kernel_rfl
  have ci : Tryz.prog.cellsOf 3 = 1 := by kernel_rfl
  have cS : Tryz.prog.cellsOf 9 = 1 := by kernel_rfl
  have cE : Tryz.prog.cellsOf 40 = 1 := by kernel_rfl
  have cL : Tryz.prog.cellsOf 43 = 1 := by kernel_rfl
  obtain ⟨A, len, cap, n, rfl, hl, hm, hn, hr⟩ := row_down Tryz.underlying43 hc (by omega) h
  rcases hr with h0 | ⟨b, o, rfl, hb, hr⟩
  · subst h0
    exact ⟨A, cap, [], rfl, hl, hm, trivial, .inl rfl⟩
  have hall : ∀ i, i < len → ∃ e : StmtD, StmtW e ∧ StmtAt W (fun b => b < W.heap.size) e b (o + i * 6) := fun i hi => by
    obtain ⟨cs', y, g1, g2, g3⟩ := hr i hi
    obtain ⟨xs, m, hm2, hx, hl2, hlen, hg⟩ := DataW.trod_struct Tryz.underlying45 g2
    match cs', g1 with
    | [k0, k1, k2, k3, k4, k5], _ =>
      match xs, hlen with
      | [y0, y1, y2, y3, y4, y5], _ =>
        have q0 := hg 0 _ rfl
        have q1 := hg 1 _ rfl
        have q2 := hg 2 _ rfl
        have q3 := hg 3 _ rfl
        have q4 := hg 4 _ rfl
        have q5 := hg 5 _ rfl
        obtain ⟨v0, e0, _, w0⟩ := DataW.trod_int Tryz.underlying3 q0
        obtain ⟨v1, e1, _, w1⟩ := DataW.trod_string Tryz.underlying9 q1
        obtain ⟨v2, e2, _, w2⟩ := DataW.trod_int Tryz.underlying3 q2
        obtain ⟨A3, c3, args, e3, l1, l2, l3, l4⟩ := open_exprs m _ _ q3
        obtain ⟨A4, c4, one, e4, r1, r2, r3, r4⟩ := ih m (by omega) _ _ q4
        obtain ⟨A5, c5, two, e5, s1, s2, s3, s4⟩ := ih m (by omega) _ _ q5
        simp [ci, cS, cE, cL] at e0 e1 e2 e3 e4 e5
        subst e0 e1 e2 e3 e4 e5
        refine ⟨.mk v0 v1 v2 args one two, ⟨fitsI_of w0, w1, fitsI_of w2, ⟨Nat.le_trans l1 l2, l3⟩, ⟨Nat.le_trans r1 r2, r3⟩, Nat.le_trans s1 s2, s3⟩, ?_⟩
        unfold StmtAt
        exact ⟨g3 0 (by omega), g3 1 (by omega), g3 2 (by omega), ⟨A3, c3, g3 3 (by omega), l1, l4⟩, ⟨A4, c4, g3 4 (by omega), r1, r4⟩, A5, c5, g3 5 (by omega), s1, s4⟩
  obtain ⟨l, hll, hP⟩ := choose_list len hall
  subst hll
  refine ⟨some ⟨b, o, none⟩, cap, l, rfl, hl, hm, stmtsW_iff.2 fun e he => ?_, .inr ⟨b, o, rfl, hb, stmtsIn_of l b o fun i hi => (hP i hi).2⟩⟩
  obtain ⟨i, hi, rfl⟩ := List.mem_iff_getElem.1 he
  exact (hP i hi).1
theorem open_pars {fuel : Nat} {cs : List Value} {x : DataW H × List MemPlace} (h : DataW.trod enc Tryz.prog W base sp held fuel 46 cs = some x) :
    ∃ A c l, cs = [.slice A (l : List ParD).length c] ∧ l.length ≤ c ∧ c ≤ maxLen ∧ (∀ y ∈ l, ParW y) ∧ ParsAt W (fun b => b < W.heap.size) l A := by
  have hc : Tryz.prog.cellsOf 58 = 3 := by kernel_rfl
  have ci : Tryz.prog.cellsOf 3 = 1 := by kernel_rfl
  have cS : Tryz.prog.cellsOf 9 = 1 := by kernel_rfl
  obtain ⟨A, len, cap, n, rfl, hl, hm, hn, hr⟩ := row_down Tryz.underlying46 hc (by omega) h
  rcases hr with h0 | ⟨b, o, rfl, hb, hr⟩
  · subst h0
    exact ⟨A, cap, [], rfl, hl, hm, by simp, .inl rfl⟩
  have hall : ∀ i, i < len → ∃ e : ParD, ParW e ∧ W.cell? ⟨b, o + i * 3, none⟩ = some (.string e.1) ∧ W.cell? ⟨b, o + i * 3 + 1, none⟩ = some (.int .i64 e.2.1) ∧ W.cell? ⟨b, o + i * 3 + 2, none⟩ = some (.int .i64 e.2.2) := fun i hi => by
    obtain ⟨cs', y, g1, g2, g3⟩ := hr i hi
    obtain ⟨xs, m, hm2, hx, hl2, hlen, hg⟩ := DataW.trod_struct Tryz.underlying58 g2
    match cs', g1 with
    | [k0, k1, k2], _ =>
      match xs, hlen with
      | [y0, y1, y2], _ =>
        have q0 := hg 0 _ rfl
        have q1 := hg 1 _ rfl
        have q2 := hg 2 _ rfl
        obtain ⟨v0, e0, _, w0⟩ := DataW.trod_string Tryz.underlying9 q0
        obtain ⟨v1, e1, _, w1⟩ := DataW.trod_int Tryz.underlying3 q1
        obtain ⟨v2, e2, _, w2⟩ := DataW.trod_int Tryz.underlying3 q2
        simp [ci, cS] at e0 e1 e2
        subst e0 e1 e2
        exact ⟨(v0, v1, v2), ⟨w0, fitsI_of w1, fitsI_of w2⟩, g3 0 (by omega), g3 1 (by omega), g3 2 (by omega)⟩
  obtain ⟨l, hll, hP⟩ := choose_list len hall
  subst hll
  refine ⟨some ⟨b, o, none⟩, cap, l, rfl, hl, hm, fun e he => ?_, .inr ⟨b, o, rfl, hb, fun i hi => (hP i hi).2⟩⟩
  obtain ⟨i, hi, rfl⟩ := List.mem_iff_getElem.1 he
  exact (hP i hi).1
theorem open_arrs {fuel : Nat} {cs : List Value} {x : DataW H × List MemPlace} (h : DataW.trod enc Tryz.prog W base sp held fuel 22 cs = some x) :
    ∃ A c l, cs = [.slice A (l : List ArrD).length c] ∧ l.length ≤ c ∧ c ≤ maxLen ∧ (∀ y ∈ l, ArrW y) ∧ ArrsAt W (fun b => b < W.heap.size) l A := by
  have hc : Tryz.prog.cellsOf 55 = 2 := by kernel_rfl
  have ci : Tryz.prog.cellsOf 3 = 1 := by kernel_rfl
  have cS : Tryz.prog.cellsOf 9 = 1 := by kernel_rfl
  obtain ⟨A, len, cap, n, rfl, hl, hm, hn, hr⟩ := row_down Tryz.underlying22 hc (by omega) h
  rcases hr with h0 | ⟨b, o, rfl, hb, hr⟩
  · subst h0
    exact ⟨A, cap, [], rfl, hl, hm, by simp, .inl rfl⟩
  have hall : ∀ i, i < len → ∃ e : ArrD, ArrW e ∧ W.cell? ⟨b, o + i * 2, none⟩ = some (.string e.1) ∧ W.cell? ⟨b, o + i * 2 + 1, none⟩ = some (.int .i64 e.2) := fun i hi => by
    obtain ⟨cs', y, g1, g2, g3⟩ := hr i hi
    obtain ⟨xs, m, hm2, hx, hl2, hlen, hg⟩ := DataW.trod_struct Tryz.underlying55 g2
    match cs', g1 with
    | [k0, k1], _ =>
      match xs, hlen with
      | [y0, y1], _ =>
        have q0 := hg 0 _ rfl
        have q1 := hg 1 _ rfl
        obtain ⟨v0, e0, _, w0⟩ := DataW.trod_string Tryz.underlying9 q0
        obtain ⟨v1, e1, _, w1⟩ := DataW.trod_int Tryz.underlying3 q1
        simp [ci, cS] at e0 e1
        subst e0 e1
        exact ⟨(v0, v1), ⟨w0, fitsI_of w1⟩, g3 0 (by omega), g3 1 (by omega)⟩
  obtain ⟨l, hll, hP⟩ := choose_list len hall
  subst hll
  refine ⟨some ⟨b, o, none⟩, cap, l, rfl, hl, hm, fun e he => ?_, .inr ⟨b, o, rfl, hb, fun i hi => (hP i hi).2⟩⟩
  obtain ⟨i, hi, rfl⟩ := List.mem_iff_getElem.1 he
  exact (hP i hi).1
theorem open_funs {fuel : Nat} {cs : List Value} {x : DataW H × List MemPlace} (h : DataW.trod enc Tryz.prog W base sp held fuel 23 cs = some x) :
    ∃ A c l, cs = [.slice A (l : List FunD).length c] ∧ l.length ≤ c ∧ c ≤ maxLen ∧ (∀ y ∈ l, FunW y) ∧ FunsAt W (fun b => b < W.heap.size) l A := by
  have hc : Tryz.prog.cellsOf 48 = 4 := by kernel_rfl
  have cb : Tryz.prog.cellsOf 4 = 1 := by kernel_rfl
  have cS : Tryz.prog.cellsOf 9 = 1 := by kernel_rfl
  have cP : Tryz.prog.cellsOf 46 = 1 := by kernel_rfl
  have cL : Tryz.prog.cellsOf 43 = 1 := by kernel_rfl
  obtain ⟨A, len, cap, n, rfl, hl, hm, hn, hr⟩ := row_down Tryz.underlying23 hc (by omega) h
  rcases hr with h0 | ⟨b, o, rfl, hb, hr⟩
  · subst h0
    exact ⟨A, cap, [], rfl, hl, hm, by simp, .inl rfl⟩
  have hall : ∀ i, i < len → ∃ e : FunD, FunW e ∧ FunAt W (fun b => b < W.heap.size) e b (o + i * 4) := fun i hi => by
    obtain ⟨cs', y, g1, g2, g3⟩ := hr i hi
    obtain ⟨xs, m, hm2, hx, hl2, hlen, hg⟩ := DataW.trod_struct Tryz.underlying48 g2
    match cs', g1 with
    | [k0, k1, k2, k3], _ =>
      match xs, hlen with
      | [y0, y1, y2, y3], _ =>
        have q0 := hg 0 _ rfl
        have q1 := hg 1 _ rfl
        have q2 := hg 2 _ rfl
        have q3 := hg 3 _ rfl
        obtain ⟨v0, e0, _, w0⟩ := DataW.trod_string Tryz.underlying9 q0
        obtain ⟨v1, e1, _⟩ := DataW.trod_bool Tryz.underlying4 q1
        obtain ⟨A2, c2, ps, e2, r1, r2, r3, r4⟩ := open_pars q2
        obtain ⟨A3, c3, bd, e3, s1, s2, s3, s4⟩ := open_stmts m _ _ q3
        simp [cb, cS, cP, cL] at e0 e1 e2 e3
        subst e0 e1 e2 e3
        exact ⟨(v0, v1, ps, bd), ⟨w0, ⟨Nat.le_trans r1 r2, r3⟩, Nat.le_trans s1 s2, s3⟩, g3 0 (by omega), g3 1 (by omega), ⟨A2, c2, g3 2 (by omega), r1, r4⟩, A3, c3, g3 3 (by omega), s1, s4⟩
  obtain ⟨l, hll, hP⟩ := choose_list len hall
  subst hll
  refine ⟨some ⟨b, o, none⟩, cap, l, rfl, hl, hm, fun e he => ?_, .inr ⟨b, o, rfl, hb, fun i hi => (hP i hi).2⟩⟩
  obtain ⟨i, hi, rfl⟩ := List.mem_iff_getElem.1 he
  exact (hP i hi).1
/-- a source that came in -/
theorem open_prog {v : Value} (hv : Value.okWide Tryz.prog W .any b0 25 v) (h : DataW.Trod enc Tryz.prog W base sp held 25 v d p) :
    ∃ P : ProD, ProAt W (fun b => b < W.heap.size) P v ∧ ProW P := by
  obtain ⟨cs, rfl, hsz⟩ := okWide_struct Tryz.underlying25 hv
  obtain ⟨fuel, hf⟩ := h
  have hc : Tryz.prog.cellsOf 25 = 2 := by kernel_rfl
  have c1 : Tryz.prog.cellsOf 22 = 1 := by kernel_rfl
  have c2 : Tryz.prog.cellsOf 23 = 1 := by kernel_rfl
  obtain ⟨l⟩ := cs
  match l, hsz.trans hc with
  | [k0, k1], _ =>
    obtain ⟨xs, m, _, hx, _, hlen, hg⟩ := DataW.trod_struct Tryz.underlying25 hf
    match xs, hlen with
    | [y0, y1], _ =>
      have q0 := hg 0 _ rfl
      have q1 := hg 1 _ rfl
      obtain ⟨A1, n1, arl, e0, r1, r2, r3, r4⟩ := open_arrs q0
      obtain ⟨A2, n2, fs, e1, s1, s2, s3, s4⟩ := open_funs q1
      simp [Value.cells, c1, c2] at e0 e1
      subst e0 e1
      exact ⟨(arl, fs), ⟨A1, n1, A2, n2, rfl, r1, s1, r4, s4⟩, ⟨Nat.le_trans r1 r2, r3⟩, Nat.le_trans s1 s2, s3⟩
end
end Go.Proofs.YtbhdbglhejibbaaGreatDoor
namespace Go.Proofs.YtbhdbglhejibbaaGreatDoor
set_option maxRecDepth 100000
open Go.RowKit Go.ChangeShapes Go.WideShapes
set_option linter.unusedVariables false
def strV (l : List UInt8) : Value := .string ⟨l.toArray⟩
/-- the operations' words, and their numbers -/
def opsT : List (List UInt8 × Int) := [([97, 100, 100], 0), ([115, 117, 98], 1), ([115, 104, 108], 2), ([115, 108, 116], 3), ([115, 108, 116, 117], 4), ([120, 111, 114], 5), ([115, 104, 114], 6), ([115, 97, 114], 7), ([111, 114], 8), ([97, 110, 100], 9), ([109, 117, 108], 10), ([100, 105, 118, 117], 13), ([114, 101, 109, 117], 15)]
/-- the statements' forms: word, named, counted, arguments, lists -/
def stmT : List (List UInt8 × Bool × Bool × Int × Int) := [([115, 101, 116], true, false, 1, 0), ([112, 117, 116], true, false, 2, 0), ([105, 102], false, false, 1, 2), ([102, 111, 114], true, true, 0, 1), ([114, 101, 116], false, false, 1, 0)]
/-- the expressions' forms: word, named, least, most -/
def expT : List (List UInt8 × Bool × Int × Int) := [([], false, 0, 0), ([], true, 0, 0), ([103, 101, 116], true, 1, 1), ([], false, 2, 2), ([115, 101, 108], false, 3, 3), ([99, 97, 108, 108], true, 0, 6), ([111, 112, 101, 110], false, 1, 1)]
def opsR (n : Nat) : List UInt8 × Int := opsT.getD n ([], 0)
def stmR (n : Nat) : List UInt8 × Bool × Bool × Int × Int := stmT.getD n ([], false, false, 0, 0)
def expR (n : Nat) : List UInt8 × Bool × Int × Int := expT.getD n ([], false, 0, 0)
def opsC (n : Nat) : List Value := [strV (opsR n).1, .int .i64 (opsR n).2]
def stmC (n : Nat) : List Value := [strV (stmR n).1, .bool (stmR n).2.1, .bool (stmR n).2.2.1, .int .i64 (stmR n).2.2.2.1, .int .i64 (stmR n).2.2.2.2]
def expC (n : Nat) : List Value := [strV (expR n).1, .bool (expR n).2.1, .int .i64 (expR n).2.2.1, .int .i64 (expR n).2.2.2]
def opsD (n : Nat) : DataW Unit := .agg [.lit (.string (opsR n).1), .lit (.int .i64 (opsR n).2)]
def stmD (n : Nat) : DataW Unit := .agg [.lit (.string (stmR n).1), .lit (.bool (stmR n).2.1), .lit (.bool (stmR n).2.2.1), .lit (.int .i64 (stmR n).2.2.2.1), .lit (.int .i64 (stmR n).2.2.2.2)]
def expD (n : Nat) : DataW Unit := .agg [.lit (.string (expR n).1), .lit (.bool (expR n).2.1), .lit (.int .i64 (expR n).2.2.1), .lit (.int .i64 (expR n).2.2.2)]
theorem trops_list : (Rows.laid_caponier_tree_operations : DataW Unit) = .agg ((List.range 13).map opsD) := by kernel_rfl
theorem trstm_list : (Rows.laid_caponier_tree_stmtForms : DataW Unit) = .agg ((List.range 5).map stmD) := by kernel_rfl
theorem trexp_list : (Rows.laid_caponier_tree_exprForms : DataW Unit) = .agg ((List.range 7).map expD) := by kernel_rfl
theorem cTrop : Tryz.prog.cellsOf 76 = 2 := by kernel_rfl
theorem cTrst : Tryz.prog.cellsOf 110 = 5 := by kernel_rfl
theorem cTrex : Tryz.prog.cellsOf 117 = 4 := by kernel_rfl
theorem trop_cells {W : World} {fuel n : Nat} {cs : List Value} {p : List MemPlace} (h : DataW.trod (fun _ => ()) Tryz.prog W 0 (fun _ => true) false fuel 76 cs = some (opsD n, p)) : ∀ j, j < 2 → cs[j]? = some (nthV (opsC n) j) := by
  obtain ⟨hl, m, hp⟩ := struct_parts Tryz.underlying76 h
  intro j hj
  match j, hj with
  | 0, _ => obtain ⟨q, e⟩ := hp 0 _ _ rfl rfl; exact one_at (string_cell Tryz.underlying9 (by rw [← cStr]; exact e))
  | 1, _ => obtain ⟨q, e⟩ := hp 1 _ _ rfl rfl; exact one_at (lit_cell Tryz.underlying3 (by rw [← cInt]; exact e))
theorem trst_cells {W : World} {fuel n : Nat} {cs : List Value} {p : List MemPlace} (h : DataW.trod (fun _ => ()) Tryz.prog W 0 (fun _ => true) false fuel 110 cs = some (stmD n, p)) : ∀ j, j < 5 → cs[j]? = some (nthV (stmC n) j) := by
  obtain ⟨hl, m, hp⟩ := struct_parts Tryz.underlying110 h
  intro j hj
  match j, hj with
  | 0, _ => obtain ⟨q, e⟩ := hp 0 _ _ rfl rfl; exact one_at (string_cell Tryz.underlying9 (by rw [← cStr]; exact e))
  | 1, _ => obtain ⟨q, e⟩ := hp 1 _ _ rfl rfl; exact one_at (bool_cell Tryz.underlying4 (by rw [← cBool]; exact e))
  | 2, _ => obtain ⟨q, e⟩ := hp 2 _ _ rfl rfl; exact one_at (bool_cell Tryz.underlying4 (by rw [← cBool]; exact e))
  | 3, _ => obtain ⟨q, e⟩ := hp 3 _ _ rfl rfl; exact one_at (lit_cell Tryz.underlying3 (by rw [← cInt]; exact e))
  | 4, _ => obtain ⟨q, e⟩ := hp 4 _ _ rfl rfl; exact one_at (lit_cell Tryz.underlying3 (by rw [← cInt]; exact e))
theorem trex_cells {W : World} {fuel n : Nat} {cs : List Value} {p : List MemPlace} (h : DataW.trod (fun _ => ()) Tryz.prog W 0 (fun _ => true) false fuel 117 cs = some (expD n, p)) : ∀ j, j < 4 → cs[j]? = some (nthV (expC n) j) := by
  obtain ⟨hl, m, hp⟩ := struct_parts Tryz.underlying117 h
  intro j hj
  match j, hj with
  | 0, _ => obtain ⟨q, e⟩ := hp 0 _ _ rfl rfl; exact one_at (string_cell Tryz.underlying9 (by rw [← cStr]; exact e))
  | 1, _ => obtain ⟨q, e⟩ := hp 1 _ _ rfl rfl; exact one_at (bool_cell Tryz.underlying4 (by rw [← cBool]; exact e))
  | 2, _ => obtain ⟨q, e⟩ := hp 2 _ _ rfl rfl; exact one_at (lit_cell Tryz.underlying3 (by rw [← cInt]; exact e))
  | 3, _ => obtain ⟨q, e⟩ := hp 3 _ _ rfl rfl; exact one_at (lit_cell Tryz.underlying3 (by rw [← cInt]; exact e))
/-- the three tables read as they are written -/
structure TrT (w : World) : Prop where
  ops : ∀ n, n < 13 → ∀ j, j < 2 → w.cell? ⟨0, n * 2 + j, none⟩ = some (nthV (opsC n) j)
  stm : ∀ n, n < 5 → ∀ j, j < 5 → w.cell? ⟨1, n * 5 + j, none⟩ = some (nthV (stmC n) j)
  exp : ∀ n, n < 7 → ∀ j, j < 4 → w.cell? ⟨2, n * 4 + j, none⟩ = some (nthV (expC n) j)
theorem gTrop : Tryz.prog.globalNamed "caponier/tree.operations" = some 0 := by kernel_rfl
theorem gTrst : Tryz.prog.globalNamed "caponier/tree.stmtForms" = some 1 := by kernel_rfl
theorem gTrex : Tryz.prog.globalNamed "caponier/tree.exprForms" = some 2 := by kernel_rfl
theorem tTrop : (Tryz.prog.globals[0]?).map (·.type) = some 77 := by kernel_rfl
theorem tTrst : (Tryz.prog.globals[1]?).map (·.type) = some 111 := by kernel_rfl
theorem tTrex : (Tryz.prog.globals[2]?).map (·.type) = some 118 := by kernel_rfl
theorem trT_of_laid {W : World} {l : List (String × DataW Unit)} (hp : (l.all fun x => x.2.handleName?.isNone) = true) (h : laidMetH Tryz.prog l W)
    (ho : ("caponier/tree.operations", Rows.laid_caponier_tree_operations) ∈ l) (hs : ("caponier/tree.stmtForms", Rows.laid_caponier_tree_stmtForms) ∈ l) (he : ("caponier/tree.exprForms", Rows.laid_caponier_tree_exprForms) ∈ l) : TrT W := by
  obtain ⟨co, ho1, fo, po, ho2⟩ := laid_var hp h ho gTrop tTrop
  obtain ⟨cs, hs1, fs, ps, hs2⟩ := laid_var hp h hs gTrst tTrst
  obtain ⟨ce, he1, fe, pe, he2⟩ := laid_var hp h he gTrex tTrex
  rw [trops_list] at ho2
  rw [trstm_list] at hs2
  rw [trexp_list] at he2
  obtain ⟨_, mo, hop⟩ := array_parts Tryz.underlying77 ho2
  obtain ⟨_, ms, hsp⟩ := array_parts Tryz.underlying111 hs2
  obtain ⟨_, me, hep⟩ := array_parts Tryz.underlying118 he2
  refine ⟨fun n hn j hj => ?_, fun n hn j hj => ?_, fun n hn j hj => ?_⟩
  · obtain ⟨q, e⟩ := hop n (opsD n) hn (by simp [hn])
    rw [cTrop] at e
    rw [ho1, ← Array.getElem?_toList]
    exact take_at hj (trop_cells e j hj)
  · obtain ⟨q, e⟩ := hsp n (stmD n) hn (by simp [hn])
    rw [cTrst] at e
    rw [hs1, ← Array.getElem?_toList]
    exact take_at hj (trst_cells e j hj)
  · obtain ⟨q, e⟩ := hep n (expD n) hn (by simp [hn])
    rw [cTrex] at e
    rw [he1, ← Array.getElem?_toList]
    exact take_at hj (trex_cells e j hj)
theorem TrT.below {w w' : World} (h : TrT w) (hb : Below w.heap.size w w') : TrT w' := by
  have lt (b o : Nat) (v : Value) (hc : w.cell? ⟨b, o, none⟩ = some v) : b < w.heap.size := cell_lt8 hc
  refine ⟨fun n hn j hj => ?_, fun n hn j hj => ?_, fun n hn j hj => ?_⟩
  · have h1 := h.ops n hn j hj
    rw [hb.cell (p := ⟨_, _, none⟩) (lt _ _ _ h1)]; exact h1
  · have h1 := h.stm n hn j hj
    rw [hb.cell (p := ⟨_, _, none⟩) (lt _ _ _ h1)]; exact h1
  · have h1 := h.exp n hn j hj
    rw [hb.cell (p := ⟨_, _, none⟩) (lt _ _ _ h1)]; exact h1
end Go.Proofs.YtbhdbglhejibbaaGreatDoor
namespace Go.Proofs.YtbhdbglhejibbaaGreatDoor
set_option maxRecDepth 100000
open Go.RowKit
set_option linter.unusedVariables false
def betB (x a b : Int) : Bool := decide (a ≤ x) && decide (x ≤ b)
theorem twithin_any (x a b : Int) (w : World) : Calls Tryz.prog 115 #[.int .i64 x, .int .i64 a, .int .i64 b] w fun e w' => e = .returned (.bool (betB x a b)) ∧ w = w' := by
  by_cases h1 : x ≥ a
  · have hr : betB x a b = decide (x ≤ b) := by
      unfold betB
      rw [show decide (a ≤ x) = true by rw [decide_eq_true_iff]; exact h1]; rfl
    by_cases h2 : x ≤ b
    · rw [show betB x a b = true by rw [hr, decide_eq_true_iff]; exact h2]
      go_enter Tryz.func115, Tryz.ntmps115
      go_wp2
      go_ret
      first | exact ⟨rfl, rfl⟩ | exact ⟨ret_bool (by simpa using h2), rfl⟩
    · rw [show betB x a b = false by rw [hr, decide_eq_false_iff_not]; exact h2]
      go_enter Tryz.func115, Tryz.ntmps115
      go_wp2
      go_ret
      first | exact ⟨rfl, rfl⟩ | exact ⟨ret_bool (by simpa using h2), rfl⟩
  · have d1 : decide (x ≥ a) = false := by rw [decide_eq_false_iff_not]; exact h1
    rw [show betB x a b = false by unfold betB; rw [show decide (a ≤ x) = false from d1]; rfl]
    go_enter Tryz.func115, Tryz.ntmps115
    go_wp2
    go_ret
    exact ⟨rfl, rfl⟩
def cntB (c : Bool) (n : Int) : Bool := if c then betB n 1 64 else n == 0
theorem mayCount_any (c : Bool) (n : Int) (w : World) : Calls Tryz.prog 96 #[.bool c, .int .i64 n] w fun e w' => e = .returned (.bool (cntB c n)) ∧ w = w' := by
  cases c with
  | true =>
    go_enter Tryz.func96, Tryz.ntmps96
    go_wp2_with fail
    refine (twithin_any _ _ _ _).mono ?_
    rintro e w' ⟨rfl, rfl⟩
    go_wp2
    go_ret
    exact ⟨rfl, rfl⟩
  | false =>
    go_enter Tryz.func96, Tryz.ntmps96
    go_wp2
    go_ret
    exact ⟨rfl, rfl⟩
def nmB (c : Bool) (s : ByteArray) : Bool := if c then nameB (sB s) else s.toList.isEmpty
theorem mayName_any (c : Bool) (s : ByteArray) (w : World) : Calls Tryz.prog 126 #[.bool c, .string s] w fun e w' => e = .returned (.bool (nmB c s)) ∧ w = w' := by
  cases c with
  | true =>
    go_enter Tryz.func126, Tryz.ntmps126
    go_wp2_with fail
    refine (name_any _ _).mono ?_
    rintro e w' ⟨rfl, rfl⟩
    go_wp2
    go_ret
    exact ⟨rfl, rfl⟩
  | false =>
    go_enter Tryz.func126, Tryz.ntmps126
    go_wp2
    go_ret
    exact ⟨rfl, rfl⟩
theorem twant_yes (w : World) : Calls Tryz.prog 42 #[.bool true] w fun e w' => e = .returned (.tuple #[]) ∧ w = w' := by
  go_enter Tryz.func42, Tryz.ntmps42
  go_wp2
  go_end0
  exact ⟨rfl, rfl⟩
/-- it leaves by the panic -/
def tlackV : Value := .iface 86 (.agg #[])
def tlackP : Ending := .panicked [{ v := tlackV, recovered := false }]
theorem twant_no (w : World) : Calls Tryz.prog 42 #[.bool false] w fun e w' => e = tlackP ∧ w = w' := by
  go_enter Tryz.func42, Tryz.ntmps42
  go_wp2
  exact ⟨rfl, rfl, rfl⟩
def arrB (a : ArrD) : Bool := nameB (sB a.1) && cntB true a.2
theorem mayArray_any (a : ArrD) (w : World) : Calls Tryz.prog 68 #[.agg #[.string a.1, .int .i64 a.2]] w fun e w' => e = .returned (.bool (arrB a)) ∧ Below w.heap.size w w' := by
  obtain ⟨s, n⟩ := a
  have HB := Lib.hid ((Below.refl w.heap.size w).alloc (Nat.le_refl _) (.cells #[.string s, .int .i64 n] 55))
  cases h : nameB (sB s) with
  | true =>
    have HR := Lib.hid (show arrB (s, n) = cntB true n by unfold arrB; rw [h]; rfl)
    have HN := Lib.hid h
    clear h
    go_enter Tryz.func68, Tryz.ntmps68
    go_wp2_with fail
    refine (name_any _ _).mono ?_
    rw [HN.out]
    rintro e w' ⟨rfl, rfl⟩
    go_wp2_with fail
    refine (mayCount_any _ _ _).mono ?_
    rintro e w' ⟨rfl, rfl⟩
    go_wp2
    go_ret
    exact ⟨ret_bool HR.out.symm, HB.out⟩
  | false =>
    have HR := Lib.hid (show arrB (s, n) = false by unfold arrB; rw [h]; rfl)
    have HN := Lib.hid h
    clear h
    go_enter Tryz.func68, Tryz.ntmps68
    go_wp2_with fail
    refine (name_any _ _).mono ?_
    rw [HN.out]
    rintro e w' ⟨rfl, rfl⟩
    go_wp2
    go_ret
    exact ⟨ret_bool HR.out.symm, HB.out⟩
def progB (a b : Nat) : Bool := decide (a ≤ 32) && decide (b ≤ 32)
theorem mayProg_any (A1 A2 : Option Addr) (n1 c1 n2 c2 : Nat) (w : World) : Calls Tryz.prog 43 #[.agg #[.slice A1 n1 c1, .slice A2 n2 c2]] w fun e w' => e = .returned (.bool (progB n1 n2)) ∧ Below w.heap.size w w' := by
  have HB := Lib.hid ((Below.refl w.heap.size w).alloc (Nat.le_refl _) (.cells #[.slice A1 n1 c1, .slice A2 n2 c2] 25))
  by_cases h1 : (n1 : Int) ≤ 32
  · by_cases h2 : (n2 : Int) ≤ 32
    · have HR := Lib.hid (show progB n1 n2 = true by unfold progB; simp; omega)
      go_enter Tryz.func43, Tryz.ntmps43
      go_wp2
      go_ret
      exact ⟨ret_bool (by rw [HR.out]), HB.out⟩
    · have HR := Lib.hid (show progB n1 n2 = false by unfold progB; simp; omega)
      go_enter Tryz.func43, Tryz.ntmps43
      go_wp2
      go_ret
      exact ⟨ret_bool (by rw [HR.out]), HB.out⟩
  · have HR := Lib.hid (show progB n1 n2 = false by unfold progB; simp; omega)
    go_enter Tryz.func43, Tryz.ntmps43
    go_wp2
    go_ret
    exact ⟨ret_bool HR.out.symm, HB.out⟩
def funB (s : ByteArray) (n : Nat) : Bool := nameB (sB s) && decide (n ≤ 6)
theorem mayFunc_any (s : ByteArray) (b : Bool) (A1 A2 : Option Addr) (n1 c1 n2 c2 : Nat) (w : World) : Calls Tryz.prog 73 #[.agg #[.string s, .bool b, .slice A1 n1 c1, .slice A2 n2 c2]] w fun e w' => e = .returned (.bool (funB s n1)) ∧ Below w.heap.size w w' := by
  have HB := Lib.hid ((Below.refl w.heap.size w).alloc (Nat.le_refl _) (.cells #[.string s, .bool b, .slice A1 n1 c1, .slice A2 n2 c2] 48))
  cases h : nameB (sB s) with
  | true =>
    have HN := Lib.hid h
    have HR := Lib.hid (show funB s n1 = decide ((n1 : Int) ≤ 6) by unfold funB; rw [h]; simp; omega)
    clear h
    go_enter Tryz.func73, Tryz.ntmps73
    go_wp2_with fail
    refine (name_any _ _).mono ?_
    rw [HN.out]
    rintro e w' ⟨rfl, rfl⟩
    go_wp2
    go_ret
    exact ⟨ret_bool HR.out.symm, HB.out⟩
  | false =>
    have HN := Lib.hid h
    have HR := Lib.hid (show funB s n1 = false by unfold funB; rw [h]; rfl)
    clear h
    go_enter Tryz.func73, Tryz.ntmps73
    go_wp2_with fail
    refine (name_any _ _).mono ?_
    rw [HN.out]
    rintro e w' ⟨rfl, rfl⟩
    go_wp2
    go_ret
    exact ⟨ret_bool HR.out.symm, HB.out⟩
def mparB (x : ParD) : Bool := betB x.2.1 0 2 && nameB (sB x.1) && cntB (x.2.1 == 2) x.2.2
theorem mayParam_any (x : ParD) (w : World) : Calls Tryz.prog 100 #[.agg #[.string x.1, .int .i64 x.2.1, .int .i64 x.2.2]] w fun e w' => e = .returned (.bool (mparB x)) ∧ Below w.heap.size w w' := by
  obtain ⟨s, k, n⟩ := x
  have HB := Lib.hid ((Below.refl w.heap.size w).alloc (Nat.le_refl _) (.cells #[.string s, .int .i64 k, .int .i64 n] 58))
  cases hb : betB k 0 2 with
  | false =>
    have HK := Lib.hid hb
    have HR := Lib.hid (show mparB (s, k, n) = false by unfold mparB; rw [hb]; rfl)
    clear hb
    go_enter Tryz.func100, Tryz.ntmps100
    go_wp2_with fail
    refine (twithin_any _ _ _ _).mono ?_
    rw [HK.out]
    rintro e w' ⟨rfl, rfl⟩
    go_wp2
    go_ret
    exact ⟨ret_bool HR.out.symm, HB.out⟩
  | true =>
    cases h : nameB (sB s) with
    | false =>
      have HK := Lib.hid hb
      have HN := Lib.hid h
      have HR := Lib.hid (show mparB (s, k, n) = false by unfold mparB; rw [hb, h]; rfl)
      clear hb h
      go_enter Tryz.func100, Tryz.ntmps100
      go_wp2_with fail
      refine (twithin_any _ _ _ _).mono ?_
      rw [HK.out]
      rintro e w' ⟨rfl, rfl⟩
      go_wp2_with fail
      refine (name_any _ _).mono ?_
      rw [HN.out]
      rintro e w' ⟨rfl, rfl⟩
      go_wp2
      go_ret
      exact ⟨ret_bool HR.out.symm, HB.out⟩
    | true =>
      have HK := Lib.hid hb
      have HN := Lib.hid h
      have HR := Lib.hid (show mparB (s, k, n) = cntB (k == 2) n by unfold mparB; rw [hb, h]; rfl)
      clear hb h
      go_enter Tryz.func100, Tryz.ntmps100
      go_wp2_with fail
      refine (twithin_any _ _ _ _).mono ?_
      rw [HK.out]
      rintro e w' ⟨rfl, rfl⟩
      go_wp2_with fail
      refine (name_any _ _).mono ?_
      rw [HN.out]
      rintro e w' ⟨rfl, rfl⟩
      go_wp2_with fail
      refine (mayCount_any _ _ _).mono ?_
      rintro e w' ⟨rfl, rfl⟩
      go_wp2
      go_ret
      exact ⟨ret_bool HR.out.symm, HB.out⟩
end Go.Proofs.YtbhdbglhejibbaaGreatDoor
namespace Go.Proofs.YtbhdbglhejibbaaGreatDoor
set_option maxRecDepth 100000
open Go.RowKit
set_option linter.unusedVariables false
/-- a whole row of cells, loaded at once -/
theorem run_load_row {w : World} {ty : TypeId} {b o : Nat} {l : List Value} (hagg : ∀ w : World, (isAgg ty).run Tryz.prog w = .ok true w) (hsz : ∀ w : World, (sizeOf ty).run Tryz.prog w = .ok l.length w) (h : ∀ j, j < l.length → w.cell? ⟨b, o + j, none⟩ = some (nthV l j)) :
    (loadVar ty ⟨b, o, none⟩).run Tryz.prog w = .ok (.agg l.toArray) w := by
  have hl : (loadCells ⟨b, o, none⟩ l.length).run Tryz.prog w = .ok l.toArray w :=
    run_loadCells_list (P := Tryz.prog) w ⟨b, o, none⟩ l (fun j v hv => by
      rw [add_off, h j (List.getElem?_eq_some_iff.1 hv).1]
      unfold nthV
      rw [List.getD_eq_getElem?_getD, hv]
      rfl)
  unfold loadVar
  simp only [Sem.run_bind, hagg, hsz, hl, Result.andThen_ok, if_true, Sem.run_pure]
theorem wpList_load_row {w : World} {ops : Array Oper} {rest : List Oper} {o : Oper} {a : Act} {Q : Exit → Act → World → Prop} (hgd : o.guard = none) (ty : TypeId) (x : Operand) (ho : o.op = .load ty x)
    (b off : Nat) (l : List Value) (V : Array Value) (hV : l.toArray = V) (hagg : ∀ w : World, (isAgg ty).run Tryz.prog w = .ok true w) (hsz : ∀ w : World, (sizeOf ty).run Tryz.prog w = .ok l.length w) (hx : a.eval x = .pointer (some ⟨b, off, none⟩)) (hc : ∀ j, j < l.length → w.cell? ⟨b, off + j, none⟩ = some (nthV l j))
    (h : wpList Tryz.prog ops Q rest (a.put o.dst (.agg V)) w) : wpList Tryz.prog ops Q (o :: rest) a w :=
  wpList_plain hgd fun K hK => by
    subst hV
    unfold Oper.wp execOp
    simp only [ho, hx, Instr.loadAt, Instr.sureAddr, Sem.run_bind, Sem.run_pure, Result.andThen_ok, run_load_row hagg hsz hc]
    exact hK _ _ h
def opsLs : List Value := (List.range 13).flatMap opsC
def opsV : Array Value := opsLs.toArray
theorem opsLs_at : ∀ n, n < 13 → ∀ j, j < 2 → nthV opsLs (n * 2 + j) = nthV (opsC n) j := by
  intro n hn j hj
  match n, hn with
  | 0, _ => match j, hj with
    | 0, _ => rfl
    | 1, _ => rfl
  | 1, _ => match j, hj with
    | 0, _ => rfl
    | 1, _ => rfl
  | 2, _ => match j, hj with
    | 0, _ => rfl
    | 1, _ => rfl
  | 3, _ => match j, hj with
    | 0, _ => rfl
    | 1, _ => rfl
  | 4, _ => match j, hj with
    | 0, _ => rfl
    | 1, _ => rfl
  | 5, _ => match j, hj with
    | 0, _ => rfl
    | 1, _ => rfl
  | 6, _ => match j, hj with
    | 0, _ => rfl
    | 1, _ => rfl
  | 7, _ => match j, hj with
    | 0, _ => rfl
    | 1, _ => rfl
  | 8, _ => match j, hj with
    | 0, _ => rfl
    | 1, _ => rfl
  | 9, _ => match j, hj with
    | 0, _ => rfl
    | 1, _ => rfl
  | 10, _ => match j, hj with
    | 0, _ => rfl
    | 1, _ => rfl
  | 11, _ => match j, hj with
    | 0, _ => rfl
    | 1, _ => rfl
  | 12, _ => match j, hj with
    | 0, _ => rfl
    | 1, _ => rfl
theorem TrT.opsLs {w : World} (h : TrT w) : ∀ j, j < Go.Proofs.YtbhdbglhejibbaaGreatDoor.opsLs.length → w.cell? ⟨0, 0 + j, none⟩ = some (nthV Go.Proofs.YtbhdbglhejibbaaGreatDoor.opsLs j) := by
  intro j hj
  have hj : j < 26 := hj
  have e := h.ops (j / 2) (by omega) (j % 2) (by omega)
  rw [← opsLs_at (j / 2) (by omega) (j % 2) (by omega), show j / 2 * 2 + j % 2 = j by omega] at e
  rw [Nat.zero_add]; exact e
theorem ops_agg (w : World) : (isAgg 77).run Tryz.prog w = .ok true w := by kernel_rfl
theorem ops_size (w : World) : (sizeOf 77).run Tryz.prog w = .ok opsLs.length w := by kernel_rfl
def opsW (k : Nat) : ByteArray := ⟨(opsR k).1.toArray⟩
theorem ops_ix (k : Nat) (hk : k < 13) (w : World) : (Instr.index 77 (.agg opsV) (.int .i64 k)).run Tryz.prog w = .ok (.agg #[.string (opsW k), .int .i64 (opsR k).2]) w := by
  match k, hk with
  | 0, _ => show _ = _; kernel_rfl
  | 1, _ => show _ = _; kernel_rfl
  | 2, _ => show _ = _; kernel_rfl
  | 3, _ => show _ = _; kernel_rfl
  | 4, _ => show _ = _; kernel_rfl
  | 5, _ => show _ = _; kernel_rfl
  | 6, _ => show _ = _; kernel_rfl
  | 7, _ => show _ = _; kernel_rfl
  | 8, _ => show _ = _; kernel_rfl
  | 9, _ => show _ = _; kernel_rfl
  | 10, _ => show _ = _; kernel_rfl
  | 11, _ => show _ = _; kernel_rfl
  | 12, _ => show _ = _; kernel_rfl
theorem str_eq {x s : ByteArray} : (x.toList == s.toList) = decide (x = s) := by
  rw [ByteArray.toList_eq, ByteArray.toList_eq, Bool.eq_iff_iff, beq_iff_eq, decide_eq_true_iff]
  constructor
  · intro h
    obtain ⟨⟨x⟩⟩ := x
    obtain ⟨⟨s⟩⟩ := s
    simp only at h
    subst h; rfl
  · rintro rfl; rfl
def OpP (s : ByteArray) (e : Ending) : Prop := (∃ k, k < 13 ∧ opsW k = s ∧ (∀ j, j < k → opsW j ≠ s) ∧ e = .returned (.tuple #[.int .i64 (opsR k).2, .bool true])) ∨ ((∀ j, j < 13 → opsW j ≠ s) ∧ e = .returned (.tuple #[.int .i64 0, .bool false]))
set_option maxHeartbeats 1000000 in
theorem op_any (s : ByteArray) (w : World) (hT : TrT w) : Calls Tryz.prog 15 #[.string s] w fun e w' => OpP s e ∧ Below w.heap.size w w' := by
  have HT := Lib.hid hT
  have HB := Lib.hid (Below.refl w.heap.size w)
  clear hT
  go_enter Tryz.func15, Tryz.ntmps15
  go_wp2_with (refine wpList_load_row rfl 77 _ rfl _ 0 opsLs opsV rfl ops_agg ops_size rfl HT.out.opsLs ?_)
  go_loopw [7] (fun i wr => ∃ k : Nat, k ≤ 13 ∧ i = .int .i64 k ∧ Hid (∀ j, j < k → opsW j ≠ s) ∧ Below w.heap.size w wr) (fun i _ => 13 - (intOf i).toNat)
  case atStart => exact ⟨0, by omega, rfl, Lib.hid (fun j hj => by omega), HB.out⟩
  case round =>
    obtain ⟨k, hk, rfl, HK, hb⟩ := hrel
    by_cases hlt : k < 13
    · have hi := fun W => ops_ix k hlt W
      have k1 : (k : Int) < 13 := by omega
      have HBx := Lib.hid hb
      have HL := Lib.hid hlt
      have HNew := Lib.hid (hb.alloc hb.size (.cells #[.string (opsW k), .int .i64 (opsR k).2] 76))
      have HR := Lib.hid (show opsW k = s → OpP s (.returned (.tuple #[.int .i64 (opsR k).2, .bool true])) from fun e => .inl ⟨k, HL.out, e, HK.out, rfl⟩)
      have HS := Lib.hid (show opsW k ≠ s → ∀ j, j < k + 1 → opsW j ≠ s from fun e j hj => by
        by_cases h : j = k
        · subst h; exact e
        · exact HK.out j (by omega))
      generalize opsW k = x at hi HNew HR HS
      generalize (opsR k).2 = v at hi HNew HR
      clear hb hlt hk
      by_cases he : x = s
      · have g : (x.toList == s.toList) = true := by rw [str_eq, decide_eq_true_iff]; exact he
        have HE := Lib.hid he
        clear he
        go_wp2
        go_ret2
        exact ⟨HR.out HE.out, HNew.out⟩
      · have g : (x.toList == s.toList) = false := by rw [str_eq, decide_eq_false_iff_not]; exact he
        have HE := Lib.hid he
        clear he
        go_wp2
        go_roundw
        case rel => exact ⟨k + 1, by have := HL.out; omega, by go_num, Lib.hid (HS.out HE.out), HNew.out⟩
        case measure => have := HL.out; simp [intOf]; omega
    · obtain rfl : k = 13 := by omega
      have HBx := Lib.hid hb
      clear hb
      go_wp2
      go_ret2
      exact ⟨.inr ⟨HK.out, rfl⟩, HBx.out⟩
def OwP (n : Int) (e : Ending) : Prop := (∃ k, k < 13 ∧ (opsR k).2 = n ∧ (∀ j, j < k → (opsR j).2 ≠ n) ∧ e = .returned (.tuple #[.string (opsW k), .bool true])) ∨ ((∀ j, j < 13 → (opsR j).2 ≠ n) ∧ e = .returned (.tuple #[.string ⟨#[]⟩, .bool false]))
theorem opsR_u : ∀ k, k < 13 → IntKind.u64.wrap (opsR k).2 = (opsR k).2 := by
  intro k hk
  match k, hk with
  | 0, _ => rfl
  | 1, _ => rfl
  | 2, _ => rfl
  | 3, _ => rfl
  | 4, _ => rfl
  | 5, _ => rfl
  | 6, _ => rfl
  | 7, _ => rfl
  | 8, _ => rfl
  | 9, _ => rfl
  | 10, _ => rfl
  | 11, _ => rfl
  | 12, _ => rfl
set_option maxHeartbeats 1000000 in
theorem opWord_any (n : Int) (w : World) (hT : TrT w) : Calls Tryz.prog 137 #[.int .u64 n] w fun e w' => OwP n e ∧ Below w.heap.size w w' := by
  have HT := Lib.hid hT
  have HB := Lib.hid (Below.refl w.heap.size w)
  clear hT
  go_enter Tryz.func137, Tryz.ntmps137
  go_wp2_with (refine wpList_load_row rfl 77 _ rfl _ 0 opsLs opsV rfl ops_agg ops_size rfl HT.out.opsLs ?_)
  go_loopw [7] (fun i wr => ∃ k : Nat, k ≤ 13 ∧ i = .int .i64 k ∧ Hid (∀ j, j < k → (opsR j).2 ≠ n) ∧ Below w.heap.size w wr) (fun i _ => 13 - (intOf i).toNat)
  case atStart => exact ⟨0, by omega, rfl, Lib.hid (fun j hj => by omega), HB.out⟩
  case round =>
    obtain ⟨k, hk, rfl, HK, hb⟩ := hrel
    by_cases hlt : k < 13
    · have hi := fun W => ops_ix k hlt W
      have k1 : (k : Int) < 13 := by omega
      have HBx := Lib.hid hb
      have HL := Lib.hid hlt
      have HNew := Lib.hid (hb.alloc hb.size (.cells #[.string (opsW k), .int .i64 (opsR k).2] 76))
      have HR := Lib.hid (show (opsR k).2 = n → OwP n (.returned (.tuple #[.string (opsW k), .bool true])) from fun e => .inl ⟨k, HL.out, e, HK.out, rfl⟩)
      have HS := Lib.hid (show (opsR k).2 ≠ n → ∀ j, j < k + 1 → (opsR j).2 ≠ n from fun e j hj => by
        by_cases h : j = k
        · subst h; exact e
        · exact HK.out j (by omega))
      have hu := opsR_u k hlt
      generalize opsW k = x at hi HNew HR
      generalize (opsR k).2 = v at hi HNew HR HS hu
      clear hb hlt hk
      by_cases he : v = n
      · have g : (v == n) = true := by rw [beq_iff_eq]; exact he
        have HE := Lib.hid he
        clear he
        go_wp2
        go_ret2
        exact ⟨HR.out HE.out, HNew.out⟩
      · have g : (v == n) = false := by rw [beq_eq_false_iff_ne]; exact he
        have HE := Lib.hid he
        clear he
        go_wp2
        go_roundw
        case rel => exact ⟨k + 1, by have := HL.out; omega, by go_num, Lib.hid (HS.out HE.out), HNew.out⟩
        case measure => have := HL.out; simp [intOf]; omega
    · obtain rfl : k = 13 := by omega
      have HBx := Lib.hid hb
      clear hb
      go_wp2
      go_ret2
      exact ⟨.inr ⟨HK.out, rfl⟩, HBx.out⟩
end Go.Proofs.YtbhdbglhejibbaaGreatDoor
namespace Go.Proofs.YtbhdbglhejibbaaGreatDoor
set_option maxRecDepth 100000
open Go.RowKit
set_option linter.unusedVariables false
def opB (n : Int) : Bool := (List.range 13).any (fun k => (opsR k).2 == n)
theorem OwP.out {n : Int} {e : Ending} (h : OwP n e) : ∃ x, e = .returned (.tuple #[.string x, .bool (opB n)]) := by
  rcases h with ⟨k, hk, e1, _, rfl⟩ | ⟨hn, rfl⟩
  · refine ⟨opsW k, ?_⟩
    rw [show opB n = true from by
      unfold opB
      rw [List.any_eq_true]
      exact ⟨k, by simpa using hk, by rw [beq_iff_eq]; exact e1⟩]
  · refine ⟨⟨#[]⟩, ?_⟩
    rw [show opB n = false from by
      unfold opB
      rw [List.any_eq_false]
      intro k hk
      have := hn k (by simpa using hk)
      rw [beq_iff_eq]; exact this]
def mnB (k n : Int) : Bool := if k = 0 then true else if k = 3 then opB n else n == 0
theorem mayNum_any (k n : Int) (s : ByteArray) (A : Option Addr) (m c : Nat) (w : World) (hT : TrT w) : Calls Tryz.prog 127 #[.agg #[.int .i64 k, .int .u64 n, .string s, .slice A m c]] w fun e w' => e = .returned (.bool (mnB k n)) ∧ Below w.heap.size w w' := by
  have HB := Lib.hid ((Below.refl w.heap.size w).alloc (Nat.le_refl _) (.cells #[.int .i64 k, .int .u64 n, .string s, .slice A m c] 42))
  have HT := Lib.hid (hT.below HB.out)
  clear hT
  by_cases h0 : k = 0
  · have HR := Lib.hid (show mnB k n = true by unfold mnB; rw [if_pos h0])
    have g : (k == 0) = true := by rw [beq_iff_eq]; exact h0
    clear h0
    go_enter Tryz.func127, Tryz.ntmps127
    go_wp2
    go_ret
    exact ⟨ret_bool HR.out.symm, HB.out⟩
  · have g : (k == 0) = false := by rw [beq_eq_false_iff_ne]; exact h0
    by_cases h3 : k = 3
    · have HR := Lib.hid (show mnB k n = opB n by unfold mnB; rw [if_neg h0, if_pos h3])
      have g3 : (k == 3) = true := by rw [beq_iff_eq]; exact h3
      clear h0 h3
      go_enter Tryz.func127, Tryz.ntmps127
      go_wp2_with fail
      refine (opWord_any n _ HT.out).mono ?_
      rintro e w' ⟨h, hb⟩
      obtain ⟨x, rfl⟩ := h.out
      have HB2 := Lib.hid (HB.out.trans (hb.mono HB.out.size))
      clear h hb
      go_wp2
      go_ret
      exact ⟨ret_bool HR.out.symm, HB2.out⟩
    · have HR := Lib.hid (show mnB k n = (n == 0) by unfold mnB; rw [if_neg h0, if_neg h3])
      have g3 : (k == 3) = false := by rw [beq_eq_false_iff_ne]; exact h3
      clear h0 h3
      go_enter Tryz.func127, Tryz.ntmps127
      go_wp2
      go_ret
      exact ⟨ret_bool HR.out.symm, HB.out⟩
def stmLs : List Value := (List.range 5).flatMap stmC
def stmV : Array Value := stmLs.toArray
theorem stmLs_at : ∀ n, n < 5 → ∀ j, j < 5 → nthV stmLs (n * 5 + j) = nthV (stmC n) j := by
  intro n hn j hj
  match n, hn with
  | 0, _ => match j, hj with
    | 0, _ => rfl
    | 1, _ => rfl
    | 2, _ => rfl
    | 3, _ => rfl
    | 4, _ => rfl
  | 1, _ => match j, hj with
    | 0, _ => rfl
    | 1, _ => rfl
    | 2, _ => rfl
    | 3, _ => rfl
    | 4, _ => rfl
  | 2, _ => match j, hj with
    | 0, _ => rfl
    | 1, _ => rfl
    | 2, _ => rfl
    | 3, _ => rfl
    | 4, _ => rfl
  | 3, _ => match j, hj with
    | 0, _ => rfl
    | 1, _ => rfl
    | 2, _ => rfl
    | 3, _ => rfl
    | 4, _ => rfl
  | 4, _ => match j, hj with
    | 0, _ => rfl
    | 1, _ => rfl
    | 2, _ => rfl
    | 3, _ => rfl
    | 4, _ => rfl
theorem TrT.stmLs {w : World} (h : TrT w) : ∀ j, j < Go.Proofs.YtbhdbglhejibbaaGreatDoor.stmLs.length → w.cell? ⟨1, 0 + j, none⟩ = some (nthV Go.Proofs.YtbhdbglhejibbaaGreatDoor.stmLs j) := by
  intro j hj
  have hj : j < 25 := hj
  have e := h.stm (j / 5) (by omega) (j % 5) (by omega)
  rw [← stmLs_at (j / 5) (by omega) (j % 5) (by omega), show j / 5 * 5 + j % 5 = j by omega] at e
  rw [Nat.zero_add]; exact e
theorem stm_agg (w : World) : (isAgg 111).run Tryz.prog w = .ok true w := by kernel_rfl
theorem stm_size (w : World) : (sizeOf 111).run Tryz.prog w = .ok stmLs.length w := by kernel_rfl
theorem stm_ix (k : Nat) (hk : k < 5) (w : World) : (Instr.index 111 (.agg stmV) (.int .i64 k)).run Tryz.prog w = .ok (.agg #[strV (stmR k).1, .bool (stmR k).2.1, .bool (stmR k).2.2.1, .int .i64 (stmR k).2.2.2.1, .int .i64 (stmR k).2.2.2.2]) w := by
  match k, hk with
  | 0, _ => show _ = _; kernel_rfl
  | 1, _ => show _ = _; kernel_rfl
  | 2, _ => show _ = _; kernel_rfl
  | 3, _ => show _ = _; kernel_rfl
  | 4, _ => show _ = _; kernel_rfl
def expLs : List Value := (List.range 7).flatMap expC
def expV : Array Value := expLs.toArray
theorem expLs_at : ∀ n, n < 7 → ∀ j, j < 4 → nthV expLs (n * 4 + j) = nthV (expC n) j := by
  intro n hn j hj
  match n, hn with
  | 0, _ => match j, hj with
    | 0, _ => rfl
    | 1, _ => rfl
    | 2, _ => rfl
    | 3, _ => rfl
  | 1, _ => match j, hj with
    | 0, _ => rfl
    | 1, _ => rfl
    | 2, _ => rfl
    | 3, _ => rfl
  | 2, _ => match j, hj with
    | 0, _ => rfl
    | 1, _ => rfl
    | 2, _ => rfl
    | 3, _ => rfl
  | 3, _ => match j, hj with
    | 0, _ => rfl
    | 1, _ => rfl
    | 2, _ => rfl
    | 3, _ => rfl
  | 4, _ => match j, hj with
    | 0, _ => rfl
    | 1, _ => rfl
    | 2, _ => rfl
    | 3, _ => rfl
  | 5, _ => match j, hj with
    | 0, _ => rfl
    | 1, _ => rfl
    | 2, _ => rfl
    | 3, _ => rfl
  | 6, _ => match j, hj with
    | 0, _ => rfl
    | 1, _ => rfl
    | 2, _ => rfl
    | 3, _ => rfl
theorem TrT.expLs {w : World} (h : TrT w) : ∀ j, j < Go.Proofs.YtbhdbglhejibbaaGreatDoor.expLs.length → w.cell? ⟨2, 0 + j, none⟩ = some (nthV Go.Proofs.YtbhdbglhejibbaaGreatDoor.expLs j) := by
  intro j hj
  have hj : j < 28 := hj
  have e := h.exp (j / 4) (by omega) (j % 4) (by omega)
  rw [← expLs_at (j / 4) (by omega) (j % 4) (by omega), show j / 4 * 4 + j % 4 = j by omega] at e
  rw [Nat.zero_add]; exact e
theorem exp_agg (w : World) : (isAgg 118).run Tryz.prog w = .ok true w := by kernel_rfl
theorem exp_size (w : World) : (sizeOf 118).run Tryz.prog w = .ok expLs.length w := by kernel_rfl
theorem exp_ix (k : Nat) (hk : k < 7) (w : World) : (Instr.index 118 (.agg expV) (.int .i64 k)).run Tryz.prog w = .ok (.agg #[strV (expR k).1, .bool (expR k).2.1, .int .i64 (expR k).2.2.1, .int .i64 (expR k).2.2.2]) w := by
  match k, hk with
  | 0, _ => show _ = _; kernel_rfl
  | 1, _ => show _ = _; kernel_rfl
  | 2, _ => show _ = _; kernel_rfl
  | 3, _ => show _ = _; kernel_rfl
  | 4, _ => show _ = _; kernel_rfl
  | 5, _ => show _ = _; kernel_rfl
  | 6, _ => show _ = _; kernel_rfl
def exB (k n : Int) (s : ByteArray) (m : Nat) : Bool := betB k 0 6 && nmB (expR k.toNat).2.1 s && mnB k n && betB m (expR k.toNat).2.2.1 (expR k.toNat).2.2.2
set_option maxHeartbeats 1000000 in
theorem mayExpr_any (k n : Int) (s : ByteArray) (A : Option Addr) (m c : Nat) (w : World) (hT : TrT w) : Calls Tryz.prog 110 #[.agg #[.int .i64 k, .int .u64 n, .string s, .slice A m c]] w fun e w' => e = .returned (.bool (exB k n s m)) ∧ Below w.heap.size w w' := by
  have HB := Lib.hid ((Below.refl w.heap.size w).alloc (Nat.le_refl _) (.cells #[.int .i64 k, .int .u64 n, .string s, .slice A m c] 42))
  have HT := Lib.hid (hT.below HB.out)
  clear hT
  cases hb : betB k 0 6 with
  | false =>
    have HR := Lib.hid (show exB k n s m = false by unfold exB; rw [hb]; rfl)
    have HK := Lib.hid hb
    clear hb
    go_enter Tryz.func110, Tryz.ntmps110
    go_wp2_with fail
    refine (twithin_any _ _ _ _).mono ?_
    rw [HK.out]
    rintro e w' ⟨rfl, rfl⟩
    go_wp2
    go_ret
    exact ⟨ret_bool HR.out.symm, HB.out⟩
  | true =>
    have hk : 0 ≤ k ∧ k ≤ 6 := by
      unfold betB at hb
      rw [Bool.and_eq_true, decide_eq_true_iff, decide_eq_true_iff] at hb
      exact hb
    obtain ⟨q, rfl⟩ : ∃ q : Nat, k = q := ⟨k.toNat, by omega⟩
    have HK := Lib.hid hb
    have hq : (q : Int) < 7 := by omega
    have y0 := HT.out.exp q (by omega) 0 (by decide)
    have y1 := HT.out.exp q (by omega) 1 (by decide)
    have y2 := HT.out.exp q (by omega) 2 (by decide)
    have y3 := HT.out.exp q (by omega) 3 (by decide)
    simp only [expC, nthV, strV, List.getD_cons_zero, List.getD_cons_succ, Nat.add_zero] at y0 y1 y2 y3
    have HR := Lib.hid (show exB q n s m = (nmB (expR q).2.1 s && mnB q n && betB m (expR q).2.2.1 (expR q).2.2.2) by unfold exB; rw [hb]; rfl)
    clear hb hk
    go_enter Tryz.func110, Tryz.ntmps110
    go_wp2_with fail
    refine (twithin_any _ _ _ _).mono ?_
    rw [HK.out]
    rintro e w' ⟨rfl, rfl⟩
    have HT2 := Lib.hid (fun t => HT.out.below ((Below.refl _ _).alloc (Nat.le_refl _) (.cells #[.string ⟨(expR q).1.toArray⟩, .bool (expR q).2.1, .int .i64 (expR q).2.2.1, .int .i64 (expR q).2.2.2] t)))
    have HB2 := Lib.hid (HB.out.alloc HB.out.size (.cells #[.string ⟨(expR q).1.toArray⟩, .bool (expR q).2.1, .int .i64 (expR q).2.2.1, .int .i64 (expR q).2.2.2] 117))
    generalize (expR q).1.toArray = z at *
    generalize (expR q).2.1 = nd at *
    generalize (expR q).2.2.1 = lo at *
    generalize (expR q).2.2.2 = hi at *
    cases h1 : nmB nd s with
    | false =>
      have HR2 := Lib.hid (show exB q n s m = false by rw [HR.out, h1]; rfl)
      have H1 := Lib.hid h1
      clear h1
      go_wp2_with fail
      refine (mayName_any _ _ _).mono ?_
      rw [H1.out]
      rintro e w' ⟨rfl, rfl⟩
      go_wp2
      go_ret
      exact ⟨ret_bool HR2.out.symm, HB2.out⟩
    | true =>
      have H1 := Lib.hid h1
      have HR2 := Lib.hid (show exB q n s m = (mnB q n && betB m lo hi) by rw [HR.out, h1]; rfl)
      clear h1
      go_wp2_with fail
      refine (mayName_any _ _ _).mono ?_
      rw [H1.out]
      rintro e w' ⟨rfl, rfl⟩
      go_wp2_with fail
      refine (mayNum_any _ _ _ _ _ _ _ (HT2.out _)).mono ?_
      rintro e w3 ⟨rfl, hb3⟩
      have HB3 := Lib.hid (HB2.out.trans (hb3.mono HB2.out.size))
      have z0 : w3.cell? ⟨w.heap.size, 3, none⟩ = some (.slice A m c) := by
        rw [hb3.cell (p := ⟨_, _, none⟩) (by simp; omega)]
        rw [World.cell?_of_block (heap_alloc_old _ _ (by simp))]
        rw [World.cell?_alloc_new]; rfl
      have z1 : w3.cell? ⟨w.heap.size + 1, 2, none⟩ = some (.int .i64 lo) := by
        rw [hb3.cell (p := ⟨_, _, none⟩) (by simp)]
        simp
      have z2 : w3.cell? ⟨w.heap.size + 1, 3, none⟩ = some (.int .i64 hi) := by
        rw [hb3.cell (p := ⟨_, _, none⟩) (by simp)]
        simp
      clear hb3
      cases h2 : mnB q n with
      | false =>
        have HR3 := Lib.hid (show exB q n s m = false by rw [HR2.out, h2]; rfl)
        clear h2
        go_wp2
        go_ret
        exact ⟨ret_bool HR3.out.symm, HB3.out⟩
      | true =>
        have HR3 := Lib.hid (show exB q n s m = betB m lo hi by rw [HR2.out, h2]; rfl)
        clear h2
        go_wp2_with fail
        refine (twithin_any _ _ _ _).mono ?_
        rintro e w' ⟨rfl, rfl⟩
        go_wp2
        go_ret
        exact ⟨ret_bool HR3.out.symm, HB3.out⟩
def lisB (l : Int) (t e : Nat) : Bool := (decide (0 < l) || (t : Int) == 0) && (decide (1 < l) || (e : Int) == 0)
def stB (k : Int) (s : ByteArray) (n : Int) (a t e : Nat) : Bool := betB k 0 4 && nmB (stmR k.toNat).2.1 s && cntB (stmR k.toNat).2.2.1 n && ((a : Int) == (stmR k.toNat).2.2.2.1) && lisB (stmR k.toNat).2.2.2.2 t e
set_option maxHeartbeats 1000000 in
theorem mayStmt_any (k : Int) (s : ByteArray) (n : Int) (A1 A2 A3 : Option Addr) (a ca t ct e ce : Nat) (w : World) (hT : TrT w) : Calls Tryz.prog 112 #[.agg #[.int .i64 k, .string s, .int .i64 n, .slice A1 a ca, .slice A2 t ct, .slice A3 e ce]] w fun x w' => x = .returned (.bool (stB k s n a t e)) ∧ Below w.heap.size w w' := by
  have HB := Lib.hid ((Below.refl w.heap.size w).alloc (Nat.le_refl _) (.cells #[.int .i64 k, .string s, .int .i64 n, .slice A1 a ca, .slice A2 t ct, .slice A3 e ce] 45))
  have HT := Lib.hid (hT.below HB.out)
  clear hT
  cases hb : betB k 0 4 with
  | false =>
    have HR := Lib.hid (show stB k s n a t e = false by unfold stB; rw [hb]; rfl)
    have HK := Lib.hid hb
    clear hb
    go_enter Tryz.func112, Tryz.ntmps112
    go_wp2_with fail
    refine (twithin_any _ _ _ _).mono ?_
    rw [HK.out]
    rintro x w' ⟨rfl, rfl⟩
    go_wp2
    go_ret
    exact ⟨ret_bool HR.out.symm, HB.out⟩
  | true =>
    have hk : 0 ≤ k ∧ k ≤ 4 := by
      unfold betB at hb
      rw [Bool.and_eq_true, decide_eq_true_iff, decide_eq_true_iff] at hb
      exact hb
    obtain ⟨q, rfl⟩ : ∃ q : Nat, k = q := ⟨k.toNat, by omega⟩
    have HK := Lib.hid hb
    have hq : (q : Int) < 5 := by omega
    have y0 := HT.out.stm q (by omega) 0 (by decide)
    have y1 := HT.out.stm q (by omega) 1 (by decide)
    have y2 := HT.out.stm q (by omega) 2 (by decide)
    have y3 := HT.out.stm q (by omega) 3 (by decide)
    have y4 := HT.out.stm q (by omega) 4 (by decide)
    simp only [stmC, nthV, strV, List.getD_cons_zero, List.getD_cons_succ, Nat.add_zero] at y0 y1 y2 y3 y4
    have HR := Lib.hid (show stB q s n a t e = (nmB (stmR q).2.1 s && cntB (stmR q).2.2.1 n && ((a : Int) == (stmR q).2.2.2.1) && lisB (stmR q).2.2.2.2 t e) by unfold stB; rw [hb]; rfl)
    clear hb hk
    go_enter Tryz.func112, Tryz.ntmps112
    go_wp2_with fail
    refine (twithin_any _ _ _ _).mono ?_
    rw [HK.out]
    rintro x w' ⟨rfl, rfl⟩
    have HB2 := Lib.hid (HB.out.alloc HB.out.size (.cells #[.string ⟨(stmR q).1.toArray⟩, .bool (stmR q).2.1, .bool (stmR q).2.2.1, .int .i64 (stmR q).2.2.2.1, .int .i64 (stmR q).2.2.2.2] 110))
    generalize (stmR q).1.toArray = z at *
    generalize (stmR q).2.1 = nd at *
    generalize (stmR q).2.2.1 = cd at *
    generalize (stmR q).2.2.2.1 = ar at *
    generalize (stmR q).2.2.2.2 = li at *
    cases h1 : nmB nd s with
    | false =>
      have HR2 := Lib.hid (show stB q s n a t e = false by rw [HR.out, h1]; rfl)
      have H1 := Lib.hid h1
      clear h1
      go_wp2_with fail
      refine (mayName_any _ _ _).mono ?_
      rw [H1.out]
      rintro x w' ⟨rfl, rfl⟩
      go_wp2
      go_ret
      exact ⟨ret_bool HR2.out.symm, HB2.out⟩
    | true =>
      have H1 := Lib.hid h1
      have HR2 := Lib.hid (show stB q s n a t e = (cntB cd n && ((a : Int) == ar) && lisB li t e) by rw [HR.out, h1]; rfl)
      clear h1
      cases h2 : cntB cd n with
      | false =>
        have H2 := Lib.hid h2
        have HR3 := Lib.hid (show stB q s n a t e = false by rw [HR2.out, h2]; rfl)
        clear h2
        go_wp2_with fail
        refine (mayName_any _ _ _).mono ?_
        rw [H1.out]
        rintro x w' ⟨rfl, rfl⟩
        go_wp2_with fail
        refine (mayCount_any _ _ _).mono ?_
        rw [H2.out]
        rintro x w' ⟨rfl, rfl⟩
        go_wp2
        go_ret
        exact ⟨ret_bool HR3.out.symm, HB2.out⟩
      | true =>
        have H2 := Lib.hid h2
        have HR3 := Lib.hid (show stB q s n a t e = (((a : Int) == ar) && lisB li t e) by rw [HR2.out, h2]; rfl)
        clear h2
        go_wp2_with fail
        refine (mayName_any _ _ _).mono ?_
        rw [H1.out]
        rintro x w' ⟨rfl, rfl⟩
        go_wp2_with fail
        refine (mayCount_any _ _ _).mono ?_
        rw [H2.out]
        rintro x w' ⟨rfl, rfl⟩
        go_wp2
        all_goals
          go_ret
          refine ⟨ret_bool ?_, HB2.out⟩
          rw [HR3.out, Bool.eq_iff_iff]
          unfold lisB
          simp
          try omega
end Go.Proofs.YtbhdbglhejibbaaGreatDoor
