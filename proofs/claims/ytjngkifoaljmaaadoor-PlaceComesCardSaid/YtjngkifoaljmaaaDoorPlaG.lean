/- Layer 8: all texts, plainly; a row of words that grows and is written. Condition: the tables of package ins read as they should. -/
import Derived.Test.YtjngkifoaljmaaaDoorPlaF
namespace Go.Proofs.YtjngkifoaljmaaaDoor
set_option maxRecDepth 100000
open Go.RowKit
set_option linter.unusedVariables false
/-- the address of what a Def says -/
def adrD (l : List ObjD) (xs : List (Int × Int)) (p : Int × Int) : Int := adr1 (xs.getD p.1.toNat (0, 0)) (symAt (nAt l p.1.toNat) p.2.toNat).2.1 (symAt (nAt l p.1.toNat) p.2.toNat).2.2.1
def tgD (l : List ObjD) (xs : List (Int × Int)) (i : Nat) (nm : ByteArray) (add : Int) : Int := match fndD l (i : Int) nm with
  | some p => tgV (adrD l xs p) add
  | none => 0
/-- which word a relocation is of -/
def posR (d : ObjD) (j : Nat) : Nat := ((relAt d j).1 / 4).toNat
/-- what becomes of it -/
def relX (l : List ObjD) (xs : List (Int × Int)) (i : Nat) (d : ObjD) (j : Nat) : Option Int :=
  doneV (d.text.getD (posR d j) 0) (relAt d j).2.1 (IntKind.u64.wrap ((xs.getD i (0, 0)).1 + IntKind.u64.wrap (relAt d j).1)) (tgD l xs i (relAt d j).2.2.1 (relAt d j).2.2.2)
/-- an object's text, the first relocations done -/
def relT (l : List ObjD) (xs : List (Int × Int)) (i : Nat) (d : ObjD) : Nat → Option (List Int)
  | 0 => some d.text
  | j + 1 => match relT l xs i d j with
    | none => none
    | some t => match relX l xs i d j with
      | none => none
      | some y => some (t.set (posR d j) y)
/-- all texts of the first objects -/
def txT (l : List ObjD) (xs : List (Int × Int)) : Nat → Option (List Int)
  | 0 => some []
  | k + 1 => match txT l xs k with
    | none => none
    | some a => match relT l xs k (nAt l k) (nAt l k).rels.length with
      | none => none
      | some t => some (a ++ t)
theorem relT_len {l : List ObjD} {xs : List (Int × Int)} {i : Nat} {d : ObjD} : ∀ {j : Nat} {t : List Int}, relT l xs i d j = some t → t.length = d.text.length
  | 0, t, h => by cases h; rfl
  | j + 1, t, h => by
    unfold relT at h
    cases e : relT l xs i d j with
    | none => rw [e] at h; cases h
    | some t' =>
      rw [e] at h
      cases e2 : relX l xs i d j with
      | none => rw [e2] at h; cases h
      | some y =>
        rw [e2] at h
        simp only [Option.some.injEq] at h
        subst h
        rw [List.length_set]; exact relT_len e
/-- a word of no relocation yet is as it was -/
theorem relT_same {l : List ObjD} {xs : List (Int × Int)} {i : Nat} {d : ObjD} {p : Nat} : ∀ {j : Nat} {t : List Int}, relT l xs i d j = some t → (∀ k, k < j → posR d k ≠ p) → t.getD p 0 = d.text.getD p 0
  | 0, t, h, _ => by cases h; rfl
  | j + 1, t, h, hp => by
    unfold relT at h
    cases e : relT l xs i d j with
    | none => rw [e] at h; cases h
    | some t' =>
      rw [e] at h
      cases e2 : relX l xs i d j with
      | none => rw [e2] at h; cases h
      | some y =>
        rw [e2] at h
        simp only [Option.some.injEq] at h
        subst h
        have h1 := relT_same e (fun k hk => hp k (by omega))
        rw [← h1]
        simp only [List.getD_eq_getElem?_getD]
        rw [List.getElem?_set_ne (hp j (by omega))]
theorem relT_none {l : List ObjD} {xs : List (Int × Int)} {i : Nat} {d : ObjD} {j : Nat} (h : relT l xs i d j = none) : ∀ {m : Nat}, j ≤ m → relT l xs i d m = none
  | 0, hm => by have : j = 0 := by omega
                subst this; exact h
  | m + 1, hm => by
    by_cases e : j = m + 1
    · subst e; exact h
    · unfold relT
      rw [relT_none h (m := m) (by omega)]
theorem relT_go {l : List ObjD} {xs : List (Int × Int)} {i : Nat} {d : ObjD} {j : Nat} {t : List Int} {y : Int} (h : relT l xs i d j = some t) (hy : relX l xs i d j = some y) : relT l xs i d (j + 1) = some (t.set (posR d j) y) := by
  unfold relT; rw [h]; simp only; rw [hy]
theorem relT_bad {l : List ObjD} {xs : List (Int × Int)} {i : Nat} {d : ObjD} {j : Nat} (hy : relX l xs i d j = none) : relT l xs i d (j + 1) = none := by
  unfold relT
  cases relT l xs i d j with
  | none => rfl
  | some t => simp only; rw [hy]
theorem txT_none {l : List ObjD} {xs : List (Int × Int)} {k : Nat} (h : txT l xs k = none) : ∀ {m : Nat}, k ≤ m → txT l xs m = none
  | 0, hm => by have : k = 0 := by omega
                subst this; exact h
  | m + 1, hm => by
    by_cases e : k = m + 1
    · subst e; exact h
    · unfold txT
      rw [txT_none h (m := m) (by omega)]
theorem txT_bad {l : List ObjD} {xs : List (Int × Int)} {k j : Nat} (hj : j < (nAt l k).rels.length) (hy : relX l xs k (nAt l k) j = none) : ∀ {m : Nat}, k < m → txT l xs m = none := fun {m} hm => by
  refine txT_none (k := k + 1) ?_ (by omega)
  unfold txT
  cases txT l xs k with
  | none => rfl
  | some a => simp only; rw [relT_none (relT_bad hy) (by omega)]
theorem txT_go {l : List ObjD} {xs : List (Int × Int)} {k : Nat} {a t : List Int} (h : txT l xs k = some a) (ht : relT l xs k (nAt l k) (nAt l k).rels.length = some t) : txT l xs (k + 1) = some (a ++ t) := by
  unfold txT; rw [h]; simp only; rw [ht]
theorem txT_len {l : List ObjD} {xs : List (Int × Int)} : ∀ {k : Nat} {a : List Int}, k ≤ l.length → txT l xs k = some a → a.length = sumT l k
  | 0, a, _, h => by cases h; rfl
  | k + 1, a, hk, h => by
    unfold txT at h
    cases e : txT l xs k with
    | none => rw [e] at h; cases h
    | some a' =>
      rw [e] at h
      cases e2 : relT l xs k (nAt l k) (nAt l k).rels.length with
      | none => rw [e2] at h; cases h
      | some t =>
        rw [e2] at h
        simp only [Option.some.injEq] at h
        subst h
        rw [List.length_append, txT_len (by omega) e, relT_len e2, sumT_go (by omega), nAt_get (by omega)]
/-- a row of words of the call's own -/
def TxAt (w : World) (base : Nat) (xs : List Int) (v : Value) : Prop := ∃ A c, v = .slice A xs.length c ∧ w.ownsRow base 22 1 v xs.length (xs.flatMap encU32)
theorem TxAt.below {w w' : World} {b : Nat} {xs : List Int} {v : Value} (h : TxAt w b xs v) (hb : Below w.heap.size w w') : TxAt w' b xs v := by
  obtain ⟨A, c, e, h⟩ := h; exact ⟨A, c, e, rowO_below h hb⟩
theorem enc32_at {xs : List Int} {i : Nat} (h : i < xs.length) : (xs.flatMap encU32)[i]? = some (.int .u32 xs[i]) := by
  have e : xs.flatMap encU32 = xs.map (Value.int .u32) := by
    induction xs with
    | nil => rfl
    | cons x xs ih =>
      rw [List.flatMap_cons, List.map_cons]
      by_cases hx : i < xs.length
      · rw [ih hx]; rfl
      · have : ∀ ys : List Int, ys.flatMap encU32 = ys.map (Value.int .u32) := fun ys => by
          induction ys with
          | nil => rfl
          | cons y ys ih => rw [List.flatMap_cons, List.map_cons, ih]; rfl
        rw [this]; rfl
  rw [e, List.getElem?_map, List.getElem?_eq_getElem h]; rfl
theorem enc32_len (xs : List Int) : (xs.flatMap encU32).length = xs.length := by
  induction xs with
  | nil => rfl
  | cons x xs ih => rw [List.flatMap_cons, List.length_append, ih]; simp [encU32]; omega
theorem enc32_set (xs : List Int) (i : Nat) (y : Int) : (xs.set i y).flatMap encU32 = (xs.flatMap encU32).set i (.int .u32 y) := by
  induction xs generalizing i with
  | nil => rfl
  | cons x xs ih =>
    cases i with
    | zero => rfl
    | succ i => rw [List.set_cons_succ, List.flatMap_cons, ih, List.flatMap_cons]; rfl
/-- one cell of a row of the call's own is written -/
theorem own_write {w : World} {base n g cap j : Nat} {ty : TypeId} {cs : List Value} {u : Value} (h : w.ownsRow base ty 1 (.slice (some ⟨g, 0, none⟩) n cap) n cs) : (w.setCell ⟨g, j, none⟩ u).ownsRow base ty 1 (.slice (some ⟨g, 0, none⟩) n cap) n (cs.set j u) := by
  rcases h.2 with ⟨h1, h2⟩ | ⟨g', cap', cur, h1, h2, h3, h4, h5, h6, h7⟩
  · cases h1
  · cases h1
    refine ⟨by rw [List.length_set]; exact h.1, .inr ⟨g, cap, cur.setIfInBounds j u, rfl, h2, heap_setCell_same w g j _ _ u h3, h4, h5, by rw [Array.size_setIfInBounds]; exact h6, ?_⟩⟩
    rw [Array.toList_setIfInBounds, List.take_set, h7]
theorem TxAt.write {w : World} {base n g cap j : Nat} {xs : List Int} {y : Int} (h : TxAt w base xs (.slice (some ⟨g, 0, none⟩) n cap)) : TxAt (w.setCell ⟨g, j, none⟩ (.int .u32 y)) base (xs.set j y) (.slice (some ⟨g, 0, none⟩) n cap) := by
  obtain ⟨A, c, e, ho⟩ := h
  cases e
  refine ⟨some ⟨g, 0, none⟩, cap, by rw [List.length_set], ?_⟩
  rw [List.length_set, enc32_set]
  exact own_write ho
theorem TxAt.at_ {w : World} {base n c i : Nat} {xs : List Int} {A : Option Addr} (h : TxAt w base xs (.slice A n c)) (hi : i < xs.length) : ∃ g, A = some ⟨g, 0, none⟩ ∧ base ≤ g ∧ w.cell? ⟨g, i, none⟩ = some (.int .u32 xs[i]) ∧ ∃ cur cp, w.heap[g]? = some (.cells cur 22 (0, 0)) ∧ cur.size = cp ∧ i < cp := by
  obtain ⟨A', c', e, ho⟩ := h
  cases e
  rcases ho.2 with ⟨h1, h2⟩ | ⟨g', cap', cur, h1, h2, h3, h4, h5, h6, h7⟩
  · omega
  · cases h1
    have hx := enc32_at hi
    refine ⟨g', rfl, h2, ?_, cur, cur.size, h3, rfl, by omega⟩
    rw [cell_of_row w g' i _ _ _ h3]
    rw [← h7, List.getElem?_take] at hx
    split at hx
    · rw [← Array.getElem?_toList]; exact hx
    · cases hx
theorem TxAt.len {w : World} {b n c : Nat} {xs : List Int} {A : Option Addr} (h : TxAt w b xs (.slice A n c)) : xs.length = n := by
  obtain ⟨A', c', e, h⟩ := h; cases e; rfl
theorem run_append_nilc {P : Program} {w : World} (base : Nat) (t ty e : TypeId) (i : TypeInfo) (size c : Nat) (ht : P.underlying t = some (.slice e)) (hi : P.info? e = some i)
    (v : Value) (n : Nat) (xs : List Value) (hown : w.ownsRow base e size v n xs) :
    (Builtin.append_ #[t, t] ty #[v, .slice none 0 c]).run P w = .ok v w := by
  rcases hown.2 with ⟨rfl, rfl⟩ | ⟨g, cap, cur, rfl, _, _, hnc, _⟩
  · simp [Builtin.append_, run_underlying ht, sizeOf, typeInfo, hi, Builtin.lenOf, Builtin.firstCells]
  · simp [Builtin.append_, run_underlying ht, sizeOf, typeInfo, hi, Builtin.lenOf, Builtin.firstCells, hnc, storeCells]
/-- whatever row is put behind a row of the call's own -/
theorem wpList_append_any8 {P : Program} {ops : Array Oper} {rest : List Oper} {o : Oper} {a : Act} {Q : Exit → Act → World → Prop} {w : World} (hgd : o.guard = none) (s x : Operand) (t : TypeId)
    (ho : o.op = .call { callee := .builtin .append, args := #[s, x], argTypes := #[t, t] })
    (base : Nat) (e : TypeId) (i : TypeInfo) (z : Value) (bytes : Nat) (ht : P.underlying t = some (.slice e)) (hi : P.info? e = some i) (hz : i.zero = some z)
    (hsize : i.size = 1) (hby : i.bytes = bytes) (hzs : z.cells.size = 1)
    (v : Value) (n : Nat) (xs : List Value) (hs : a.eval s = v) (hown : w.ownsRow base e 1 v n xs)
    (ao : Option Addr) (m c lo hi_ : Nat) (news : List Value) (hx : a.eval x = .slice ao m c) (hl : news.length = m) (hr : RowC w lo hi_ ao news) (h1 : ∀ u ∈ news, u.oneCell' = true)
    (h63 : n + m ≤ maxLen) (hbytes : (n + m) * bytes ≤ 140737488355328) (hbase : base ≤ w.heap.size)
    (h : ∀ v' w', w'.ownsRow base e 1 v' (n + m) (xs ++ news) → w.grownBy w' v.ownBlock → wpList P ops Q rest (a.put o.dst v') w') : wpList P ops Q (o :: rest) a w := by
  cases ao with
  | none =>
    have hn : news = [] := by
      rcases hr with hr | ⟨b, o', e', _⟩
      · exact hr
      · cases e'
    subst hn
    have hm : m = 0 := by simpa using hl.symm
    subst hm
    refine wpList_plain hgd fun K hK => ?_
    have hrun := run_append_nilc (P := P) (w := w) base t o.type e i 1 c ht hi v n xs hown
    unfold Oper.wp
    simp [execOp, ho, resolve, invoke, builtin, hs, hx, hrun, Result.andThen]
    exact hK _ _ (h v w (by simpa using hown) (World.grownBy.refl _ _))
  | some ad =>
    refine wpList_append_at6 hgd s x t ho base e i z 1 bytes ht hi hz hsize hby hzs (by decide) v n xs hs hown ad m c news hx (by omega) ?_ h1 h63 hbytes hbase (fun v' w' g1 g2 _ => h v' w' g1 g2)
    intro j u hj
    rcases hr with hr | ⟨b, o', e', _, _, hc⟩
    · rw [hr] at hj; cases hj
    · cases e'
      have hq := hc j u hj
      by_cases hj0 : j = 0
      · subst hj0; simpa [Addr.add] using hq
      · simpa [Addr.add, hj0] using hq
end Go.Proofs.YtjngkifoaljmaaaDoor
