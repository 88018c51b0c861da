/- Layer 6: the reader of package obj: an object.
   Layer 6: the reader of package obj: all of a row of bytes. -/
import Derived.Test.YtjngkifoaljmaaaGreatDoorObjC
namespace Go.Proofs.YtjngkifoaljmaaaGreatDoor
set_option maxRecDepth 100000
open Go.RowKit
set_option linter.unusedVariables false
/-- an object as it lies, in blocks from lo on, below hi -/
def ObjAt (w : World) (lo hi : Nat) (d : ObjD) (v : Value) : Prop := ∃ A1 c1 A2 c2 A3 c3 A4 c4 A5 c5 es, v = .agg #[.slice A1 d.text.length c1, .slice A2 d.data.length c2, .slice A3 d.syms.length c3, .slice A4 d.rels.length c4, .slice A5 d.ents.length c5] ∧
  RowC w lo hi A1 (d.text.flatMap encU32) ∧ RowC w lo hi A2 (d.data.flatMap encU64) ∧ RowC w lo hi A3 (d.syms.flatMap encSym) ∧ RowC w lo hi A4 (d.rels.flatMap encRel) ∧ RowC w lo hi A5 es ∧ EntC w lo hi none d.ents es
theorem RowC.move {w w' : World} {lo lo' hi hi' : Nat} {A : Option Addr} {cs : List Value} (h : RowC w lo hi A cs) (hl : lo' ≤ lo) (hh : hi ≤ hi') (hk : ∀ b, lo ≤ b → b < hi → w'.heap[b]? = w.heap[b]?) : RowC w' lo' hi' A cs := by
  rcases h with h | ⟨b, o, e, h1, h2, h4⟩
  · exact .inl h
  · exact .inr ⟨b, o, e, by omega, by omega, fun j v hj => by rw [World.cell?_of_block (hk b h1 h2)]; exact h4 j v hj⟩
theorem EntC.lower {w : World} {lo lo' hi : Nat} {ob : Option Nat} (hl : lo' ≤ lo) : ∀ {es : List EntD} {cs : List Value}, EntC w lo hi ob es cs → EntC w lo' hi ob es cs
  | [], cs, h => h
  | e :: es, cs, ⟨A, c, rest, h1, h2, h3⟩ => ⟨A, c, rest, h1, by
    rcases h2 with h | ⟨b, o, e, h1, h2⟩
    · exact .inl h
    · exact .inr ⟨b, o, e, by omega, h2⟩, EntC.lower hl h3⟩
theorem ObjAt.move {w w' : World} {lo lo' hi hi' : Nat} {d : ObjD} {v : Value} (h : ObjAt w lo hi d v) (hl : lo' ≤ lo) (hh : hi ≤ hi') (hk : ∀ b, lo ≤ b → b < hi → w'.heap[b]? = w.heap[b]?) : ObjAt w' lo' hi' d v := by
  obtain ⟨A1, c1, A2, c2, A3, c3, A4, c4, A5, c5, es, hv, h1, h2, h3, h4, h5, h6⟩ := h
  exact ⟨A1, c1, A2, c2, A3, c3, A4, c4, A5, c5, es, hv, h1.move hl hh hk, h2.move hl hh hk, h3.move hl hh hk, h4.move hl hh hk, h5.move hl hh hk, (h6.move hh (fun b _ _ _ e => by cases e) (fun b h1 h2 _ => hk b h1 h2)).lower hl⟩
theorem RowC.out {w w' : World} {p lo hi : Nat} {A : Option Addr} {cs : List Value} (h : RowC w lo hi A cs) (ho : RdOut p w w') (hp : p < lo) (hh : hi ≤ w.heap.size) : RowC w' lo w'.heap.size A cs :=
  h.move (Nat.le_refl _) (Nat.le_trans hh ho.size) (fun b h1 h2 => ho.block b (by omega) (by omega))
theorem RowC.setNew {w : World} {lo hi c o : Nat} {A : Option Addr} {cs : List Value} {v : Value} (h : RowC w lo hi A cs) (hc : c < lo) : RowC (w.setCell ⟨c, o, none⟩ v) lo hi A cs :=
  h.move (Nat.le_refl _) (Nat.le_refl _) (fun b h1 h2 => setNew_row (by omega))
theorem EntC.setNew {w : World} {lo hi c o : Nat} {es : List EntD} {cs : List Value} {v : Value} (h : EntC w lo hi none es cs) (hc : c < lo) : EntC (w.setCell ⟨c, o, none⟩ v) lo hi none es cs :=
  h.move (Nat.le_refl _) (fun b _ _ _ e => by cases e) (fun b h1 h2 _ => setNew_row (by omega))
theorem size_set (w : World) (a : Addr) (v : Value) : (w.setCell a v).heap.size = w.heap.size := by simp
def ObjV (w : World) (d : ObjD) (v : Value) (w' : World) : Prop := ObjAt w' w.heap.size w'.heap.size d v
theorem fill5 {W : World} {b : Nat} {a0 a1 a2 a3 a4 : Value} {T : TypeId} (h : W.heap[b]? = some (.cells #[a0, a1, a2, a3, a4] T (0, 0))) (v0 v1 v2 v3 v4 : Value) :
    (((((W.setCell ⟨b, 0, none⟩ v0).setCell ⟨b, 1, none⟩ v1).setCell ⟨b, 2, none⟩ v2).setCell ⟨b, 3, none⟩ v3).setCell ⟨b, 4, none⟩ v4).heap[b]? = some (.cells #[v0, v1, v2, v3, v4] T (0, 0)) := by
  rw [heap_setCell_same _ b 4 _ _ _ (heap_setCell_same _ b 3 _ _ _ (heap_setCell_same _ b 2 _ _ _ (heap_setCell_same _ b 1 _ _ _ (heap_setCell_same W b 0 _ _ _ h))))]
  rfl
theorem row_cells5 {W : World} {b : Nat} {v0 v1 v2 v3 v4 : Value} {T : TypeId} (h : W.heap[b]? = some (.cells #[v0, v1, v2, v3, v4] T (0, 0))) : (W.cell? ⟨b, 0, none⟩ = some v0 ∧ W.cell? ⟨b, 1, none⟩ = some v1 ∧ W.cell? ⟨b, 2, none⟩ = some v2 ∧ W.cell? ⟨b, 3, none⟩ = some v3 ∧ W.cell? ⟨b, 4, none⟩ = some v4) ∧ ∀ o, W.frozen? ⟨b, o, none⟩ = false := by
  have h0 := cell_of_row W b 0 _ _ _ h
  have h1 := cell_of_row W b 1 _ _ _ h
  have h2 := cell_of_row W b 2 _ _ _ h
  have h3 := cell_of_row W b 3 _ _ _ h
  have h4 := cell_of_row W b 4 _ _ _ h
  simp only [List.getElem?_toArray, List.getElem?_cons_zero, List.getElem?_cons_succ] at h0 h1 h2 h3 h4
  exact ⟨⟨h0, h1, h2, h3, h4⟩, fun o => frozen_of_row W b o _ _ h⟩
theorem bl_loop (bs : ByteArray) : ∀ n i r, bs.size - i = n → ByteArray.toList.loop bs i r = r.reverse ++ bs.data.toList.drop i := by
  intro n
  induction n with
  | zero =>
    intro i r h
    rw [ByteArray.toList.loop]
    rw [if_neg (by omega), List.drop_eq_nil_of_le (by simp; show bs.size ≤ i; omega), List.append_nil]
  | succ n ih =>
    intro i r h
    rw [ByteArray.toList.loop]
    have hi : i < bs.data.toList.length := by simp; show i < bs.size; omega
    rw [if_pos (by omega), ih (i + 1) _ (by omega), List.drop_eq_getElem_cons hi]
    simp [ByteArray.get!]
    exact getElem!_pos bs.data i (by simpa using hi)
theorem bl_data (bs : ByteArray) : bs.toList = bs.data.toList := by
  unfold ByteArray.toList
  rw [bl_loop bs bs.size 0 [] (by omega)]
  simp
theorem bl_ne {s : ByteArray} {l : List UInt8} (h : s ≠ ⟨l.toArray⟩) : (s.toList == l) = false := by
  rw [bl_data, beq_eq_false_iff_ne]
  intro e
  exact h (ByteArray.ext (by rw [← e]))
theorem magic_iff {x : List Int} (ha : AllB x) : (x = magicW) ↔ toBA x = ⟨#[79, 66, 74, 49]⟩ := by
  have e : sB ⟨#[79, 66, 74, 49]⟩ = magicW := by decide +kernel
  constructor
  · intro h; subst h; rfl
  · intro h
    rw [← sB_toBA ha, h, e]
theorem rdB_all {k : Nat} {l x r : List Int} (ha : AllB l) (h : rdB k l = some (x, r)) : AllB x ∧ AllB r := by
  unfold rdB at h
  split at h
  · simp only [Option.some.injEq, Prod.mk.injEq] at h
    rw [← h.1, ← h.2]; exact ⟨ha.take k, ha.drop k⟩
  · cases h
theorem five_nat {l r cs : List Int} (ha : AllB l) (h : rdL (rdN 2) 5 l = some (cs, r)) : ∃ a b c d e : Nat, cs = [(a : Int), b, c, d, e] ∧ a < 65536 ∧ b < 65536 ∧ c < 65536 ∧ d < 65536 ∧ e < 65536 ∧ AllB r := by
  obtain ⟨_, a1, l1, w1⟩ := rdL_back (num_back (by omega)) _ _ _ _ ha h
  have hc := five_cases l1
  have b0 := w1 (nth cs 0) (by rw [hc]; simp [nth])
  have b1 := w1 (nth cs 1) (by rw [hc]; simp [nth])
  have b2 := w1 (nth cs 2) (by rw [hc]; simp [nth])
  have b3 := w1 (nth cs 3) (by rw [hc]; simp [nth])
  have b4 := w1 (nth cs 4) (by rw [hc]; simp [nth])
  refine ⟨(nth cs 0).toNat, (nth cs 1).toNat, (nth cs 2).toNat, (nth cs 3).toNat, (nth cs 4).toNat, ?_, ?_, ?_, ?_, ?_, ?_, a1⟩
  · rw [Int.toNat_of_nonneg b0.1.1, Int.toNat_of_nonneg b1.1.1, Int.toNat_of_nonneg b2.1.1, Int.toNat_of_nonneg b3.1.1, Int.toNat_of_nonneg b4.1.1]; exact hc
  · have := b0.2; omega
  · have := b1.2; omega
  · have := b2.2; omega
  · have := b3.2; omega
  · have := b4.2; omega
theorem rdObj_head {l l1 l2 x : List Int} {a0 a1 a2 a3 a4 : Nat} (h1 : rdB 4 l = some (x, l1)) (hm : x = magicW) (h2 : rdL (rdN 2) 5 l1 = some ([(a0 : Int), a1, a2, a3, a4], l2)) :
    rdObj l = rdBind (rdL (rdN 4) a0) (fun t => rdBind (rdL (rdN 8) a1) fun dd => rdBind (rdL rdSym a2) fun ss => rdBind (rdL rdRel a3) fun rr => rdBind (rdL rdEnt a4) fun ee => rdRet ⟨t, dd, ss, rr, ee⟩) l2 := by
  unfold rdObj
  rw [rdBind_at h1, if_pos hm, rdBind_at h2]
  rfl
/-- the counts, as they lie -/
abbrev CntC (w : World) (b o a0 a1 a2 a3 a4 : Nat) : Prop := w.cell? ⟨b, o, none⟩ = some (.int .i64 a0) ∧ w.cell? ⟨b, o + 1, none⟩ = some (.int .i64 a1) ∧ w.cell? ⟨b, o + 2, none⟩ = some (.int .i64 a2) ∧ w.cell? ⟨b, o + 3, none⟩ = some (.int .i64 a3) ∧ w.cell? ⟨b, o + 4, none⟩ = some (.int .i64 a4)
theorem CntC.same {w w' : World} {b o a0 a1 a2 a3 a4 : Nat} (h : CntC w b o a0 a1 a2 a3 a4) (hk : w'.heap[b]? = w.heap[b]?) : CntC w' b o a0 a1 a2 a3 a4 := by
  refine ⟨?_, ?_, ?_, ?_, ?_⟩ <;> rw [World.cell?_of_block hk]
  · exact h.1
  · exact h.2.1
  · exact h.2.2.1
  · exact h.2.2.2.1
  · exact h.2.2.2.2
end Go.Proofs.YtjngkifoaljmaaaGreatDoor
namespace Go.Proofs.YtjngkifoaljmaaaGreatDoor
set_option maxRecDepth 100000
open Go.RowKit
set_option linter.unusedVariables false
def rdTop (l : List Int) : Option ObjD := match rdObj l with
  | some (d, []) => some d
  | _ => none
/-- bytes in a block below hi -/
def SlB (w : World) (hi : Nat) (A : Option Addr) (l : List Int) : Prop := l = [] ∨ ∃ b off, A = some ⟨b, off, none⟩ ∧ b < hi ∧ ∀ k, k < l.length → w.cell? ⟨b, off + k, none⟩ = some (.int .u8 (nth l k))
theorem RdOut.to_below {p : Nat} {w w0 w' : World} (h : RdOut p w0 w') (hb : Below w.heap.size w w0) (hp : w.heap.size ≤ p) : Below w.heap.size w w' :=
  ⟨h.os.trans hb.os, h.tape.trans hb.tape, h.output.trans hb.output, Nat.le_trans hb.size h.size, fun k hk => (h.block k (Nat.lt_of_lt_of_le hk hb.size) (by omega)).trans (hb.block k hk)⟩
theorem below_setNew {w w1 : World} {b o : Nat} {v : Value} (h : Below w.heap.size w w1) (hb : w.heap.size ≤ b) : Below w.heap.size w (w1.setCell ⟨b, o, none⟩ v) :=
  ⟨h.os, h.tape, h.output, by rw [size_set]; exact h.size, fun k hk => (setNew_row (by omega)).trans (h.block k hk)⟩
theorem ObjAt.setNew {w : World} {lo hi c o : Nat} {d : ObjD} {v u : Value} (h : ObjAt w lo hi d v) (hc : c < lo) : ObjAt (w.setCell ⟨c, o, none⟩ u) lo hi d v :=
  h.move (Nat.le_refl _) (Nat.le_refl _) (fun b h1 h2 => setNew_row (by omega))
theorem rdTop_of {l r : List Int} {d : ObjD} (h : rdObj l = some (d, r)) : (r ≠ [] → rdTop l = none) ∧ (r = [] → rdTop l = some d) := by
  unfold rdTop
  rw [h]
  constructor
  · intro hr
    cases r with
    | nil => exact absurd rfl hr
    | cons x r => rfl
  · intro hr; subst hr; rfl
end Go.Proofs.YtjngkifoaljmaaaGreatDoor
