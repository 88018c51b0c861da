/- Layer 6: the reference's Write. No condition. -/
import Derived.Test.YtmpieeadkkeniaaGreatDoorObjF
import Derived.Test.YtmpieeadkkeniaaGreatDoorObjK
import Derived.Test.YtmpieeadkkeniaaGreatDoorRegApp
import Derived.Laws.IdiomStrings
import Derived.Deep.DeepCutAuto
import Derived.Deep.DeepCutAuto
import Derived.Lib.SlBytesConst
namespace Go.Proofs.YtmpieeadkkeniaaGreatDoor
set_option maxRecDepth 100000
open Go.RowKit
set_option linter.unusedVariables false
theorem row_keeps {w w' : World} {base n s : Nat} {e : TypeId} {v : Value} {xs : List Value} (h : w.ownsRow base e s v n xs) (hb : Below w.heap.size w w') : w'.ownsRow base e s v n xs := by
  refine ⟨h.1, ?_⟩
  rcases h.2 with h | ⟨g, cap, cur, rfl, h1, h2, h3⟩
  · exact .inl h
  · exact .inr ⟨g, cap, cur, rfl, h1, by rw [hb.block g (Array.getElem?_eq_some_iff.1 h2).1]; exact h2, h3⟩
/-- a block of another type stays, where a row of the call's own grows -/
theorem box_stays {w w' : World} {base n s : Nat} {e T : TypeId} {v : Value} {xs : List Value} {h : Nat} {cs : Array Value} {r : Nat × Nat} (hr : w.ownsRow base e s v n xs) (hg : w.grownBy w' v.ownBlock) (hx : w.heap[h]? = some (.cells cs T r)) (hT : T ≠ e) : w'.heap[h]? = some (.cells cs T r) := by
  rw [hg.block h (Array.getElem?_eq_some_iff.1 hx).1 ?_]
  · exact hx
  · intro e1
    obtain ⟨_, _, cur, hc⟩ := ownO_lt hr e1.symm
    rw [hx] at hc
    cases hc
    exact hT rfl
/-- how far it is written -/
def WrL (w0 : World) (v : Value) (l : List Int) (w : World) : Prop := w.ownsRow w0.heap.size 5 1 v l.length (u8L l) ∧ Below w0.heap.size w0 w
theorem WrL.below {w0 w w' : World} {v : Value} {l : List Int} (h : WrL w0 v l w) (hb : Below w.heap.size w w') : WrL w0 v l w' := ⟨row_keeps h.1 hb, h.2.trans (hb.mono h.2.size)⟩
theorem WrL.more {w0 w w' : World} {v v' : Value} {l m : List Int} {n : Nat} (h : WrL w0 v l w) (hn : l.length + m.length = n) (hr : w'.ownsRow w0.heap.size 5 1 v' n (u8L l ++ u8L m)) (hg : w.grownBy w' v.ownBlock) : WrL w0 v' (l ++ m) w' := by
  subst hn
  refine ⟨?_, h.2.grown hg h.2.size (fun b hb => (h.1.lt b hb).1)⟩
  rw [List.length_append]
  unfold u8L at hr ⊢
  rw [List.map_append]
  exact hr
theorem u8L_one (l : List Int) : ∀ u ∈ u8L l, u.oneCell' = true := fun u hu => by
  obtain ⟨x, _, rfl⟩ := List.mem_map.1 hu
  rfl
/-- bytes as they lie in a block made anew -/
def NewB (w w' : World) (v : Value) (l : List Int) : Prop := ∃ b o c, v = .slice (some ⟨b, o, none⟩) l.length c ∧ w.heap.size ≤ b ∧ b < w'.heap.size ∧ ∀ k, k < l.length → w'.cell? ⟨b, o + k, none⟩ = some (.int .u8 (nth l k))
theorem newB_cells {w : World} {b o : Nat} {l : List Int} (h : ∀ k, k < l.length → w.cell? ⟨b, o + k, none⟩ = some (.int .u8 (nth l k))) : ∀ j u, (u8L l)[j]? = some u → w.cell? ((⟨b, o, none⟩ : Addr).add j) = some u := by
  intro j u hj
  have hl : j < l.length := by have := (List.getElem?_eq_some_iff.1 hj).1; simpa using this
  have h1 := h j hl
  have h2 : u = .int .u8 (nth l j) := by
    rw [List.getElem?_map, List.getElem?_eq_getElem hl] at hj
    simp only [Option.map_some, Option.some.injEq] at hj
    rw [← hj, nth_get hl]
  have h3 : (⟨b, o, none⟩ : Addr).add j = ⟨b, o + j, none⟩ := by simp [Addr.add]
  rw [h2, h3]; exact h1
theorem rnum_any (v : Int) (n : Nat) (hv : IsU v) (h0 : 0 < n) (h : n ≤ 8) (w : World) :
    Calls Tryz.prog 65 #[.int .u64 v, .int .i64 n] w fun e w' => ∃ b o c, e = .returned (.slice (some ⟨b, o, none⟩) n c) ∧ NewB w w' (.slice (some ⟨b, o, none⟩) n c) (bytesL v n) ∧ Below w.heap.size w w' := by
  have HC := Lib.hid (rbytes_fresh v n hv h w)
  have HL := Lib.hid (bytesL_length v n)
  generalize bytesL v n = l at *
  go_enter Tryz.func65, Tryz.ntmps65
  go_wp2_with fail
  refine HC.out.mono ?_
  rintro e w' ⟨A, c, rfl, hs, hb, hfr⟩
  have hN : ∃ b o, A = some ⟨b, o, none⟩ ∧ NewB w w' (.slice (some ⟨b, o, none⟩) n c) l := by
    rcases hs with e | ⟨b, o, e, hc⟩
    · have := HL.out; rw [e] at this; simp at this; omega
    · refine ⟨b, o, e, b, o, c, by rw [HL.out], hfr _ e, ?_, hc⟩
      have h1 := hc 0 (by rw [HL.out]; exact h0)
      exact block_lt h1
  obtain ⟨b, o, rfl, hnb⟩ := hN
  have HN := Lib.hid hnb
  have HB := Lib.hid hb
  clear hs hb hfr hnb
  go_wp2
  go_ret
  exact ⟨b, o, c, rfl, HN.out, HB.out⟩
theorem own_base {w : World} {base base' n s : Nat} {e : TypeId} {v : Value} {xs : List Value} (h : w.ownsRow base e s v n xs) (hb : base' ≤ base) : w.ownsRow base' e s v n xs := by
  refine ⟨h.1, ?_⟩
  rcases h.2 with h | ⟨g, cap, cur, rfl, h1, h2, h3⟩
  · exact .inl h
  · exact .inr ⟨g, cap, cur, rfl, Nat.le_trans hb h1, h2, h3⟩
/-- how far the head is written: ahead of the first number the four bytes lie in a block of their own -/
def WrM (w0 : World) (v : Value) (l : List Int) (k : Nat) (w : World) : Prop :=
  (k = 0 ∧ v = .slice (some ⟨w0.heap.size + 1, 0, none⟩) 4 4 ∧ l = magicW ∧ (∀ j u, (u8L magicW)[j]? = some u → w.cell? ((⟨w0.heap.size + 1, 0, none⟩ : Addr).add j) = some u) ∧ w0.heap.size + 1 < w.heap.size ∧ Below w0.heap.size w0 w) ∨ (0 < k ∧ WrL w0 v l w)
theorem WrM.below {w0 w w' : World} {v : Value} {l : List Int} {k : Nat} (h : WrM w0 v l k w) (hb : Below w.heap.size w w') : WrM w0 v l k w' := by
  rcases h with ⟨h1, h2, h3, h4, h5, h6⟩ | ⟨h1, h2⟩
  · refine .inl ⟨h1, h2, h3, fun j u hj => ?_, Nat.lt_of_lt_of_le h5 hb.size, h6.trans (hb.mono h6.size)⟩
    rw [← h4 j u hj, show (⟨w0.heap.size + 1, 0, none⟩ : Addr).add j = ⟨w0.heap.size + 1, 0 + j, none⟩ by simp [Addr.add]; omega]
    exact hb.cell h5
  · exact .inr ⟨h1, h2.below hb⟩
section
variable {A1 A2 A3 A4 A5 : Option Addr} {n1 n2 n3 n4 n5 c1 c2 c3 c4 c5 : Nat}
theorem write_start (w : World) : ∃ W, W = (((w.alloc (.cells #[.slice A1 n1 c1, .slice A2 n2 c2, .slice A3 n3 c3, .slice A4 n4 c4, .slice A5 n5 c5] 28)).alloc (.cells #[.int .u8 79, .int .u8 66, .int .u8 74, .int .u8 49] 5 (4, 5))).alloc (.cells #[.int .i64 n1, .int .i64 n2, .int .i64 n3, .int .i64 n4, .int .i64 n5] 3)) ∧ W.heap[w.heap.size]? = some (.cells #[.slice A1 n1 c1, .slice A2 n2 c2, .slice A3 n3 c3, .slice A4 n4 c4, .slice A5 n5 c5] 28 (0, 0)) ∧ WrM w (.slice (some ⟨w.heap.size + 1, 0, none⟩) 4 4) magicW 0 W ∧ W.heap[w.heap.size + 1 + 1]? = some (.cells #[.int .i64 n1, .int .i64 n2, .int .i64 n3, .int .i64 n4, .int .i64 n5] 3 (0, 0)) := by
  have e1 := heap_alloc_new w (.cells #[.slice A1 n1 c1, .slice A2 n2 c2, .slice A3 n3 c3, .slice A4 n4 c4, .slice A5 n5 c5] 28)
  have s1 : (w.alloc (.cells #[.slice A1 n1 c1, .slice A2 n2 c2, .slice A3 n3 c3, .slice A4 n4 c4, .slice A5 n5 c5] 28)).heap.size = w.heap.size + 1 := by simp
  have e2 := heap_alloc_new (w.alloc (.cells #[.slice A1 n1 c1, .slice A2 n2 c2, .slice A3 n3 c3, .slice A4 n4 c4, .slice A5 n5 c5] 28)) (.cells #[.int .u8 79, .int .u8 66, .int .u8 74, .int .u8 49] 5 (4, 5))
  have s2 : ((w.alloc (.cells #[.slice A1 n1 c1, .slice A2 n2 c2, .slice A3 n3 c3, .slice A4 n4 c4, .slice A5 n5 c5] 28)).alloc (.cells #[.int .u8 79, .int .u8 66, .int .u8 74, .int .u8 49] 5 (4, 5))).heap.size = w.heap.size + 1 + 1 := by simp
  have e3 := heap_alloc_new ((w.alloc (.cells #[.slice A1 n1 c1, .slice A2 n2 c2, .slice A3 n3 c3, .slice A4 n4 c4, .slice A5 n5 c5] 28)).alloc (.cells #[.int .u8 79, .int .u8 66, .int .u8 74, .int .u8 49] 5 (4, 5))) (.cells #[.int .i64 n1, .int .i64 n2, .int .i64 n3, .int .i64 n4, .int .i64 n5] 3)
  rw [s1] at e2
  rw [s2] at e3
  have f1 := (heap_alloc_old ((w.alloc (.cells #[.slice A1 n1 c1, .slice A2 n2 c2, .slice A3 n3 c3, .slice A4 n4 c4, .slice A5 n5 c5] 28)).alloc (.cells #[.int .u8 79, .int .u8 66, .int .u8 74, .int .u8 49] 5 (4, 5))) (.cells #[.int .i64 n1, .int .i64 n2, .int .i64 n3, .int .i64 n4, .int .i64 n5] 3) (show w.heap.size < _ by omega)).trans ((heap_alloc_old (w.alloc (.cells #[.slice A1 n1 c1, .slice A2 n2 c2, .slice A3 n3 c3, .slice A4 n4 c4, .slice A5 n5 c5] 28)) (.cells #[.int .u8 79, .int .u8 66, .int .u8 74, .int .u8 49] 5 (4, 5)) (show w.heap.size < _ by omega)).trans e1)
  have f2 := (heap_alloc_old ((w.alloc (.cells #[.slice A1 n1 c1, .slice A2 n2 c2, .slice A3 n3 c3, .slice A4 n4 c4, .slice A5 n5 c5] 28)).alloc (.cells #[.int .u8 79, .int .u8 66, .int .u8 74, .int .u8 49] 5 (4, 5))) (.cells #[.int .i64 n1, .int .i64 n2, .int .i64 n3, .int .i64 n4, .int .i64 n5] 3) (show w.heap.size + 1 < _ by omega)).trans e2
  refine ⟨_, rfl, f1, .inl ⟨rfl, rfl, rfl, fun j u hj => ?_, by simp, ((Below.refl w.heap.size w).alloc (Nat.le_refl _) _ |>.alloc (by simp) _).alloc (by simp; omega) _⟩, e3⟩
  have h3 : (⟨w.heap.size + 1, 0, none⟩ : Addr).add j = ⟨w.heap.size + 1, 0 + j, none⟩ := by simp [Addr.add]; omega
  rw [h3]
  refine (cell_of_row _ (w.heap.size + 1) (0 + j) _ _ _ f2).trans ?_
  simpa [u8L, magicW] using hj
end
/-! ### what such a region makes -/
theorem grown_below {w w' : World} (h : Below w.heap.size w w') : w.grownBy w' none := ⟨h.os, h.tape, h.output, h.size, fun k hk _ => h.block k hk⟩
abbrev MatP (S : World → Prop) (a : Act) (o : Oper) (w : World) (l : List Int) (a' : Act) (w' : World) : Prop :=
  ∃ v, a' = a.put o.dst v ∧ S w' ∧ w.grownBy w' none ∧ ∃ b oo c, v = .slice (some ⟨b, oo, none⟩) l.length c ∧ w.heap.size ≤ b ∧ b < w'.heap.size ∧ ∀ k, k < l.length → w'.cell? ⟨b, oo + k, none⟩ = some (.int .u8 (nth l k))
theorem tmp_of {a : Act} {x : Tmp} {v : Value} (h : a.eval (.tmp x) = v) : a.tmps[x]?.getD undef = v := by simpa [Act.eval] using h
section
variable {S : World → Prop} {a : Act} {o : Oper} {w : World} {Q : Exit → Act → World → Prop}
theorem mat_one {x : Tmp} {v : Int} (ho : o.op = .buildSlice 31 1 #[(0, .tmp x)]) (hx : a.eval (.tmp x) = .int .u8 v) (hS : S w) (hSb : ∀ w', Below w.heap.size w w' → S w') : o.wp Tryz.prog a w (MatP S a o w [v]) Q := by
  have hr : (execOp a.eval o).run Tryz.prog w = .ok (.value (.slice (some ⟨w.heap.size, 0, none⟩) 1 1)) (w.alloc (.cells #[.int .u8 v] 5)) := by
    have hx := tmp_of hx
    simp [execOp, ho, go_sem, hx]
  have hb := (Below.refl w.heap.size w).alloc (Nat.le_refl _) (.cells #[.int .u8 v] 5)
  unfold Oper.wp
  rw [hr]
  refine ⟨_, rfl, hSb _ hb, grown_below hb, w.heap.size, 0, 1, rfl, Nat.le_refl _, by simp, fun k hk => ?_⟩
  obtain rfl : k = 0 := by simp at hk; exact hk
  exact cell_of_row _ w.heap.size (0 + 0) _ _ _ (heap_alloc_new w (.cells #[.int .u8 v] 5))
theorem mat_str {x : Tmp} {s : ByteArray} (ho : o.op = .convert 9 31 (.tmp x)) (hx : a.eval (.tmp x) = .string s) (hS : S w) (hSb : ∀ w', Below w.heap.size w w' → S w') : o.wp Tryz.prog a w (MatP S a o w (sB s)) Q := by
  have h1 := run_bytes_of_string (P := Tryz.prog) w 9 31 5 s Tryz.underlying9 Tryz.underlying31 Tryz.underlying5
  generalize hc : grownCap w s.size 0 5 = c at h1
  have hr : (execOp a.eval o).run Tryz.prog w = .ok (.value (.slice (some ⟨w.heap.size, 0, none⟩) s.size c)) (w.drew.alloc (.cells (bytesRow s c) 5 ((bytesRow s c).size, (bytesRow s c).size + 1))) := by
    simp [execOp, ho, hx, h1, Result.andThen]
  have hb := (Below.drew (Below.refl w.heap.size w)).alloc (Nat.le_refl _) (.cells (bytesRow s c) 5 ((bytesRow s c).size, (bytesRow s c).size + 1))
  unfold Oper.wp
  rw [hr]
  refine ⟨_, rfl, hSb _ hb, grown_below hb, w.heap.size, 0, c, by rw [sB_len], Nat.le_refl _, by show w.heap.size < (w.alloc _).heap.size; simp, fun k hk => ?_⟩
  rw [sB_len] at hk
  have h2 := cell_of_row _ w.heap.size (0 + k) _ _ _ (heap_alloc_new w.drew (.cells (bytesRow s c) 5 ((bytesRow s c).size, (bytesRow s c).size + 1)))
  refine h2.trans ?_
  rw [sB_nth s k hk, Nat.zero_add]
  unfold bytesRow
  rw [Array.getElem?_append_left (by simpa using hk), Array.getElem?_map, Array.getElem?_eq_getElem (show k < s.data.size from hk)]
  rfl
theorem mat_num {x : Tmp} {v : Int} {n : Nat} {ts : Array TypeId} (ho : o.op = .call { callee := .value (.func 65), args := #[.tmp x, .const (.int .i64 n)], argTypes := ts }) (hx : a.eval (.tmp x) = .int .u64 v) (hv : IsU v) (h0 : 0 < n) (hn : n ≤ 8) (hS : S w) (hSb : ∀ w', Below w.heap.size w w' → S w') : o.wp Tryz.prog a w (MatP S a o w (bytesL v n)) Q := by
  have hr : (execOp a.eval o).run Tryz.prog w = .ok (.enter 65 #[.int .u64 v, .int .i64 n]) w := by
    have hx := tmp_of hx
    simp [execOp, ho, go_sem, hx]
  unfold Oper.wp
  rw [hr, Oper.upon_enter]
  refine (rnum_any v n hv h0 hn w).mono ?_
  rintro e w' ⟨b, oo, c, rfl, hN, hb⟩
  exact ⟨_, rfl, hSb _ hb, grown_below hb, hN⟩
end
/-- two boxes lie, and what was is as it was -/
def BxS (w0 : World) (h1 : Nat) (o1 : Obj) (h2 : Nat) (o2 : Obj) (w : World) : Prop := Below w0.heap.size w0 w ∧ w.heap[h1]? = some o1 ∧ w.heap[h2]? = some o2
theorem BxS.below {w0 w w' : World} {h1 h2 : Nat} {o1 o2 : Obj} (h : BxS w0 h1 o1 h2 o2 w) (hb : Below w.heap.size w w') : BxS w0 h1 o1 h2 o2 w' :=
  ⟨h.1.trans (hb.mono h.1.size), (hb.block _ (Array.getElem?_eq_some_iff.1 h.2.1).1).trans h.2.1, (hb.block _ (Array.getElem?_eq_some_iff.1 h.2.2).1).trans h.2.2⟩
theorem BxS.grown {w0 w w' : World} {h1 h2 : Nat} {cs1 cs2 : Array Value} {T1 T2 e : TypeId} {r1 r2 : Nat × Nat} {v : Value} {n : Nat} {xs : List Value} (h : BxS w0 h1 (.cells cs1 T1 r1) h2 (.cells cs2 T2 r2) w) (n1 : T1 ≠ e) (n2 : T2 ≠ e) (hr : w.ownsRow w0.heap.size e 1 v n xs) (hg : w.grownBy w' v.ownBlock) : BxS w0 h1 (.cells cs1 T1 r1) h2 (.cells cs2 T2 r2) w' :=
  ⟨h.1.grown hg h.1.size (fun b hb => (hr.lt b hb).1), box_stays hr hg h.2.1 n1, box_stays hr hg h.2.2 n2⟩
theorem byte_one {x : Int} (h0 : 0 ≤ x) (h1 : x < 256) : bytesL x 1 = [x] := by
  simp [bytesL, byteI]
  omega
theorem wrap_byte {x : Int} (h0 : 0 ≤ x) (h1 : x < 256) : IntKind.u8.wrap x = x := by rw [IntKind.wrap_u8]; omega
end Go.Proofs.YtmpieeadkkeniaaGreatDoor
