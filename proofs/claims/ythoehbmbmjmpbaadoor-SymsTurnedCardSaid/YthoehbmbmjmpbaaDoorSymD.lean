/- Layer 7: the book, written: of all names, or of one alone. No condition. -/
import Derived.Test.YthoehbmbmjmpbaaDoorSymC
namespace Go.Proofs.YthoehbmbmjmpbaaDoor
set_option maxRecDepth 100000
open Go.RowKit
set_option linter.unusedVariables false
def dNo : ObjD := ⟨[], [], [], [], []⟩
theorem beq_str' (s t : ByteArray) : (s.toList == t.toList) = decide (s = t) := by
  by_cases h : s = t
  · subst h; simp
  · rw [decide_eq_false h, beq_eq_false_iff_ne]
    intro e
    refine h (ByteArray.ext (Array.toList_inj.1 ?_))
    rw [← bl_data, ← bl_data]
    exact e
theorem KnK.mapSet {w : World} {n B : Nat} {M : Kn → Option Int} (h : KnK w (B + 1) n M) (x y : Value) : KnK ((w.setCell ⟨B, 0, none⟩ x).setCell ⟨B, 1, none⟩ y) (B + 1) n M :=
  (h.kept (grown_setO w B 0 x) (fun e => by injection e with e; omega)).kept (grown_setO _ B 1 y) (fun e => by injection e with e; omega)
theorem below_set2 {w w' : World} (h : Below w.heap.size w w') (x y : Value) : Below w.heap.size w ((w'.setCell ⟨w.heap.size, 0, none⟩ x).setCell ⟨w.heap.size, 1, none⟩ y) :=
  below_setNew (below_setNew h (Nat.le_refl _)) (Nat.le_refl _)
theorem every_any (s : ByteArray) (w : World) : Calls Tryd.prog 31 #[.string s] w fun e w' => e = .returned (.bool true) ∧ w = w' := by
  go_enter Tryd.func31, Tryd.ntmps31
  go_wp2
  go_ret
  exact ⟨rfl, rfl⟩
theorem isname_any (bx : Nat) (nm s : ByteArray) (w : World) (h : w.cell? ⟨bx, 0, none⟩ = some (.string nm)) : Calls Tryd.prog 38 #[.string s, .pointer (some ⟨bx, 0, none⟩)] w fun e w' => e = .returned (.bool (decide (s = nm))) ∧ w = w' := by
  go_enter Tryd.func38, Tryd.ntmps38
  go_wp2
  go_ret
  exact ⟨ret_bool (beq_str' s nm), rfl⟩
/-- a Sym is written down -/
def putS (p : ByteArray → Bool) (i : Int) (M : Kn → Option Int) (j : Nat) (s : SymD) : Kn → Option Int :=
  if p s.1 then (if s.2.2.2 then putK (putK M (s.1, i, false) j) (s.1, i, true) j else putK M (s.1, i, false) j) else M
def wrS (p : ByteArray → Bool) (i : Int) (ss : List SymD) (M : Kn → Option Int) : Nat → Kn → Option Int
  | 0 => M
  | j + 1 => putS p i (wrS p i ss M j) j (ss.getD j (ByteArray.empty, false, 0, false))
def wrL (p : ByteArray → Bool) (l : List ObjD) : Nat → Kn → Option Int
  | 0 => fun _ => none
  | k + 1 => wrS p (k : Int) (l.getD k dNo).syms (wrL p l k) (l.getD k dNo).syms.length
def sumS (l : List ObjD) (k : Nat) : Nat := ((l.take k).map fun d => d.syms.length).sum
theorem sumS_go {l : List ObjD} {k : Nat} (h : k < l.length) : sumS l (k + 1) = sumS l k + l[k].syms.length := by
  unfold sumS
  rw [List.take_succ_eq_append_getElem h, List.map_append, List.sum_append]
  simp
theorem sumS_le (l : List ObjD) (k : Nat) : sumS l k ≤ sumS l l.length := by
  unfold sumS
  rw [List.take_length]
  conv => rhs; rw [← List.take_append_drop k l]
  rw [List.map_append, List.sum_append]
  omega
theorem wrL_go {p : ByteArray → Bool} {l : List ObjD} {k : Nat} (h : k < l.length) : wrL p l (k + 1) = wrS p (k : Int) l[k].syms (wrL p l k) l[k].syms.length := by
  have e : l.getD k dNo = l[k] := by rw [List.getD_eq_getElem?_getD, List.getElem?_eq_getElem h]; rfl
  show wrS p (k : Int) (l.getD k dNo).syms (wrL p l k) (l.getD k dNo).syms.length = _
  rw [e]
theorem wrS_go {p : ByteArray → Bool} {i : Int} {ss : List SymD} {M : Kn → Option Int} {j : Nat} (h : j < ss.length) : wrS p i ss M (j + 1) = putS p i (wrS p i ss M j) j ss[j] := by
  show putS p i (wrS p i ss M j) j (ss.getD j (ByteArray.empty, false, 0, false)) = _
  rw [List.getD_eq_getElem?_getD, List.getElem?_eq_getElem h]; rfl
/-- the book as far as it is written -/
structure WS (w0 : World) (n N : Nat) (M : Kn → Option Int) (w : World) : Prop where
  k : KnK w (w0.heap.size + 1) N M
  r : w.heap[w0.heap.size]? = some (.cells #[.int .i64 0, .map none] 78 (0, 0))
  q : w.heap[w0.heap.size + 1 + 1]? = some (.cells #[.int .i64 n, .map (some (w0.heap.size + 1))] 78 (0, 0))
  b : Below w0.heap.size w0 w
section
variable {w0 w w' : World} {n N N' : Nat} {M M' : Kn → Option Int}
theorem WS.below (h : WS w0 n N M w) (hb : Below w.heap.size w w') : WS w0 n N M w' :=
  ⟨h.k.below hb, (hb.block _ (Array.getElem?_eq_some_iff.1 h.r).1).trans h.r, (hb.block _ (Array.getElem?_eq_some_iff.1 h.q).1).trans h.q, h.b.trans (hb.mono h.b.size)⟩
theorem WS.mono (h : WS w0 n N M w) (hn : N ≤ N') : WS w0 n N' M w := ⟨h.k.mono hn, h.r, h.q, h.b⟩
theorem WS.put (h : WS w0 n N M w) (hk : KnK w' (w0.heap.size + 1) N' M') (ho : OutO (fun k => k = w0.heap.size + 1) w w') : WS w0 n N' M' w' :=
  ⟨hk, (ho.block _ (Array.getElem?_eq_some_iff.1 h.r).1 (by omega)).trans h.r, (ho.block _ (Array.getElem?_eq_some_iff.1 h.q).1 (by omega)).trans h.q,
   ⟨ho.os.trans h.b.os, ho.tape.trans h.b.tape, ho.output.trans h.b.output, Nat.le_trans h.b.size ho.size, fun k hk => (ho.block k (Nat.lt_of_lt_of_le hk h.b.size) (by omega)).trans (h.b.block k hk)⟩⟩
end
theorem ws_start (w : World) (n : Nat) : WS w n 0 (fun _ => none) (((w.alloc (.cells #[.int .i64 0, .map none] 78)).alloc (.map #[] 0)).alloc (.cells #[.int .i64 n, .map (some (w.heap.size + 1))] 78)) := by
  have hb : Below w.heap.size w (((w.alloc (.cells #[.int .i64 0, .map none] 78)).alloc (.map #[] 0)).alloc (.cells #[.int .i64 n, .map (some (w.heap.size + 1))] 78)) := (((Below.refl _ _).alloc (Nat.le_refl _) _).alloc (by simp) _).alloc (by simp; omega) _
  have hk := (KnK.made (w.alloc (.cells #[.int .i64 0, .map none] 78))).below ((Below.refl _ _).alloc (Nat.le_refl _) (.cells #[.int .i64 n, .map (some (w.heap.size + 1))] 78))
  have hs : (w.alloc (.cells #[.int .i64 0, .map none] 78)).heap.size = w.heap.size + 1 := by simp
  rw [hs] at hk
  refine ⟨hk, ?_, ?_, hb⟩
  · exact (heap_alloc_old _ _ (by simp; omega)).trans ((heap_alloc_old _ _ (by simp)).trans (heap_alloc_new w _))
  · have h := heap_alloc_new ((w.alloc (.cells #[.int .i64 0, .map none] 78)).alloc (.map #[] 0)) (.cells #[.int .i64 n, .map (some (w.heap.size + 1))] 78)
    simpa using h
theorem res_write {T : Array Value} {b : Nat} {W : World} {v0 v1 : Value} {ty : TypeId} (h2 : T[4]? = some (.pointer (some ⟨b, 0, none⟩))) (hr : W.heap[b]? = some (.cells #[v0, v1] ty (0, 0))) :
    (results Tryd.f30 T).run Tryd.prog W = .ok (.agg #[v0, v1]) W := by
  have y0 := cell_of_row W b 0 _ _ _ hr
  have y1 := cell_of_row W b 1 _ _ _ hr
  simp only [List.getElem?_toArray, List.getElem?_cons_zero, List.getElem?_cons_succ] at y0 y1
  simp [results, Tryd.results30, go_sem, h2, y0, y1]
theorem row2 {W : World} {b : Nat} {v0 v1 : Value} {T : TypeId} (h : W.heap[b]? = some (.cells #[v0, v1] T (0, 0))) : W.cell? ⟨b, 0, none⟩ = some v0 ∧ W.cell? ⟨b, 1, none⟩ = some v1 ∧ ∀ o, W.frozen? ⟨b, o, none⟩ = false := by
  have y0 := cell_of_row W b 0 _ _ _ h
  have y1 := cell_of_row W b 1 _ _ _ h
  simp only [List.getElem?_toArray, List.getElem?_cons_zero, List.getElem?_cons_succ] at y0 y1
  exact ⟨y0, y1, fun o => frozen_of_row W b o _ _ h⟩
def BkP (l : List ObjD) (p : ByteArray → Bool) (n : Nat) (w : World) (e : Ending) (w' : World) : Prop :=
  ∃ b N, e = .returned (.agg #[.int .i64 n, .map (some b)]) ∧ w.heap.size ≤ b ∧ KnK w' b N (wrL p l n) ∧ N < 1000000 ∧ Below w.heap.size w w'
set_option maxHeartbeats 4000000 in
theorem write_every (l : List ObjD) (hW : ∀ d ∈ l, ObjW d) (A : Option Addr) (n c lo hi : Nat) (hn : l.length = n) (hmx : n ≤ 1000000) (hsum : 2 * sumS l l.length < 1000000) (w : World) (hA : ObjsAt w lo hi l A) (hh : hi ≤ w.heap.size) :
    Calls Tryd.prog 30 #[.slice A n c, .func (Fn.func 31) #[] #[]] w (BkP l (fun _ => true) n w) := by
  have HW := Lib.hid hW
  have HN := Lib.hid hn
  have HA := Lib.hid hA
  have HH := Lib.hid hh
  have HSum := Lib.hid hsum
  have HMx := Lib.hid hmx
  obtain ⟨p, hp⟩ : ∃ p : ByteArray → Bool, p = (fun _ => true) := ⟨_, rfl⟩
  have HP := Lib.hid hp
  have HS0 := Lib.hid (ws_start w n)
  rw [← hp]
  clear hW hn hA hh hsum hp
  have hmm := @run_makeMap Tryd.prog
  go_enter Tryd.func30, Tryd.ntmps30
  go_wp2
  go_loopw [16] (fun i wr => ∃ k : Nat, k ≤ n ∧ i = .int .i64 k ∧ Hid (WS w n (2 * sumS l k) (wrL p l k) wr)) (fun i _ => n - (intOf i).toNat)
  case atStart => exact ⟨0, by omega, rfl, HS0⟩
  case round =>
    clear HS0
    obtain ⟨k, hk, rfl, HS⟩ := hrel
    by_cases hlt : k < n
    · have k0 : (0 : Int) ≤ k := by omega
      have k1 : (k : Int) < n := by omega
      have HLk := Lib.hid (show k < l.length by rw [HN.out]; exact hlt)
      obtain ⟨b, o, A1, n1, c1, A2, n2, c2, A3, n3, c3, A4, n4, c4, A5, n5, c5, rfl, hb, ⟨x0, x1, x2, x3, x4⟩, ho, hn3, -⟩ := (HA.out.below HH.out HS.out.b).at_ HLk.out
      have HO := Lib.hid ho
      have HSg := Lib.hid (sumS_go HLk.out)
      have HWg := Lib.hid (wrL_go (p := p) HLk.out)
      have HSl := Lib.hid (Nat.le_trans (Nat.le_of_eq HSg.out.symm) (sumS_le l (k + 1)))
      have HWk := Lib.hid (HW.out _ (List.getElem_mem HLk.out)).syms
      obtain ⟨f1, f2, f3, f4, f5, f6, f7, f8, f9, f10, es, he, -, -, hrow, -⟩ := ho
      simp only [Value.agg.injEq, Array.mk.injEq, List.cons.injEq, Value.slice.injEq, and_true] at he
      obtain ⟨-, -, ⟨e31, -, -⟩, -, -⟩ := he
      subst e31
      have HRw := Lib.hid (show RowC w lo hi A3 _ from hrow.move (Nat.le_refl _) (Nat.le_refl _) (fun b _ h2 => (HS.out.b.block b (by have := HH.out; omega)).symm))
      have HN3 := Lib.hid hn3
      have hn3b : n3 ≤ 1000000 := by have := HSl.out; have := HSum.out; rw [hn3] at *; omega
      have HS1 := Lib.hid (HS.out.below ((Below.refl wr.heap.size wr).alloc (Nat.le_refl _) (.cells #[.slice A1 n1 c1, .slice A2 n2 c2, .slice A3 n3 c3, .slice A4 n4 c4, .slice A5 n5 c5] 31)))
      generalize l[k].syms = ss at *
      clear hrow hn3 HO
      go_wp2
      clear x0 x1 x2 x3 x4 HS
      generalize (wr.alloc (.cells #[.slice A1 n1 c1, .slice A2 n2 c2, .slice A3 n3 c3, .slice A4 n4 c4, .slice A5 n5 c5] 31)) = wk at *
      go_loopw [24] (fun i wr => ∃ j : Nat, j ≤ n3 ∧ i = .int .i64 j ∧ Hid (WS w n (2 * (sumS l k + j)) (wrS p k ss (wrL p l k) j) wr)) (fun i _ => n3 - (intOf i).toNat)
      case atStart => exact ⟨0, by omega, rfl, HS1⟩
      case round =>
        clear HS1
        obtain ⟨j, hj, rfl, HS⟩ := hrel
        by_cases hlj : j < n3
        · have j0 : (0 : Int) ≤ j := by omega
          have j1 : (j : Int) < n3 := by omega
          have HLj := Lib.hid (show j < ss.length by rw [HN3.out]; exact hlj)
          have HSj := Lib.hid (wrS_go (p := p) (i := (k : Int)) (M := wrL p l k) HLj.out)
          obtain ⟨b3, o3, eA3, _, hb3, hc3⟩ := HRw.out.at_ (sz := 4) (fun x => rfl) (by omega) (by have := HLj.out; omega)
          subst eA3
          have hbk := HS.out.b.block b3 (by have := HH.out; omega)
          have hWj := HWk.out _ (List.getElem_mem HLj.out)
          have hcj := hc3 j HLj.out
          have HSj2 := Lib.hid HSj.out
          obtain ⟨nm, dt, of, ot, hsj⟩ : ∃ nm dt of ot, ss[j]'HLj.out = (nm, dt, of, ot) := ⟨_, _, _, _, rfl⟩
          have hsj2 := HSj.out
          rw [hsj] at hWj hcj hsj2
          have HSq := Lib.hid hsj2
          have y0 := (World.cell?_of_block (a := ⟨b3, o3 + (j * 4 + 0), none⟩) hbk).trans (hcj 0 _ rfl)
          have y1 := (World.cell?_of_block (a := ⟨b3, o3 + (j * 4 + 1), none⟩) hbk).trans (hcj 1 _ rfl)
          have y2 := (World.cell?_of_block (a := ⟨b3, o3 + (j * 4 + 2), none⟩) hbk).trans (hcj 2 _ rfl)
          have y3 := (World.cell?_of_block (a := ⟨b3, o3 + (j * 4 + 3), none⟩) hbk).trans (hcj 3 _ rfl)
          rw [show o3 + (j * 4 + 0) = o3 + j * 4 by omega] at y0
          rw [show o3 + (j * 4 + 1) = o3 + j * 4 + 1 by omega] at y1
          rw [show o3 + (j * 4 + 2) = o3 + j * 4 + 2 by omega] at y2
          rw [show o3 + (j * 4 + 3) = o3 + j * 4 + 3 by omega] at y3
          have HSz := Lib.hid (show nm.size ≤ maxLen from hWj.1)
          have HKw := Lib.hid (fun (q : Bool) => (show KnW (nm, (k : Int), q) from ⟨HSz.out, by show (-9223372036854775808 : Int) ≤ k ∧ (k : Int) ≤ 9223372036854775807; have := HMx.out; omega⟩))
          have hbl := (Below.refl wr.heap.size wr).alloc (Nat.le_refl _) (.cells #[.string nm, .bool dt, .int .i64 of, .bool ot] 47)
          have HS1 := Lib.hid (HS.out.below hbl)
          have HBx := Lib.hid (heap_alloc_new wr (.cells #[.string nm, .bool dt, .int .i64 of, .bool ot] 47))
          have HLx := Lib.hid (show w.heap.size + 1 < wr.heap.size from by have := (Array.getElem?_eq_some_iff.1 HS.out.q).1; omega)
          clear hWj hcj hsj hsj2 hbk hc3 HS HSj HSj2 hbl
          go_wp2_with fail
          clear y0 y1 y2 y3
          generalize (wr.alloc (.cells #[.string nm, .bool dt, .int .i64 of, .bool ot] 47)) = wa at *
          generalize wr.heap.size = bx at *
          refine (every_any nm _).mono ?_
          rintro e w2 ⟨rfl, rfl⟩
          have HPn := Lib.hid (show p nm = true by rw [HP.out])
          obtain ⟨q0, q1, qf⟩ := row2 HS1.out.q
          obtain ⟨z0, z1, z2, z3, zf⟩ := row_cells4 HBx.out
          go_wp2_with fail
          refine (put_any n (w.heap.size + 1) _ _ (nm, (k : Int), false) (HKw.out false) j (by omega) (by omega) (by have := HSl.out; have := HSum.out; have := HN3.out; omega) wa HS1.out.k).mono ?_
          rintro e w3 ⟨rfl, hk3, ho3⟩
          have HS3 := Lib.hid (HS1.out.put hk3 ho3)
          have HB3 := Lib.hid ((ho3.block _ (Array.getElem?_eq_some_iff.1 HBx.out).1 (by have := HLx.out; omega)).trans HBx.out)
          clear hk3 ho3 q0 q1 qf z0 z1 z2 z3 zf HS1 HBx
          obtain ⟨q0, q1, qf⟩ := row2 HS3.out.q
          obtain ⟨z0, z1, z2, z3, zf⟩ := row_cells4 HB3.out
          cases ot
          case false =>
            have HS4 := Lib.hid (show WS w n (2 * (sumS l k + (j + 1))) (wrS p k ss (wrL p l k) (j + 1)) w3 from by
              rw [HSq.out]; unfold putS; rw [HPn.out]; exact HS3.out.mono (by omega))
            clear HS3 HB3
            go_wp2
            go_roundw
            case rel => exact ⟨j + 1, by omega, by go_num, HS4⟩
            case measure => simp [intOf]; omega
          case true =>
            go_wp2_with fail
            refine (put_any n (w.heap.size + 1) _ _ (nm, (k : Int), true) (HKw.out true) j (by omega) (by omega) (by have := HSl.out; have := HSum.out; have := HN3.out; omega) w3 HS3.out.k).mono ?_
            rintro e w4 ⟨rfl, hk4, ho4⟩
            have HS4 := Lib.hid (show WS w n (2 * (sumS l k + (j + 1))) (wrS p k ss (wrL p l k) (j + 1)) w4 from by
              rw [HSq.out]; unfold putS; rw [HPn.out]; exact (HS3.out.put hk4 ho4).mono (by omega))
            clear HS3 HB3 hk4 ho4 q0 q1 qf z0 z1 z2 z3 zf
            go_wp2
            go_roundw
            case rel => exact ⟨j + 1, by omega, by go_num, HS4⟩
            case measure => simp [intOf]; omega
        · have hjn : j = n3 := by omega
          have j1 : ¬ (j : Int) < n3 := by omega
          have HS2 := Lib.hid (show WS w n (2 * sumS l (k + 1)) (wrL p l (k + 1)) wr from by rw [HSg.out, HWg.out, HN3.out, ← hjn]; exact HS.out)
          clear hjn hlj HS
          go_wp2
          go_roundw
          case rel => exact ⟨k + 1, by omega, by go_num, HS2⟩
          case measure => simp [intOf]; omega
    · have hkn : k = n := by omega
      have k1 : ¬ (k : Int) < n := by omega
      have HS2 := Lib.hid (show WS w n (2 * sumS l l.length) (wrL p l n) wr from by rw [show wrL p l n = wrL p l k by rw [hkn]]; exact HS.out.mono (Nat.mul_le_mul_left 2 (sumS_le l k)))
      clear hkn hlt HS
      obtain ⟨q0, q1, qf⟩ := row2 HS2.out.q
      obtain ⟨r0, r1, rf⟩ := row2 HS2.out.r
      go_wp2
      exact bodyPost_ret (v := .agg #[.int .i64 n, .map (some (w.heap.size + 1))]) (res_write (b := w.heap.size) rfl (sfill2 HS2.out.r _ _)) rfl ⟨w.heap.size + 1, _, rfl, by omega, HS2.out.k.mapSet _ _, HSum.out, below_set2 HS2.out.b _ _⟩
set_option maxHeartbeats 4000000 in
theorem write_name (l : List ObjD) (hW : ∀ d ∈ l, ObjW d) (A : Option Addr) (n c lo hi : Nat) (hn : l.length = n) (hmx : n ≤ 1000000) (hsum : 2 * sumS l l.length < 1000000) (bn : Nat) (nm0 : ByteArray) (w : World) (hA : ObjsAt w lo hi l A) (hh : hi ≤ w.heap.size) (hcn : w.cell? ⟨bn, 0, none⟩ = some (.string nm0)) :
    Calls Tryd.prog 30 #[.slice A n c, .func (Fn.func 38) #[] #[.pointer (some ⟨bn, 0, none⟩)]] w (BkP l (fun s => decide (s = nm0)) n w) := by
  have HW := Lib.hid hW
  have HN := Lib.hid hn
  have HA := Lib.hid hA
  have HH := Lib.hid hh
  have HSum := Lib.hid hsum
  have HMx := Lib.hid hmx
  have HCn := Lib.hid hcn
  clear hcn
  obtain ⟨p, hp⟩ : ∃ p : ByteArray → Bool, p = (fun s => decide (s = nm0)) := ⟨_, rfl⟩
  have HP := Lib.hid hp
  have HS0 := Lib.hid (ws_start w n)
  rw [← hp]
  clear hW hn hA hh hsum hp
  have hmm := @run_makeMap Tryd.prog
  go_enter Tryd.func30, Tryd.ntmps30
  go_wp2
  go_loopw [16] (fun i wr => ∃ k : Nat, k ≤ n ∧ i = .int .i64 k ∧ Hid (WS w n (2 * sumS l k) (wrL p l k) wr)) (fun i _ => n - (intOf i).toNat)
  case atStart => exact ⟨0, by omega, rfl, HS0⟩
  case round =>
    clear HS0
    obtain ⟨k, hk, rfl, HS⟩ := hrel
    by_cases hlt : k < n
    · have k0 : (0 : Int) ≤ k := by omega
      have k1 : (k : Int) < n := by omega
      have HLk := Lib.hid (show k < l.length by rw [HN.out]; exact hlt)
      obtain ⟨b, o, A1, n1, c1, A2, n2, c2, A3, n3, c3, A4, n4, c4, A5, n5, c5, rfl, hb, ⟨x0, x1, x2, x3, x4⟩, ho, hn3, -⟩ := (HA.out.below HH.out HS.out.b).at_ HLk.out
      have HO := Lib.hid ho
      have HSg := Lib.hid (sumS_go HLk.out)
      have HWg := Lib.hid (wrL_go (p := p) HLk.out)
      have HSl := Lib.hid (Nat.le_trans (Nat.le_of_eq HSg.out.symm) (sumS_le l (k + 1)))
      have HWk := Lib.hid (HW.out _ (List.getElem_mem HLk.out)).syms
      obtain ⟨f1, f2, f3, f4, f5, f6, f7, f8, f9, f10, es, he, -, -, hrow, -⟩ := ho
      simp only [Value.agg.injEq, Array.mk.injEq, List.cons.injEq, Value.slice.injEq, and_true] at he
      obtain ⟨-, -, ⟨e31, -, -⟩, -, -⟩ := he
      subst e31
      have HRw := Lib.hid (show RowC w lo hi A3 _ from hrow.move (Nat.le_refl _) (Nat.le_refl _) (fun b _ h2 => (HS.out.b.block b (by have := HH.out; omega)).symm))
      have HN3 := Lib.hid hn3
      have hn3b : n3 ≤ 1000000 := by have := HSl.out; have := HSum.out; rw [hn3] at *; omega
      have HS1 := Lib.hid (HS.out.below ((Below.refl wr.heap.size wr).alloc (Nat.le_refl _) (.cells #[.slice A1 n1 c1, .slice A2 n2 c2, .slice A3 n3 c3, .slice A4 n4 c4, .slice A5 n5 c5] 31)))
      generalize l[k].syms = ss at *
      clear hrow hn3 HO
      go_wp2
      clear x0 x1 x2 x3 x4 HS
      generalize (wr.alloc (.cells #[.slice A1 n1 c1, .slice A2 n2 c2, .slice A3 n3 c3, .slice A4 n4 c4, .slice A5 n5 c5] 31)) = wk at *
      go_loopw [24] (fun i wr => ∃ j : Nat, j ≤ n3 ∧ i = .int .i64 j ∧ Hid (WS w n (2 * (sumS l k + j)) (wrS p k ss (wrL p l k) j) wr)) (fun i _ => n3 - (intOf i).toNat)
      case atStart => exact ⟨0, by omega, rfl, HS1⟩
      case round =>
        clear HS1
        obtain ⟨j, hj, rfl, HS⟩ := hrel
        by_cases hlj : j < n3
        · have j0 : (0 : Int) ≤ j := by omega
          have j1 : (j : Int) < n3 := by omega
          have HLj := Lib.hid (show j < ss.length by rw [HN3.out]; exact hlj)
          have HSj := Lib.hid (wrS_go (p := p) (i := (k : Int)) (M := wrL p l k) HLj.out)
          obtain ⟨b3, o3, eA3, _, hb3, hc3⟩ := HRw.out.at_ (sz := 4) (fun x => rfl) (by omega) (by have := HLj.out; omega)
          subst eA3
          have hbk := HS.out.b.block b3 (by have := HH.out; omega)
          have hWj := HWk.out _ (List.getElem_mem HLj.out)
          have hcj := hc3 j HLj.out
          have HSj2 := Lib.hid HSj.out
          obtain ⟨nm, dt, of, ot, hsj⟩ : ∃ nm dt of ot, ss[j]'HLj.out = (nm, dt, of, ot) := ⟨_, _, _, _, rfl⟩
          have hsj2 := HSj.out
          rw [hsj] at hWj hcj hsj2
          have HSq := Lib.hid hsj2
          have y0 := (World.cell?_of_block (a := ⟨b3, o3 + (j * 4 + 0), none⟩) hbk).trans (hcj 0 _ rfl)
          have y1 := (World.cell?_of_block (a := ⟨b3, o3 + (j * 4 + 1), none⟩) hbk).trans (hcj 1 _ rfl)
          have y2 := (World.cell?_of_block (a := ⟨b3, o3 + (j * 4 + 2), none⟩) hbk).trans (hcj 2 _ rfl)
          have y3 := (World.cell?_of_block (a := ⟨b3, o3 + (j * 4 + 3), none⟩) hbk).trans (hcj 3 _ rfl)
          rw [show o3 + (j * 4 + 0) = o3 + j * 4 by omega] at y0
          rw [show o3 + (j * 4 + 1) = o3 + j * 4 + 1 by omega] at y1
          rw [show o3 + (j * 4 + 2) = o3 + j * 4 + 2 by omega] at y2
          rw [show o3 + (j * 4 + 3) = o3 + j * 4 + 3 by omega] at y3
          have HSz := Lib.hid (show nm.size ≤ maxLen from hWj.1)
          have HKw := Lib.hid (fun (q : Bool) => (show KnW (nm, (k : Int), q) from ⟨HSz.out, by show (-9223372036854775808 : Int) ≤ k ∧ (k : Int) ≤ 9223372036854775807; have := HMx.out; omega⟩))
          have hbl := (Below.refl wr.heap.size wr).alloc (Nat.le_refl _) (.cells #[.string nm, .bool dt, .int .i64 of, .bool ot] 47)
          have HS1 := Lib.hid (HS.out.below hbl)
          have HBx := Lib.hid (heap_alloc_new wr (.cells #[.string nm, .bool dt, .int .i64 of, .bool ot] 47))
          have HLx := Lib.hid (show w.heap.size + 1 < wr.heap.size from by have := (Array.getElem?_eq_some_iff.1 HS.out.q).1; omega)
          clear hWj hcj hsj hsj2 hbk hc3 HS HSj HSj2 hbl
          go_wp2_with fail
          clear y0 y1 y2 y3
          generalize (wr.alloc (.cells #[.string nm, .bool dt, .int .i64 of, .bool ot] 47)) = wa at *
          generalize wr.heap.size = bx at *
          refine (isname_any bn nm0 nm _ ((HS1.out.b.cell (p := ⟨bn, 0, none⟩) (block_lt HCn.out)).trans HCn.out)).mono ?_
          rintro e w2 ⟨rfl, rfl⟩
          cases hp0 : decide (nm = nm0)
          case false =>
            have HPn := Lib.hid (show p nm = false by rw [HP.out]; exact hp0)
            have HS4 := Lib.hid (show WS w n (2 * (sumS l k + (j + 1))) (wrS p k ss (wrL p l k) (j + 1)) wa from by
              rw [HSq.out]; unfold putS; rw [HPn.out]; exact HS1.out.mono (by omega))
            clear HS1 HBx hp0
            go_wp2
            go_roundw
            case rel => exact ⟨j + 1, by omega, by go_num, HS4⟩
            case measure => simp [intOf]; omega
          case true =>
            have HPn := Lib.hid (show p nm = true by rw [HP.out]; exact hp0)
            clear hp0
            obtain ⟨q0, q1, qf⟩ := row2 HS1.out.q
            obtain ⟨z0, z1, z2, z3, zf⟩ := row_cells4 HBx.out
            go_wp2_with fail
            refine (put_any n (w.heap.size + 1) _ _ (nm, (k : Int), false) (HKw.out false) j (by omega) (by omega) (by have := HSl.out; have := HSum.out; have := HN3.out; omega) wa HS1.out.k).mono ?_
            rintro e w3 ⟨rfl, hk3, ho3⟩
            have HS3 := Lib.hid (HS1.out.put hk3 ho3)
            have HB3 := Lib.hid ((ho3.block _ (Array.getElem?_eq_some_iff.1 HBx.out).1 (by have := HLx.out; omega)).trans HBx.out)
            clear hk3 ho3 q0 q1 qf z0 z1 z2 z3 zf HS1 HBx
            obtain ⟨q0, q1, qf⟩ := row2 HS3.out.q
            obtain ⟨z0, z1, z2, z3, zf⟩ := row_cells4 HB3.out
            cases ot
            case false =>
              have HS4 := Lib.hid (show WS w n (2 * (sumS l k + (j + 1))) (wrS p k ss (wrL p l k) (j + 1)) w3 from by
                rw [HSq.out]; unfold putS; rw [HPn.out]; exact HS3.out.mono (by omega))
              clear HS3 HB3
              go_wp2
              go_roundw
              case rel => exact ⟨j + 1, by omega, by go_num, HS4⟩
              case measure => simp [intOf]; omega
            case true =>
              go_wp2_with fail
              refine (put_any n (w.heap.size + 1) _ _ (nm, (k : Int), true) (HKw.out true) j (by omega) (by omega) (by have := HSl.out; have := HSum.out; have := HN3.out; omega) w3 HS3.out.k).mono ?_
              rintro e w4 ⟨rfl, hk4, ho4⟩
              have HS4 := Lib.hid (show WS w n (2 * (sumS l k + (j + 1))) (wrS p k ss (wrL p l k) (j + 1)) w4 from by
                rw [HSq.out]; unfold putS; rw [HPn.out]; exact (HS3.out.put hk4 ho4).mono (by omega))
              clear HS3 HB3 hk4 ho4 q0 q1 qf z0 z1 z2 z3 zf
              go_wp2
              go_roundw
              case rel => exact ⟨j + 1, by omega, by go_num, HS4⟩
              case measure => simp [intOf]; omega
        · have hjn : j = n3 := by omega
          have j1 : ¬ (j : Int) < n3 := by omega
          have HS2 := Lib.hid (show WS w n (2 * sumS l (k + 1)) (wrL p l (k + 1)) wr from by rw [HSg.out, HWg.out, HN3.out, ← hjn]; exact HS.out)
          clear hjn hlj HS
          go_wp2
          go_roundw
          case rel => exact ⟨k + 1, by omega, by go_num, HS2⟩
          case measure => simp [intOf]; omega
    · have hkn : k = n := by omega
      have k1 : ¬ (k : Int) < n := by omega
      have HS2 := Lib.hid (show WS w n (2 * sumS l l.length) (wrL p l n) wr from by rw [show wrL p l n = wrL p l k by rw [hkn]]; exact HS.out.mono (Nat.mul_le_mul_left 2 (sumS_le l k)))
      clear hkn hlt HS
      obtain ⟨q0, q1, qf⟩ := row2 HS2.out.q
      obtain ⟨r0, r1, rf⟩ := row2 HS2.out.r
      go_wp2
      exact bodyPost_ret (v := .agg #[.int .i64 n, .map (some (w.heap.size + 1))]) (res_write (b := w.heap.size) rfl (sfill2 HS2.out.r _ _)) rfl ⟨w.heap.size + 1, _, rfl, by omega, HS2.out.k.mapSet _ _, HSum.out, below_set2 HS2.out.b _ _⟩
end Go.Proofs.YthoehbmbmjmpbaaDoor
