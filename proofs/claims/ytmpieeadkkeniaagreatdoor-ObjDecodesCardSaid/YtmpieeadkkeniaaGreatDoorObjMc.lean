/- Layer 6: the reference's Decode, walked. No condition. -/
import Derived.Test.YtmpieeadkkeniaaGreatDoorObjMb
import Derived.Test.YtmpieeadkkeniaaGreatDoorObjLd
import Derived.Deep.DeepCutAuto
import Derived.Deep.CutBlock
namespace Go.Proofs.YtmpieeadkkeniaaGreatDoor
set_option maxRecDepth 100000
open Go.RowKit
set_option linter.unusedVariables false
theorem calls_rfnum (args : Array Value) (w : World) : (callFunc 35 args).run Tryz.prog w = .ok (.enter 35 args) w := by kernel_rfl
abbrev CntIf (c0 c1 c2 c3 c4 : Nat) (cs : List Int) (k : Nat) : Prop := cs.length = k ∧ (∀ x ∈ cs, 0 ≤ x ∧ x < 65536) ∧ (0 < k → nth cs 0 = c0) ∧ (1 < k → nth cs 1 = c1) ∧ (2 < k → nth cs 2 = c2) ∧ (3 < k → nth cs 3 = c3) ∧ (4 < k → nth cs 4 = c4)
theorem nth_snoc_lt {cs : List Int} {x : Int} {j : Nat} (h : j < cs.length) : nth (cs ++ [x]) j = nth cs j := by
  unfold nth; rw [List.getD_eq_getElem?_getD, List.getD_eq_getElem?_getD, List.getElem?_append_left h]
theorem nth_snoc_eq {cs : List Int} {x : Int} : nth (cs ++ [x]) cs.length = x := by
  unfold nth; simp [List.getD_eq_getElem?_getD]
theorem CntIf.next {c0 c1 c2 c3 c4 k m : Nat} {cs : List Int} (hk : k < 5) (h : CntIf c0 c1 c2 c3 c4 cs k) (hm : m < 65536) : CntIf (if k = 0 then m else c0) (if k = 1 then m else c1) (if k = 2 then m else c2) (if k = 3 then m else c3) (if k = 4 then m else c4) (cs ++ [(m : Int)]) (k + 1) := by
  obtain ⟨hl, hb, h0, h1, h2, h3, h4⟩ := h
  refine ⟨by simp [hl], fun x hx => ?_, ?_, ?_, ?_, ?_, ?_⟩
  · rcases List.mem_append.1 hx with h | h
    · exact hb x h
    · rw [List.mem_singleton.1 h]; omega
  all_goals
    intro hj
    split
    · rename_i e
      subst hl
      rw [← e]
      exact nth_snoc_eq
    · rename_i e
      rw [nth_snoc_lt (by omega)]
      first | exact h0 (by omega) | exact h1 (by omega) | exact h2 (by omega) | exact h3 (by omega) | exact h4 (by omega)
/-- a list as far as it is read: D tells how memory lies, with the list's row -/
def RdI {α : Type} (D : List Int → Bool → Value → World → Prop) (bt : Nat) (ty : TypeId) (enc : α → List Value) (sz : Nat) (ok : α → Prop) (f : Rd α) (l0 : List Int) (b0 : Bool) (k : Nat) (w : World) : Prop :=
  ∃ (xs : List α) (l : List Int) (bad : Bool) (A : Option Addr) (e : Nat), xs.length = k ∧ D l bad (.slice A k e) w ∧ w.ownsRow bt ty sz (.slice A k e) k (xs.flatMap enc) ∧ bt ≤ w.heap.size ∧ (∀ x ∈ xs, ok x) ∧ (if b0 then none else rdL f k l0) = (if bad then none else some (xs, l))
theorem RdI.start {α : Type} {D : List Int → Bool → Value → World → Prop} {bt : Nat} {ty : TypeId} {enc : α → List Value} {sz : Nat} {ok : α → Prop} {f : Rd α} {l0 : List Int} {b0 : Bool} {w : World} (h : D l0 b0 (.slice none 0 0) w) (hb : bt ≤ w.heap.size) : RdI D bt ty enc sz ok f l0 b0 0 w :=
  ⟨[], l0, b0, none, 0, rfl, h, World.ownsRow_nil w _ _ _, hb, fun x hx => (by cases hx), rf_start⟩
theorem RdI.next {α : Type} {D : List Int → Bool → Value → World → Prop} {bt : Nat} {ty : TypeId} {enc : α → List Value} {sz : Nat} {ok : α → Prop} {f : Rd α} {l0 : List Int} {b0 : Bool} {w : World} {k : Nat} {xs : List α} {x : α} {l : List Int} {bad : Bool} {A : Option Addr} {e : Nat} (hl : xs.length = k) (hD : D l bad (.slice A (k + 1) e) w) (ho : w.ownsRow bt ty sz (.slice A (k + 1) e) (k + 1) (xs.flatMap enc ++ enc x)) (hb : bt ≤ w.heap.size) (hx : ∀ x ∈ xs, ok x) (hx1 : ok x) (hE : (if b0 then none else rdL f (k + 1) l0) = (if bad then none else some (xs ++ [x], l))) : RdI D bt ty enc sz ok f l0 b0 (k + 1) w :=
  ⟨xs ++ [x], l, bad, A, e, by simp [hl], hD, by rw [List.flatMap_append, List.flatMap_cons, List.flatMap_nil, List.append_nil]; exact ho, hb, fun y hy => by
    rcases List.mem_append.1 hy with h | h
    · exact hx y h
    · rw [List.mem_singleton.1 h]; exact hx1, hE⟩
/-- a list that is read, or of which something was missing -/
def RdE {α : Type} (D : List Int → Bool → Value → World → Prop) (bt : Nat) (enc : α → List Value) (ok : α → Prop) (f : Rd α) (n : Nat) (l0 : List Int) (b0 : Bool) (w : World) : Prop :=
  ∃ (xs : List α) (l : List Int) (bad : Bool) (A : Option Addr) (e : Nat), xs.length ≤ n ∧ D l bad (.slice A xs.length e) w ∧ RowC w bt w.heap.size A (xs.flatMap enc) ∧ bt ≤ w.heap.size ∧ (∀ x ∈ xs, ok x) ∧ (if b0 then none else rdL f n l0) = (if bad then none else some (xs, l))
theorem RdE.of {α : Type} {D : List Int → Bool → Value → World → Prop} {bt : Nat} {ty : TypeId} {enc : α → List Value} {sz : Nat} {ok : α → Prop} {f : Rd α} {l0 : List Int} {b0 : Bool} {w : World} {k n : Nat} {xs : List α} {l : List Int} {bad : Bool} {A : Option Addr} {e : Nat} (hk : k ≤ n) (hl : xs.length = k) (hD : D l bad (.slice A k e) w) (ho : w.ownsRow bt ty sz (.slice A k e) k (xs.flatMap enc)) (hb : bt ≤ w.heap.size) (hx : ∀ x ∈ xs, ok x) (hE : (if b0 then none else rdL f k l0) = (if bad then none else some (xs, l))) (hB : bad = false → k = n) : RdE D bt enc ok f n l0 b0 w := by
  subst hl
  exact ⟨xs, l, bad, A, e, hk, hD, RowC.of_own ho, hb, hx, rf_done hk hB hE⟩
def SymK (s : SymD) : Prop := s.1.size ≤ 255 ∧ 0 ≤ s.2.2.1 ∧ s.2.2.1 < 4294967296
theorem own_not {w : World} {base sz n b j : Nat} {ty : TypeId} {v u : Value} {cs : List Value} (h : w.ownsRow base ty sz v n cs) (hb : ∀ g, v.ownBlock = some g → g < b) : (w.setCell ⟨b, j, none⟩ u).ownsRow base ty sz v n cs :=
  rowO_kept h (grown_setO w b j u) (fun g hg e => by cases e; have := hb _ hg; omega)
theorem mone_sym (s : SymD) : ∀ u ∈ encSym s, u.oneCell' = true := fun u hu => by
  unfold encSym at hu; simp only [List.mem_cons, List.not_mem_nil, or_false] at hu; rcases hu with rfl | rfl | rfl | rfl <;> rfl
theorem mone_rel (s : RelD) : ∀ u ∈ encRel s, u.oneCell' = true := fun u hu => by
  unfold encRel at hu; simp only [List.mem_cons, List.not_mem_nil, or_false] at hu; rcases hu with rfl | rfl | rfl | rfl <;> rfl
theorem heap_alloc_same (w : World) (o : Obj) {b : Nat} (h : b < w.heap.size) : (w.alloc o).heap[b]? = w.heap[b]? := ((Below.refl w.heap.size w).alloc (Nat.le_refl _) o).block b h
theorem wrap_i64_id {x : Int} (h : 0 ≤ x ∧ x < 256) : IntKind.i64.wrap x = x := by rw [IntKind.wrap_i64]; omega
theorem objR_all {l l1 l2 l3 l4 l5 l6 l7 : List Int} {b1 b2 b3 b4 b5 b6 b7 : Bool} {x : Int} {m0 m1 m2 m3 m4 : Nat} {t1 t2 : List Int} {t3 : List SymD} {t4 : List RelD} {t5 : List EntD}
    (h0 : (if false then none else rdN 4 l) = (if b1 then none else some (x, l1))) (h1 : (if b1 then none else rdL (rdN 2) 5 l1) = (if b2 then none else some ([(m0 : Int), m1, m2, m3, m4], l2))) (h2 : (if b2 then none else rdL (rdN 4) m0 l2) = (if b3 then none else some (t1, l3))) (h3 : (if b3 then none else rdL (rdN 8) m1 l3) = (if b4 then none else some (t2, l4)))
    (h4 : (if b4 then none else rdL rdSymR m2 l4) = (if b5 then none else some (t3, l5))) (h5 : (if b5 then none else rdL rdRel m3 l5) = (if b6 then none else some (t4, l6))) (h6 : (if b6 then none else rdL rdEnt m4 l6) = (if b7 then none else some (t5, l7))) : rdObjR l = if b7 then none else some (⟨t1, t2, t3, t4, t5⟩, l7) := by
  show (if false then none else rdObjR l) = _
  unfold rdObjR
  refine (rf_bind h0).trans ?_
  refine (rf_bind h1).trans ?_
  refine (rf_bind h2).trans ?_
  refine (rf_bind h3).trans ?_
  refine (rf_bind h4).trans ?_
  refine (rf_bind h5).trans ?_
  exact rf_bind h6
theorem res_rdec {T : Array Value} {b : Nat} {c : Int} {W : World} {v0 v1 v2 v3 v4 : Value} {ty : TypeId} (h2 : T[2]? = some (.pointer (some ⟨b, 0, none⟩))) (h3 : T[3]? = some (.int .i64 c)) (hr : W.heap[b]? = some (.cells #[v0, v1, v2, v3, v4] ty (0, 0))) :
    (results Tryz.f15 T).run Tryz.prog W = .ok (.tuple #[.agg #[v0, v1, v2, v3, v4], .int .i64 c]) W := by
  obtain ⟨⟨z0, z1, z2, z3, z4⟩, _⟩ := row_cells5 hr
  simp [results, Tryz.results15, go_sem, h2, h3, z0, z1, z2, z3, z4]
theorem dec_no1 {l rest : List Int} {d : ObjD} (ha : AllB l) (hW : ObjW d) (hr : rdObjR l = if true then none else some (d, rest)) : decB l = none := by
  rw [dec_final ha hW hr]; simp
theorem dec_no2 {l rest : List Int} {d : ObjD} (ha : AllB l) (hW : ObjW d) (hr : rdObjR l = if false then none else some (d, rest)) (h : rest ≠ []) : decB l = none := by
  rw [dec_final ha hW hr]
  cases rest with
  | nil => exact absurd rfl h
  | cons a r => simp
theorem dec_no3 {l : List Int} {d : ObjD} (ha : AllB l) (hW : ObjW d) (hr : rdObjR l = if false then none else some (d, [])) (h : mayO d = false) : decB l = none := by
  rw [dec_final ha hW hr, h]; simp
theorem dec_no4 {l : List Int} {d : ObjD} (ha : AllB l) (hW : ObjW d) (hr : rdObjR l = if false then none else some (d, [])) (h : (encB d == l) = false) : decB l = none := by
  rw [dec_final ha hW hr, h]; simp
theorem dec_yes {l : List Int} {d : ObjD} (ha : AllB l) (hW : ObjW d) (hr : rdObjR l = if false then none else some (d, [])) (h : mayO d = true) (h2 : (encB d == l) = true) : decB l = some d := by
  rw [dec_final ha hW hr, h, h2]; simp
theorem wpList_store_obj {w : World} {ops : Array Oper} {rest : List Oper} {o : Oper} {a : Act} {Q : Exit → Act → World → Prop} (hgd : o.guard = none) (x y : Operand) (ho : o.op = .store 28 x y)
    (b : Nat) (hx : a.eval x = .pointer (some ⟨b, 0, none⟩)) (A1 A2 A3 A4 A5 : Option Addr) (n1 n2 n3 n4 n5 c1 c2 c3 c4 c5 : Nat) (hy : a.eval y = .agg #[.slice A1 n1 c1, .slice A2 n2 c2, .slice A3 n3 c3, .slice A4 n4 c4, .slice A5 n5 c5]) {a0 a1 a2 a3 a4 : Value} {T : TypeId} (hr : w.heap[b]? = some (.cells #[a0, a1, a2, a3, a4] T (0, 0))) (hd : o.dst = none)
    (h : ∀ w', w'.heap[b]? = some (.cells #[.slice A1 n1 c1, .slice A2 n2 c2, .slice A3 n3 c3, .slice A4 n4 c4, .slice A5 n5 c5] T (0, 0)) → w.grownBy w' (some b) → wpList Tryz.prog ops Q rest a w') : wpList Tryz.prog ops Q (o :: rest) a w :=
  wpList_plain hgd fun K hK => by
    obtain ⟨⟨z0, z1, z2, z3, z4⟩, zf⟩ := row_cells5 hr
    have f0 := zf 0
    have f1 := zf 1
    have f2 := zf 2
    have f3 := zf 3
    have f4 := zf 4
    have e : a.put o.dst undef = a := by rw [hd]; rfl
    have hk := hK _ _ (h _ (fill5 hr (.slice A1 n1 c1) (.slice A2 n2 c2) (.slice A3 n3 c3) (.slice A4 n4 c4) (.slice A5 n5 c5)) (((((grown_setO w b 0 _).trans (grown_setO _ b 1 _)).trans (grown_setO _ b 2 _)).trans (grown_setO _ b 3 _)).trans (grown_setO _ b 4 _)))
    unfold Oper.wp execOp
    simp only [ho, hx, hy]
    simp [go_sem, z0, z1, z2, z3, z4, f0, f1, f2, f3, f4, hd]
    exact hk
theorem wpList_build_obj {w : World} {ops : Array Oper} {rest : List Oper} {o : Oper} {a : Act} {Q : Exit → Act → World → Prop} (hgd : o.guard = none) (ho : o.op = .build 28 #[]) (h : wpList Tryz.prog ops Q rest (a.put o.dst nil5) w) : wpList Tryz.prog ops Q (o :: rest) a w :=
  wpList_plain hgd fun K hK => by
    have hb : (Instr.build 28 #[]).run Tryz.prog w = .ok nil5 w := by kernel_rfl
    have hk := hK _ _ h
    unfold Oper.wp execOp
    simp only [ho, List.map_toArray, List.map_nil, Sem.run_bind, hb, Result.andThen_ok, Sem.run_pure]
    exact hk
theorem wpList_load_obj {w : World} {ops : Array Oper} {rest : List Oper} {o : Oper} {a : Act} {Q : Exit → Act → World → Prop} (hgd : o.guard = none) (x : Operand) (ho : o.op = .load 28 x) (b : Nat) (hx : a.eval x = .pointer (some ⟨b, 0, none⟩)) {v0 v1 v2 v3 v4 : Value} {T : TypeId} (hr : w.heap[b]? = some (.cells #[v0, v1, v2, v3, v4] T (0, 0))) (h : wpList Tryz.prog ops Q rest (a.put o.dst (.agg #[v0, v1, v2, v3, v4])) w) : wpList Tryz.prog ops Q (o :: rest) a w :=
  wpList_plain hgd fun K hK => by
    obtain ⟨⟨z0, z1, z2, z3, z4⟩, zf⟩ := row_cells5 hr
    have hb : (Instr.loadAt 28 (.pointer (some ⟨b, 0, none⟩))).run Tryz.prog w = .ok (.agg #[v0, v1, v2, v3, v4]) w := by simp [go_sem, z0, z1, z2, z3, z4]
    have hk := hK _ _ h
    unfold Oper.wp execOp
    simp only [ho, hx, Sem.run_bind, hb, Result.andThen_ok, Sem.run_pure]
    exact hk
theorem wrap_u32_id {x : Int} (h : 0 ≤ x ∧ x < 4294967296) : IntKind.u32.wrap x = x := by rw [IntKind.wrap_u32]; omega
set_option maxHeartbeats 16000000 in
theorem rdec_any (A : Option Addr) (l : List Int) (n c : Nat) (w : World) (hs : SlB w w.heap.size A l) (hn : l.length = n) (ha : AllB l) (hc : n ≤ c) (hm : c ≤ maxLen) :
    Calls Tryz.prog 15 #[.slice A n c] w (DecP (decB l) w) := by
  obtain ⟨W, hWe, hWR, hWr, hWo, hWb⟩ := rdec_start A l n c w hs hn ha hc hm
  have HWe := Lib.hid hWe
  have HR := Lib.hid hWR
  have Hr := Lib.hid hWr
  have Ho := Lib.hid hWo
  have Hb := Lib.hid hWb
  have HS := Lib.hid hs
  have HN := Lib.hid hn
  have HA := Lib.hid ha
  have HC := Lib.hid (And.intro hc hm)
  clear hWe hWR hWr hWo hWb hs ha hc hm hn
  go_enter Tryz.func15, Tryz.ntmps15
  go_wp2_with fail
  rw [← HWe.out]
  refine (rfnum_any 4 (by omega) _ _ l false W HR.out).mono ?_
  rintro e w1 ⟨ho, x, v, l1, b1, rfl, ⟨rfl, x0, x1⟩, hR, hE⟩
  have HE0 := Lib.hid hE
  have HD0 := Lib.hid (DS.start (ho.row Hr.out (by omega)) (ho.row Ho.out (by omega)) (ho.to_below Hb.out (by omega)) hR)
  have HQ := Lib.hid (show w1.heap.size < (w1.alloc (.cells #[.int .i64 0, .int .i64 0, .int .i64 0, .int .i64 0, .int .i64 0] 77)).heap.size by simp)
  clear ho hR hE x0 x1 HR Hr Ho Hb HWe
  go_wp2
  go_loopw [7] (fun i wr => ∃ (k : Nat) (cs l' : List Int) (bad : Bool) (c0 c1 c2 c3 c4 : Nat), i = .int .i64 k ∧ k ≤ 5 ∧ CntIf c0 c1 c2 c3 c4 cs k ∧ Hid (DS w w1.heap.size l' bad (.slice none 0 0) (.slice none 0 0) (.slice none 0 0) (.slice none 0 0) (.slice none 0 0) c0 c1 c2 c3 c4 wr) ∧ Hid ((if b1 then none else rdL (rdN 2) k l1) = (if bad then none else some (cs, l')))) (fun i _ => 5 - (intOf i).toNat)
  case atStart => exact ⟨0, [], l1, b1, 0, 0, 0, 0, 0, rfl, by omega, ⟨rfl, fun x hx => (by cases hx), fun h => (by omega), fun h => (by omega), fun h => (by omega), fun h => (by omega), fun h => (by omega)⟩, HD0, Lib.hid rf_start⟩
  case round =>
    clear HD0 HQ
    obtain ⟨k, cs, l2, b2, m0, m1, m2, m3, m4, rfl, hk, hcs, HD, HE⟩ := hrel
    have HCs := Lib.hid hcs
    clear hcs
    have k0 : (0 : Int) ≤ k := by omega
    by_cases hlt : k < 5
    · have k0 : (0 : Int) ≤ k := by omega
      have k1 : (k : Int) < 5 := by omega
      go_wp2_with fail
      refine (rfnum_any 2 (by omega) _ _ l2 b2 wr HD.out.rd).mono ?_
      rintro e w2 ⟨ho, x, v, l3, b3, rfl, ⟨rfl, x0, x1⟩, hR, hE⟩
      obtain ⟨m, rfl⟩ := Int.eq_ofNat_of_zero_le x0
      have hm : m < 65536 := by
        have : (256 : Int) ^ 2 = 65536 := rfl
        omega
      have HE2 := Lib.hid (rf_next HE.out hE)
      have HD2 := Lib.hid (HD.out.step ho hR)
      have HD3 := Lib.hid (DS.setN (m := m) hlt HD2.out)
      have HC3 := Lib.hid (HCs.out.next hlt hm)
      have hq := HD2.out.lt
      have hfz := frozen_of_row w2 w1.heap.size k _ _ HD2.out.n
      have hcl : ∃ u, w2.cell? ⟨w1.heap.size, k, none⟩ = some u := by
        refine ⟨_, (cell_of_row w2 w1.heap.size k _ _ _ HD2.out.n).trans (Array.getElem?_eq_getElem (show k < 5 from hlt))⟩
      obtain ⟨u, hcl⟩ := hcl
      clear ho hR hE x0 x1 HE HD HCs
      go_wp2
      go_roundw
      case rel => exact ⟨k + 1, cs ++ [(m : Int)], l3, b3, _, _, _, _, _, by go_num, by omega, HC3.out, HD3, HE2⟩
      case measure => simp [intOf]; omega
    · have hk5 : k = 5 := by omega
      have hcs5 := HCs.out
      rw [hk5] at hcs5
      have hE5 := HE.out
      rw [hk5] at hE5
      obtain ⟨hcl, hcb, hc0, hc1, hc2, hc3, hc4⟩ := hcs5
      have hcs : cs = [(m0 : Int), m1, m2, m3, m4] := by rw [five_cases hcl, hc0 (by omega), hc1 (by omega), hc2 (by omega), hc3 (by omega), hc4 (by omega)]
      subst hcs
      have hm0 : m0 < 65536 := by have := (hcb m0 (by simp)).2; omega
      have hm1 : m1 < 65536 := by have := (hcb m1 (by simp)).2; omega
      have hm2 : m2 < 65536 := by have := (hcb m2 (by simp)).2; omega
      have hm3 : m3 < 65536 := by have := (hcb m3 (by simp)).2; omega
      have hm4 : m4 < 65536 := by have := (hcb m4 (by simp)).2; omega
      have E1 := Lib.hid (And.intro HE0.out hE5)
      clear hcl hcb hc0 hc1 hc2 hc3 hc4 HCs HE HE0 hk hE5 hk5
      generalize hqq : w1.heap.size = q at *
      clear hqq
      have HQ := Lib.hid (And.intro HD.out.q HD.out.lt)
      have k1 : ¬ (k : Int) < 5 := by omega
      go_upto_block 2 with fail
      clear k1 k0 hlt
      generalize (k : Int) = kk5
      obtain ⟨bt0, hbt⟩ : ∃ bt, wr.heap.size = bt := ⟨_, rfl⟩
      have HQ0 := Lib.hid (show q < bt0 by have := HQ.out; omega)
      obtain ⟨X0, hX0⟩ : ∃ X : World → Prop, X = fun _ => True := ⟨_, rfl⟩
      have HXd0 := Lib.hid hX0
      have HK0 := Lib.hid (show Keeps X0 q bt0 by rw [hX0]; exact Keeps.true _ _)
      have HD1 := Lib.hid (show DX w X0 bt0 q l2 b2 (.slice none 0 0) (.slice none 0 0) (.slice none 0 0) (.slice none 0 0) (.slice none 0 0) m0 m1 m2 m3 m4 wr from ⟨HD.out, by rw [hX0]; trivial, by omega⟩)
      clear HD HQ hX0 hbt
      have HD := HD1
      clear HD1
      go_cut [] (fun wx => Hid (RdE (fun l bad v w' => DX w X0 bt0 q l bad v (.slice none 0 0) (.slice none 0 0) (.slice none 0 0) (.slice none 0 0) m0 m1 m2 m3 m4 w') bt0 encU32 IsW (rdN 4) m0 l2 b2 wx))
      case first =>
        go_wp2
        go_loopw [8] (fun i ws => ∃ k : Nat, k ≤ m0 ∧ i = .int .i64 k ∧ Hid (RdI (fun l bad v w' => DX w X0 bt0 q l bad v (.slice none 0 0) (.slice none 0 0) (.slice none 0 0) (.slice none 0 0) m0 m1 m2 m3 m4 w') bt0 43 encU32 1 IsW (rdN 4) l2 b2 k ws)) (fun i _ => m0 - (intOf i).toNat)
        case atStart => exact ⟨0, by omega, rfl, Lib.hid (RdI.start HD.out HD.out.h)⟩
        case round =>
          clear HD
          obtain ⟨k, hk, rfl, HI⟩ := hrel
          obtain ⟨xs, lk, bk, Ak, ek, hl, hD, hO, hZ, hX, hE⟩ := HI.out
          have HD := Lib.hid hD
          have HO := Lib.hid hO
          have HZ := Lib.hid hZ
          have HX := Lib.hid hX
          have HE := Lib.hid hE
          clear HI hD hO hZ hX hE
          obtain ⟨⟨x0, x1, x2, x3, x4⟩, _⟩ := row_cells5 HD.out.d.n
          obtain ⟨A', n', c', hV⟩ := HD.out.d.rd
          obtain ⟨hcell, hbc, hfz⟩ := hV.cells
          have hcr := (cell_of_row wr (w.heap.size + 1) 0 _ _ _ HD.out.d.o)
          simp only [List.getElem?_toArray, List.getElem?_cons_zero] at hcr
          have hfr := frozen_of_row wr (w.heap.size + 1) 0 _ _ HD.out.d.o
          clear hV
          by_cases hlt : k < m0
          · have k0 : (0 : Int) ≤ k := by omega
            have k1 : (k : Int) < m0 := by omega
            cases bk
            case true =>
              have HY := Lib.hid (RdE.of (D := (fun l bad v w' => DX w X0 bt0 q l bad v (.slice none 0 0) (.slice none 0 0) (.slice none 0 0) (.slice none 0 0) m0 m1 m2 m3 m4 w')) hk hl HD.out HO.out HZ.out HX.out HE.out (fun h => by cases h))
              go_wp2
              go_meet
              case rel => exact HY
            case false =>
              have HL := Lib.hid hl
              clear hl
              obtain ⟨i0, hi0, hz0, hz1, hz2⟩ := info_parts info_u32
              have HCal := Lib.hid (rfnum_any 4 (by omega) _ _ lk false wr.drew (HD.out.drew HK0.out).d.rd)
              have HM := Lib.hid (show k + 1 ≤ maxLen by unfold maxLen; omega)
              have HB := Lib.hid (show (k + 1) * 4 ≤ 140737488355328 by omega)
              go_wp2
              go_region_law (first
                | (refine step_call6 rfl 35 _ _ rfl #[.pointer (some ⟨w.heap.size + 1 + 1, 0, none⟩), .int .i64 4] ?hv calls_rfnum HCal.out ?_; (case hv => simp [go_sem]); rintro e w2 ⟨ho, x, v, lx, bx, rfl, ⟨rfl, y0, y1⟩, hR, hE⟩; refine ⟨_, rfl, ?_⟩; have HE2 := Lib.hid (rf_round HE.out hE); have HD2 := Lib.hid ((HD.out.drew HK0.out).step HK0.out ho hR); have HXb := Lib.hid (And.intro y0 (show x < 4294967296 from y1)); have HDa := Lib.hid (HD2.out.alloc HK0.out (.cells #[.int .u32 (IntKind.u32.wrap x)] 43)); have HOa := Lib.hid (rowO_below (OutO.rowKept (rowO_below HO.out (Below.drew (Below.refl _ _))) ho (by have := HQ0.out; have := HD.out.d.q; omega)) ((Below.refl w2.heap.size w2).alloc (Nat.le_refl _) (.cells #[.int .u32 (IntKind.u32.wrap x)] 43))); have HNa := Lib.hid (news_at (w := w2) (w2 := w2.alloc (.cells #[.int .u32 (IntKind.u32.wrap x)] 43)) (cs := encU32 (IntKind.u32.wrap x)) (ty := 43) rfl); have HZa := Lib.hid (show bt0 ≤ (w2.alloc (.cells #[.int .u32 (IntKind.u32.wrap x)] 43)).heap.size from Nat.le_trans HZ.out (Nat.le_trans ho.size (by simp))); have H1c := Lib.hid (show ∀ u ∈ encU32 (IntKind.u32.wrap x), u.oneCell' = true from fun u hu => by unfold encU32 at hu; simp only [List.mem_singleton] at hu; subst hu; rfl); have hcr2 := (cell_of_row w2 (w.heap.size + 1) 0 _ _ _ HD2.out.d.o); simp only [List.getElem?_toArray, List.getElem?_cons_zero] at hcr2; have hfr2 := frozen_of_row w2 (w.heap.size + 1) 0 _ _ HD2.out.d.o; have hcra := (cell_of_row (w2.alloc (.cells #[.int .u32 (IntKind.u32.wrap x)] 43)) (w.heap.size + 1) 0 _ _ _ HDa.out.d.o); simp only [List.getElem?_toArray, List.getElem?_cons_zero] at hcra; have hfra := frozen_of_row (w2.alloc (.cells #[.int .u32 (IntKind.u32.wrap x)] 43)) (w.heap.size + 1) 0 _ _ HDa.out.d.o; clear ho hR hE y0 y1)
                | (refine step_append_at6 rfl _ _ 22 rfl bt0 43 i0 (.int .u32 0) 1 4 Tryz.underlying22 hi0 hz0 hz1 hz2 rfl (by decide) (.slice Ak k ek) k (xs.flatMap encU32) ?hs HOa.out ⟨w2.heap.size, 0, none⟩ 1 1 (encU32 (IntKind.u32.wrap x)) ?hx rfl HNa.out H1c.out HM.out HB.out HZa.out ?_; (case hs => simp [go_sem]); (case hx => simp [go_sem]); intro v' w3 hr hg hv'; obtain ⟨A3, e3, rfl⟩ := ownO_slice hr; have HR := Lib.hid hr; have HG := Lib.hid hg; have HD3 := Lib.hid (HDa.out.grown HK0.out HQ0.out hg (fun g e => own_ge HOa.out g e)); have hcr3 := (cell_of_row w3 (w.heap.size + 1) 0 _ _ _ HD3.out.d.o); simp only [List.getElem?_toArray, List.getElem?_cons_zero] at hcr3; have hfr3 := frozen_of_row w3 (w.heap.size + 1) 0 _ _ HD3.out.d.o; clear hr hg hv'))
              all_goals
                have HD4 := Lib.hid (HD3.out.set0 HK0.out (.slice A3 (k + 1) e3))
                have HO4 := Lib.hid (own_set (b := w.heap.size + 1) (j := 0) (u := .slice A3 (k + 1) e3) HR.out (by have := HQ0.out; have := HD3.out.d.q; omega))
                have hwx := wrap_u32_id HXb.out
                have HK := Lib.hid (RdI.next (D := (fun l bad v w' => DX w X0 bt0 q l bad v (.slice none 0 0) (.slice none 0 0) (.slice none 0 0) (.slice none 0 0) m0 m1 m2 m3 m4 w')) (ok := IsW) HL.out HD4.out (by have h := HO4.out; rw [hwx] at h; exact h) HD4.out.h HX.out HXb.out HE2.out)
                clear hwx
                clear HO4 HR HG HDa HOa HNa HZa H1c HD3 hcr2 hcra hcr3 hfr2 hfra hfr3 hcr hfr hcell hbc hfz x0 x1 x2 x3 x4
                go_wp2
                go_roundw
                case rel => exact ⟨k + 1, by omega, by go_num, HK⟩
                case measure => simp [intOf]; omega
          · have HY := Lib.hid (RdE.of (D := (fun l bad v w' => DX w X0 bt0 q l bad v (.slice none 0 0) (.slice none 0 0) (.slice none 0 0) (.slice none 0 0) m0 m1 m2 m3 m4 w')) hk hl HD.out HO.out HZ.out HX.out HE.out (fun _ => by omega))
            have k1 : ¬ (k : Int) < m0 := by omega
            go_wp2
            go_meet
            case rel => exact HY
      case rest =>
        clear HD
        obtain ⟨t1, l3, b3, A1, e1, hln, hD, hR, hZ, hX, hE⟩ := hcut.out
        obtain ⟨N1, hN⟩ : ∃ N, t1.length = N := ⟨_, rfl⟩
        rw [hN] at hD hln
        obtain ⟨bt1, hbt⟩ : ∃ bt, wc.heap.size = bt := ⟨_, rfl⟩
        have HBt1 := Lib.hid (show bt0 ≤ bt1 by omega)
        have HQ1 := Lib.hid (show q < bt1 by have := HQ0.out; omega)
        have HN1 := Lib.hid (And.intro hN hln)
        have HX1 := Lib.hid hX
        have HE1 := Lib.hid hE
        obtain ⟨X1, hX1⟩ : ∃ X : World → Prop, X = fun w' => X0 w' ∧ RowC w' bt0 bt1 A1 (t1.flatMap encU32) := ⟨_, rfl⟩
        have HXd1 := Lib.hid hX1
        have HK1 := Lib.hid (show Keeps X1 q bt1 by rw [hX1]; exact HK0.out.more (by omega) HQ0.out)
        have HD := Lib.hid (show DX w X1 bt1 q l3 b3 (.slice A1 N1 e1) (.slice none 0 0) (.slice none 0 0) (.slice none 0 0) (.slice none 0 0) m0 m1 m2 m3 m4 wc from ⟨hD.d, by rw [hX1]; exact ⟨hD.x, hbt ▸ hR⟩, by omega⟩)
        clear hcut hN hln hbt hX hE hX1 hD hR hZ
        go_upto_block 4 with fail
        go_cut [] (fun wx => Hid (RdE (fun l bad v w' => DX w X1 bt1 q l bad (.slice A1 N1 e1) v (.slice none 0 0) (.slice none 0 0) (.slice none 0 0) m0 m1 m2 m3 m4 w') bt1 encU64 IsU (rdN 8) m1 l3 b3 wx))
        case first =>
          go_wp2
          go_loopw [9] (fun i ws => ∃ k : Nat, k ≤ m1 ∧ i = .int .i64 k ∧ Hid (RdI (fun l bad v w' => DX w X1 bt1 q l bad (.slice A1 N1 e1) v (.slice none 0 0) (.slice none 0 0) (.slice none 0 0) m0 m1 m2 m3 m4 w') bt1 75 encU64 1 IsU (rdN 8) l3 b3 k ws)) (fun i _ => m1 - (intOf i).toNat)
          case atStart => exact ⟨0, by omega, rfl, Lib.hid (RdI.start HD.out HD.out.h)⟩
          case round =>
            clear HD
            obtain ⟨k, hk, rfl, HI⟩ := hrel
            obtain ⟨xs, lk, bk, Ak, ek, hl, hD, hO, hZ, hX, hE⟩ := HI.out
            have HD := Lib.hid hD
            have HO := Lib.hid hO
            have HZ := Lib.hid hZ
            have HX := Lib.hid hX
            have HE := Lib.hid hE
            clear HI hD hO hZ hX hE
            obtain ⟨⟨x0, x1, x2, x3, x4⟩, _⟩ := row_cells5 HD.out.d.n
            obtain ⟨A', n', c', hV⟩ := HD.out.d.rd
            obtain ⟨hcell, hbc, hfz⟩ := hV.cells
            have hcr := (cell_of_row wr (w.heap.size + 1) 1 _ _ _ HD.out.d.o)
            simp only [List.getElem?_toArray, List.getElem?_cons_zero, List.getElem?_cons_succ] at hcr
            have hfr := frozen_of_row wr (w.heap.size + 1) 1 _ _ HD.out.d.o
            clear hV
            by_cases hlt : k < m1
            · have k0 : (0 : Int) ≤ k := by omega
              have k1 : (k : Int) < m1 := by omega
              cases bk
              case true =>
                have HY := Lib.hid (RdE.of (D := (fun l bad v w' => DX w X1 bt1 q l bad (.slice A1 N1 e1) v (.slice none 0 0) (.slice none 0 0) (.slice none 0 0) m0 m1 m2 m3 m4 w')) hk hl HD.out HO.out HZ.out HX.out HE.out (fun h => by cases h))
                go_wp2
                go_meet
                case rel => exact HY
              case false =>
                have HL := Lib.hid hl
                clear hl
                obtain ⟨i0, hi0, hz0, hz1, hz2⟩ := info_parts info_u64
                have HCal := Lib.hid (rfnum_any 8 (by omega) _ _ lk false wr.drew (HD.out.drew HK1.out).d.rd)
                have HM := Lib.hid (show k + 1 ≤ maxLen by unfold maxLen; omega)
                have HB := Lib.hid (show (k + 1) * 8 ≤ 140737488355328 by omega)
                go_wp2
                go_region_law (first
                  | (refine step_call6 rfl 35 _ _ rfl #[.pointer (some ⟨w.heap.size + 1 + 1, 0, none⟩), .int .i64 8] ?hv calls_rfnum HCal.out ?_; (case hv => simp [go_sem]); rintro e w2 ⟨ho, x, v, lx, bx, rfl, ⟨rfl, y0, y1⟩, hR, hE⟩; refine ⟨_, rfl, ?_⟩; have HE2 := Lib.hid (rf_round HE.out hE); have HD2 := Lib.hid ((HD.out.drew HK1.out).step HK1.out ho hR); have HXb := Lib.hid (And.intro y0 (show x < 18446744073709551616 from y1)); have HDa := Lib.hid (HD2.out.alloc HK1.out (.cells #[.int .u64 x] 75)); have HOa := Lib.hid (rowO_below (OutO.rowKept (rowO_below HO.out (Below.drew (Below.refl _ _))) ho (by have := HQ1.out; have := HD.out.d.q; omega)) ((Below.refl w2.heap.size w2).alloc (Nat.le_refl _) (.cells #[.int .u64 x] 75))); have HNa := Lib.hid (news_at (w := w2) (w2 := w2.alloc (.cells #[.int .u64 x] 75)) (cs := encU64 x) (ty := 75) rfl); have HZa := Lib.hid (show bt1 ≤ (w2.alloc (.cells #[.int .u64 x] 75)).heap.size from Nat.le_trans HZ.out (Nat.le_trans ho.size (by simp))); have H1c := Lib.hid (show ∀ u ∈ encU64 x, u.oneCell' = true from fun u hu => by unfold encU64 at hu; simp only [List.mem_singleton] at hu; subst hu; rfl); have hcr2 := (cell_of_row w2 (w.heap.size + 1) 1 _ _ _ HD2.out.d.o); simp only [List.getElem?_toArray, List.getElem?_cons_zero, List.getElem?_cons_succ] at hcr2; have hfr2 := frozen_of_row w2 (w.heap.size + 1) 1 _ _ HD2.out.d.o; have hcra := (cell_of_row (w2.alloc (.cells #[.int .u64 x] 75)) (w.heap.size + 1) 1 _ _ _ HDa.out.d.o); simp only [List.getElem?_toArray, List.getElem?_cons_zero, List.getElem?_cons_succ] at hcra; have hfra := frozen_of_row (w2.alloc (.cells #[.int .u64 x] 75)) (w.heap.size + 1) 1 _ _ HDa.out.d.o; clear ho hR hE y0 y1)
                  | (refine step_append_at6 rfl _ _ 23 rfl bt1 75 i0 (.int .u64 0) 1 8 Tryz.underlying23 hi0 hz0 hz1 hz2 rfl (by decide) (.slice Ak k ek) k (xs.flatMap encU64) ?hs HOa.out ⟨w2.heap.size, 0, none⟩ 1 1 (encU64 x) ?hx rfl HNa.out H1c.out HM.out HB.out HZa.out ?_; (case hs => simp [go_sem]); (case hx => simp [go_sem]); intro v' w3 hr hg hv'; obtain ⟨A3, e3, rfl⟩ := ownO_slice hr; have HR := Lib.hid hr; have HG := Lib.hid hg; have HD3 := Lib.hid (HDa.out.grown HK1.out HQ1.out hg (fun g e => own_ge HOa.out g e)); have hcr3 := (cell_of_row w3 (w.heap.size + 1) 1 _ _ _ HD3.out.d.o); simp only [List.getElem?_toArray, List.getElem?_cons_zero, List.getElem?_cons_succ] at hcr3; have hfr3 := frozen_of_row w3 (w.heap.size + 1) 1 _ _ HD3.out.d.o; clear hr hg hv'))
                all_goals
                  have HD4 := Lib.hid (HD3.out.set1 HK1.out (.slice A3 (k + 1) e3))
                  have HO4 := Lib.hid (own_set (b := w.heap.size + 1) (j := 1) (u := .slice A3 (k + 1) e3) HR.out (by have := HQ1.out; have := HD3.out.d.q; omega))
                  have HK := Lib.hid (RdI.next (D := (fun l bad v w' => DX w X1 bt1 q l bad (.slice A1 N1 e1) v (.slice none 0 0) (.slice none 0 0) (.slice none 0 0) m0 m1 m2 m3 m4 w')) (ok := IsU) HL.out HD4.out HO4.out HD4.out.h HX.out HXb.out HE2.out)
                  clear HO4 HR HG HDa HOa HNa HZa H1c HD3 hcr2 hcra hcr3 hfr2 hfra hfr3 hcr hfr hcell hbc hfz x0 x1 x2 x3 x4
                  go_wp2
                  go_roundw
                  case rel => exact ⟨k + 1, by omega, by go_num, HK⟩
                  case measure => simp [intOf]; omega
            · have HY := Lib.hid (RdE.of (D := (fun l bad v w' => DX w X1 bt1 q l bad (.slice A1 N1 e1) v (.slice none 0 0) (.slice none 0 0) (.slice none 0 0) m0 m1 m2 m3 m4 w')) hk hl HD.out HO.out HZ.out HX.out HE.out (fun _ => by omega))
              have k1 : ¬ (k : Int) < m1 := by omega
              go_wp2
              go_meet
              case rel => exact HY
        case rest =>
          clear HD
          obtain ⟨t2, l4, b4, A2, e2, hln, hD, hR, hZ, hX, hE⟩ := hcut.out
          obtain ⟨N2, hN⟩ : ∃ N, t2.length = N := ⟨_, rfl⟩
          rw [hN] at hD hln
          obtain ⟨bt2, hbt⟩ : ∃ bt, wc.heap.size = bt := ⟨_, rfl⟩
          have HBt2 := Lib.hid (show bt1 ≤ bt2 by omega)
          have HQ2 := Lib.hid (show q < bt2 by have := HQ1.out; omega)
          have HN2 := Lib.hid (And.intro hN hln)
          have HX2 := Lib.hid hX
          have HE2 := Lib.hid hE
          obtain ⟨X2, hX2⟩ : ∃ X : World → Prop, X = fun w' => X1 w' ∧ RowC w' bt1 bt2 A2 (t2.flatMap encU64) := ⟨_, rfl⟩
          have HXd2 := Lib.hid hX2
          have HK2 := Lib.hid (show Keeps X2 q bt2 by rw [hX2]; exact HK1.out.more (by omega) HQ1.out)
          have HD := Lib.hid (show DX w X2 bt2 q l4 b4 (.slice A1 N1 e1) (.slice A2 N2 e2) (.slice none 0 0) (.slice none 0 0) (.slice none 0 0) m0 m1 m2 m3 m4 wc from ⟨hD.d, by rw [hX2]; exact ⟨hD.x, hbt ▸ hR⟩, by omega⟩)
          clear hcut hN hln hbt hX hE hX2 hD hR hZ
          go_upto_block 6 with fail
          go_cut [] (fun wx => Hid (RdE (fun l bad v w' => DX w X2 bt2 q l bad (.slice A1 N1 e1) (.slice A2 N2 e2) v (.slice none 0 0) (.slice none 0 0) m0 m1 m2 m3 m4 w') bt2 encSym SymK rdSymR m2 l4 b4 wx))
          case first =>
            go_wp2
            go_loopw [10] (fun i ws => ∃ k : Nat, k ≤ m2 ∧ i = .int .i64 k ∧ Hid (RdI (fun l bad v w' => DX w X2 bt2 q l bad (.slice A1 N1 e1) (.slice A2 N2 e2) v (.slice none 0 0) (.slice none 0 0) m0 m1 m2 m3 m4 w') bt2 45 encSym 4 SymK rdSymR l4 b4 k ws)) (fun i _ => m2 - (intOf i).toNat)
            case atStart => exact ⟨0, by omega, rfl, Lib.hid (RdI.start HD.out HD.out.h)⟩
            case round =>
              clear HD
              obtain ⟨k, hk, rfl, HI⟩ := hrel
              obtain ⟨xs, lk, bk, Ak, ek, hl, hD, hO, hZ, hX, hE⟩ := HI.out
              have HD := Lib.hid hD
              have HO := Lib.hid hO
              have HZ := Lib.hid hZ
              have HX := Lib.hid hX
              have HE := Lib.hid hE
              clear HI hD hO hZ hX hE
              obtain ⟨⟨x0, x1, x2, x3, x4⟩, _⟩ := row_cells5 HD.out.d.n
              obtain ⟨A', n', c', hV⟩ := HD.out.d.rd
              obtain ⟨hcell, hbc, hfz⟩ := hV.cells
              clear hV
              by_cases hlt : k < m2
              · have k0 : (0 : Int) ≤ k := by omega
                have k1 : (k : Int) < m2 := by omega
                cases bk
                case true =>
                  have HY := Lib.hid (RdE.of (D := (fun l bad v w' => DX w X2 bt2 q l bad (.slice A1 N1 e1) (.slice A2 N2 e2) v (.slice none 0 0) (.slice none 0 0) m0 m1 m2 m3 m4 w')) hk hl HD.out HO.out HZ.out HX.out HE.out (fun h => by cases h))
                  go_wp2
                  go_meet
                  case rel => exact HY
                case false =>
                  have HL := Lib.hid hl
                  clear hl
                  go_wp2_with fail
                  refine (rftext_any _ _ lk false wr HD.out.d.rd).mono ?_
                  rintro e w2 ⟨ho, s, v, la, ba, rfl, ⟨rfl, hsz⟩, hR, hE1⟩
                  have HEa := Lib.hid (rf_bind (g := fun s => rdBind (rdN 1) fun m => rdBind (rdN 4) fun o => rdRet (s, decide (m % 2 = 1), o, decide (m / 2 % 2 = 1))) hE1)
                  have HSz := Lib.hid hsz
                  have HD2 := Lib.hid ((HD.out.step HK2.out ho hR).alloc HK2.out (.cells #[.string s, .bool false, .int .i64 0, .bool false] 45))
                  have HO2 := Lib.hid (rowO_below (OutO.rowKept HO.out ho (by have := HQ2.out; have := HD.out.d.q; omega)) ((Below.refl w2.heap.size w2).alloc (Nat.le_refl _) (.cells #[.string s, .bool false, .int .i64 0, .bool false] 45)))
                  have HBx := Lib.hid (heap_alloc_new w2 (.cells #[.string s, .bool false, .int .i64 0, .bool false] 45))
                  have HLx := Lib.hid (And.intro (show bt2 ≤ w2.heap.size from Nat.le_trans HZ.out ho.size) (fun g (hg : (Value.slice Ak k ek).ownBlock = some g) => Nat.lt_of_lt_of_le (ownO_lt HO.out hg).1 ho.size))
                  clear ho hR hE1 hsz hcell hbc hfz x0 x1 x2 x3 x4
                  go_wp2_with fail
                  generalize (w2.alloc (.cells #[.string s, .bool false, .int .i64 0, .bool false] 45)) = w2a at *
                  generalize hbx : w2.heap.size = bx at *
                  clear hbx
                  refine (rfnum_any 1 (by omega) _ _ la ba w2a HD2.out.d.rd).mono ?_
                  rintro e w3 ⟨ho, x, v, lb, bb, rfl, ⟨rfl, y0, y1⟩, hR, hE1⟩
                  have HEb := Lib.hid (HEa.out.trans (rf_bind (g := fun m => rdBind (rdN 4) fun o => rdRet (s, decide (m % 2 = 1), o, decide (m / 2 % 2 = 1))) hE1))
                  obtain ⟨m, rfl⟩ := Int.eq_ofNat_of_zero_le y0
                  have hm : m < 256 := by
                    have : (256 : Int) ^ 1 = 256 := rfl
                    omega
                  have HD3 := Lib.hid (HD2.out.step HK2.out ho hR)
                  have HO3 := Lib.hid (OutO.rowKept HO2.out ho (by have := HQ2.out; have := HD2.out.d.q; omega))
                  have HB3 := Lib.hid (ho.row HBx.out (by have := HQ2.out; have := HD2.out.d.q; have := HLx.out.1; omega))
                  obtain ⟨z0, z1, z2, z3, zf⟩ := row_cells4 HB3.out
                  clear ho hR hE1 y0 y1 HD2 HO2 HBx HEa
                  have HD4 := Lib.hid ((HD3.out.setNew HK2.out HQ2.out (b := bx) (o := 1) (v := .bool ((m : Int) % 2 == 1)) HLx.out.1).setNew HK2.out HQ2.out (b := bx) (o := 3) (v := .bool ((m : Int) / 2 % 2 == 1)) HLx.out.1)
                  have HO4 := Lib.hid (own_not (b := bx) (j := 3) (u := .bool ((m : Int) / 2 % 2 == 1)) (own_not (b := bx) (j := 1) (u := .bool ((m : Int) % 2 == 1)) HO3.out HLx.out.2) HLx.out.2)
                  have HB4 := Lib.hid (show ((w3.setCell ⟨bx, 1, none⟩ (.bool ((m : Int) % 2 == 1))).setCell ⟨bx, 3, none⟩ (.bool ((m : Int) / 2 % 2 == 1))).heap[bx]? = some (.cells #[.string s, .bool ((m : Int) % 2 == 1), .int .i64 0, .bool ((m : Int) / 2 % 2 == 1)] 45 (0, 0)) by
                    rw [heap_setCell_same _ bx 3 _ _ _ (heap_setCell_same w3 bx 1 _ _ _ HB3.out)]; rfl)
                  go_wp2_with fail
                  clear z0 z1 z2 z3 zf HD3 HO3 HB3
                  generalize ((w3.setCell ⟨bx, 1, none⟩ (.bool ((m : Int) % 2 == 1))).setCell ⟨bx, 3, none⟩ (.bool ((m : Int) / 2 % 2 == 1))) = w4 at *
                  refine (rfnum_any 4 (by omega) _ _ lb bb w4 HD4.out.d.rd).mono ?_
                  rintro e w5 ⟨ho, o, v, lc, bc, rfl, ⟨rfl, y0, y1⟩, hR, hE1⟩
                  have HE3 := Lib.hid (rf_round HE.out (HEb.out.trans (rf_bind (g := fun o => rdRet (s, decide ((m : Int) % 2 = 1), o, decide ((m : Int) / 2 % 2 = 1))) hE1)))
                  have ho1 : o < 4294967296 := y1
                  have HXb := Lib.hid (And.intro y0 ho1)
                  have HD5 := Lib.hid (HD4.out.step HK2.out ho hR)
                  have HO5 := Lib.hid (OutO.rowKept HO4.out ho (by have := HQ2.out; have := HD4.out.d.q; omega))
                  have HB5 := Lib.hid (ho.row HB4.out (by have := HQ2.out; have := HD4.out.d.q; have := HLx.out.1; omega))
                  obtain ⟨z0, z1, z2, z3, zf⟩ := row_cells4 HB5.out
                  clear ho hR hE1 HD4 HO4 HB4 HEb
                  have HD6 := Lib.hid (HD5.out.setNew HK2.out HQ2.out (b := bx) (o := 2) (v := .int .i64 o) HLx.out.1)
                  have HO6 := Lib.hid (own_not (b := bx) (j := 2) (u := .int .i64 o) HO5.out HLx.out.2)
                  have HB6 := Lib.hid (show (w5.setCell ⟨bx, 2, none⟩ (.int .i64 o)).heap[bx]? = some (.cells #[.string s, .bool ((m : Int) % 2 == 1), .int .i64 o, .bool ((m : Int) / 2 % 2 == 1)] 45 (0, 0)) by
                    rw [heap_setCell_same w5 bx 2 _ _ _ HB5.out]; rfl)
                  go_upto_region 25 with fail
                  clear z0 z1 z2 z3 zf HD5 HO5 HB5
                  generalize (w5.setCell ⟨bx, 2, none⟩ (.int .i64 o)) = w6 at *
                  have HBl := Lib.hid ((Below.refl w6.heap.size w6).alloc (Nat.le_refl _) (.cells #[.string s, .bool ((m : Int) % 2 == 1), .int .i64 o, .bool ((m : Int) / 2 % 2 == 1)] 45))
                  have HDa := Lib.hid (HD6.out.alloc HK2.out (.cells #[.string s, .bool ((m : Int) % 2 == 1), .int .i64 o, .bool ((m : Int) / 2 % 2 == 1)] 45))
                  have HOa := Lib.hid (rowO_below HO6.out HBl.out)
                  have HNa := Lib.hid (news_at (w := w6) (w2 := w6.alloc (.cells #[.string s, .bool ((m : Int) % 2 == 1), .int .i64 o, .bool ((m : Int) / 2 % 2 == 1)] 45)) (cs := encSym (s, decide ((m : Int) % 2 = 1), o, decide ((m : Int) / 2 % 2 = 1))) (ty := 45) rfl)
                  have H1c := Lib.hid (mone_sym (s, decide ((m : Int) % 2 = 1), o, decide ((m : Int) / 2 % 2 = 1)))
                  have HM := Lib.hid (show k + 1 ≤ maxLen by unfold maxLen; omega)
                  have HB := Lib.hid (show (k + 1) * 40 ≤ 140737488355328 by omega)
                  have hcr := (cell_of_row w6 (w.heap.size + 1) 2 _ _ _ HD6.out.d.o)
                  simp only [List.getElem?_toArray, List.getElem?_cons_zero, List.getElem?_cons_succ] at hcr
                  have hfr := frozen_of_row w6 (w.heap.size + 1) 2 _ _ HD6.out.d.o
                  obtain ⟨z0, z1, z2, z3, zf⟩ := row_cells4 HB6.out
                  obtain ⟨i0, hi0, hz0, hz1, hz2⟩ := info_parts info_sym
                  go_wp2_with (at_builtin; (refine wpList_append_at6 rfl _ _ 24 rfl bt2 45 i0 (.agg #[.string ⟨#[]⟩, .bool false, .int .i64 0, .bool false]) 4 40 Tryz.underlying24 hi0 hz0 hz1 hz2 rfl (by decide) (.slice Ak k ek) k (xs.flatMap encSym) ?hs HOa.out ⟨w6.heap.size, 0, none⟩ 1 1 (encSym (s, decide ((m : Int) % 2 = 1), o, decide ((m : Int) / 2 % 2 = 1))) ?hx rfl HNa.out H1c.out HM.out HB.out HDa.out.h ?_; (case hs => rfl); (case hx => rfl); intro v' w7 hr hg hv'; obtain ⟨Aw, ew, rfl⟩ := ownO_slice hr; have HR := Lib.hid hr; have HG := Lib.hid hg; have HD7 := Lib.hid (HDa.out.grown HK2.out HQ2.out hg (fun g e => own_ge HOa.out g e)); have hcr3 := (cell_of_row w7 (w.heap.size + 1) 2 _ _ _ HD7.out.d.o); simp only [List.getElem?_toArray, List.getElem?_cons_zero, List.getElem?_cons_succ] at hcr3; have hfr3 := frozen_of_row w7 (w.heap.size + 1) 2 _ _ HD7.out.d.o; clear hr hg hv'))
                  have HD8 := Lib.hid (HD7.out.set2 HK2.out (.slice Aw (k + 1) ew))
                  have HO8 := Lib.hid (own_set (b := w.heap.size + 1) (j := 2) (u := .slice Aw (k + 1) ew) HR.out (by have := HQ2.out; have := HD7.out.d.q; omega))
                  have HK := Lib.hid (RdI.next (D := (fun l bad v w' => DX w X2 bt2 q l bad (.slice A1 N1 e1) (.slice A2 N2 e2) v (.slice none 0 0) (.slice none 0 0) m0 m1 m2 m3 m4 w')) (ok := SymK) HL.out HD8.out HO8.out HD8.out.h HX.out ⟨HSz.out, HXb.out.1, HXb.out.2⟩ HE3.out)
                  clear HO8 HR HG HDa HOa HNa H1c HD7 hcr3 hfr3 hcr hfr z0 z1 z2 z3 zf HBl HB6 HO6 HD6
                  go_roundw
                  case rel => exact ⟨k + 1, by omega, by go_num, HK⟩
                  case measure => simp [intOf]; omega
              · have HY := Lib.hid (RdE.of (D := (fun l bad v w' => DX w X2 bt2 q l bad (.slice A1 N1 e1) (.slice A2 N2 e2) v (.slice none 0 0) (.slice none 0 0) m0 m1 m2 m3 m4 w')) hk hl HD.out HO.out HZ.out HX.out HE.out (fun _ => by omega))
                have k1 : ¬ (k : Int) < m2 := by omega
                go_wp2
                go_meet
                case rel => exact HY
          case rest =>
            clear HD
            obtain ⟨t3, l5, b5, A3, e3, hln, hD, hR, hZ, hX, hE⟩ := hcut.out
            obtain ⟨N3, hN⟩ : ∃ N, t3.length = N := ⟨_, rfl⟩
            rw [hN] at hD hln
            obtain ⟨bt3, hbt⟩ : ∃ bt, wc.heap.size = bt := ⟨_, rfl⟩
            have HBt3 := Lib.hid (show bt2 ≤ bt3 by omega)
            have HQ3 := Lib.hid (show q < bt3 by have := HQ2.out; omega)
            have HN3 := Lib.hid (And.intro hN hln)
            have HX3 := Lib.hid hX
            have HE3 := Lib.hid hE
            obtain ⟨X3, hX3⟩ : ∃ X : World → Prop, X = fun w' => X2 w' ∧ RowC w' bt2 bt3 A3 (t3.flatMap encSym) := ⟨_, rfl⟩
            have HXd3 := Lib.hid hX3
            have HK3 := Lib.hid (show Keeps X3 q bt3 by rw [hX3]; exact HK2.out.more (by omega) HQ2.out)
            have HD := Lib.hid (show DX w X3 bt3 q l5 b5 (.slice A1 N1 e1) (.slice A2 N2 e2) (.slice A3 N3 e3) (.slice none 0 0) (.slice none 0 0) m0 m1 m2 m3 m4 wc from ⟨hD.d, by rw [hX3]; exact ⟨hD.x, hbt ▸ hR⟩, by omega⟩)
            clear hcut hN hln hbt hX hE hX3 hD hR hZ
            go_upto_block 8 with fail
            go_cut [] (fun wx => Hid (RdE (fun l bad v w' => DX w X3 bt3 q l bad (.slice A1 N1 e1) (.slice A2 N2 e2) (.slice A3 N3 e3) v (.slice none 0 0) m0 m1 m2 m3 m4 w') bt3 encRel RelF rdRel m3 l5 b5 wx))
            case first =>
              go_wp2
              go_loopw [13] (fun i ws => ∃ k : Nat, k ≤ m3 ∧ i = .int .i64 k ∧ Hid (RdI (fun l bad v w' => DX w X3 bt3 q l bad (.slice A1 N1 e1) (.slice A2 N2 e2) (.slice A3 N3 e3) v (.slice none 0 0) m0 m1 m2 m3 m4 w') bt3 42 encRel 4 RelF rdRel l5 b5 k ws)) (fun i _ => m3 - (intOf i).toNat)
              case atStart => exact ⟨0, by omega, rfl, Lib.hid (RdI.start HD.out HD.out.h)⟩
              case round =>
                clear HD
                obtain ⟨k, hk, rfl, HI⟩ := hrel
                obtain ⟨xs, lk, bk, Ak, ek, hl, hD, hO, hZ, hX, hE⟩ := HI.out
                have HD := Lib.hid hD
                have HO := Lib.hid hO
                have HZ := Lib.hid hZ
                have HX := Lib.hid hX
                have HE := Lib.hid hE
                clear HI hD hO hZ hX hE
                obtain ⟨⟨x0, x1, x2, x3, x4⟩, _⟩ := row_cells5 HD.out.d.n
                obtain ⟨A', n', c', hV⟩ := HD.out.d.rd
                obtain ⟨hcell, hbc, hfz⟩ := hV.cells
                clear hV
                by_cases hlt : k < m3
                · have k0 : (0 : Int) ≤ k := by omega
                  have k1 : (k : Int) < m3 := by omega
                  cases bk
                  case true =>
                    have HY := Lib.hid (RdE.of (D := (fun l bad v w' => DX w X3 bt3 q l bad (.slice A1 N1 e1) (.slice A2 N2 e2) (.slice A3 N3 e3) v (.slice none 0 0) m0 m1 m2 m3 m4 w')) hk hl HD.out HO.out HZ.out HX.out HE.out (fun h => by cases h))
                    go_wp2
                    go_meet
                    case rel => exact HY
                  case false =>
                    have HL := Lib.hid hl
                    clear hl
                    go_wp2_with fail
                    refine (rfnum_any 4 (by omega) _ _ lk false wr HD.out.d.rd).mono ?_
                    rintro e w2 ⟨ho, a, v, la, ba, rfl, ⟨rfl, y0, y1⟩, hR, hE1⟩
                    have HEa := Lib.hid (rf_bind (g := fun a => rdBind (rdN 1) fun k => rdBind rdName fun s => rdBind (rdN 8) fun d => rdRet (a, k, s, sg64 d)) hE1)
                    have ha1 : a < 4294967296 := y1
                    have HA1 := Lib.hid (And.intro y0 ha1)
                    have HD2 := Lib.hid ((HD.out.step HK3.out ho hR).alloc HK3.out (.cells #[.int .i64 a, .int .i64 0, .string ⟨#[]⟩, .int .i64 0] 42))
                    have HO2 := Lib.hid (rowO_below (OutO.rowKept HO.out ho (by have := HQ3.out; have := HD.out.d.q; omega)) ((Below.refl w2.heap.size w2).alloc (Nat.le_refl _) (.cells #[.int .i64 a, .int .i64 0, .string ⟨#[]⟩, .int .i64 0] 42)))
                    have HBx := Lib.hid (heap_alloc_new w2 (.cells #[.int .i64 a, .int .i64 0, .string ⟨#[]⟩, .int .i64 0] 42))
                    have HLx := Lib.hid (And.intro (show bt3 ≤ w2.heap.size from Nat.le_trans HZ.out ho.size) (fun g (hg : (Value.slice Ak k ek).ownBlock = some g) => Nat.lt_of_lt_of_le (ownO_lt HO.out hg).1 ho.size))
                    clear ho hR hE1 hcell hbc hfz x0 x1 x2 x3 x4
                    go_wp2_with fail
                    generalize (w2.alloc (.cells #[.int .i64 a, .int .i64 0, .string ⟨#[]⟩, .int .i64 0] 42)) = w2a at *
                    generalize hbx : w2.heap.size = bx at *
                    clear hbx y0 y1 ha1
                    refine (rfnum_any 1 (by omega) _ _ la ba w2a HD2.out.d.rd).mono ?_
                    rintro e w3 ⟨ho, kd, v, lb, bb, rfl, ⟨rfl, y0, y1⟩, hR, hE1⟩
                    have HEb := Lib.hid (HEa.out.trans (rf_bind (g := fun k => rdBind rdName fun s => rdBind (rdN 8) fun d => rdRet (a, k, s, sg64 d)) hE1))
                    have hk1 : kd < 256 := y1
                    have HKd := Lib.hid (And.intro y0 hk1)
                    have HD3 := Lib.hid (HD2.out.step HK3.out ho hR)
                    have HO3 := Lib.hid (OutO.rowKept HO2.out ho (by have := HQ3.out; have := HD2.out.d.q; omega))
                    have HB3 := Lib.hid (ho.row HBx.out (by have := HQ3.out; have := HD2.out.d.q; have := HLx.out.1; omega))
                    obtain ⟨z0, z1, z2, z3, zf⟩ := row_cells4 HB3.out
                    clear ho hR hE1 HD2 HO2 HBx HEa
                    have HD4 := Lib.hid (HD3.out.setNew HK3.out HQ3.out (b := bx) (o := 1) (v := .int .i64 kd) HLx.out.1)
                    have HO4 := Lib.hid (own_not (b := bx) (j := 1) (u := .int .i64 kd) HO3.out HLx.out.2)
                    have HB4 := Lib.hid (show (w3.setCell ⟨bx, 1, none⟩ (.int .i64 kd)).heap[bx]? = some (.cells #[.int .i64 a, .int .i64 kd, .string ⟨#[]⟩, .int .i64 0] 42 (0, 0)) by
                      rw [heap_setCell_same w3 bx 1 _ _ _ HB3.out]; rfl)
                    go_wp2_with fail
                    clear z0 z1 z2 z3 zf HD3 HO3 HB3 y0 y1 hk1
                    generalize (w3.setCell ⟨bx, 1, none⟩ (.int .i64 kd)) = w4 at *
                    refine (rftext_any _ _ lb bb w4 HD4.out.d.rd).mono ?_
                    rintro e w5 ⟨ho, s, v, lc, bc, rfl, ⟨rfl, hsz⟩, hR, hE1⟩
                    have HEc := Lib.hid (HEb.out.trans (rf_bind (g := fun s => rdBind (rdN 8) fun d => rdRet (a, kd, s, sg64 d)) hE1))
                    have HSz := Lib.hid hsz
                    have HD5 := Lib.hid (HD4.out.step HK3.out ho hR)
                    have HO5 := Lib.hid (OutO.rowKept HO4.out ho (by have := HQ3.out; have := HD4.out.d.q; omega))
                    have HB5 := Lib.hid (ho.row HB4.out (by have := HQ3.out; have := HD4.out.d.q; have := HLx.out.1; omega))
                    obtain ⟨z0, z1, z2, z3, zf⟩ := row_cells4 HB5.out
                    clear ho hR hE1 HD4 HO4 HB4 HEb hsz
                    have HD5a := Lib.hid (HD5.out.setNew HK3.out HQ3.out (b := bx) (o := 2) (v := .string s) HLx.out.1)
                    have HO5a := Lib.hid (own_not (b := bx) (j := 2) (u := .string s) HO5.out HLx.out.2)
                    have HB5a := Lib.hid (show (w5.setCell ⟨bx, 2, none⟩ (.string s)).heap[bx]? = some (.cells #[.int .i64 a, .int .i64 kd, .string s, .int .i64 0] 42 (0, 0)) by
                      rw [heap_setCell_same w5 bx 2 _ _ _ HB5.out]; rfl)
                    go_wp2_with fail
                    clear z0 z1 z2 z3 zf HD5 HO5 HB5
                    generalize (w5.setCell ⟨bx, 2, none⟩ (.string s)) = w5a at *
                    refine (rfnum_any 8 (by omega) _ _ lc bc w5a HD5a.out.d.rd).mono ?_
                    rintro e w5b ⟨ho, dd, v, ld, bd, rfl, ⟨rfl, y0, y1⟩, hR, hE1⟩
                    have HE3 := Lib.hid (rf_round HE.out (HEc.out.trans (rf_bind (g := fun d => rdRet (a, kd, s, sg64 d)) hE1)))
                    have HD5b := Lib.hid (HD5a.out.step HK3.out ho hR)
                    have HO5b := Lib.hid (OutO.rowKept HO5a.out ho (by have := HQ3.out; have := HD5a.out.d.q; omega))
                    have HB5b := Lib.hid (ho.row HB5a.out (by have := HQ3.out; have := HD5a.out.d.q; have := HLx.out.1; omega))
                    obtain ⟨z0, z1, z2, z3, zf⟩ := row_cells4 HB5b.out
                    clear ho hR hE1 HD5a HO5a HB5a HEc y0 y1
                    have HD6 := Lib.hid (HD5b.out.setNew HK3.out HQ3.out (b := bx) (o := 3) (v := .int .i64 (wrap64 dd)) HLx.out.1)
                    have HO6 := Lib.hid (own_not (b := bx) (j := 3) (u := .int .i64 (wrap64 dd)) HO5b.out HLx.out.2)
                    have HB6 := Lib.hid (show (w5b.setCell ⟨bx, 3, none⟩ (.int .i64 (wrap64 dd))).heap[bx]? = some (.cells #[.int .i64 a, .int .i64 kd, .string s, .int .i64 (wrap64 dd)] 42 (0, 0)) by
                      rw [heap_setCell_same w5b bx 3 _ _ _ HB5b.out]; rfl)
                    go_upto_region 33 with fail
                    clear z0 z1 z2 z3 zf HD5b HO5b HB5b
                    generalize (w5b.setCell ⟨bx, 3, none⟩ (.int .i64 (wrap64 dd))) = w6 at *
                    have HBl := Lib.hid ((Below.refl w6.heap.size w6).alloc (Nat.le_refl _) (.cells #[.int .i64 a, .int .i64 kd, .string s, .int .i64 (wrap64 dd)] 42))
                    have HDa := Lib.hid (HD6.out.alloc HK3.out (.cells #[.int .i64 a, .int .i64 kd, .string s, .int .i64 (wrap64 dd)] 42))
                    have HOa := Lib.hid (rowO_below HO6.out HBl.out)
                    have HNa := Lib.hid (news_at (w := w6) (w2 := w6.alloc (.cells #[.int .i64 a, .int .i64 kd, .string s, .int .i64 (wrap64 dd)] 42)) (cs := encRel (a, kd, s, wrap64 dd)) (ty := 42) rfl)
                    have H1c := Lib.hid (mone_rel (a, kd, s, wrap64 dd))
                    have HM := Lib.hid (show k + 1 ≤ maxLen by unfold maxLen; omega)
                    have HB := Lib.hid (show (k + 1) * 40 ≤ 140737488355328 by omega)
                    have hcr := (cell_of_row w6 (w.heap.size + 1) 3 _ _ _ HD6.out.d.o)
                    simp only [List.getElem?_toArray, List.getElem?_cons_zero, List.getElem?_cons_succ] at hcr
                    have hfr := frozen_of_row w6 (w.heap.size + 1) 3 _ _ HD6.out.d.o
                    obtain ⟨z0, z1, z2, z3, zf⟩ := row_cells4 HB6.out
                    obtain ⟨i0, hi0, hz0, hz1, hz2⟩ := info_parts info_rel
                    go_wp2_with (at_builtin; (refine wpList_append_at6 rfl _ _ 25 rfl bt3 42 i0 (.agg #[.int .i64 0, .int .i64 0, .string ⟨#[]⟩, .int .i64 0]) 4 40 Tryz.underlying25 hi0 hz0 hz1 hz2 rfl (by decide) (.slice Ak k ek) k (xs.flatMap encRel) ?hs HOa.out ⟨w6.heap.size, 0, none⟩ 1 1 (encRel (a, kd, s, wrap64 dd)) ?hx rfl HNa.out H1c.out HM.out HB.out HDa.out.h ?_; (case hs => rfl); (case hx => rfl); intro v' w7 hr hg hv'; obtain ⟨Aw, ew, rfl⟩ := ownO_slice hr; have HR := Lib.hid hr; have HG := Lib.hid hg; have HD7 := Lib.hid (HDa.out.grown HK3.out HQ3.out hg (fun g e => own_ge HOa.out g e)); have hcr3 := (cell_of_row w7 (w.heap.size + 1) 3 _ _ _ HD7.out.d.o); simp only [List.getElem?_toArray, List.getElem?_cons_zero, List.getElem?_cons_succ] at hcr3; have hfr3 := frozen_of_row w7 (w.heap.size + 1) 3 _ _ HD7.out.d.o; clear hr hg hv'))
                    have HD8 := Lib.hid (HD7.out.set3 HK3.out (.slice Aw (k + 1) ew))
                    have HO8 := Lib.hid (own_set (b := w.heap.size + 1) (j := 3) (u := .slice Aw (k + 1) ew) HR.out (by have := HQ3.out; have := HD7.out.d.q; omega))
                    have HK := Lib.hid (RdI.next (D := (fun l bad v w' => DX w X3 bt3 q l bad (.slice A1 N1 e1) (.slice A2 N2 e2) (.slice A3 N3 e3) v (.slice none 0 0) m0 m1 m2 m3 m4 w')) (ok := RelF) HL.out HD8.out HO8.out HD8.out.h HX.out ⟨HA1.out, HKd.out, HSz.out, sg64_I dd⟩ HE3.out)
                    clear HO8 HR HG HDa HOa HNa H1c HD7 hcr3 hfr3 hcr hfr z0 z1 z2 z3 zf HBl HB6 HO6 HD6
                    go_roundw
                    case rel => exact ⟨k + 1, by omega, by go_num, HK⟩
                    case measure => simp [intOf]; omega
                · have HY := Lib.hid (RdE.of (D := (fun l bad v w' => DX w X3 bt3 q l bad (.slice A1 N1 e1) (.slice A2 N2 e2) (.slice A3 N3 e3) v (.slice none 0 0) m0 m1 m2 m3 m4 w')) hk hl HD.out HO.out HZ.out HX.out HE.out (fun _ => by omega))
                  have k1 : ¬ (k : Int) < m3 := by omega
                  go_wp2
                  go_meet
                  case rel => exact HY
            case rest =>
              clear HD
              obtain ⟨t4, l6, b6, A4, e4, hln, hD, hR, hZ, hX, hE⟩ := hcut.out
              obtain ⟨N4, hN⟩ : ∃ N, t4.length = N := ⟨_, rfl⟩
              rw [hN] at hD hln
              obtain ⟨bt4, hbt⟩ : ∃ bt, wc.heap.size = bt := ⟨_, rfl⟩
              have HBt4 := Lib.hid (show bt3 ≤ bt4 by omega)
              have HQ4 := Lib.hid (show q < bt4 by have := HQ3.out; omega)
              have HN4 := Lib.hid (And.intro hN hln)
              have HX4 := Lib.hid hX
              have HE4 := Lib.hid hE
              obtain ⟨X4, hX4⟩ : ∃ X : World → Prop, X = fun w' => X3 w' ∧ RowC w' bt3 bt4 A4 (t4.flatMap encRel) := ⟨_, rfl⟩
              have HXd4 := Lib.hid hX4
              have HK4 := Lib.hid (show Keeps X4 q bt4 by rw [hX4]; exact HK3.out.more (by omega) HQ3.out)
              have HD := Lib.hid (show DX w X4 bt4 q l6 b6 (.slice A1 N1 e1) (.slice A2 N2 e2) (.slice A3 N3 e3) (.slice A4 N4 e4) (.slice none 0 0) m0 m1 m2 m3 m4 wc from ⟨hD.d, by rw [hX4]; exact ⟨hD.x, hbt ▸ hR⟩, by omega⟩)
              clear hcut hN hln hbt hX hE hX4 hD hR hZ
              go_upto_block 10 with fail
              go_cut [] (fun wx => Hid (RdZ (fun l bad v w' => DX w X4 bt4 q l bad (.slice A1 N1 e1) (.slice A2 N2 e2) (.slice A3 N3 e3) (.slice A4 N4 e4) v m0 m1 m2 m3 m4 w') bt4 m4 l6 b6 wx))
              case first =>
                go_wp2
                go_loopw [15] (fun i ws => ∃ k : Nat, k ≤ m4 ∧ i = .int .i64 k ∧ Hid (RdX (fun l bad v w' => DX w X4 bt4 q l bad (.slice A1 N1 e1) (.slice A2 N2 e2) (.slice A3 N3 e3) (.slice A4 N4 e4) v m0 m1 m2 m3 m4 w') bt4 l6 b6 k ws)) (fun i _ => m4 - (intOf i).toNat)
                case atStart => exact ⟨0, by omega, rfl, Lib.hid (RdX.start HD.out HD.out.h)⟩
                case round =>
                  clear HD
                  obtain ⟨k, hk, rfl, HI⟩ := hrel
                  obtain ⟨es, cs, lk, bk, Ak, ek, hl, hD, hO, hEn, hZ, hX, hE⟩ := HI.out
                  have HD := Lib.hid hD
                  have HO := Lib.hid hO
                  have HEn := Lib.hid hEn
                  have HZ := Lib.hid hZ
                  have HX := Lib.hid hX
                  have HE := Lib.hid hE
                  clear HI hD hO hEn hZ hX hE
                  obtain ⟨⟨x0, x1, x2, x3, x4⟩, _⟩ := row_cells5 HD.out.d.n
                  obtain ⟨A', n', c', hV⟩ := HD.out.d.rd
                  obtain ⟨hcell, hbc, hfz⟩ := hV.cells
                  clear hV
                  by_cases hlt : k < m4
                  · have k0 : (0 : Int) ≤ k := by omega
                    have k1 : (k : Int) < m4 := by omega
                    cases bk
                    case true =>
                      have HY := Lib.hid (RdZ.of (D := (fun l bad v w' => DX w X4 bt4 q l bad (.slice A1 N1 e1) (.slice A2 N2 e2) (.slice A3 N3 e3) (.slice A4 N4 e4) v m0 m1 m2 m3 m4 w')) hk hl HD.out HO.out HEn.out HZ.out HX.out HE.out (fun h => by cases h))
                      go_wp2
                      go_meet
                      case rel => exact HY
                    case false =>
                      have HL := Lib.hid hl
                      clear hl
                      go_wp2_with fail
                      refine (rftext_any _ _ lk false wr HD.out.d.rd).mono ?_
                      rintro e w2 ⟨ho, s, v, la, ba, rfl, ⟨rfl, hsz⟩, hR, hE1⟩
                      have HEa := Lib.hid (rf_bind (g := fun s => rdBind (rdN 1) fun k => rdBind (rdL (rdN 1) k.toNat) fun l => rdRet (s, l)) hE1)
                      have HSz := Lib.hid hsz
                      obtain ⟨hE, hhE⟩ : ∃ hE, wr.heap.size = hE := ⟨_, rfl⟩
                      have HX2 := Lib.hid (show EX w X4 bt4 q la ba (.slice A1 N1 e1) (.slice A2 N2 e2) (.slice A3 N3 e3) (.slice A4 N4 e4) (.slice Ak k ek) m0 m1 m2 m3 m4 w2.heap.size hE s k cs es (.slice none 0 0) (w2.alloc (.cells #[.string s, .slice none 0 0] 52)) from
                        ⟨(HD.out.step HK4.out ho hR).alloc HK4.out (.cells #[.string s, .slice none 0 0] 52), heap_alloc_new w2 (.cells #[.string s, .slice none 0 0] 52), rowO_below (OutO.rowKept HO.out ho (by have := HQ4.out; have := HD.out.d.q; omega)) ((Below.refl w2.heap.size w2).alloc (Nat.le_refl _) (.cells #[.string s, .slice none 0 0] 52)),
                          HEn.out.move (by omega) (fun _ _ _ h => h) (fun b h1 h2 _ => (heap_alloc_same w2 (.cells #[.string s, .slice none 0 0] 52) (Nat.lt_of_lt_of_le h2 ho.size)).trans (ho.block b h2 (by have := HQ4.out; have := HD.out.d.q; omega))),
                          Nat.le_trans HZ.out ho.size, by have := ho.size; omega, fun g hg => Nat.lt_of_lt_of_le (ownO_lt HO.out hg).1 ho.size⟩)
                      clear ho hR hE1 hsz hcell hbc hfz x0 x1 x2 x3 x4 hhE
                      go_wp2_with fail
                      generalize (w2.alloc (.cells #[.string s, .slice none 0 0] 52)) = w2a at *
                      generalize hbx : w2.heap.size = bx at *
                      clear hbx
                      refine (rfnum_any 1 (by omega) _ _ la ba w2a HX2.out.d.d.rd).mono ?_
                      rintro e w3 ⟨ho, x, v, lb, bb, rfl, ⟨rfl, y0, y1⟩, hR, hE1⟩
                      obtain ⟨m, rfl⟩ := Int.eq_ofNat_of_zero_le y0
                      have hm : m < 256 := by
                        have : (256 : Int) ^ 1 = 256 := rfl
                        omega
                      have HEb := Lib.hid (HEa.out.trans (rf_bind (g := fun k => rdBind (rdL (rdN 1) k.toNat) fun l => rdRet (s, l)) hE1))
                      have HE0 := Lib.hid (HX2.out.step HK4.out HQ4.out ho hR)
                      have HB3 := Lib.hid (show bx < w3.heap.size from HE0.out.lt)
                      clear ho hR hE1 y0 y1 HX2 HEa
                      go_upto_block 12 with fail
                      obtain ⟨bp, hbp⟩ : ∃ bp, w3.heap.size = bp := ⟨_, rfl⟩
                      have HBp := Lib.hid (show bx < bp ∧ bp ≤ w3.heap.size by have := HB3.out; omega)
                      go_cut [] (fun wx => Hid (RdE (fun l bad v w' => EX w X4 bt4 q l bad (.slice A1 N1 e1) (.slice A2 N2 e2) (.slice A3 N3 e3) (.slice A4 N4 e4) (.slice Ak k ek) m0 m1 m2 m3 m4 bx hE s k cs es v w') bp encI64 (fun z : Int => 0 ≤ z ∧ z < 256) (rdN 1) m lb bb wx))
                      case first =>
                        go_wp2
                        go_loopw [18] (fun i ws => ∃ j : Nat, j ≤ m ∧ i = .int .i64 j ∧ Hid (RdI (fun l bad v w' => EX w X4 bt4 q l bad (.slice A1 N1 e1) (.slice A2 N2 e2) (.slice A3 N3 e3) (.slice A4 N4 e4) (.slice Ak k ek) m0 m1 m2 m3 m4 bx hE s k cs es v w') bp 3 encI64 1 (fun z : Int => 0 ≤ z ∧ z < 256) (rdN 1) lb bb j ws)) (fun i _ => m - (intOf i).toNat)
                        case atStart => exact ⟨0, by omega, rfl, Lib.hid (RdI.start HE0.out HBp.out.2)⟩
                        case round =>
                          clear HE0
                          obtain ⟨j, hj, rfl, HI⟩ := hrel
                          obtain ⟨zs, lj, bj, Aj, ej, hlz, hE5, hO5, hZ5, hX5, hEq⟩ := HI.out
                          have HE0 := Lib.hid hE5
                          have HO5 := Lib.hid hO5
                          have HZ5 := Lib.hid hZ5
                          have HX5 := Lib.hid hX5
                          have HEq := Lib.hid hEq
                          clear HI hE5 hO5 hZ5 hX5 hEq
                          obtain ⟨A', n', c', hV⟩ := HE0.out.d.d.rd
                          obtain ⟨hcell, hbc, hfz⟩ := hV.cells
                          have hcr := cell_of_row wr bx 1 _ _ _ HE0.out.b
                          simp only [List.getElem?_toArray, List.getElem?_cons_zero, List.getElem?_cons_succ] at hcr
                          have hfr := frozen_of_row wr bx 1 _ _ HE0.out.b
                          clear hV
                          by_cases hlj : j < m
                          · have j0 : (0 : Int) ≤ j := by omega
                            have j1 : (j : Int) < m := by omega
                            cases bj
                            case true =>
                              have HY := Lib.hid (RdE.of (D := (fun l bad v w' => EX w X4 bt4 q l bad (.slice A1 N1 e1) (.slice A2 N2 e2) (.slice A3 N3 e3) (.slice A4 N4 e4) (.slice Ak k ek) m0 m1 m2 m3 m4 bx hE s k cs es v w')) hj hlz HE0.out HO5.out HZ5.out HX5.out HEq.out (fun h => by cases h))
                              go_wp2
                              go_meet
                              case rel => exact HY
                            case false =>
                              have HLz := Lib.hid hlz
                              clear hlz
                              obtain ⟨i0, hi0, hz0, hz1, hz2⟩ := info_parts info_small
                              have HCal := Lib.hid (rfnum_any 1 (by omega) _ _ lj false wr.drew (HE0.out.drew HK4.out).d.d.rd)
                              have HM := Lib.hid (show j + 1 ≤ maxLen by unfold maxLen; omega)
                              have HB := Lib.hid (show (j + 1) * 8 ≤ 140737488355328 by omega)
                              go_wp2
                              go_region_law (first
                                | (refine step_call6 rfl 35 _ _ rfl #[.pointer (some ⟨w.heap.size + 1 + 1, 0, none⟩), .int .i64 1] ?hv calls_rfnum HCal.out ?_; (case hv => simp [go_sem]); rintro e w2 ⟨ho, x, v, lx, bx', rfl, ⟨rfl, y0, y1⟩, hR, hE⟩; refine ⟨_, rfl, ?_⟩; have HXb := Lib.hid (And.intro y0 (show x < 256 from y1)); have HE2 := Lib.hid (rf_round HEq.out hE); have HD2 := Lib.hid ((HE0.out.drew HK4.out).step HK4.out HQ4.out ho hR); have HDa := Lib.hid (HD2.out.alloc HK4.out (.cells #[.int .i64 (IntKind.i64.wrap x)] 3)); have HOa := Lib.hid (rowO_below (OutO.rowKept (rowO_below HO5.out (Below.drew (Below.refl _ _))) ho (by have := HE0.out.d.d.q; have := HQ4.out; have := HBp.out.1; have := HE0.out.h; omega)) ((Below.refl w2.heap.size w2).alloc (Nat.le_refl _) (.cells #[.int .i64 (IntKind.i64.wrap x)] 3))); have HNa := Lib.hid (news_at (w := w2) (w2 := w2.alloc (.cells #[.int .i64 (IntKind.i64.wrap x)] 3)) (cs := encI64 (IntKind.i64.wrap x)) (ty := 3) rfl); have HZa := Lib.hid (show bp ≤ (w2.alloc (.cells #[.int .i64 (IntKind.i64.wrap x)] 3)).heap.size from Nat.le_trans HZ5.out (Nat.le_trans ho.size (by simp))); have H1c := Lib.hid (show ∀ u ∈ encI64 (IntKind.i64.wrap x), u.oneCell' = true from fun u hu => by unfold encI64 at hu; simp only [List.mem_singleton] at hu; subst hu; rfl); have hcr2 := cell_of_row w2 bx 1 _ _ _ HD2.out.b; simp only [List.getElem?_toArray, List.getElem?_cons_zero, List.getElem?_cons_succ] at hcr2; have hfr2 := frozen_of_row w2 bx 1 _ _ HD2.out.b; have hcra := cell_of_row (w2.alloc (.cells #[.int .i64 (IntKind.i64.wrap x)] 3)) bx 1 _ _ _ HDa.out.b; simp only [List.getElem?_toArray, List.getElem?_cons_zero, List.getElem?_cons_succ] at hcra; have hfra := frozen_of_row (w2.alloc (.cells #[.int .i64 (IntKind.i64.wrap x)] 3)) bx 1 _ _ HDa.out.b; clear ho hR hE y0 y1)
                                | (refine step_append_at6 rfl _ _ 50 rfl bp 3 i0 (.int .i64 0) 1 8 Tryz.underlying50 hi0 hz0 hz1 hz2 rfl (by decide) (.slice Aj j ej) j (zs.flatMap encI64) ?hs HOa.out ⟨w2.heap.size, 0, none⟩ 1 1 (encI64 (IntKind.i64.wrap x)) ?hx rfl HNa.out H1c.out HM.out HB.out HZa.out ?_; (case hs => simp [go_sem]); (case hx => simp [go_sem]); intro v' w3 hr hg hv'; obtain ⟨Aw, ew, rfl⟩ := ownO_slice hr; have HR := Lib.hid hr; have HG := Lib.hid hg; have HD3 := Lib.hid (HDa.out.grown HK4.out HQ4.out hg (fun g e => Nat.lt_of_lt_of_le HBp.out.1 (own_ge HOa.out g e))); have hcr3 := cell_of_row w3 bx 1 _ _ _ HD3.out.b; simp only [List.getElem?_toArray, List.getElem?_cons_zero, List.getElem?_cons_succ] at hcr3; have hfr3 := frozen_of_row w3 bx 1 _ _ HD3.out.b; clear hr hg hv'))
                              all_goals
                                have HD4 := Lib.hid (HD3.out.put HK4.out HQ4.out (.slice Aw (j + 1) ew))
                                have HO4 := Lib.hid (own_set (b := bx) (j := 1) (u := .slice Aw (j + 1) ew) HR.out HBp.out.1)
                                have HZ4 := Lib.hid (show bp ≤ (w3.setCell ⟨bx, 1, none⟩ (.slice Aw (j + 1) ew)).heap.size from by rw [size_set]; exact Nat.le_trans HZa.out HG.out.size)
                                have HKj := Lib.hid (RdI.next (D := (fun l bad v w' => EX w X4 bt4 q l bad (.slice A1 N1 e1) (.slice A2 N2 e2) (.slice A3 N3 e3) (.slice A4 N4 e4) (.slice Ak k ek) m0 m1 m2 m3 m4 bx hE s k cs es v w')) (ok := (fun z : Int => 0 ≤ z ∧ z < 256)) HLz.out HD4.out (by have h := HO4.out; rw [wrap_i64_id HXb.out] at h; exact h) HZ4.out HX5.out HXb.out HE2.out)
                                clear HO4 HR HG HDa HOa HNa HZa H1c HD3 hcr2 hcra hcr3 hfr2 hfra hfr3 hcr hfr hcell hbc hfz
                                go_wp2
                                go_roundw
                                case rel => exact ⟨j + 1, by omega, by go_num, HKj⟩
                                case measure => simp [intOf]; omega
                          · have HY := Lib.hid (RdE.of (D := (fun l bad v w' => EX w X4 bt4 q l bad (.slice A1 N1 e1) (.slice A2 N2 e2) (.slice A3 N3 e3) (.slice A4 N4 e4) (.slice Ak k ek) m0 m1 m2 m3 m4 bx hE s k cs es v w')) hj hlz HE0.out HO5.out HZ5.out HX5.out HEq.out (fun _ => by omega))
                            have j1 : ¬ (j : Int) < m := by omega
                            go_wp2
                            go_meet
                            case rel => exact HY
                      case rest =>
                        obtain ⟨zs, lc, bc, Az, ez, hlz, hX6, hR6, hZ6, hF6, hE6⟩ := hcut.out
                        obtain ⟨Nz, hNz⟩ : ∃ N, zs.length = N := ⟨_, rfl⟩
                        rw [hNz] at hX6 hlz
                        have HX6 := Lib.hid hX6
                        have HR6 := Lib.hid hR6
                        have HZ6 := Lib.hid hZ6
                        have HF6 := Lib.hid hF6
                        have HNz := Lib.hid (And.intro hNz hlz)
                        have HE3 := Lib.hid (rf_round HE.out (HEb.out.trans (rf_bind (g := fun l => rdRet (s, l)) hE6)))
                        clear hcut HE0 HEb hX6 hR6 hZ6 hF6 hE6 hlz hNz hbp HB3
                        generalize wc = w6 at *
                        have HBl := Lib.hid ((Below.refl w6.heap.size w6).alloc (Nat.le_refl _) (.cells #[.string s, .slice Az Nz ez] 52))
                        have HDa := Lib.hid (HX6.out.d.alloc HK4.out (.cells #[.string s, .slice Az Nz ez] 52))
                        have HOa := Lib.hid (rowO_below HX6.out.o HBl.out)
                        have HNa := Lib.hid (news_at (w := w6) (w2 := w6.alloc (.cells #[.string s, .slice Az Nz ez] 52)) (cs := [Value.string s, .slice Az Nz ez]) (ty := 52) rfl)
                        have H1c := Lib.hid (show ∀ u ∈ [Value.string s, .slice Az Nz ez], u.oneCell' = true from fun u hu => by simp only [List.mem_cons, List.not_mem_nil, or_false] at hu; rcases hu with rfl | rfl <;> rfl)
                        have HM := Lib.hid (show k + 1 ≤ maxLen by unfold maxLen; omega)
                        have HB := Lib.hid (show (k + 1) * 40 ≤ 140737488355328 by omega)
                        have hcr := (cell_of_row w6 (w.heap.size + 1) 4 _ _ _ HX6.out.d.d.o)
                        simp only [List.getElem?_toArray, List.getElem?_cons_zero, List.getElem?_cons_succ] at hcr
                        have hfr := frozen_of_row w6 (w.heap.size + 1) 4 _ _ HX6.out.d.d.o
                        obtain ⟨z0, z1, zf⟩ := row_cells2 HX6.out.b
                        obtain ⟨i0, hi0, hz0, hz1, hz2⟩ := info_parts info_ent
                        go_wp2_with (at_builtin; (refine wpList_append_at6 rfl _ _ 26 rfl bt4 52 i0 (.agg #[.string ⟨#[]⟩, .slice none 0 0]) 2 40 Tryz.underlying26 hi0 hz0 hz1 hz2 rfl (by decide) (.slice Ak k ek) k cs ?hs HOa.out ⟨w6.heap.size, 0, none⟩ 1 1 [Value.string s, .slice Az Nz ez] ?hx rfl HNa.out H1c.out HM.out HB.out HDa.out.h ?_; (case hs => rfl); (case hx => rfl); intro v' w7 hr hg hv'; obtain ⟨Aw, ew, rfl⟩ := ownO_slice hr; have HR := Lib.hid hr; have HG := Lib.hid hg; have HV := Lib.hid hv'; have HD7 := Lib.hid (HDa.out.grown HK4.out HQ4.out hg (fun g e => own_ge HOa.out g e)); have hcr3 := (cell_of_row w7 (w.heap.size + 1) 4 _ _ _ HD7.out.d.o); simp only [List.getElem?_toArray, List.getElem?_cons_zero, List.getElem?_cons_succ] at hcr3; have hfr3 := frozen_of_row w7 (w.heap.size + 1) 4 _ _ HD7.out.d.o; clear hr hg hv'))
                        have HD8 := Lib.hid (HD7.out.set4 HK4.out (.slice Aw (k + 1) ew))
                        have HO8 := Lib.hid (own_set (b := w.heap.size + 1) (j := 4) (u := .slice Aw (k + 1) ew) HR.out (by have := HQ4.out; have := HD7.out.d.q; omega))
                        have HK := Lib.hid (RdX.next (D := (fun l bad v w' => DX w X4 bt4 q l bad (.slice A1 N1 e1) (.slice A2 N2 e2) (.slice A3 N3 e3) (.slice A4 N4 e4) v m0 m1 m2 m3 m4 w')) (x := (s, zs)) (c := ez) HL.out HX6.out.e HR6.out (fun g e => Nat.lt_trans (HX6.out.h.2.2 g e) HBp.out.1) (by have := HX6.out.h.1; have := HBp.out.1; omega) (by have := HX6.out.h.2.1; have := HX6.out.lt; omega) HBl.out HG.out HV.out (fun b hb => heap_setCell_other w7 _ b _ (by have := HQ4.out; have := HD7.out.d.q; show b ≠ w.heap.size + 1; omega)) (size_set _ _ _) HD8.out (by rw [HNz.out.1]; exact HO8.out) HD8.out.h HX.out ⟨HSz.out, by have := HNz.out; show zs.length ≤ 255; omega, HF6.out⟩ HE3.out)
                        clear HO8 HR HG HV HDa HOa HNa H1c HD7 hcr3 hfr3 hcr hfr z0 z1 zf HBl HX6 HR6 HZ6 HF6
                        go_roundw
                        case rel => exact ⟨k + 1, by omega, by go_num, HK⟩
                        case measure => simp [intOf]; omega
                  · have HY := Lib.hid (RdZ.of (D := (fun l bad v w' => DX w X4 bt4 q l bad (.slice A1 N1 e1) (.slice A2 N2 e2) (.slice A3 N3 e3) (.slice A4 N4 e4) v m0 m1 m2 m3 m4 w')) hk hl HD.out HO.out HEn.out HZ.out HX.out HE.out (fun _ => by omega))
                    have k1 : ¬ (k : Int) < m4 := by omega
                    go_wp2
                    go_meet
                    case rel => exact HY
              case rest =>
                clear HD
                obtain ⟨t5, cs5, l7, b7, A5, e5, hln, hD, hR5, hEn, hZ, hX5, hE5⟩ := hcut.out
                have hx := hD.x
                rw [HXd4.out] at hx
                obtain ⟨hx, r4⟩ := hx
                rw [HXd3.out] at hx
                obtain ⟨hx, r3⟩ := hx
                rw [HXd2.out] at hx
                obtain ⟨hx, r2⟩ := hx
                rw [HXd1.out] at hx
                obtain ⟨_, r1⟩ := hx
                have hall := objR_all E1.out.1 E1.out.2 HE1.out HE2.out HE3.out HE4.out hE5
                have hW : ObjW ⟨t1, t2, t3, t4, t5⟩ := ⟨HX1.out, HX2.out, fun s hs => by
                    obtain ⟨a, b, c⟩ := HX3.out s hs
                    exact ⟨by unfold maxLen; omega, by unfold IsI; omega⟩, fun s hs => by
                    obtain ⟨⟨a, b⟩, ⟨a2, b2⟩, c, dd⟩ := HX4.out s hs
                    exact ⟨by unfold IsI; omega, by unfold IsI; omega, by unfold maxLen; omega, dd⟩, fun s hs => by
                    obtain ⟨a, b, c⟩ := hX5 s hs
                    exact ⟨by unfold maxLen; omega, fun z hz => by (have := c z hz; unfold IsI; omega), by unfold maxLen; omega⟩⟩
                have hN1 := HN1.out.1
                have hN2 := HN2.out.1
                have hN3 := HN3.out.1
                have hN4 := HN4.out.1
                subst hN1 hN2 hN3 hN4
                have hs0 := hD.d.q
                have hs1 := HQ0.out
                have hs2 := HBt1.out
                have hs3 := HBt2.out
                have hs4 := HBt3.out
                have hs5 := HBt4.out
                have hO : ObjAt wc (w.heap.size + 1) wc.heap.size ⟨t1, t2, t3, t4, t5⟩ (.agg #[.slice A1 t1.length e1, .slice A2 t2.length e2, .slice A3 t3.length e3, .slice A4 t4.length e4, .slice A5 t5.length e5]) :=
                  ⟨A1, e1, A2, e2, A3, e3, A4, e4, A5, e5, cs5, rfl, r1.move (by omega) (by omega) (fun _ _ _ => rfl), r2.move (by omega) (by omega) (fun _ _ _ => rfl), r3.move (by omega) (by omega) (fun _ _ _ => rfl), r4.move (by omega) (by omega) (fun _ _ _ => rfl), hR5.move (by omega) (by omega) (fun _ _ _ => rfl), hEn.lower (by omega)⟩
                obtain ⟨d, hd⟩ : ∃ d : ObjD, (⟨t1, t2, t3, t4, t5⟩ : ObjD) = d := ⟨_, rfl⟩
                rw [hd] at hall hW hO
                have HF := Lib.hid hall
                have HW := Lib.hid hW
                have HO := Lib.hid hO
                have HD := Lib.hid hD.d
                clear hcut r1 r2 r3 r4 hd hall hW hO hD hR5 hEn hZ hX5 hE5 hs0 hs1 hs2 hs3 hs4 hs5 hln
                generalize wc = wz at *
                obtain ⟨⟨z0, z1, z2, z3, z4⟩, _⟩ := row_cells5 HD.out.o
                obtain ⟨⟨y0, y1, y2, y3, y4⟩, yf⟩ := row_cells5 HD.out.r
                obtain ⟨A', n', c', hV⟩ := HD.out.rd
                obtain ⟨hcell, hbc, hfz⟩ := hV.cells
                have HNl := Lib.hid hV.2.1
                clear hV
                cases b7
                case true =>
                  have HNo := Lib.hid (dec_no1 HA.out HW.out HF.out)
                  go_upto_region 45 with fail
                  go_step
                  refine wpList_build_obj rfl rfl ?_
                  refine wpList_store_obj rfl _ _ rfl w.heap.size ?hx none none none none none 0 0 0 0 0 0 0 0 0 0 ?hy HD.out.r rfl ?_
                  case hx => rfl
                  case hy => rfl
                  intro we hre hge
                  clear z0 z1 z2 z3 z4 y0 y1 y2 y3 y4 yf
                  go_frame
                  repeat go_step
                  refine bodyPost_ret (v := .tuple #[nil5, .int .i64 3]) (res_rdec (b := w.heap.size) rfl rfl hre) rfl (DecP.mkNo HNo.out (HD.out.b.grown hge HD.out.b.size (fun g e => by cases e; exact Nat.le_refl _)) rfl)
                case false =>
                  cases n' with
                  | succ n' =>
                    have HNo := Lib.hid (dec_no2 HA.out HW.out HF.out (fun h => by have := HNl.out; rw [h] at this; simp at this))
                    have hn0 : ((n' + 1 : Nat) : Int) > 0 := by omega
                    go_upto_region 45 with fail
                    go_step
                    refine wpList_build_obj rfl rfl ?_
                    refine wpList_store_obj rfl _ _ rfl w.heap.size ?hx none none none none none 0 0 0 0 0 0 0 0 0 0 ?hy HD.out.r rfl ?_
                    case hx => rfl
                    case hy => rfl
                    intro we hre hge
                    clear z0 z1 z2 z3 z4 y0 y1 y2 y3 y4 yf
                    go_frame
                    repeat go_step
                    refine bodyPost_ret (v := .tuple #[nil5, .int .i64 3]) (res_rdec (b := w.heap.size) rfl rfl hre) rfl (DecP.mkNo HNo.out (HD.out.b.grown hge HD.out.b.size (fun g e => by cases e; exact Nat.le_refl _)) rfl)
                  | zero =>
                    have hl7 : l7 = [] := List.eq_nil_of_length_eq_zero HNl.out.symm
                    subst hl7
                    go_wp2_with fail
                    refine (rmay_any _ HW.out _ _ _ wz HO.out (Nat.le_refl _)).mono ?_
                    rintro e w8 ⟨rfl, hb⟩
                    have HD8 := Lib.hid (HD.out.below hb)
                    have HO8 := Lib.hid (HO.out.below (Nat.le_refl _) hb)
                    have HB8 := Lib.hid hb.size
                    clear hb z0 z1 z2 z3 z4 y0 y1 y2 y3 y4 yf hcell hbc hfz
                    obtain ⟨⟨z0, z1, z2, z3, z4⟩, _⟩ := row_cells5 HD8.out.o
                    obtain ⟨⟨y0, y1, y2, y3, y4⟩, yf⟩ := row_cells5 HD8.out.r
                    cases hmy : mayO d
                    case false =>
                      have HNo := Lib.hid (dec_no3 HA.out HW.out HF.out hmy)
                      clear hmy
                      go_upto_region 45 with fail
                      go_step
                      refine wpList_build_obj rfl rfl ?_
                      refine wpList_store_obj rfl _ _ rfl w.heap.size ?hx none none none none none 0 0 0 0 0 0 0 0 0 0 ?hy HD8.out.r rfl ?_
                      case hx => rfl
                      case hy => rfl
                      intro we hre hge
                      clear z0 z1 z2 z3 z4 y0 y1 y2 y3 y4 yf
                      go_frame
                      repeat go_step
                      refine bodyPost_ret (v := .tuple #[nil5, .int .i64 3]) (res_rdec (b := w.heap.size) rfl rfl hre) rfl (DecP.mkNo HNo.out (HD8.out.b.grown hge HD8.out.b.size (fun g e => by cases e; exact Nat.le_refl _)) rfl)
                    case true =>
                      obtain ⟨hFt, hlen⟩ := may_len HW.out hmy
                      have HMy := Lib.hid hmy
                      have HFt := Lib.hid hFt
                      have HLn := Lib.hid hlen
                      clear hmy hFt hlen
                      go_wp2_with fail
                      refine (rwrite_any _ HFt.out HLn.out _ _ _ w8 HO8.out HB8.out).mono ?_
                      rintro e w9 ⟨vv, rfl, hwr⟩
                      obtain ⟨Aw, cw, rfl, hsw, _⟩ := wrL_bytes hwr (encB_pos _)
                      have HB9 := Lib.hid hwr.2
                      have HD9 := Lib.hid (HD8.out.below hwr.2)
                      have HO9 := Lib.hid (HO8.out.below HB8.out hwr.2)
                      have HSw := Lib.hid (slB_sl hsw)
                      have HSb := Lib.hid (slB_sl (slB_down HS.out (Nat.le_refl _) HD9.out.b))
                      obtain ⟨nw, hnw⟩ : ∃ nw, (encB d).length = nw := ⟨_, rfl⟩
                      have HNw := Lib.hid hnw
                      rw [hnw]
                      have HNx := Lib.hid (show nw ≤ 9223372036854775807 by have := HLn.out; omega)
                      clear hwr hsw hnw z0 z1 z2 z3 z4 y0 y1 y2 y3 y4 yf
                      go_wp2_with fail
                      refine (same_any Aw A (encB d) l nw n cw c w9 HSw.out HSb.out HNw.out HN.out HNx.out).mono ?_
                      rintro e w10 ⟨rfl, kq, rfl⟩
                      have HD10 := Lib.hid (HD9.out.below (belq (Below.refl _ _) kq))
                      have HO10 := Lib.hid (HO9.out.below (Nat.le_trans HB8.out HB9.out.size) (belq (Below.refl _ _) kq))
                      obtain ⟨⟨z0, z1, z2, z3, z4⟩, _⟩ := row_cells5 HD10.out.o
                      obtain ⟨⟨y0, y1, y2, y3, y4⟩, yf⟩ := row_cells5 HD10.out.r
                      have HQz := Lib.hid (show wz.heap.size ≤ (w9.drewN kq).heap.size from (Nat.le_trans HB8.out HB9.out.size : wz.heap.size ≤ w9.heap.size))
                      generalize w9.drewN kq = wq at *
                      cases hsm : (encB d == l)
                      case false =>
                        have HNo := Lib.hid (dec_no4 HA.out HW.out HF.out hsm)
                        clear hsm
                        go_upto_region 45 with fail
                        go_step
                        refine wpList_build_obj rfl rfl ?_
                        refine wpList_store_obj rfl _ _ rfl w.heap.size ?hx none none none none none 0 0 0 0 0 0 0 0 0 0 ?hy HD10.out.r rfl ?_
                        case hx => rfl
                        case hy => rfl
                        intro we hre hge
                        clear z0 z1 z2 z3 z4 y0 y1 y2 y3 y4 yf
                        go_frame
                        repeat go_step
                        refine bodyPost_ret (v := .tuple #[nil5, .int .i64 3]) (res_rdec (b := w.heap.size) rfl rfl hre) rfl (DecP.mkNo HNo.out (HD10.out.b.grown hge HD10.out.b.size (fun g e => by cases e; exact Nat.le_refl _)) rfl)
                      case true =>
                        have HYe := Lib.hid (dec_yes HA.out HW.out HF.out HMy.out hsm)
                        clear hsm
                        go_upto_region 46 with fail
                        go_step
                        refine wpList_load_obj rfl _ rfl (w.heap.size + 1) ?hx HD10.out.o ?_
                        case hx => rfl
                        refine wpList_store_obj rfl _ _ rfl w.heap.size ?hx A1 A2 A3 A4 A5 t1.length t2.length t3.length t4.length t5.length e1 e2 e3 e4 e5 ?hy HD10.out.r rfl ?_
                        case hx => rfl
                        case hy => rfl
                        intro we hre hge
                        clear z0 z1 z2 z3 z4 y0 y1 y2 y3 y4 yf
                        go_frame
                        repeat go_step
                        refine bodyPost_ret (v := .tuple #[.agg #[.slice A1 t1.length e1, .slice A2 t2.length e2, .slice A3 t3.length e3, .slice A4 t4.length e4, .slice A5 t5.length e5], .int .i64 0]) (res_rdec (b := w.heap.size) rfl rfl hre) rfl (DecP.mkYes HYe.out (HD10.out.b.grown hge HD10.out.b.size (fun g e => by cases e; exact Nat.le_refl _)) rfl ?_)
                        exact HO10.out.move (by omega) (Nat.le_trans HQz.out hge.size) (fun b h1 h2 => hge.block b (Nat.lt_of_lt_of_le h2 HQz.out) (fun e => by cases e; omega))
end Go.Proofs.YtmpieeadkkeniaaGreatDoor
