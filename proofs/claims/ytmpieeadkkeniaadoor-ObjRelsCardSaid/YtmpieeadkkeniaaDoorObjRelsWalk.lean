/- The walk of the statement ObjRels. Condition: the tables of package ins read as they should. -/
import Derived.Test.YtmpieeadkkeniaaDoorObjK
import Derived.Test.YtmpieeadkkeniaaDoorObjI
import Derived.Test.YtmpieeadkkeniaaDoorObjE
import Derived.Test.YtmpieeadkkeniaaDoorInsLays
import Derived.Test.YtmpieeadkkeniaaDoorInsE
import Derived.Deep.RegionLawGrows
import Derived.Deep.DeepCutAuto
namespace Go.Proofs.YtmpieeadkkeniaaDoor.ObjRelsWalk
set_option maxRecDepth 100000
open Go.RowKit
set_option linter.unusedVariables false
def opN (i : Nat) : Nat := [38, 16, 26, 28, 29, 31, 40, 32, 37, 0, 41, 27, 39].getD i 0
theorem all13 {p : Nat → Bool} (h : (List.range 13).all p = true) {n : Nat} (hn : n < 13) : p n = true := List.all_eq_true.1 h n (List.mem_range.2 hn)
theorem opN_may {i : Nat} (h : i < 13) : opN i < 43 ∧ mayB (opN i) 0 0 0 0 = true := by
  have := all13 (p := fun i => decide (opN i < 43) && mayB (opN i) 0 0 0 0) (by decide +kernel) h
  simpa using this
theorem opOf_of {x : Int} {n : Nat} (hn : n < 43) (h : Match x n) : opOf x = some n := by
  cases e : opOf x with
  | none => exact absurd h (opOf_none e n hn)
  | some m =>
    obtain ⟨h1, h2⟩ := opOf_some e
    rw [Match.one h1 hn h2 h]
def xS : ByteArray := ⟨#[120]⟩
def dR (x k : Int) (t : Bool) : ObjD := ⟨[x], [], [], if t then [(0, k, xS, 0), (0, k, xS, 0)] else [(0, k, xS, 0)], []⟩
theorem dR_W {x k : Int} (t : Bool) (hx : IsW x) (hk : IsI k) : ObjW (dR x k t) := by
  have h0 : IsI 0 := ⟨by decide, by decide⟩
  have hs : xS.size ≤ maxLen := by unfold maxLen; decide
  refine ⟨fun y hy => ?_, fun y hy => (nomatch hy), fun y hy => (nomatch hy), fun y hy => ?_, fun y hy => (nomatch hy)⟩
  · simp [dR] at hy; subst hy; exact hx
  · cases t <;> simp [dR] at hy <;> subst hy <;> exact ⟨h0, hk, hs, h0⟩
theorem x_name : nameB (sB xS) = true := by decide +kernel
theorem dR_may {x k : Int} {t : Bool} {n : Nat} (h : opOf x = some n) : mayO (dR x k t) = (suitB k n && !t) := by
  have hT : textB [x] = true := by simp [textB, h]
  have hO : opsL [x] = [(n : Int)] := by simp [opsL, h]
  cases t
  · have h1 : relOkB (dR x k false) 0 = suitB k n := by
      unfold relOkB
      simp [dR, relAt, hO, nth, x_name, inB]
    unfold mayO
    have h2 : relsB (dR x k false) = suitB k n := by
      unfold relsB
      simp [show (dR x k false).rels.length = 1 from rfl, List.range_succ, h1]
    rw [h2]
    simp [dR, hT, symsB, entsB, fewB]
  · have h2 : relsB (dR x k true) = false := range_all_no (i := 1) (by simp [dR]) (by unfold relOkB; simp [dR, relAt, List.range_succ])
    unfold mayO
    rw [h2]
    simp
/-- which kinds may be, place by place in the list -/
theorem suit_13 {i : Nat} (h : i < 13) : suitB 0 (opN i) = decide (i = 0) ∧ suitB 1 (opN i) = (decide (1 ≤ i) && decide (i ≤ 5)) ∧ suitB 2 (opN i) = decide (i = 6) ∧ suitB 3 (opN i) = (decide (i = 7) || decide (i = 8)) := by
  have := all13 (p := fun i => decide (suitB 0 (opN i) = decide (i = 0)) && decide (suitB 1 (opN i) = (decide (1 ≤ i) && decide (i ≤ 5))) && decide (suitB 2 (opN i) = decide (i = 6)) && decide (suitB 3 (opN i) = (decide (i = 7) || decide (i = 8)))) (by decide +kernel) h
  simp only [Bool.and_eq_true, decide_eq_true_eq] at this
  exact ⟨this.1.1.1, this.1.1.2, this.1.2, this.2⟩
theorem suit_far {k : Int} (n : Nat) (h0 : ¬ k = 0) (h1 : ¬ k = 1) (h2 : ¬ k = 2) (h3 : ¬ k = 3) : suitB k n = false := by
  unfold suitB; rw [if_neg h0, if_neg h1, if_neg h2, if_neg h3]
set_option maxHeartbeats 1000000 in
theorem lenc_any (n : Nat) (w : World) (hn : n < 43) (h : mayB n 0 0 0 0 = true) :
    Calls Tryd.prog 9 #[.agg #[.int .i64 n, .int .i64 0, .int .i64 0, .int .i64 0, .int .i64 0]] w fun e w' => e = .returned (.int .u32 (encI n 0 0 0 0)) ∧ Below w.heap.size w w' := by
  have HC := Lib.hid (fun w => renc_yes n 0 0 0 0 w hn ⟨by decide, by decide⟩ h)
  have HB := Lib.hid ((Below.refl w.heap.size w).alloc (Nat.le_refl _) (.cells #[.int .i64 n, .int .i64 0, .int .i64 0, .int .i64 0, .int .i64 0] 27))
  unfold insA at HC
  generalize encI n 0 0 0 0 = x at *
  clear h hn
  go_enter Tryd.func9, Tryd.ntmps9
  go_wp2_with fail
  refine (HC.out _).mono ?_
  rintro e w' ⟨rfl, hb⟩
  have HB2 := Lib.hid (HB.out.trans (hb.mono HB.out.size))
  clear hb
  go_wp2
  go_ret
  exact ⟨rfl, HB2.out⟩
theorem tab13 {i : Nat} (h : i < 13) : (#[Value.int .i64 38, Value.int .i64 16, Value.int .i64 26, Value.int .i64 28, Value.int .i64 29, Value.int .i64 31, Value.int .i64 40, Value.int .i64 32, Value.int .i64 37, Value.int .i64 0, Value.int .i64 41, Value.int .i64 27, Value.int .i64 39] : Array Value)[i]? = some (.int .i64 (opN i)) := by
  obtain e | e | e | e | e | e | e | e | e | e | e | e | e : i = 0 ∨ i = 1 ∨ i = 2 ∨ i = 3 ∨ i = 4 ∨ i = 5 ∨ i = 6 ∨ i = 7 ∨ i = 8 ∨ i = 9 ∨ i = 10 ∨ i = 11 ∨ i = 12 := by omega
  all_goals (subst e; rfl)
/-- the object as it lies in its box -/
def ObX (w0 : World) (h hi : Nat) (d : ObjD) (v0 v1 v2 v3 v4 : Value) (w : World) : Prop :=
  w.heap[h]? = some (.cells #[v0, v1, v2, v3, v4] 36 (0, 0)) ∧ ObjAt w w0.heap.size hi d (.agg #[v0, v1, v2, v3, v4]) ∧ hi ≤ w.heap.size ∧ Below w0.heap.size w0 w
theorem ObX.below {w0 w w' : World} {h hi : Nat} {d : ObjD} {v0 v1 v2 v3 v4 : Value} (hx : ObX w0 h hi d v0 v1 v2 v3 v4 w) (hb : Below w.heap.size w w') : ObX w0 h hi d v0 v1 v2 v3 v4 w' :=
  ⟨(hb.block _ (Array.getElem?_eq_some_iff.1 hx.1).1).trans hx.1, hx.2.1.below hx.2.2.1 hb, Nat.le_trans hx.2.2.1 hb.size, hx.2.2.2.trans (hb.mono hx.2.2.2.size)⟩
theorem obX_made (wc : World) (x k : Int) : ObX wc (wc.heap.size + 1 + 1) (wc.heap.size + 1 + 1) (dR x k false) (.slice (some ⟨wc.heap.size, 0, none⟩) 1 1) (.slice none 0 0) (.slice none 0 0) (.slice (some ⟨wc.heap.size + 1, 0, none⟩) 1 1) (.slice none 0 0)
    (((wc.alloc (.cells #[.int .u32 x] 24)).alloc (.cells #[.int .i64 0, .int .i64 k, .string xS, .int .i64 0] 30)).alloc (.cells #[.slice (some ⟨wc.heap.size, 0, none⟩) 1 1, .slice none 0 0, .slice none 0 0, .slice (some ⟨wc.heap.size + 1, 0, none⟩) 1 1, .slice none 0 0] 36)) ∧ (((wc.alloc (.cells #[.int .u32 x] 24)).alloc (.cells #[.int .i64 0, .int .i64 k, .string xS, .int .i64 0] 30)).alloc (.cells #[.slice (some ⟨wc.heap.size, 0, none⟩) 1 1, .slice none 0 0, .slice none 0 0, .slice (some ⟨wc.heap.size + 1, 0, none⟩) 1 1, .slice none 0 0] 36)).heap[wc.heap.size + 1]? = some (.cells #[.int .i64 0, .int .i64 k, .string xS, .int .i64 0] 30 (0, 0)) := by
  have e1 := heap_alloc_new wc (.cells #[.int .u32 x] 24)
  have e2 := heap_alloc_new (wc.alloc (.cells #[.int .u32 x] 24)) (.cells #[.int .i64 0, .int .i64 k, .string xS, .int .i64 0] 30)
  have e3 := heap_alloc_new ((wc.alloc (.cells #[.int .u32 x] 24)).alloc (.cells #[.int .i64 0, .int .i64 k, .string xS, .int .i64 0] 30)) (.cells #[.slice (some ⟨wc.heap.size, 0, none⟩) 1 1, .slice none 0 0, .slice none 0 0, .slice (some ⟨wc.heap.size + 1, 0, none⟩) 1 1, .slice none 0 0] 36)
  have s1 : (wc.alloc (.cells #[.int .u32 x] 24)).heap.size = wc.heap.size + 1 := by simp
  have s2 : ((wc.alloc (.cells #[.int .u32 x] 24)).alloc (.cells #[.int .i64 0, .int .i64 k, .string xS, .int .i64 0] 30)).heap.size = wc.heap.size + 2 := by simp
  have f1 := (heap_alloc_old (wc.alloc (.cells #[.int .u32 x] 24)) (.cells #[.int .i64 0, .int .i64 k, .string xS, .int .i64 0] 30) (show wc.heap.size < _ by omega)).trans e1
  have g1 := (heap_alloc_old ((wc.alloc (.cells #[.int .u32 x] 24)).alloc (.cells #[.int .i64 0, .int .i64 k, .string xS, .int .i64 0] 30)) (.cells #[.slice (some ⟨wc.heap.size, 0, none⟩) 1 1, .slice none 0 0, .slice none 0 0, .slice (some ⟨wc.heap.size + 1, 0, none⟩) 1 1, .slice none 0 0] 36) (show wc.heap.size < _ by omega)).trans f1
  rw [s1] at e2
  have g2 := (heap_alloc_old ((wc.alloc (.cells #[.int .u32 x] 24)).alloc (.cells #[.int .i64 0, .int .i64 k, .string xS, .int .i64 0] 30)) (.cells #[.slice (some ⟨wc.heap.size, 0, none⟩) 1 1, .slice none 0 0, .slice none 0 0, .slice (some ⟨wc.heap.size + 1, 0, none⟩) 1 1, .slice none 0 0] 36) (show wc.heap.size + 1 < _ by omega)).trans e2
  rw [s2] at e3
  refine ⟨⟨e3, ⟨_, 1, _, 0, _, 0, _, 1, _, 0, [], rfl, rowC_of_row g1 (Nat.le_refl _) (by omega), .inl rfl, .inl rfl, rowC_of_row g2 (by omega) (by omega), .inl rfl, rfl⟩, by simp, ((Below.refl wc.heap.size wc).alloc (Nat.le_refl _) _ |>.alloc (by simp) _).alloc (by simp; omega) _⟩, g2⟩
theorem obX_twice {wc W w' : World} {x k : Int} {o : Obj} {v' : Value} {h : Nat} {vT v1 v2 vR v4 : Value} (hx : ObX wc h h (dR x k false) vT v1 v2 vR v4 W)
    (hown : w'.ownsRow (W.drew.alloc o).heap.size 30 4 v' 2 ([.int .i64 0, .int .i64 k, .string xS, .int .i64 0] ++ [.int .i64 0, .int .i64 k, .string xS, .int .i64 0])) (hg : (W.drew.alloc o).grownBy w' none) :
    ∃ hi v0 v1 v2 v3 v4, ObX wc h hi (dR x k true) v0 v1 v2 v3 v4 (w'.setCell ⟨h, 3, none⟩ v') := by
  obtain ⟨A, c, rfl⟩ := ownO_slice hown
  obtain ⟨r, ⟨A1, c1, A2, c2, A3, c3, A4, c4, A5, c5, es, hv, p1, p2, p3, p4, p5, p6⟩, _, hb⟩ := hx
  simp only [Value.agg.injEq, Array.mk.injEq, List.cons.injEq, and_true] at hv
  obtain ⟨rfl, rfl, rfl, rfl, rfl⟩ := hv
  have hlt := (Array.getElem?_eq_some_iff.1 r).1
  have hsz : (W.drew.alloc o).heap.size = W.heap.size + 1 := by show (W.alloc o).heap.size = _; simp
  have hbel : Below W.heap.size W w' := ((Below.drew (Below.refl W.heap.size W)).alloc (Nat.le_refl _) o).grown hg (by rw [hsz]; omega) (by simp)
  have hk : ∀ b, wc.heap.size ≤ b → b < h → (w'.setCell ⟨h, 3, none⟩ (.slice A 2 c)).heap[b]? = W.heap[b]? := fun b _ h2 => (setNew_row (by omega)).trans (hbel.block b (by omega))
  have hwc : wc.heap.size ≤ h := by
    rcases p1 with e | ⟨b, _, _, h1, h2, _⟩
    · simp [dR, encU32] at e
    · omega
  refine ⟨w'.heap.size, .slice A1 1 c1, .slice A2 0 c2, .slice A3 0 c3, .slice A 2 c, .slice A5 0 c5, (heap_setCell_same w' h 3 _ _ _ ((hbel.block h hlt).trans r)).trans rfl, ⟨A1, c1, A2, c2, A3, c3, A, c, A5, c5, [], rfl, p1.move (Nat.le_refl _) (Nat.le_trans (Nat.le_of_lt hlt) hbel.size) hk, .inl rfl, .inl rfl, ?_, .inl rfl, rfl⟩, by simp, (hb.trans (hbel.mono hb.size)).setCell (by omega) _⟩
  refine RowC.move (RowC.of_own hown) (by omega) (Nat.le_refl _) (fun b h1 _ => setNew_row (by omega))
set_option maxHeartbeats 4000000 in
theorem walk (a0 a1 : Int) (a2 : Bool) (w : World) (w0 : (Lit.int .u8 a0).wf = true) (w1 : (Lit.int .i64 a1).wf = true) (hT : Tabs w) :
    Calls Tryd.prog 3 #[.int .u8 a0, .int .i64 a1, .bool a2] w fun e w' => e = .returned (.bool true) ∧ Below w.heap.size w w' := by
  obtain ⟨b0, b0'⟩ := bounds_u8 w0
  have hkI : IsI a1 := by have := bounds_i64 w1; exact ⟨this.1, this.2⟩
  obtain ⟨i, hi⟩ : ∃ i : Nat, a0 % 13 = (i : Int) := ⟨(a0 % 13).toNat, by omega⟩
  have hi13 : i < 13 := by omega
  have HT := Lib.hid hT
  have HKI := Lib.hid hkI
  have HA0 := Lib.hid hi
  clear w0 w1 hT hi
  go_enter Tryd.func3, Tryd.ntmps3
  go_wp2_with fail
  refine (awake_any _ HT.out).mono ?_
  rintro e wa ⟨rfl, hba⟩
  have HBa := Lib.hid hba
  clear hba
  go_upto_region 4 with fail
  have hc := tab13 hi13
  have hcell := (cell_of_row _ wa.heap.size i _ _ _ (heap_alloc_new wa (.cells #[Value.int .i64 38, Value.int .i64 16, Value.int .i64 26, Value.int .i64 28, Value.int .i64 29, Value.int .i64 31, Value.int .i64 40, Value.int .i64 32, Value.int .i64 37, Value.int .i64 0, Value.int .i64 41, Value.int .i64 27, Value.int .i64 39] 3))).trans hc
  have HBb := Lib.hid (HBa.out.trans (((Below.refl wa.heap.size wa).alloc (Nat.le_refl _) (.cells #[Value.int .i64 38, Value.int .i64 16, Value.int .i64 26, Value.int .i64 28, Value.int .i64 29, Value.int .i64 31, Value.int .i64 40, Value.int .i64 32, Value.int .i64 37, Value.int .i64 0, Value.int .i64 41, Value.int .i64 27, Value.int .i64 39] 3)).mono HBa.out.size))
  have htm : a0.tmod 13 = a0 % 13 := Int.tmod_eq_emod_of_nonneg b0
  have hi := HA0.out
  clear hc HBa
  generalize (wa.alloc (.cells #[Value.int .i64 38, Value.int .i64 16, Value.int .i64 26, Value.int .i64 28, Value.int .i64 29, Value.int .i64 31, Value.int .i64 40, Value.int .i64 32, Value.int .i64 37, Value.int .i64 0, Value.int .i64 41, Value.int .i64 27, Value.int .i64 39] 3)) = wb at *
  generalize wa.heap.size = hb0 at *
  have i0 : (0 : Int) ≤ i := by omega
  have i13 : (i : Int) < 13 := by omega
  obtain ⟨hn43, hnm⟩ := opN_may hi13
  have HC := Lib.hid (fun w => lenc_any (opN i) w hn43 hnm)
  have HR := Lib.hid (enc_read hn43 hnm)
  have HS := Lib.hid (suit_13 hi13)
  have HI := Lib.hid hi13
  have HN43 := Lib.hid hn43
  clear hnm hn43 hi13
  generalize opN i = n at *
  go_wp2_with fail
  refine (HC.out _).mono ?_
  rintro e wv ⟨rfl, hb⟩
  have HB := Lib.hid (HBb.out.trans (hb.mono HBb.out.size))
  generalize hx : encI n 0 0 0 0 = x at *
  have HX := Lib.hid HR.out.1
  have HOp := Lib.hid HR.out.2.1
  clear hb hcell HBb HC HR hx hi htm
  have HO2 := Lib.hid (obX_made wv x a1)
  have HO := Lib.hid HO2.out.1
  have HRw := Lib.hid HO2.out.2
  clear HO2
  unfold xS at HO HRw
  go_upto_if 32 with fail
  generalize (((wv.alloc (.cells #[.int .u32 x] 24)).alloc (.cells #[.int .i64 0, .int .i64 a1, .string ⟨#[120]⟩, .int .i64 0] 30)).alloc (.cells #[.slice (some ⟨wv.heap.size, 0, none⟩) 1 1, .slice none 0 0, .slice none 0 0, .slice (some ⟨wv.heap.size + 1, 0, none⟩) 1 1, .slice none 0 0] 36)) = W at *
  generalize wv.heap.size + 1 + 1 = h at *
  go_cut [] (fun wx => ∃ hi v0 v1 v2 v3 v4, ObX wv h hi (dR x a1 a2) v0 v1 v2 v3 v4 wx)
  case first =>
    cases a2
    · go_wp2_with fail
      go_meet
      exact ⟨_, _, _, _, _, _, HO.out⟩
    · obtain ⟨⟨x0, x1, x2, x3, x4⟩, xf⟩ := row_cells5 HO.out.1
      have hltR := (Array.getElem?_eq_some_iff.1 HRw.out).1
      have hltO := (Array.getElem?_eq_some_iff.1 HO.out.1).1
      have r0 := cell_of_row W (wv.heap.size + 1) 0 _ _ _ HRw.out
      have r1 := cell_of_row W (wv.heap.size + 1) 1 _ _ _ HRw.out
      have r2 := cell_of_row W (wv.heap.size + 1) 2 _ _ _ HRw.out
      have r3 := cell_of_row W (wv.heap.size + 1) 3 _ _ _ HRw.out
      simp only [List.getElem?_toArray, List.getElem?_cons_zero, List.getElem?_cons_succ] at r0 r1 r2 r3
      have HOld := Lib.hid (fun o j (u : Value) (hj : [Value.int .i64 0, .int .i64 a1, .string ⟨#[120]⟩, .int .i64 0][j]? = some u) => show (W.drew.alloc o).cell? ((⟨wv.heap.size + 1, 0, none⟩ : Addr).add j) = some u from by
        rw [show ((⟨wv.heap.size + 1, 0, none⟩ : Addr).add j) = ⟨wv.heap.size + 1, 0 + j, none⟩ by simp [Addr.add]; omega]
        have h1 := cell_of_row (W.drew.alloc o) (wv.heap.size + 1) (0 + j) _ _ _ ((heap_alloc_old W.drew o hltR).trans HRw.out)
        refine h1.trans ?_
        simpa using hj)
      have HNew := Lib.hid (fun j (u : Value) (hj : [Value.int .i64 0, .int .i64 a1, .string ⟨#[120]⟩, .int .i64 0][j]? = some u) => show (W.drew.alloc (.cells #[.int .i64 0, .int .i64 a1, .string ⟨#[120]⟩, .int .i64 0] 30)).cell? ((⟨W.heap.size, 0, none⟩ : Addr).add j) = some u from by
        rw [show ((⟨W.heap.size, 0, none⟩ : Addr).add j) = ⟨W.heap.size, 0 + j, none⟩ by simp [Addr.add]; omega]
        have h1 := cell_of_row _ W.heap.size (0 + j) _ _ _ (heap_alloc_new W.drew (.cells #[.int .i64 0, .int .i64 a1, .string ⟨#[120]⟩, .int .i64 0] 30))
        refine h1.trans ?_
        simpa using hj)
      have HC3 := Lib.hid (fun (o : Obj) (w' : World) (hg : (W.drew.alloc o).grownBy w' none) => show w'.cell? ⟨h, 3, none⟩ = some (.slice (some ⟨wv.heap.size + 1, 0, none⟩) 1 1) ∧ w'.frozen? ⟨h, 3, none⟩ = false from by
        have hb : w'.heap[h]? = W.heap[h]? := (hg.block h (by show h < (W.alloc o).heap.size; simp; omega) (by simp)).trans (heap_alloc_old W.drew o hltO)
        exact ⟨(World.cell?_of_block hb).trans x3, (World.frozen?_of_block hb).trans (xf 3)⟩)
      obtain ⟨i0', hi0, hz0, hz1, hz2⟩ := info_parts info_rel
      have xf3 := xf 3
      have bb := (Below.refl W.heap.size W).alloc (Nat.le_refl _) (.cells #[.int .i64 0, .int .i64 a1, .string ⟨#[120]⟩, .int .i64 0] 30)
      have x3' := (bb.cell (p := ⟨h, 3, none⟩) hltO).trans x3
      have r0' := (bb.cell (p := ⟨wv.heap.size + 1, 0, none⟩) hltR).trans r0
      have r1' := (bb.cell (p := ⟨wv.heap.size + 1, 1, none⟩) hltR).trans r1
      have r2' := (bb.cell (p := ⟨wv.heap.size + 1, 2, none⟩) hltR).trans r2
      have r3' := (bb.cell (p := ⟨wv.heap.size + 1, 3, none⟩) hltR).trans r3
      clear bb xf x0 x1 x2 x4 hltR hltO
      go_wp2_with fail
      go_region_law (first | (refine step_append_grows rfl _ _ 31 rfl 30 i0' (.agg #[.int .i64 0, .int .i64 0, .string ⟨#[]⟩, .int .i64 0]) 4 40 Tryd.underlying31 hi0 hz0 hz1 hz2 rfl (by decide) (some ⟨wv.heap.size + 1, 0, none⟩) 1 1 [Value.int .i64 0, .int .i64 a1, .string ⟨#[120]⟩, .int .i64 0] ?hs (fun h => nomatch h) rfl (fun b hb => by cases hb; exact HOld.out _) ⟨W.heap.size, 0, none⟩ 1 1 [Value.int .i64 0, .int .i64 a1, .string ⟨#[120]⟩, .int .i64 0] ?hx rfl HNew.out (by simp [Value.oneCell']) (by decide) (by unfold maxLen; decide) (by decide) ?_; (case hs => simp [go_sem]); (case hx => simp [go_sem]); intro v' w' hown hgrow; obtain ⟨A, c, rfl⟩ := ownO_slice hown; obtain ⟨hc3, hf3⟩ := HC3.out _ _ hgrow; have HOw := Lib.hid hown; have HGr := Lib.hid hgrow; clear hown hgrow))
      all_goals
        go_wp2_with fail
        go_meet
        exact obX_twice HO.out HOw.out HGr.out
  case rest =>
  obtain ⟨hi, v0, v1, v2, v3, v4, hob⟩ := hcut
  have HX2 := Lib.hid hob
  have HMy := Lib.hid (dR_may (k := a1) (t := a2) (opOf_of HN43.out HOp.out))
  have HDW := Lib.hid (dR_W a2 HX.out HKI.out)
  clear hob HO HRw
  generalize dR x a1 a2 = D at *
  go_upto_region 9 with fail
  go_cut [11] (fun s11 wx => s11 = .bool (suitB a1 n) ∧ wx = wc)
  case first =>
    obtain ⟨q0, q1, q2, q3⟩ := HS.out
    by_cases k0 : a1 = 0
    · subst k0
      by_cases e : (i : Int) = 0
      · have HF := Lib.hid (q0.trans (decide_eq_true (by omega)))
        clear q0 q1 q2 q3
        go_wp2_with fail
        go_meet
        exact ⟨congrArg Value.bool (by first | exact HF.out.symm | (rw [HF.out]; simp [*])), rfl⟩
      · have HF := Lib.hid (q0.trans (decide_eq_false (by omega)))
        clear q0 q1 q2 q3
        go_wp2_with fail
        go_meet
        exact ⟨congrArg Value.bool (by first | exact HF.out.symm | (rw [HF.out]; simp [*])), rfl⟩
    by_cases k1 : a1 = 1
    · subst k1
      by_cases e : (i : Int) ≥ 1
      · by_cases e2 : (i : Int) ≤ 5
        · have HF := Lib.hid (q1.trans (show _ = true by rw [decide_eq_true (by omega), decide_eq_true (by omega)]; rfl))
          clear q0 q1 q2 q3
          go_wp2_with fail
          go_meet
          exact ⟨congrArg Value.bool (by first | exact HF.out.symm | (rw [HF.out]; simp [*])), rfl⟩
        · have HF := Lib.hid (q1.trans (show _ = false by rw [decide_eq_true (by omega : 1 ≤ i), decide_eq_false (by omega : ¬ i ≤ 5)]; rfl))
          clear q0 q1 q2 q3
          go_wp2_with fail
          go_meet
          exact ⟨congrArg Value.bool (by first | exact HF.out.symm | (rw [HF.out]; simp [*])), rfl⟩
      · have HF := Lib.hid (q1.trans (show _ = false by rw [decide_eq_false (by omega : ¬ 1 ≤ i)]; rfl))
        clear q0 q1 q2 q3
        go_wp2_with fail
        go_meet
        exact ⟨congrArg Value.bool (by first | exact HF.out.symm | (rw [HF.out]; simp [*])), rfl⟩
    by_cases k2 : a1 = 2
    · subst k2
      by_cases e : (i : Int) = 6
      · have HF := Lib.hid (q2.trans (decide_eq_true (by omega)))
        clear q0 q1 q2 q3
        go_wp2_with fail
        go_meet
        exact ⟨congrArg Value.bool (by first | exact HF.out.symm | (rw [HF.out]; simp [*])), rfl⟩
      · have HF := Lib.hid (q2.trans (decide_eq_false (by omega)))
        clear q0 q1 q2 q3
        go_wp2_with fail
        go_meet
        exact ⟨congrArg Value.bool (by first | exact HF.out.symm | (rw [HF.out]; simp [*])), rfl⟩
    by_cases k3 : a1 = 3
    · subst k3
      by_cases e : (i : Int) = 7
      · have HF := Lib.hid (q3.trans (show _ = true by rw [decide_eq_true (by omega : i = 7)]; rfl))
        clear q0 q1 q2 q3
        go_wp2_with fail
        go_meet
        exact ⟨congrArg Value.bool (by first | exact HF.out.symm | (rw [HF.out]; simp [*])), rfl⟩
      · by_cases e2 : (i : Int) = 8
        · have HF := Lib.hid (q3.trans (show _ = true by rw [decide_eq_true (by omega : i = 8)]; simp))
          clear q0 q1 q2 q3
          go_wp2_with fail
          go_meet
          exact ⟨congrArg Value.bool (by first | exact HF.out.symm | (rw [HF.out]; simp [*])), rfl⟩
        · have HF := Lib.hid (q3.trans (show _ = false by rw [decide_eq_false (by omega : ¬ i = 7), decide_eq_false (by omega : ¬ i = 8)]; rfl))
          clear q0 q1 q2 q3
          go_wp2_with fail
          go_meet
          exact ⟨congrArg Value.bool (by first | exact HF.out.symm | (rw [HF.out]; simp [*])), rfl⟩
    have HF := Lib.hid (suit_far n k0 k1 k2 k3)
    clear q0 q1 q2 q3
    go_wp2_with fail
    go_meet
    exact ⟨congrArg Value.bool (by first | exact HF.out.symm | (rw [HF.out]; simp [*])), rfl⟩
  case rest =>
  obtain ⟨rfl, rfl⟩ := hcut
  have HBv := Lib.hid HB.out
  have HP := Lib.hid (fun (w' : World) (hx : ObX wv h hi D v0 v1 v2 v3 v4 w') => may_obj D HDW.out _ wv.heap.size hi w' (HT.out.below (HBv.out.trans (hx.2.2.2.mono HBv.out.size))) hx.2.1 hx.2.2.1)
  have HRp := Lib.hid (fun (w' : World) (hx : ObX wv h hi D v0 v1 v2 v3 v4 w') => rmay_any D HDW.out _ wv.heap.size hi w' hx.2.1 hx.2.2.1)
  have HC := Lib.hid (ObX.below HX2.out (Below.drew (Below.refl _ _)))
  rw [HMy.out] at HP HRp
  generalize suitB a1 n = f at *
  go_wp2_with fail
  refine wp_region_cls (fun w' => ObX wv h hi D v0 v1 v2 v3 v4 w') HC.out (by kernel_rfl) (by kernel_rfl) ?_
  intro T hT0 V hV hE
  have HV := Lib.hid hV
  have HE := Lib.hid hE
  have z0 := fun i => (row_cells5 (hV i).1).1.1
  have z1 := fun i => (row_cells5 (hV i).1).1.2.1
  have z2 := fun i => (row_cells5 (hV i).1).1.2.2.1
  have z3 := fun i => (row_cells5 (hV i).1).1.2.2.2.1
  have z4 := fun i => (row_cells5 (hV i).1).1.2.2.2.2
  have HPm := Lib.hid (fun i => cls_call HV.out HE.out (fun w0 h0 => (HP.out w0 h0).mono (fun e w' h => ⟨h.1, h0.below h.2⟩)) i)
  have HRm := Lib.hid (fun i => cls_call HV.out HE.out (fun w0 h0 => (HRp.out w0 h0).mono (fun e w' h => ⟨h.1, h0.below h.2⟩)) i)
  clear hV hE HP HRp
  cases f <;> cases a2
  all_goals
    simp only [Bool.not_true, Bool.not_false, Bool.and_true, Bool.and_false] at HPm HRm
    repeat (go_big_quiet_step ((first | (go_at_call 10; exact HPm.out _) | (go_at_call 11; exact HRm.out _))))
    refine wpQuiet_nil ?_
    rintro _ ⟨j, rfl⟩
    have HBf := Lib.hid (HBv.out.trans ((HV.out j).2.2.2.mono HBv.out.size))
    clear z0 z1 z2 z3 z4
    go_wp2
    go_ret
    exact ⟨rfl, HBf.out⟩
end Go.Proofs.YtmpieeadkkeniaaDoor.ObjRelsWalk
