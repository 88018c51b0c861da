/- Layer 8: Sizes, Spots and Address. Condition: the tables of package ins read as they should. -/
import Derived.Test.YtjngkifoaljmaaaDoorSynB
import Derived.Test.YtjngkifoaljmaaaDoorSynP
import Derived.Deep.QuietTactic
import Derived.BigQuiet
namespace Go.Proofs.YtjngkifoaljmaaaDoor
set_option maxRecDepth 100000
open Go.RowKit
set_option linter.unusedVariables false
/-- how many words of text, of data, the first k objects have -/
def sumT (l : List ObjD) (k : Nat) : Nat := ((l.take k).map fun d => d.text.length).sum
def sumD (l : List ObjD) (k : Nat) : Nat := ((l.take k).map fun d => d.data.length).sum
theorem sumT_go {l : List ObjD} {k : Nat} (h : k < l.length) : sumT l (k + 1) = sumT l k + l[k].text.length := by
  unfold sumT
  rw [List.take_succ_eq_append_getElem h, List.map_append, List.sum_append]
  simp
theorem sumD_go {l : List ObjD} {k : Nat} (h : k < l.length) : sumD l (k + 1) = sumD l k + l[k].data.length := by
  unfold sumD
  rw [List.take_succ_eq_append_getElem h, List.map_append, List.sum_append]
  simp
theorem sumT_le (l : List ObjD) (k : Nat) : sumT l k ≤ sumT l l.length := by
  unfold sumT
  rw [List.take_length]
  conv => rhs; rw [← List.take_append_drop k l]
  rw [List.map_append, List.sum_append]
  omega
theorem sumD_le (l : List ObjD) (k : Nat) : sumD l k ≤ sumD l l.length := by
  unfold sumD
  rw [List.take_length]
  conv => rhs; rw [← List.take_append_drop k l]
  rw [List.map_append, List.sum_append]
  omega
theorem may_sumTD {l : List ObjD} (h : mayLs l = true) : sumT l l.length ≤ 65536 ∧ sumD l l.length ≤ 16384 := by
  unfold mayLs at h
  simp only [Bool.and_eq_true, decide_eq_true_eq] at h
  have hm : ∀ d ∈ l, d.text.length ≤ 4096 ∧ d.data.length ≤ 1024 := fun d hd => by
    have h1 := List.all_eq_true.1 h.2 d hd
    rw [mayO_eq] at h1
    simp only [Bool.and_eq_true] at h1
    exact ⟨(few_of h1.1.1).1, (few_of h1.1.1).2.1⟩
  have h1 := sum_le (f := fun d => d.text.length) (m := 4096) (fun d hd => (hm d hd).1)
  have h2 := sum_le (f := fun d => d.data.length) (m := 1024) (fun d hd => (hm d hd).2)
  unfold sumT sumD
  rw [List.take_length]
  omega
theorem ObjsAt.td {w : World} {lo hi i : Nat} {l : List ObjD} {A : Option Addr} (h : ObjsAt w lo hi l A) (hi_ : i < l.length) : ∃ b o A1 n1 c1 A2 n2 c2 A3 n3 c3 A4 n4 c4 A5 n5 c5, A = some ⟨b, o, none⟩ ∧ b < hi ∧
    (w.cell? ⟨b, o + i * 5, none⟩ = some (.slice A1 n1 c1) ∧ w.cell? ⟨b, o + i * 5 + 1, none⟩ = some (.slice A2 n2 c2) ∧ w.cell? ⟨b, o + i * 5 + 2, none⟩ = some (.slice A3 n3 c3) ∧ w.cell? ⟨b, o + i * 5 + 3, none⟩ = some (.slice A4 n4 c4) ∧ w.cell? ⟨b, o + i * 5 + 4, none⟩ = some (.slice A5 n5 c5)) ∧ l[i].text.length = n1 ∧ l[i].data.length = n2 ∧ l[i].syms.length = n3 ∧ l[i].rels.length = n4 ∧
    RowC w lo hi A1 (l[i].text.flatMap encU32) ∧ RowC w lo hi A2 (l[i].data.flatMap encU64) := by
  obtain ⟨b, o, A1, n1, c1, A2, n2, c2, A3, n3, c3, A4, n4, c4, A5, n5, c5, e, hb, hc, ho, h3, h4, h5⟩ := h.at_ hi_
  obtain ⟨f1, f2, f3, f4, f5, f6, f7, f8, f9, f10, es, he, r1, r2, -⟩ := ho
  simp only [Value.agg.injEq, Array.mk.injEq, List.cons.injEq, Value.slice.injEq, and_true] at he
  obtain ⟨⟨rfl, e1, -⟩, ⟨rfl, e2, -⟩, -⟩ := he
  exact ⟨b, o, A1, n1, c1, A2, n2, c2, A3, n3, c3, A4, n4, c4, A5, n5, c5, e, hb, hc, e1.symm, e2.symm, h3, h4, r1, r2⟩
set_option maxHeartbeats 2000000 in
theorem psizes_any (l : List ObjD) (A : Option Addr) (n c lo hi : Nat) (hn : l.length = n) (hmx : n ≤ 1000000) (hT : sumT l l.length ≤ 1000000) (hD : sumD l l.length ≤ 1000000) (w : World) (hA : ObjsAt w lo hi l A) (hh : hi ≤ w.heap.size) :
    Calls Tryd.prog 35 #[.slice A n c] w fun e w' => e = .returned (.tuple #[.int .i64 (sumT l n), .int .i64 (sumD l n)]) ∧ Below w.heap.size w w' := by
  have HN := Lib.hid hn
  have HA := Lib.hid hA
  have HH := Lib.hid hh
  have HSt := Lib.hid hT
  have HSd := Lib.hid hD
  clear hn hA hh hT hD
  go_enter Tryd.func35, Tryd.ntmps35
  go_wp2
  go_loopw [10, 4, 5] (fun i x y wr => ∃ k : Nat, k ≤ n ∧ i = .int .i64 k ∧ x = .int .i64 (sumT l k) ∧ y = .int .i64 (sumD l k) ∧ Hid (Below w.heap.size w wr)) (fun i _ _ _ => n - (intOf i).toNat)
  case atStart => exact ⟨0, by omega, rfl, rfl, rfl, Lib.hid (Below.refl _ _)⟩
  case round =>
    obtain ⟨k, hk, rfl, rfl, rfl, HB⟩ := hrel
    by_cases hlt : k < n
    · have k0 : (0 : Int) ≤ k := by omega
      have k1 : (k : Int) < n := by omega
      have HLk := Lib.hid (show k < l.length by rw [HN.out]; exact hlt)
      obtain ⟨b, o, A1, n1, c1, A2, n2, c2, A3, n3, c3, A4, n4, c4, A5, n5, c5, rfl, hb, ⟨x0, x1, x2, x3, x4⟩, h1, h2, -⟩ := (HA.out.below HH.out HB.out).td HLk.out
      have hg1 := sumT_go HLk.out
      have hg2 := sumD_go HLk.out
      rw [h1] at hg1
      rw [h2] at hg2
      have hl1 := sumT_le l (k + 1)
      have hl2 := sumD_le l (k + 1)
      have hs1 := HSt.out
      have hs2 := HSd.out
      have HE := Lib.hid (And.intro hg1 hg2)
      have hb1 : sumT l k + n1 ≤ 1000000 := by omega
      have hb2 : sumD l k + n2 ≤ 1000000 := by omega
      have HBx := Lib.hid (HB.out.trans (((Below.refl wr.heap.size wr).alloc (Nat.le_refl _) (.cells #[.slice A1 n1 c1, .slice A2 n2 c2, .slice A3 n3 c3, .slice A4 n4 c4, .slice A5 n5 c5] 45)).mono HB.out.size))
      clear hg1 hg2 hl1 hl2 hs1 hs2 h1 h2 hb
      generalize sumT l k = a at *
      generalize sumD l k = b at *
      go_wp2
      go_roundw
      case rel => exact ⟨k + 1, by omega, by go_num, by rw [HE.out.1]; go_num, by rw [HE.out.2]; go_num, HBx⟩
      case measure => simp [intOf]; omega
    · have hkn : k = n := by omega
      have k1 : ¬ (k : Int) < n := by omega
      subst hkn
      go_wp2
      go_ret2
      exact ⟨rfl, HB.out⟩
theorem isBase_any (x : Int) (hx : IsU x) (w : World) : Calls Tryd.prog 36 #[.int .u64 x] w fun e w' => e = .returned (.bool (decide (x % 8 = 0) && decide (x ≤ 1073741824))) ∧ w = w' := by
  obtain ⟨h0, h1⟩ := hx
  by_cases h8 : x % 8 = 0
  · have g : (x % 8 == 0) = true := by simpa using h8
    go_enter Tryd.func36, Tryd.ntmps36
    go_wp2
    go_ret
    exact ⟨ret_bool (by simp [h8]), rfl⟩
  · have g : (x % 8 == 0) = false := by simpa using h8
    go_enter Tryd.func36, Tryd.ntmps36
    go_wp2
    go_ret
    exact ⟨ret_bool (by simp [h8]), rfl⟩
theorem pwithin_any (i : Int) (n : Nat) (hi : IsI i) (hn : n ≤ maxLen) (w : World) : Calls Tryd.prog 38 #[.int .i64 i, .int .i64 n] w fun e w' => e = .returned (.bool (decide (0 ≤ i) && decide (i < n))) ∧ w = w' := by
  by_cases h0 : 0 ≤ i
  · have g : i ≥ 0 := h0
    go_enter Tryd.func38, Tryd.ntmps38
    go_wp2
    go_ret
    exact ⟨ret_bool (by simp [h0]), rfl⟩
  · have g : ¬ i ≥ 0 := h0
    have g2 : decide (i ≥ 0) = false := by simpa using h0
    go_enter Tryd.func38, Tryd.ntmps38
    go_wp2
    go_ret
    exact ⟨ret_bool (by simp), rfl⟩
/-- a block of another type stays, where a row of the call's own grows -/
theorem blk_other {w w' : World} {B s n b : Nat} {t1 t2 : TypeId} {v : Value} {xs : List Value} {cs : Array Value} (h : w.ownsRow B t1 s v n xs) (h2 : w.heap[b]? = some (.cells cs t2 (0, 0))) (ht : t1 ≠ t2) (hg : w.grownBy w' v.ownBlock) : w'.heap[b]? = some (.cells cs t2 (0, 0)) :=
  (hg.block _ (Array.getElem?_eq_some_iff.1 h2).1 (fun e => by
    obtain ⟨_, _, c1, a1⟩ := ownO_lt h e.symm
    rw [h2] at a1
    injection a1 with a1
    injection a1 with _ a3 _
    exact ht a3.symm)).trans h2
/-- where object k's text, its data begin -/
def spD (l : List ObjD) (t d : Int) (k : Nat) : Int × Int := (t + 4 * (sumT l k : Int), d + 8 * (sumD l k : Int))
def spL (l : List ObjD) (t d : Int) (k : Nat) : List (Int × Int) := (List.range k).map (spD l t d)
def encSp (x : Int × Int) : List Value := [.int .u64 x.1, .int .u64 x.2]
def SpAt (w : World) (base : Nat) (xs : List (Int × Int)) (v : Value) : Prop := ∃ A c, v = .slice A xs.length c ∧ w.ownsRow base 56 2 v xs.length (xs.flatMap encSp)
theorem spL_go (l : List ObjD) (t d : Int) (k : Nat) : spL l t d (k + 1) = spL l t d k ++ [spD l t d k] := by
  unfold spL
  rw [List.range_succ, List.map_append, List.map_singleton]
theorem spL_len (l : List ObjD) (t d : Int) (k : Nat) : (spL l t d k).length = k := by simp [spL]
theorem spL_at (l : List ObjD) (t d : Int) {k n : Nat} (h : k < n) : (spL l t d n)[k]? = some (spD l t d k) := by
  unfold spL
  rw [List.getElem?_map, List.getElem?_range h]; rfl
theorem info_spot : (Tryd.prog.info? 56).map (fun i => (i.zero, i.size, i.bytes)) = some (some (.agg #[.int .u64 0, .int .u64 0]), 2, 16) := by kernel_rfl
theorem one_sp (x : Int × Int) : ∀ u ∈ encSp x, u.oneCell' = true := fun u hu => by
  unfold encSp at hu
  simp only [List.mem_cons, List.not_mem_nil, or_false] at hu
  rcases hu with rfl | rfl <;> rfl
set_option maxHeartbeats 4000000 in
theorem lay_any (l : List ObjD) (A : Option Addr) (n c lo hi : Nat) (hn : l.length = n) (hmx : n ≤ 16) (hT : sumT l l.length ≤ 65536) (hD : sumD l l.length ≤ 65536) (t d : Int) (ht0 : 0 ≤ t) (ht1 : t ≤ 1073741824) (hd0 : 0 ≤ d) (hd1 : d ≤ 1073741824) (w : World) (hA : ObjsAt w lo hi l A) (hh : hi ≤ w.heap.size) :
    Calls Tryd.prog 37 #[.slice A n c, .int .u64 t, .int .u64 d] w fun e w' => ∃ v, e = .returned v ∧ SpAt w' w.heap.size (spL l t d n) v ∧ Below w.heap.size w w' := by
  have HN := Lib.hid hn
  have HA := Lib.hid hA
  have HH := Lib.hid hh
  have HSt := Lib.hid hT
  have HSd := Lib.hid hD
  obtain ⟨i0, hi0, hz0, hz1, hz2⟩ := info_parts info_spot
  clear hn hA hh hT hD
  go_enter Tryd.func37, Tryd.ntmps37
  go_wp2
  have HX0 := Lib.hid (show (w.alloc (.cells #[.int .u64 t, .int .u64 d] 56)).heap[w.heap.size]? = some (.cells #[.int .u64 (spD l t d 0).1, .int .u64 (spD l t d 0).2] 56 (0, 0)) from by
    have e : spD l t d 0 = (t, d) := by unfold spD sumT sumD; simp
    rw [e]; exact heap_alloc_new w _)
  have HB0 := Lib.hid ((Below.refl w.heap.size w).alloc (Nat.le_refl _) (.cells #[.int .u64 t, .int .u64 d] 56))
  have HZ0 := Lib.hid (show w.heap.size + 1 ≤ (w.alloc (.cells #[.int .u64 t, .int .u64 d] 56)).heap.size from (Array.getElem?_eq_some_iff.1 HX0.out).1)
  go_loopw [16, 7] (fun i v wr => ∃ k : Nat, k ≤ n ∧ i = .int .i64 k ∧ Hid (SpAt wr (w.heap.size + 1) (spL l t d k) v) ∧ Hid (Below w.heap.size w wr) ∧ Hid (wr.heap[w.heap.size]? = some (.cells #[.int .u64 (spD l t d k).1, .int .u64 (spD l t d k).2] 56 (0, 0))) ∧ Hid (w.heap.size + 1 ≤ wr.heap.size)) (fun i _ _ => n - (intOf i).toNat)
  case atStart => exact ⟨0, by omega, rfl, Lib.hid ⟨none, 0, rfl, World.ownsRow_nil _ _ _ _⟩, HB0, HX0, HZ0⟩
  case round =>
    clear HX0 HB0 HZ0
    obtain ⟨k, hk, rfl, HS, HB, HX, HZ⟩ := hrel
    by_cases hlt : k < n
    · have k0 : (0 : Int) ≤ k := by omega
      have k1 : (k : Int) < n := by omega
      have HLk := Lib.hid (show k < l.length by rw [HN.out]; exact hlt)
      obtain ⟨b, o, A1, n1, c1, A2, n2, c2, A3, n3, c3, A4, n4, c4, A5, n5, c5, rfl, hb, ⟨x0, x1, x2, x3, x4⟩, h1, h2, -⟩ := (HA.out.below HH.out HB.out).td HLk.out
      have hg1 := sumT_go HLk.out
      have hg2 := sumD_go HLk.out
      rw [h1] at hg1
      rw [h2] at hg2
      have hl1 := sumT_le l (k + 1)
      have hl2 := sumD_le l (k + 1)
      have hs1 := HSt.out
      have hs2 := HSd.out
      obtain ⟨p, hp⟩ : ∃ p, (spD l t d k).1 = p := ⟨_, rfl⟩
      obtain ⟨q, hq⟩ : ∃ q, (spD l t d k).2 = q := ⟨_, rfl⟩
      have hpb : 0 ≤ p ∧ p + 4 * (n1 : Int) ≤ 1100000000000 := by
        have : p = t + 4 * (sumT l k : Int) := by rw [← hp]; rfl
        omega
      have hqb : 0 ≤ q ∧ q + 8 * (n2 : Int) ≤ 1100000000000 := by
        have : q = d + 8 * (sumD l k : Int) := by rw [← hq]; rfl
        omega
      have HE := Lib.hid (show (spD l t d (k + 1)).1 = p + 4 * (n1 : Int) ∧ (spD l t d (k + 1)).2 = q + 8 * (n2 : Int) from by
        rw [← hp, ← hq]
        unfold spD
        rw [hg1, hg2]
        simp only
        omega)
      have HG := Lib.hid (show spL l t d (k + 1) = spL l t d k ++ [(p, q)] from by rw [spL_go, ← hp, ← hq])
      rw [hp, hq] at HX
      have hn1b : (n1 : Int) ≤ 65536 := by omega
      have hn2b : (n2 : Int) ≤ 65536 := by omega
      obtain ⟨hp0, hp1⟩ := hpb
      obtain ⟨hq0, hq1⟩ := hqb
      have b1 := (Below.refl wr.heap.size wr).alloc (Nat.le_refl _) (.cells #[.slice A1 n1 c1, .slice A2 n2 c2, .slice A3 n3 c3, .slice A4 n4 c4, .slice A5 n5 c5] 45)
      have HB1 := Lib.hid (HB.out.trans (b1.mono HB.out.size))
      have HX1 := Lib.hid ((b1.block _ (Array.getElem?_eq_some_iff.1 HX.out).1).trans HX.out)
      have HO1 := Lib.hid (heap_alloc_new wr (.cells #[.slice A1 n1 c1, .slice A2 n2 c2, .slice A3 n3 c3, .slice A4 n4 c4, .slice A5 n5 c5] 45))
      have HZ1 := Lib.hid (Nat.le_trans HZ.out b1.size)
      obtain ⟨As, cs, rfl, hown⟩ := HS.out
      rw [spL_len] at hown
      have HW1 := Lib.hid (rowO_below hown b1)
      rw [spL_len]
      have HKo := Lib.hid HZ.out
      clear hg1 hg2 hl1 hl2 hs1 hs2 h1 h2 hb hp hq b1 hown HS HX HB HZ
      go_upto_region 6 with fail
      clear x0 x1 x2 x3 x4
      generalize (wr.alloc (.cells #[.slice A1 n1 c1, .slice A2 n2 c2, .slice A3 n3 c3, .slice A4 n4 c4, .slice A5 n5 c5] 45)) = W at *
      generalize wr.heap.size = ko at *
      obtain ⟨y0, y1, yf⟩ := row2 HX1.out
      have b2 := (Below.refl W.heap.size W).alloc (Nat.le_refl _) (.cells #[.int .u64 p, .int .u64 q] 56)
      have HWa := Lib.hid (rowO_below HW1.out b2)
      have HNa := Lib.hid (news_at (w := W) (w2 := W.alloc (.cells #[.int .u64 p, .int .u64 q] 56)) (cs := encSp (p, q)) (ty := 56) rfl)
      have H1s := Lib.hid (one_sp (p, q))
      have HMl := Lib.hid (show k + 1 ≤ maxLen by unfold maxLen; omega)
      have HBy := Lib.hid (show (k + 1) * 16 ≤ 140737488355328 by omega)
      have HRz := Lib.hid (show w.heap.size + 1 ≤ (W.alloc (.cells #[.int .u64 p, .int .u64 q] 56)).heap.size from Nat.le_trans HZ1.out b2.size)
      have HB2 := Lib.hid (HB1.out.trans (b2.mono HB1.out.size))
      have HX2 := Lib.hid ((b2.block _ (Array.getElem?_eq_some_iff.1 HX1.out).1).trans HX1.out)
      have HO2 := Lib.hid ((b2.block _ (Array.getElem?_eq_some_iff.1 HO1.out).1).trans HO1.out)
      clear b2
      go_wp2_with (at_builtin; (refine wpList_append_at6 rfl _ _ 57 rfl (w.heap.size + 1) 56 i0 (.agg #[.int .u64 0, .int .u64 0]) 2 16 Tryd.underlying57 hi0 hz0 hz1 hz2 rfl (by decide) (.slice As k cs) k ((spL l t d k).flatMap encSp) ?hs HWa.out ⟨W.heap.size, 0, none⟩ 1 1 (encSp (p, q)) ?hx rfl HNa.out H1s.out HMl.out HBy.out HRz.out ?_; (case hs => rfl); (case hx => rfl); intro v' w7 hr hg hv'; obtain ⟨A3', e3', rfl⟩ := ownO_slice hr; have hgb := own_ge HWa.out; have HX7 := Lib.hid ((hg.block _ (Array.getElem?_eq_some_iff.1 HX2.out).1 (fun e => by have := hgb _ e.symm; omega)).trans HX2.out); obtain ⟨z0, z1, zf⟩ := row2 HX7.out; have HO7 := Lib.hid (blk_other HWa.out HO2.out (by decide) hg); obtain ⟨r0, r1, r2, r3, r4, rf⟩ := row5 HO7.out))
      have HS8 := Lib.hid (show SpAt ((w7.setCell ⟨w.heap.size, 0, none⟩ (.int .u64 (p + 4 * (n1 : Int)))).setCell ⟨w.heap.size, 1, none⟩ (.int .u64 (q + 8 * (n2 : Int)))) (w.heap.size + 1) (spL l t d (k + 1)) (.slice A3' (k + 1) e3') from ⟨A3', e3', by rw [spL_len], by
        rw [spL_len, HG.out, List.flatMap_append, List.flatMap_cons, List.flatMap_nil, List.append_nil]
        exact own_set7 (own_set7 hr (by omega)) (by omega)⟩)
      have HB8 := Lib.hid (below_setNew (b := w.heap.size) (o := 1) (v := .int .u64 (q + 8 * (n2 : Int))) (below_setNew (b := w.heap.size) (o := 0) (v := .int .u64 (p + 4 * (n1 : Int))) (HB2.out.grown hg HB2.out.size (fun g e => by have := own_ge HWa.out g e; omega)) (Nat.le_refl _)) (Nat.le_refl _))
      have HX8 := Lib.hid (heap_setCell_same _ w.heap.size 1 _ _ (.int .u64 (q + 8 * (n2 : Int))) (heap_setCell_same w7 w.heap.size 0 _ _ (.int .u64 (p + 4 * (n1 : Int))) HX7.out))
      have HZ8 := Lib.hid (show w.heap.size + 1 ≤ ((w7.setCell ⟨w.heap.size, 0, none⟩ (.int .u64 (p + 4 * (n1 : Int)))).setCell ⟨w.heap.size, 1, none⟩ (.int .u64 (q + 8 * (n2 : Int)))).heap.size from by
        rw [size_set7, size_set7]; exact Nat.le_trans HRz.out hg.size)
      clear hr hg hv'
      go_wp2
      go_roundw
      case rel => exact ⟨k + 1, by omega, by go_num, HS8, HB8, by rw [HE.out.1, HE.out.2]; exact HX8, HZ8⟩
      case measure => simp [intOf]; omega
    · have hkn : k = n := by omega
      have k1 : ¬ (k : Int) < n := by omega
      subst hkn
      have HR := Lib.hid (show SpAt wr w.heap.size (spL l t d k) u7 from by obtain ⟨A1, c1, e1, h1⟩ := HS.out; exact ⟨A1, c1, e1, kn_base h1 (by omega)⟩)
      go_wp2
      go_ret
      exact ⟨_, rfl, HR.out, HB.out⟩
end Go.Proofs.YtjngkifoaljmaaaDoor
