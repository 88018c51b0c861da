/- Layer 8: Sizes, Spots and Address. Condition: the tables of package ins read as they should.
   Layer 8: number, done: a word of which a relocation is done. Condition: the tables of package ins read as they should.
   Layer 8: Spots, Address, suits. Condition: the tables of package ins read as they should.
   Layer 8: Address, target. Condition: the tables of package ins read as they should.
   Layer 8: target, suits, fitting, Relocate. Condition: the tables of package ins read as they should. -/
import Derived.Test.YtjngkifoaljmaaaDoorSynB
import Derived.Test.YtjngkifoaljmaaaDoorSynP
import Derived.Deep.QuietTactic
import Derived.BigQuiet
namespace Go.Proofs.YtjngkifoaljmaaaDoor
set_option maxRecDepth 100000
open Go.RowKit
set_option linter.unusedVariables false
/-- how many words of text, of data, the first k objects have -/
def sumT (l : List ObjD) (k : Nat) : Nat := ((l.take k).map fun d => d.text.length).sum
def sumD (l : List ObjD) (k : Nat) : Nat := ((l.take k).map fun d => d.data.length).sum
theorem sumT_go {l : List ObjD} {k : Nat} (h : k < l.length) : sumT l (k + 1) = sumT l k + l[k].text.length := by
  unfold sumT
  rw [List.take_succ_eq_append_getElem h, List.map_append, List.sum_append]
  simp
theorem sumD_go {l : List ObjD} {k : Nat} (h : k < l.length) : sumD l (k + 1) = sumD l k + l[k].data.length := by
  unfold sumD
  rw [List.take_succ_eq_append_getElem h, List.map_append, List.sum_append]
  simp
theorem sumT_le (l : List ObjD) (k : Nat) : sumT l k ≤ sumT l l.length := by
  unfold sumT
  rw [List.take_length]
  conv => rhs; rw [← List.take_append_drop k l]
  rw [List.map_append, List.sum_append]
  omega
theorem sumD_le (l : List ObjD) (k : Nat) : sumD l k ≤ sumD l l.length := by
  unfold sumD
  rw [List.take_length]
  conv => rhs; rw [← List.take_append_drop k l]
  rw [List.map_append, List.sum_append]
  omega
theorem may_sumTD {l : List ObjD} (h : mayLs l = true) : sumT l l.length ≤ 65536 ∧ sumD l l.length ≤ 16384 := by
  unfold mayLs at h
  simp only [Bool.and_eq_true, decide_eq_true_eq] at h
  have hm : ∀ d ∈ l, d.text.length ≤ 4096 ∧ d.data.length ≤ 1024 := fun d hd => by
    have h1 := List.all_eq_true.1 h.2 d hd
    rw [mayO_eq] at h1
    simp only [Bool.and_eq_true] at h1
    exact ⟨(few_of h1.1.1).1, (few_of h1.1.1).2.1⟩
  have h1 := sum_le (f := fun d => d.text.length) (m := 4096) (fun d hd => (hm d hd).1)
  have h2 := sum_le (f := fun d => d.data.length) (m := 1024) (fun d hd => (hm d hd).2)
  unfold sumT sumD
  rw [List.take_length]
  omega
theorem ObjsAt.td {w : World} {lo hi i : Nat} {l : List ObjD} {A : Option Addr} (h : ObjsAt w lo hi l A) (hi_ : i < l.length) : ∃ b o A1 n1 c1 A2 n2 c2 A3 n3 c3 A4 n4 c4 A5 n5 c5, A = some ⟨b, o, none⟩ ∧ b < hi ∧
    (w.cell? ⟨b, o + i * 5, none⟩ = some (.slice A1 n1 c1) ∧ w.cell? ⟨b, o + i * 5 + 1, none⟩ = some (.slice A2 n2 c2) ∧ w.cell? ⟨b, o + i * 5 + 2, none⟩ = some (.slice A3 n3 c3) ∧ w.cell? ⟨b, o + i * 5 + 3, none⟩ = some (.slice A4 n4 c4) ∧ w.cell? ⟨b, o + i * 5 + 4, none⟩ = some (.slice A5 n5 c5)) ∧ l[i].text.length = n1 ∧ l[i].data.length = n2 ∧ l[i].syms.length = n3 ∧ l[i].rels.length = n4 ∧
    RowC w lo hi A1 (l[i].text.flatMap encU32) ∧ RowC w lo hi A2 (l[i].data.flatMap encU64) := by
  obtain ⟨b, o, A1, n1, c1, A2, n2, c2, A3, n3, c3, A4, n4, c4, A5, n5, c5, e, hb, hc, ho, h3, h4, h5⟩ := h.at_ hi_
  obtain ⟨f1, f2, f3, f4, f5, f6, f7, f8, f9, f10, es, he, r1, r2, -⟩ := ho
  simp only [Value.agg.injEq, Array.mk.injEq, List.cons.injEq, Value.slice.injEq, and_true] at he
  obtain ⟨⟨rfl, e1, -⟩, ⟨rfl, e2, -⟩, -⟩ := he
  exact ⟨b, o, A1, n1, c1, A2, n2, c2, A3, n3, c3, A4, n4, c4, A5, n5, c5, e, hb, hc, e1.symm, e2.symm, h3, h4, r1, r2⟩
set_option maxHeartbeats 2000000 in
theorem psizes_any (l : List ObjD) (A : Option Addr) (n c lo hi : Nat) (hn : l.length = n) (hmx : n ≤ 1000000) (hT : sumT l l.length ≤ 1000000) (hD : sumD l l.length ≤ 1000000) (w : World) (hA : ObjsAt w lo hi l A) (hh : hi ≤ w.heap.size) :
    Calls Tryd.prog 35 #[.slice A n c] w fun e w' => e = .returned (.tuple #[.int .i64 (sumT l n), .int .i64 (sumD l n)]) ∧ Below w.heap.size w w' := by
  have HN := Lib.hid hn
  have HA := Lib.hid hA
  have HH := Lib.hid hh
  have HSt := Lib.hid hT
  have HSd := Lib.hid hD
  clear hn hA hh hT hD
  go_enter Tryd.func35, Tryd.ntmps35
  go_wp2
  go_loopw [10, 4, 5] (fun i x y wr => ∃ k : Nat, k ≤ n ∧ i = .int .i64 k ∧ x = .int .i64 (sumT l k) ∧ y = .int .i64 (sumD l k) ∧ Hid (Below w.heap.size w wr)) (fun i _ _ _ => n - (intOf i).toNat)
  case atStart => exact ⟨0, by omega, rfl, rfl, rfl, Lib.hid (Below.refl _ _)⟩
  case round =>
    obtain ⟨k, hk, rfl, rfl, rfl, HB⟩ := hrel
    by_cases hlt : k < n
    · have k0 : (0 : Int) ≤ k := by omega
      have k1 : (k : Int) < n := by omega
      have HLk := Lib.hid (show k < l.length by rw [HN.out]; exact hlt)
      obtain ⟨b, o, A1, n1, c1, A2, n2, c2, A3, n3, c3, A4, n4, c4, A5, n5, c5, rfl, hb, ⟨x0, x1, x2, x3, x4⟩, h1, h2, -⟩ := (HA.out.below HH.out HB.out).td HLk.out
      have hg1 := sumT_go HLk.out
      have hg2 := sumD_go HLk.out
      rw [h1] at hg1
      rw [h2] at hg2
      have hl1 := sumT_le l (k + 1)
      have hl2 := sumD_le l (k + 1)
      have hs1 := HSt.out
      have hs2 := HSd.out
      have HE := Lib.hid (And.intro hg1 hg2)
      have hb1 : sumT l k + n1 ≤ 1000000 := by omega
      have hb2 : sumD l k + n2 ≤ 1000000 := by omega
      have HBx := Lib.hid (HB.out.trans (((Below.refl wr.heap.size wr).alloc (Nat.le_refl _) (.cells #[.slice A1 n1 c1, .slice A2 n2 c2, .slice A3 n3 c3, .slice A4 n4 c4, .slice A5 n5 c5] 45)).mono HB.out.size))
      clear hg1 hg2 hl1 hl2 hs1 hs2 h1 h2 hb
      generalize sumT l k = a at *
      generalize sumD l k = b at *
      go_wp2
      go_roundw
      case rel => exact ⟨k + 1, by omega, by go_num, by rw [HE.out.1]; go_num, by rw [HE.out.2]; go_num, HBx⟩
      case measure => simp [intOf]; omega
    · have hkn : k = n := by omega
      have k1 : ¬ (k : Int) < n := by omega
      subst hkn
      go_wp2
      go_ret2
      exact ⟨rfl, HB.out⟩
theorem isBase_any (x : Int) (hx : IsU x) (w : World) : Calls Tryd.prog 36 #[.int .u64 x] w fun e w' => e = .returned (.bool (decide (x % 8 = 0) && decide (x ≤ 1073741824))) ∧ w = w' := by
  obtain ⟨h0, h1⟩ := hx
  by_cases h8 : x % 8 = 0
  · have g : (x % 8 == 0) = true := by simpa using h8
    go_enter Tryd.func36, Tryd.ntmps36
    go_wp2
    go_ret
    exact ⟨ret_bool (by simp [h8]), rfl⟩
  · have g : (x % 8 == 0) = false := by simpa using h8
    go_enter Tryd.func36, Tryd.ntmps36
    go_wp2
    go_ret
    exact ⟨ret_bool (by simp [h8]), rfl⟩
theorem pwithin_any (i : Int) (n : Nat) (hi : IsI i) (hn : n ≤ maxLen) (w : World) : Calls Tryd.prog 38 #[.int .i64 i, .int .i64 n] w fun e w' => e = .returned (.bool (decide (0 ≤ i) && decide (i < n))) ∧ w = w' := by
  by_cases h0 : 0 ≤ i
  · have g : i ≥ 0 := h0
    go_enter Tryd.func38, Tryd.ntmps38
    go_wp2
    go_ret
    exact ⟨ret_bool (by simp [h0]), rfl⟩
  · have g : ¬ i ≥ 0 := h0
    have g2 : decide (i ≥ 0) = false := by simpa using h0
    go_enter Tryd.func38, Tryd.ntmps38
    go_wp2
    go_ret
    exact ⟨ret_bool (by simp), rfl⟩
/-- a block of another type stays, where a row of the call's own grows -/
theorem blk_other {w w' : World} {B s n b : Nat} {t1 t2 : TypeId} {v : Value} {xs : List Value} {cs : Array Value} (h : w.ownsRow B t1 s v n xs) (h2 : w.heap[b]? = some (.cells cs t2 (0, 0))) (ht : t1 ≠ t2) (hg : w.grownBy w' v.ownBlock) : w'.heap[b]? = some (.cells cs t2 (0, 0)) :=
  (hg.block _ (Array.getElem?_eq_some_iff.1 h2).1 (fun e => by
    obtain ⟨_, _, c1, a1⟩ := ownO_lt h e.symm
    rw [h2] at a1
    injection a1 with a1
    injection a1 with _ a3 _
    exact ht a3.symm)).trans h2
/-- where object k's text, its data begin -/
def spD (l : List ObjD) (t d : Int) (k : Nat) : Int × Int := (t + 4 * (sumT l k : Int), d + 8 * (sumD l k : Int))
def spL (l : List ObjD) (t d : Int) (k : Nat) : List (Int × Int) := (List.range k).map (spD l t d)
def encSp (x : Int × Int) : List Value := [.int .u64 x.1, .int .u64 x.2]
def SpAt (w : World) (base : Nat) (xs : List (Int × Int)) (v : Value) : Prop := ∃ A c, v = .slice A xs.length c ∧ w.ownsRow base 56 2 v xs.length (xs.flatMap encSp)
theorem spL_go (l : List ObjD) (t d : Int) (k : Nat) : spL l t d (k + 1) = spL l t d k ++ [spD l t d k] := by
  unfold spL
  rw [List.range_succ, List.map_append, List.map_singleton]
theorem spL_len (l : List ObjD) (t d : Int) (k : Nat) : (spL l t d k).length = k := by simp [spL]
theorem spL_at (l : List ObjD) (t d : Int) {k n : Nat} (h : k < n) : (spL l t d n)[k]? = some (spD l t d k) := by
  unfold spL
  rw [List.getElem?_map, List.getElem?_range h]; rfl
theorem info_spot : (Tryd.prog.info? 56).map (fun i => (i.zero, i.size, i.bytes)) = some (some (.agg #[.int .u64 0, .int .u64 0]), 2, 16) := by kernel_rfl
theorem one_sp (x : Int × Int) : ∀ u ∈ encSp x, u.oneCell' = true := fun u hu => by
  unfold encSp at hu
  simp only [List.mem_cons, List.not_mem_nil, or_false] at hu
  rcases hu with rfl | rfl <;> rfl
set_option maxHeartbeats 4000000 in
theorem lay_any (l : List ObjD) (A : Option Addr) (n c lo hi : Nat) (hn : l.length = n) (hmx : n ≤ 16) (hT : sumT l l.length ≤ 65536) (hD : sumD l l.length ≤ 65536) (t d : Int) (ht0 : 0 ≤ t) (ht1 : t ≤ 1073741824) (hd0 : 0 ≤ d) (hd1 : d ≤ 1073741824) (w : World) (hA : ObjsAt w lo hi l A) (hh : hi ≤ w.heap.size) :
    Calls Tryd.prog 37 #[.slice A n c, .int .u64 t, .int .u64 d] w fun e w' => ∃ v, e = .returned v ∧ SpAt w' w.heap.size (spL l t d n) v ∧ Below w.heap.size w w' := by
  have HN := Lib.hid hn
  have HA := Lib.hid hA
  have HH := Lib.hid hh
  have HSt := Lib.hid hT
  have HSd := Lib.hid hD
  obtain ⟨i0, hi0, hz0, hz1, hz2⟩ := info_parts info_spot
  clear hn hA hh hT hD
  go_enter Tryd.func37, Tryd.ntmps37
  go_wp2
  have HX0 := Lib.hid (show (w.alloc (.cells #[.int .u64 t, .int .u64 d] 56)).heap[w.heap.size]? = some (.cells #[.int .u64 (spD l t d 0).1, .int .u64 (spD l t d 0).2] 56 (0, 0)) from by
    have e : spD l t d 0 = (t, d) := by unfold spD sumT sumD; simp
    rw [e]; exact heap_alloc_new w _)
  have HB0 := Lib.hid ((Below.refl w.heap.size w).alloc (Nat.le_refl _) (.cells #[.int .u64 t, .int .u64 d] 56))
  have HZ0 := Lib.hid (show w.heap.size + 1 ≤ (w.alloc (.cells #[.int .u64 t, .int .u64 d] 56)).heap.size from (Array.getElem?_eq_some_iff.1 HX0.out).1)
  go_loopw [16, 7] (fun i v wr => ∃ k : Nat, k ≤ n ∧ i = .int .i64 k ∧ Hid (SpAt wr (w.heap.size + 1) (spL l t d k) v) ∧ Hid (Below w.heap.size w wr) ∧ Hid (wr.heap[w.heap.size]? = some (.cells #[.int .u64 (spD l t d k).1, .int .u64 (spD l t d k).2] 56 (0, 0))) ∧ Hid (w.heap.size + 1 ≤ wr.heap.size)) (fun i _ _ => n - (intOf i).toNat)
  case atStart => exact ⟨0, by omega, rfl, Lib.hid ⟨none, 0, rfl, World.ownsRow_nil _ _ _ _⟩, HB0, HX0, HZ0⟩
  case round =>
    clear HX0 HB0 HZ0
    obtain ⟨k, hk, rfl, HS, HB, HX, HZ⟩ := hrel
    by_cases hlt : k < n
    · have k0 : (0 : Int) ≤ k := by omega
      have k1 : (k : Int) < n := by omega
      have HLk := Lib.hid (show k < l.length by rw [HN.out]; exact hlt)
      obtain ⟨b, o, A1, n1, c1, A2, n2, c2, A3, n3, c3, A4, n4, c4, A5, n5, c5, rfl, hb, ⟨x0, x1, x2, x3, x4⟩, h1, h2, -⟩ := (HA.out.below HH.out HB.out).td HLk.out
      have hg1 := sumT_go HLk.out
      have hg2 := sumD_go HLk.out
      rw [h1] at hg1
      rw [h2] at hg2
      have hl1 := sumT_le l (k + 1)
      have hl2 := sumD_le l (k + 1)
      have hs1 := HSt.out
      have hs2 := HSd.out
      obtain ⟨p, hp⟩ : ∃ p, (spD l t d k).1 = p := ⟨_, rfl⟩
      obtain ⟨q, hq⟩ : ∃ q, (spD l t d k).2 = q := ⟨_, rfl⟩
      have hpb : 0 ≤ p ∧ p + 4 * (n1 : Int) ≤ 1100000000000 := by
        have : p = t + 4 * (sumT l k : Int) := by rw [← hp]; rfl
        omega
      have hqb : 0 ≤ q ∧ q + 8 * (n2 : Int) ≤ 1100000000000 := by
        have : q = d + 8 * (sumD l k : Int) := by rw [← hq]; rfl
        omega
      have HE := Lib.hid (show (spD l t d (k + 1)).1 = p + 4 * (n1 : Int) ∧ (spD l t d (k + 1)).2 = q + 8 * (n2 : Int) from by
        rw [← hp, ← hq]
        unfold spD
        rw [hg1, hg2]
        simp only
        omega)
      have HG := Lib.hid (show spL l t d (k + 1) = spL l t d k ++ [(p, q)] from by rw [spL_go, ← hp, ← hq])
      rw [hp, hq] at HX
      have hn1b : (n1 : Int) ≤ 65536 := by omega
      have hn2b : (n2 : Int) ≤ 65536 := by omega
      obtain ⟨hp0, hp1⟩ := hpb
      obtain ⟨hq0, hq1⟩ := hqb
      have b1 := (Below.refl wr.heap.size wr).alloc (Nat.le_refl _) (.cells #[.slice A1 n1 c1, .slice A2 n2 c2, .slice A3 n3 c3, .slice A4 n4 c4, .slice A5 n5 c5] 45)
      have HB1 := Lib.hid (HB.out.trans (b1.mono HB.out.size))
      have HX1 := Lib.hid ((b1.block _ (Array.getElem?_eq_some_iff.1 HX.out).1).trans HX.out)
      have HO1 := Lib.hid (heap_alloc_new wr (.cells #[.slice A1 n1 c1, .slice A2 n2 c2, .slice A3 n3 c3, .slice A4 n4 c4, .slice A5 n5 c5] 45))
      have HZ1 := Lib.hid (Nat.le_trans HZ.out b1.size)
      obtain ⟨As, cs, rfl, hown⟩ := HS.out
      rw [spL_len] at hown
      have HW1 := Lib.hid (rowO_below hown b1)
      rw [spL_len]
      have HKo := Lib.hid HZ.out
      clear hg1 hg2 hl1 hl2 hs1 hs2 h1 h2 hb hp hq b1 hown HS HX HB HZ
      go_upto_region 6 with fail
      clear x0 x1 x2 x3 x4
      generalize (wr.alloc (.cells #[.slice A1 n1 c1, .slice A2 n2 c2, .slice A3 n3 c3, .slice A4 n4 c4, .slice A5 n5 c5] 45)) = W at *
      generalize wr.heap.size = ko at *
      obtain ⟨y0, y1, yf⟩ := row2 HX1.out
      have b2 := (Below.refl W.heap.size W).alloc (Nat.le_refl _) (.cells #[.int .u64 p, .int .u64 q] 56)
      have HWa := Lib.hid (rowO_below HW1.out b2)
      have HNa := Lib.hid (news_at (w := W) (w2 := W.alloc (.cells #[.int .u64 p, .int .u64 q] 56)) (cs := encSp (p, q)) (ty := 56) rfl)
      have H1s := Lib.hid (one_sp (p, q))
      have HMl := Lib.hid (show k + 1 ≤ maxLen by unfold maxLen; omega)
      have HBy := Lib.hid (show (k + 1) * 16 ≤ 140737488355328 by omega)
      have HRz := Lib.hid (show w.heap.size + 1 ≤ (W.alloc (.cells #[.int .u64 p, .int .u64 q] 56)).heap.size from Nat.le_trans HZ1.out b2.size)
      have HB2 := Lib.hid (HB1.out.trans (b2.mono HB1.out.size))
      have HX2 := Lib.hid ((b2.block _ (Array.getElem?_eq_some_iff.1 HX1.out).1).trans HX1.out)
      have HO2 := Lib.hid ((b2.block _ (Array.getElem?_eq_some_iff.1 HO1.out).1).trans HO1.out)
      clear b2
      go_wp2_with (at_builtin; (refine wpList_append_at6 rfl _ _ 57 rfl (w.heap.size + 1) 56 i0 (.agg #[.int .u64 0, .int .u64 0]) 2 16 Tryd.underlying57 hi0 hz0 hz1 hz2 rfl (by decide) (.slice As k cs) k ((spL l t d k).flatMap encSp) ?hs HWa.out ⟨W.heap.size, 0, none⟩ 1 1 (encSp (p, q)) ?hx rfl HNa.out H1s.out HMl.out HBy.out HRz.out ?_; (case hs => rfl); (case hx => rfl); intro v' w7 hr hg hv'; obtain ⟨A3', e3', rfl⟩ := ownO_slice hr; have hgb := own_ge HWa.out; have HX7 := Lib.hid ((hg.block _ (Array.getElem?_eq_some_iff.1 HX2.out).1 (fun e => by have := hgb _ e.symm; omega)).trans HX2.out); obtain ⟨z0, z1, zf⟩ := row2 HX7.out; have HO7 := Lib.hid (blk_other HWa.out HO2.out (by decide) hg); obtain ⟨r0, r1, r2, r3, r4, rf⟩ := row5 HO7.out))
      have HS8 := Lib.hid (show SpAt ((w7.setCell ⟨w.heap.size, 0, none⟩ (.int .u64 (p + 4 * (n1 : Int)))).setCell ⟨w.heap.size, 1, none⟩ (.int .u64 (q + 8 * (n2 : Int)))) (w.heap.size + 1) (spL l t d (k + 1)) (.slice A3' (k + 1) e3') from ⟨A3', e3', by rw [spL_len], by
        rw [spL_len, HG.out, List.flatMap_append, List.flatMap_cons, List.flatMap_nil, List.append_nil]
        exact own_set7 (own_set7 hr (by omega)) (by omega)⟩)
      have HB8 := Lib.hid (below_setNew (b := w.heap.size) (o := 1) (v := .int .u64 (q + 8 * (n2 : Int))) (below_setNew (b := w.heap.size) (o := 0) (v := .int .u64 (p + 4 * (n1 : Int))) (HB2.out.grown hg HB2.out.size (fun g e => by have := own_ge HWa.out g e; omega)) (Nat.le_refl _)) (Nat.le_refl _))
      have HX8 := Lib.hid (heap_setCell_same _ w.heap.size 1 _ _ (.int .u64 (q + 8 * (n2 : Int))) (heap_setCell_same w7 w.heap.size 0 _ _ (.int .u64 (p + 4 * (n1 : Int))) HX7.out))
      have HZ8 := Lib.hid (show w.heap.size + 1 ≤ ((w7.setCell ⟨w.heap.size, 0, none⟩ (.int .u64 (p + 4 * (n1 : Int)))).setCell ⟨w.heap.size, 1, none⟩ (.int .u64 (q + 8 * (n2 : Int)))).heap.size from by
        rw [size_set7, size_set7]; exact Nat.le_trans HRz.out hg.size)
      clear hr hg hv'
      go_wp2
      go_roundw
      case rel => exact ⟨k + 1, by omega, by go_num, HS8, HB8, by rw [HE.out.1, HE.out.2]; exact HX8, HZ8⟩
      case measure => simp [intOf]; omega
    · have hkn : k = n := by omega
      have k1 : ¬ (k : Int) < n := by omega
      subst hkn
      have HR := Lib.hid (show SpAt wr w.heap.size (spL l t d k) u7 from by obtain ⟨A1, c1, e1, h1⟩ := HS.out; exact ⟨A1, c1, e1, kn_base h1 (by omega)⟩)
      go_wp2
      go_ret
      exact ⟨_, rfl, HR.out, HB.out⟩
end Go.Proofs.YtjngkifoaljmaaaDoor
namespace Go.Proofs.YtjngkifoaljmaaaDoor
set_option maxRecDepth 100000
open Go.RowKit
set_option linter.unusedVariables false
/-- an instruction's number by a relocation -/
def numV (kind p v : Int) : Int :=
  if kind = 0 then wrap64 (put (IntKind.u64.wrap (v + 2048)) 0 12 0)
  else if kind = 1 then sgn v 12
  else wrap64 (IntKind.u64.wrap (v - p))
theorem wrapU_U (x : Int) : IsU (IntKind.u64.wrap x) := wrU x
theorem regI_I {v : Int} (h : IsW v) (a : Int) (has : Bool) : IsI (regI v a has) := by
  unfold regI
  split
  · have := isW_fld a 5 h
    exact ⟨by have := this.1; omega, by have := this.2; omega⟩
  · exact ⟨by omega, by omega⟩
theorem pnumber_any (kind p v : Int) (hp : IsU p) (hv : IsU v) (w : World) :
    Calls Tryd.prog 43 #[.int .i64 kind, .int .u64 p, .int .u64 v] w fun e w' => e = .returned (.int .i64 (numV kind p v)) ∧ ∃ k, w' = w.drewN k := by
  have HV := Lib.hid hv
  have HQ := Lib.hid hp
  by_cases h0 : kind = 0
  · subst h0
    have HR := Lib.hid (show numV 0 p v = wrap64 (put (IntKind.u64.wrap (v + 2048)) 0 12 0) from by unfold numV; rw [if_pos rfl])
    clear hp hv
    go_enter Tryd.func43, Tryd.ntmps43
    go_wp2_with fail
    refine (put_yes (IntKind.u64.wrap (v + 2048)) 0 12 0 (wrapU_U _) (by omega) (by omega) (by omega) ⟨by omega, by omega⟩ w).mono ?_
    rintro e w2 ⟨rfl, k, rfl⟩
    go_wp2
    go_ret
    exact ⟨by rw [HR.out]; rfl, k, rfl⟩
  · have g0 : (kind == (0 : Int)) = false := by simpa using h0
    by_cases h1 : kind = 1
    · subst h1
      have HR := Lib.hid (show numV 1 p v = sgn v 12 from by unfold numV; rw [if_neg (by omega), if_pos rfl])
      clear hp hv h0 g0
      go_enter Tryd.func43, Tryd.ntmps43
      go_wp2_with fail
      refine (sign_yes v 12 HV.out (by omega) (by omega) w).mono ?_
      rintro e w2 ⟨rfl, rfl⟩
      go_wp2
      go_ret
      exact ⟨by rw [HR.out]; rfl, 0, by rw [World.drewN_zero]⟩
    · have g1 : (kind == (1 : Int)) = false := by simpa using h1
      have HR := Lib.hid (show numV kind p v = wrap64 (IntKind.u64.wrap (v - p)) from by unfold numV; rw [if_neg h0, if_neg h1])
      clear hp hv
      go_enter Tryd.func43, Tryd.ntmps43
      go_wp2
      go_ret
      exact ⟨by rw [HR.out]; rfl, 0, by rw [World.drewN_zero]⟩
/-- it leaves by the panic -/
def misV : Value := .iface 91 (.agg #[])
def misP : Ending := .panicked [{ v := misV, recovered := false }]
/-- a word of operation n with another number; none, where there is no such instruction -/
def insW (n : Nat) (v imm : Int) : Option Int :=
  if mayB n (regI v 7 (lRd (opS n))) (regI v 15 (lR1 (opS n))) (regI v 20 (lR2 (opS n))) imm = true then some (encI n (regI v 7 (lRd (opS n))) (regI v 15 (lR1 (opS n))) (regI v 20 (lR2 (opS n))) imm) else none
def doneV (v kind p x : Int) : Option Int := match opOf v with
  | some n => insW n v (numV kind p x)
  | none => none
def DonP (r : Option Int) (w : World) (e : Ending) (w' : World) : Prop := Below w.heap.size w w' ∧ match r with
  | some x => e = .returned (.int .u32 x)
  | none => e = misP
theorem DonP.no {r : Option Int} {w w' : World} (hr : r = none) (hb : Below w.heap.size w w') : DonP r w misP w' := by subst hr; exact ⟨hb, rfl⟩
theorem DonP.yes {r : Option Int} {w w' : World} {x : Int} (hr : r = some x) (hb : Below w.heap.size w w') : DonP r w (.returned (.int .u32 x)) w' := by subst hr; exact ⟨hb, rfl⟩
set_option maxHeartbeats 2000000 in
theorem done_any (v kind p x : Int) (hv : IsW v) (hop : (opOf v).isSome = true) (hp : IsU p) (hx : IsU x) (w : World) (hT : Tabs w) :
    Calls Tryd.prog 27 #[.int .u32 v, .int .i64 kind, .int .u64 p, .int .u64 x] w (DonP (doneV v kind p x) w) := by
  obtain ⟨n, hn⟩ := Option.isSome_iff_exists.1 hop
  obtain ⟨h43, hM⟩ := opOf_some hn
  have HT := Lib.hid hT
  have HV := Lib.hid hv
  have HM := Lib.hid hM
  have HP := Lib.hid hp
  have HX := Lib.hid hx
  have HD := Lib.hid (show doneV v kind p x = insW n v (numV kind p x) from by unfold doneV; rw [hn])
  clear hv hop hp hx hT hM hn
  go_enter Tryd.func27, Tryd.ntmps27
  go_wp2_with fail
  refine (decode_yes v n w HV.out HT.out h43 HM.out).mono ?_
  rintro e w1 ⟨rfl, hb1⟩
  obtain ⟨rd, hrd⟩ : ∃ r, r = regI v 7 (lRd (opS n)) := ⟨_, rfl⟩
  obtain ⟨r1, hr1⟩ : ∃ r, r = regI v 15 (lR1 (opS n)) := ⟨_, rfl⟩
  obtain ⟨r2, hr2⟩ : ∃ r, r = regI v 20 (lR2 (opS n)) := ⟨_, rfl⟩
  obtain ⟨im, him⟩ : ∃ r, r = numberI v (opS n) := ⟨_, rfl⟩
  have HI := Lib.hid (show IsI rd ∧ IsI r1 ∧ IsI r2 from by rw [hrd, hr1, hr2]; exact ⟨regI_I HV.out _ _, regI_I HV.out _ _, regI_I HV.out _ _⟩)
  have HW := Lib.hid (show insW n v (numV kind p x) = if mayB n rd r1 r2 (numV kind p x) = true then some (encI n rd r1 r2 (numV kind p x)) else none from by rw [hrd, hr1, hr2]; rfl)
  rw [← hrd, ← hr1, ← hr2, ← him]
  have hbl := (Below.refl w1.heap.size w1).alloc (Nat.le_refl _) (.cells #[.int .i64 n, .int .i64 rd, .int .i64 r1, .int .i64 r2, .int .i64 im] 29)
  have HB2 := Lib.hid (hb1.trans (hbl.mono hb1.size))
  have HY := Lib.hid (heap_alloc_new w1 (.cells #[.int .i64 n, .int .i64 rd, .int .i64 r1, .int .i64 r2, .int .i64 im] 29))
  have HSz := Lib.hid hb1.size
  clear hb1 hbl hrd hr1 hr2 him
  go_wp2_with fail
  refine (pnumber_any kind p x HP.out HX.out _).mono ?_
  rintro e w2 ⟨rfl, kq, hw2⟩
  have hq : Below (w1.alloc (.cells #[.int .i64 n, .int .i64 rd, .int .i64 r1, .int .i64 r2, .int .i64 im] 29)).heap.size (w1.alloc (.cells #[.int .i64 n, .int .i64 rd, .int .i64 r1, .int .i64 r2, .int .i64 im] 29)) w2 := by rw [hw2]; exact ⟨rfl, rfl, rfl, Nat.le_refl _, fun _ _ => rfl⟩
  have HB3 := Lib.hid (HB2.out.trans (hq.mono HB2.out.size))
  have HY3 := Lib.hid ((hq.block _ (Array.getElem?_eq_some_iff.1 HY.out).1).trans HY.out)
  clear hw2 hq HB2 HY
  generalize w1.heap.size = kb at *
  obtain ⟨im2, him2⟩ : ∃ r, numV kind p x = r := ⟨_, rfl⟩
  rw [him2]
  rw [him2] at HD HW
  obtain ⟨y0, y1, y2, y3, y4, yf⟩ := row5 HY3.out
  have HB4 := Lib.hid (show Below w.heap.size w (w2.setCell ⟨kb, 4, none⟩ (.int .i64 im2)) from below_setNew HB3.out HSz.out)
  obtain ⟨z0, z1, z2, z3, z4, zf⟩ := row5 (heap_setCell_same w2 kb 4 _ _ (.int .i64 im2) HY3.out)
  go_wp2_with fail
  cases hm : mayB n rd r1 r2 im2
  case true =>
    have HR := Lib.hid (show doneV v kind p x = some (encI n rd r1 r2 im2) from by rw [HD.out, HW.out, hm]; rfl)
    refine (encode_yes n rd r1 r2 im2 _ h43 (HT.out.below HB4.out) HI.out.1 HI.out.2.1 HI.out.2.2 hm).mono ?_
    rintro e w5 ⟨rfl, hb5⟩
    have HB5 := Lib.hid (HB4.out.trans (hb5.mono HB4.out.size))
    clear hm hb5
    go_wp2
    go_ret
    exact DonP.yes HR.out HB5.out
  case false =>
    have HR := Lib.hid (show doneV v kind p x = none from by rw [HD.out, HW.out, hm]; rfl)
    refine (encode_no n rd r1 r2 im2 _ h43 (HT.out.below HB4.out) HI.out.1 HI.out.2.1 HI.out.2.2 hm).mono ?_
    rintro e w5 ⟨rfl, hb5⟩
    have HB5 := Lib.hid (HB4.out.trans (hb5.mono HB4.out.size))
    clear hm hb5
    go_wp2
    exact ⟨rfl, DonP.no HR.out HB5.out⟩
end Go.Proofs.YtjngkifoaljmaaaDoor
namespace Go.Proofs.YtjngkifoaljmaaaDoor
set_option maxRecDepth 100000
open Go.RowKit
set_option linter.unusedVariables false
def baseB (x : Int) : Bool := decide (x % 8 = 0) && decide (x ≤ 1073741824)
/-- the code of Spots -/
def spC (l : List ObjD) (t d : Int) : Int :=
  if (chkF l).2 ≠ 0 then (chkF l).2
  else if sumT l l.length > 4096 ∨ sumD l l.length > 1024 then 4
  else if baseB t = true ∧ baseB d = true then 0 else 10
theorem chkF_may {l : List ObjD} (h : (chkF l).2 = 0) : mayLs l = true := by
  cases hm : mayLs l with
  | true => rfl
  | false =>
    unfold chkF at h
    rw [if_pos hm] at h
    cases h
theorem mayLs_len {l : List ObjD} (h : mayLs l = true) : l.length ≤ 16 := by
  unfold mayLs at h
  simp only [Bool.and_eq_true, decide_eq_true_eq] at h
  exact h.1
def SpotP (l : List ObjD) (t d : Int) (n : Nat) (w : World) (e : Ending) (w' : World) : Prop :=
  Below w.heap.size w w' ∧ ∃ v, e = .returned (.tuple #[v, .int .i64 (spC l t d)]) ∧ (spC l t d = 0 → SpAt w' w.heap.size (spL l t d n) v) ∧ (spC l t d ≠ 0 → v = .slice none 0 0)
theorem SpotP.no {l : List ObjD} {t d k : Int} {n : Nat} {w w' : World} (h : spC l t d = k) (hk : k ≠ 0) (hb : Below w.heap.size w w') : SpotP l t d n w (.returned (.tuple #[.slice none 0 0, .int .i64 k])) w' := by
  subst h
  exact ⟨hb, _, rfl, fun h => absurd h hk, fun _ => rfl⟩
theorem SpotP.yes {l : List ObjD} {t d : Int} {n : Nat} {w w' : World} {v : Value} (h : spC l t d = 0) (hs : SpAt w' w.heap.size (spL l t d n) v) (hb : Below w.heap.size w w') : SpotP l t d n w (.returned (.tuple #[v, .int .i64 0])) w' :=
  ⟨hb, v, by rw [h], fun _ => hs, fun k => absurd h k⟩
theorem base_lt {x : Int} (h : baseB x = true) : x ≤ 1073741824 := by
  unfold baseB at h
  simp only [Bool.and_eq_true, decide_eq_true_eq] at h
  exact h.2
theorem SpAt.low {w : World} {b b' : Nat} {xs : List (Int × Int)} {v : Value} (h : SpAt w b xs v) (hb : b' ≤ b) : SpAt w b' xs v := by
  obtain ⟨A, c, e, ho⟩ := h
  exact ⟨A, c, e, kn_base ho hb⟩
set_option maxHeartbeats 4000000 in
theorem spots_any (l : List ObjD) (hW : ∀ d ∈ l, ObjW d) (A : Option Addr) (n c lo hi : Nat) (hn : l.length = n) (hmx : n ≤ 1000000) (t d : Int) (ht : IsU t) (hd : IsU d) (w : World) (hT : Tabs w) (hA : ObjsAt w lo hi l A) (hh : hi ≤ w.heap.size) :
    Calls Tryd.prog 15 #[.slice A n c, .int .u64 t, .int .u64 d] w (SpotP l t d n w) := by
  have HW := Lib.hid hW
  have HN := Lib.hid hn
  have HA := Lib.hid hA
  have HH := Lib.hid hh
  have HMx := Lib.hid hmx
  have HU := Lib.hid (And.intro ht hd)
  have HC := Lib.hid (check_any l hW A n c lo hi hn (Nat.le_trans hmx (by decide)) w hT hA hh)
  clear hW hn hA hh hT hmx
  obtain ⟨ht0, ht1⟩ := ht
  obtain ⟨hd0, hd1⟩ := hd
  go_enter Tryd.func15, Tryd.ntmps15
  go_wp2_with fail
  refine HC.out.mono ?_
  rintro e w1 ⟨s, k, rfl, hc, hb⟩
  obtain ⟨-, hk⟩ := chk_eq HW.out (by rw [HN.out]; exact HMx.out) hc
  have HB1 := Lib.hid hb
  clear hc hb
  by_cases hk0 : k = 0
  · have hm := chkF_may (l := l) (by rw [← hk]; exact hk0)
    have HCk := Lib.hid (show (chkF l).2 = 0 by rw [← hk]; exact hk0)
    have hst := may_sumTD hm
    have HL := Lib.hid (show n ≤ 16 by rw [← HN.out]; exact mayLs_len hm)
    have HSz := Lib.hid (psizes_any l A n c lo hi HN.out HMx.out (Nat.le_trans hst.1 (by decide)) (Nat.le_trans hst.2 (by decide)) w1 (HA.out.below HH.out HB1.out) (Nat.le_trans HH.out HB1.out.size))
    have HSt := Lib.hid hst
    obtain ⟨a, ha⟩ : ∃ a, sumT l l.length = a := ⟨_, rfl⟩
    obtain ⟨b, hb⟩ : ∃ b, sumD l l.length = b := ⟨_, rfl⟩
    have HE := Lib.hid (And.intro ha hb)
    have hab : a ≤ 65536 ∧ b ≤ 65536 := by omega
    have ea : sumT l n = a := by rw [← HN.out]; exact ha
    have eb : sumD l n = b := by rw [← HN.out]; exact hb
    rw [ea, eb] at HSz
    have HR := Lib.hid (show spC l t d = if a > 4096 ∨ b > 1024 then 4 else if baseB t = true ∧ baseB d = true then 0 else 10 from by
      unfold spC; rw [if_neg (by rw [HCk.out]; omega), ha, hb])
    obtain ⟨hab0, hab1⟩ := hab
    clear hm hk hst ha hb ea eb
    subst hk0
    go_wp2_with fail
    refine HSz.out.mono ?_
    rintro e w2 ⟨rfl, hb⟩
    have HB2 := Lib.hid (HB1.out.trans (hb.mono HB1.out.size))
    clear hb
    by_cases hbig : a > 4096 ∨ b > 1024
    · have HR2 := Lib.hid (show spC l t d = 4 by rw [HR.out, if_pos hbig])
      by_cases hA4 : (a : Int) > 4096
      · clear hbig
        go_wp2
        go_ret2
        exact SpotP.no HR2.out (by omega) HB2.out
      · have hB4 : (b : Int) > 1024 := by omega
        clear hbig
        go_wp2
        go_ret2
        exact SpotP.no HR2.out (by omega) HB2.out
    · have hA4 : ¬ (a : Int) > 4096 := by omega
      have hB4 : ¬ (b : Int) > 1024 := by omega
      have HR2 := Lib.hid (show spC l t d = if baseB t = true ∧ baseB d = true then 0 else 10 by rw [HR.out, if_neg hbig])
      clear hbig
      cases hbt : baseB t with
      | false =>
        have HR3 := Lib.hid (show spC l t d = 10 by rw [HR2.out, hbt]; rfl)
        go_wp2_with fail
        refine (isBase_any t HU.out.1 _).mono ?_
        rintro e w3 ⟨rfl, rfl⟩
        rw [show (decide (t % 8 = 0) && decide (t ≤ 1073741824)) = false from hbt]
        go_wp2
        go_ret2
        exact SpotP.no HR3.out (by omega) HB2.out
      | true =>
        go_wp2_with fail
        refine (isBase_any t HU.out.1 _).mono ?_
        rintro e w3 ⟨rfl, rfl⟩
        rw [show (decide (t % 8 = 0) && decide (t ≤ 1073741824)) = true from hbt]
        go_wp2_with fail
        refine (isBase_any d HU.out.2 _).mono ?_
        rintro e w3 ⟨rfl, rfl⟩
        cases hbd : baseB d with
        | false =>
          have HR3 := Lib.hid (show spC l t d = 10 by rw [HR2.out, hbt, hbd]; rfl)
          rw [show (decide (d % 8 = 0) && decide (d ≤ 1073741824)) = false from hbd]
          go_wp2
          go_ret2
          exact SpotP.no HR3.out (by omega) HB2.out
        | true =>
          have HR3 := Lib.hid (show spC l t d = 0 by rw [HR2.out, hbt, hbd]; rfl)
          rw [show (decide (d % 8 = 0) && decide (d ≤ 1073741824)) = true from hbd]
          have HLy := Lib.hid (lay_any l A n c lo hi HN.out HL.out HSt.out.1 (Nat.le_trans HSt.out.2 (by decide)) t d ht0 (base_lt hbt) hd0 (base_lt hbd) w2 (HA.out.below HH.out HB2.out) (Nat.le_trans HH.out HB2.out.size))
          clear hbt hbd
          go_wp2_with fail
          refine HLy.out.mono ?_
          rintro e w4 ⟨v, rfl, hv, hb⟩
          have HB3 := Lib.hid (HB2.out.trans (hb.mono HB2.out.size))
          have HV := Lib.hid (hv.low HB2.out.size)
          obtain ⟨Av, cv, rfl, -⟩ := hv
          clear hb
          go_wp2
          go_ret2
          exact SpotP.yes HR3.out HV.out HB3.out
  · have HR := Lib.hid (show spC l t d = k by unfold spC; rw [if_pos (by rw [← hk]; exact hk0), ← hk])
    have hk1 : (k == (0 : Int)) = false := by simpa using hk0
    have HK := Lib.hid hk0
    clear hk
    go_wp2
    go_ret2
    exact SpotP.no HR.out HK.out HB1.out
end Go.Proofs.YtjngkifoaljmaaaDoor
namespace Go.Proofs.YtjngkifoaljmaaaDoor
set_option maxRecDepth 100000
open Go.RowKit
set_option linter.unusedVariables false
theorem row4 {W : World} {b : Nat} {v0 v1 v2 v3 : Value} {T : TypeId} (h : W.heap[b]? = some (.cells #[v0, v1, v2, v3] T (0, 0))) : W.cell? ⟨b, 0, none⟩ = some v0 ∧ W.cell? ⟨b, 1, none⟩ = some v1 ∧ W.cell? ⟨b, 2, none⟩ = some v2 ∧ W.cell? ⟨b, 3, none⟩ = some v3 ∧ ∀ o, W.frozen? ⟨b, o, none⟩ = false := by
  have y0 := cell_of_row W b 0 _ _ _ h
  have y1 := cell_of_row W b 1 _ _ _ h
  have y2 := cell_of_row W b 2 _ _ _ h
  have y3 := cell_of_row W b 3 _ _ _ h
  simp only [List.getElem?_toArray, List.getElem?_cons_zero, List.getElem?_cons_succ] at y0 y1 y2 y3
  exact ⟨y0, y1, y2, y3, fun o => frozen_of_row W b o _ _ h⟩
theorem SpAt.at_ {w : World} {base i n c : Nat} {xs : List (Int × Int)} {A : Option Addr} (h : SpAt w base xs (.slice A n c)) (hi : i < xs.length) : ∃ b o, A = some ⟨b, o, none⟩ ∧ w.cell? ⟨b, o + i * 2, none⟩ = some (.int .u64 xs[i].1) ∧ w.cell? ⟨b, o + i * 2 + 1, none⟩ = some (.int .u64 xs[i].2) := by
  obtain ⟨A', c', e, ho⟩ := h
  cases e
  obtain ⟨b, o, rfl, _, _, hc⟩ := (RowC.of_own ho).at_ (sz := 2) (fun x => rfl) (by omega) (by omega)
  have y0 := hc i hi 0 _ rfl
  have y1 := hc i hi 1 _ rfl
  rw [show o + (i * 2 + 0) = o + i * 2 by omega] at y0
  rw [show o + (i * 2 + 1) = o + i * 2 + 1 by omega] at y1
  exact ⟨b, o, rfl, y0, y1⟩
theorem SpAt.below {w w' : World} {b : Nat} {xs : List (Int × Int)} {v : Value} (h : SpAt w b xs v) (hb : Below w.heap.size w w') : SpAt w' b xs v := by
  obtain ⟨A, c, e, h⟩ := h; exact ⟨A, c, e, rowO_below h hb⟩
theorem SpAt.len {w : World} {b n c : Nat} {xs : List (Int × Int)} {A : Option Addr} (h : SpAt w b xs (.slice A n c)) : xs.length = n := by
  obtain ⟨A', c', e, h⟩ := h; cases e; rfl
/-- a Sym's address, where its object's text and data begin -/
def adr1 (s : Int × Int) (inD : Bool) (off : Int) : Int := IntKind.u64.wrap ((if inD then s.2 else s.1) + IntKind.u64.wrap off)
theorem pwithin_at (i : Int) (n : Nat) (b : Bool) (hi : IsI i) (hn : n ≤ maxLen) (hb : (decide (0 ≤ i) && decide (i < n)) = b) (w : World) : Calls Tryd.prog 38 #[.int .i64 i, .int .i64 n] w fun e w' => e = .returned (.bool b) ∧ w' = w := by
  subst hb
  exact (pwithin_any i n hi hn w).mono fun _ _ h => ⟨h.1, h.2.symm⟩
def AdrP (r : Option Int) (w : World) (e : Ending) (w' : World) : Prop := Below w.heap.size w w' ∧ e = .returned (.tuple #[.int .u64 (r.getD 0), .bool r.isSome])
set_option maxHeartbeats 4000000 in
/-- of a Sym that is there -/
theorem addr_yes (l : List ObjD) (A : Option Addr) (n c lo hi : Nat) (hn : l.length = n) (hmx : n ≤ 1000000) (xs : List (Int × Int)) (As : Option Addr) (cs base : Nat) (w : World) (hA : ObjsAt w lo hi l A) (hh : hi ≤ w.heap.size) (hS : SpAt w base xs (.slice As n cs))
    (o j : Nat) (ho : o < l.length) (hj : j < l[o].syms.length) (hjm : l[o].syms.length ≤ 1000000) (hx : o < xs.length) :
    Calls Tryd.prog 16 #[.slice A n c, .slice As n cs, .agg #[.int .i64 o, .int .i64 j]] w (AdrP (some (adr1 xs[o] l[o].syms[j].2.1 l[o].syms[j].2.2.1)) w) := by
  obtain ⟨b, p, n3, c3, b3, p3, rfl, x2, hn3, y0, y1, y2, y3⟩ := hA.symAt ho hj
  obtain ⟨b4, p4, rfl, z0, z1⟩ := hS.at_ hx
  have HB0 := Lib.hid ((Below.refl w.heap.size w).alloc (Nat.le_refl _) (.cells #[.int .i64 o, .int .i64 j] 49))
  have hi1 : IsI (o : Int) := ⟨by omega, by omega⟩
  have hi2 : IsI (j : Int) := ⟨by omega, by omega⟩
  have w1 : (decide ((0 : Int) ≤ (o : Int)) && decide ((o : Int) < n)) = true := by
    simp only [Bool.and_eq_true, decide_eq_true_eq]; omega
  have w2 : (decide ((0 : Int) ≤ (j : Int)) && decide ((j : Int) < n3)) = true := by
    simp only [Bool.and_eq_true, decide_eq_true_eq]; omega
  have HI := Lib.hid (And.intro hi1 hi2)
  have HWi := Lib.hid (And.intro w1 w2)
  have HM := Lib.hid (show n ≤ maxLen ∧ n3 ≤ maxLen from ⟨Nat.le_trans hmx (by decide), by rw [← hn3]; exact Nat.le_trans hjm (by decide)⟩)
  have hon : (o : Int) < n := by omega
  have hjn : (j : Int) < n3 := by omega
  have ho0 : (0 : Int) ≤ o := by omega
  have hj0 : (0 : Int) ≤ j := by omega
  obtain ⟨s1, hs1⟩ : ∃ s, xs[o].1 = s := ⟨_, rfl⟩
  obtain ⟨s2, hs2⟩ : ∃ s, xs[o].2 = s := ⟨_, rfl⟩
  obtain ⟨nm, hnm⟩ : ∃ s, l[o].syms[j].1 = s := ⟨_, rfl⟩
  obtain ⟨iD, hiD⟩ : ∃ s, l[o].syms[j].2.1 = s := ⟨_, rfl⟩
  obtain ⟨off, hoff⟩ : ∃ s, l[o].syms[j].2.2.1 = s := ⟨_, rfl⟩
  obtain ⟨ot, hot⟩ : ∃ s, l[o].syms[j].2.2.2 = s := ⟨_, rfl⟩
  have HR := Lib.hid (show adr1 xs[o] iD off = IntKind.u64.wrap ((if iD then s2 else s1) + IntKind.u64.wrap off) from by unfold adr1; rw [hs1, hs2])
  rw [hiD, hoff]
  obtain ⟨R, hRr⟩ : ∃ R, adr1 xs[o] iD off = R := ⟨_, rfl⟩
  rw [hRr] at HR ⊢
  rw [hs1] at z0
  rw [hs2] at z1
  rw [hnm] at y0
  rw [hiD] at y1
  rw [hoff] at y2
  rw [hot] at y3
  have y0b := (HB0.out.cell (p := ⟨b3, p3 + j * 4, none⟩) (block_lt y0)).trans y0
  have y1b := (HB0.out.cell (p := ⟨b3, p3 + j * 4 + 1, none⟩) (block_lt y1)).trans y1
  have y2b := (HB0.out.cell (p := ⟨b3, p3 + j * 4 + 2, none⟩) (block_lt y2)).trans y2
  have y3b := (HB0.out.cell (p := ⟨b3, p3 + j * 4 + 3, none⟩) (block_lt y3)).trans y3
  have x2b := (HB0.out.cell (p := ⟨b, p + o * 5 + 2, none⟩) (block_lt x2)).trans x2
  have z0b := (HB0.out.cell (p := ⟨b4, p4 + o * 2, none⟩) (block_lt z0)).trans z0
  have z1b := (HB0.out.cell (p := ⟨b4, p4 + o * 2 + 1, none⟩) (block_lt z1)).trans z1
  obtain ⟨q0, q1, qf⟩ := row2 (heap_alloc_new w (.cells #[.int .i64 o, .int .i64 j] 49))
  clear hA hS hh hn3 hn hmx hs1 hs2 hnm hiD hoff hot hjm hi1 hi2 w1 w2 hRr ho hj hx
  go_enter Tryd.func16, Tryd.ntmps16
  go_upto_region 1 with fail
  go_quiet ((first | (go_at_call 38; (with_reducible refine quiet_same (pwithin_at o n true HI.out.1 HM.out.1 HWi.out.1 _))) | (go_at_call 38; (with_reducible refine quiet_same (pwithin_at j n3 true HI.out.2 HM.out.2 HWi.out.2 _)))))
  have HB1 := Lib.hid (below_drewN HB0.out nq)
  clear HI HWi HM
  go_upto_region 3 with fail
  generalize hWW : (w.alloc (.cells #[.int .i64 o, .int .i64 j] 49)).drewN nq = W at *
  have hcw : ∀ p, W.cell? p = (w.alloc (.cells #[.int .i64 o, .int .i64 j] 49)).cell? p := fun p => by rw [← hWW]; rfl
  rw [← hcw] at y0b y1b y2b y3b x2b z0b z1b q0 q1
  clear qf y0 y1 y2 y3 x2 z0 z1
  clear hWW hcw
  go_cut [8] (fun sp wx => sp = .pointer (some ⟨W.heap.size, 0, none⟩) ∧ Hid (wx.heap[W.heap.size]? = some (.cells #[.string nm, .bool iD, .int .i64 off, .bool ot] 53 (0, 0)) ∧ Below W.heap.size W wx))
  case first =>
    have HBw := Lib.hid ((Below.refl W.heap.size W).alloc (Nat.le_refl _) (.cells #[.string ⟨#[]⟩, .bool false, .int .i64 0, .bool false] 53))
    have HNw := Lib.hid (heap_alloc_new W (.cells #[.string ⟨#[]⟩, .bool false, .int .i64 0, .bool false] 53))
    have v0 := (HBw.out.cell (p := ⟨b3, p3 + j * 4, none⟩) (block_lt y0b)).trans y0b
    have v1 := (HBw.out.cell (p := ⟨b3, p3 + j * 4 + 1, none⟩) (block_lt y1b)).trans y1b
    have v2 := (HBw.out.cell (p := ⟨b3, p3 + j * 4 + 2, none⟩) (block_lt y2b)).trans y2b
    have v3 := (HBw.out.cell (p := ⟨b3, p3 + j * 4 + 3, none⟩) (block_lt y3b)).trans y3b
    have u2 := (HBw.out.cell (p := ⟨b, p + o * 5 + 2, none⟩) (block_lt x2b)).trans x2b
    have u0 := (HBw.out.cell (p := ⟨w.heap.size, 0, none⟩) (block_lt q0)).trans q0
    have u1 := (HBw.out.cell (p := ⟨w.heap.size, 1, none⟩) (block_lt q1)).trans q1
    obtain ⟨n0, n1, n2, n3', nf⟩ := row4 HNw.out
    have HEnd := Lib.hid (show (W.alloc (.cells #[.string nm, .bool iD, .int .i64 off, .bool ot] 53)).drew.heap[W.heap.size]? = some (.cells #[.string nm, .bool iD, .int .i64 off, .bool ot] 53 (0, 0)) ∧ Below W.heap.size W (W.alloc (.cells #[.string nm, .bool iD, .int .i64 off, .bool ot] 53)).drew from
      ⟨heap_alloc_new W _, ((Below.refl _ _).alloc (Nat.le_refl _) _).drew⟩)
    go_region_law (fail)
    all_goals
      go_wp2
      go_meet
      case rel => exact ⟨rfl, HEnd⟩
  case rest =>
    obtain ⟨rfl, HX⟩ := hcut
    obtain ⟨n0, n1, n2, n3', nf⟩ := row4 HX.out.1
    have u0 := (HX.out.2.cell (p := ⟨w.heap.size, 0, none⟩) (block_lt q0)).trans q0
    have u1 := (HX.out.2.cell (p := ⟨w.heap.size, 1, none⟩) (block_lt q1)).trans q1
    have t0 := (HX.out.2.cell (p := ⟨b4, p4 + o * 2, none⟩) (block_lt z0b)).trans z0b
    have t1 := (HX.out.2.cell (p := ⟨b4, p4 + o * 2 + 1, none⟩) (block_lt z1b)).trans z1b
    have HB2 := Lib.hid (HB1.out.trans (HX.out.2.mono HB1.out.size))
    cases iD
    · go_wp2
      go_ret2
      exact ⟨HB2.out, by rw [HR.out]; rfl⟩
    · go_wp2
      go_ret2
      exact ⟨HB2.out, by rw [HR.out]; rfl⟩
end Go.Proofs.YtjngkifoaljmaaaDoor
namespace Go.Proofs.YtjngkifoaljmaaaDoor
set_option maxRecDepth 100000
open Go.RowKit
set_option linter.unusedVariables false
/-- the address of what a relocation means, and its Add -/
def tgV (a add : Int) : Int := IntKind.u64.wrap (a + IntKind.u64.wrap add)
set_option maxHeartbeats 4000000 in
theorem target_any (l : List ObjD) (hW : ∀ d ∈ l, ObjW d) (A : Option Addr) (n c lo hi : Nat) (hn : l.length = n) (hmx : n ≤ 1000000) (hsum : 2 * sumS l l.length < 1000000) (xs : List (Int × Int)) (As : Option Addr) (cs base : Nat) (w : World) (hA : ObjsAt w lo hi l A) (hh : hi ≤ w.heap.size) (hS : SpAt w base xs (.slice As n cs))
    (i : Int) (hi_ : IsI i) (at_ kind add : Int) (nm : ByteArray) (hs : nm.size ≤ maxLen) (o j : Nat) (hf : fndD l i nm = some ((o : Int), (j : Int))) (ho : o < l.length) (hj : j < l[o].syms.length) (hjm : l[o].syms.length ≤ 1000000) (hx : o < xs.length) :
    Calls Tryd.prog 48 #[.slice A n c, .slice As n cs, .int .i64 i, .agg #[.int .i64 at_, .int .i64 kind, .string nm, .int .i64 add]] w fun e w' => e = .returned (.int .u64 (tgV (adr1 xs[o] l[o].syms[j].2.1 l[o].syms[j].2.2.1) add)) ∧ Below w.heap.size w w' := by
  have HB0 := Lib.hid ((Below.refl w.heap.size w).alloc (Nat.le_refl _) (.cells #[.int .i64 at_, .int .i64 kind, .string nm, .int .i64 add] 47))
  have HX0 := Lib.hid (heap_alloc_new w (.cells #[.int .i64 at_, .int .i64 kind, .string nm, .int .i64 add] 47))
  have HF := Lib.hid (find_any l hW A n c lo hi hn hmx hsum i hi_ nm hs (w.alloc (.cells #[.int .i64 at_, .int .i64 kind, .string nm, .int .i64 add] 47)) (hA.below hh HB0.out) (Nat.le_trans hh HB0.out.size))
  rw [hf] at HF
  have HAd := Lib.hid (fun (W : World) (hb : Below w.heap.size w W) => addr_yes l A n c lo hi hn hmx xs As cs base W (hA.below hh hb) (Nat.le_trans hh hb.size) (hS.below hb) o j ho hj hjm hx)
  obtain ⟨a, ha⟩ : ∃ a, adr1 xs[o] l[o].syms[j].2.1 l[o].syms[j].2.2.1 = a := ⟨_, rfl⟩
  rw [ha] at HAd ⊢
  obtain ⟨z0, z1, z2, z3, zf⟩ := row4 HX0.out
  clear hW hn hmx hsum hA hh hS hi_ hs hf ha ho hj hjm hx
  go_enter Tryd.func48, Tryd.ntmps48
  go_wp2_with fail
  refine HF.out.mono ?_
  rintro e w1 ⟨he, hb⟩
  have he : e = .returned (.tuple #[.agg #[.int .i64 o, .int .i64 j], .bool true]) := he
  subst he
  have HB1 := Lib.hid (HB0.out.trans (hb.mono HB0.out.size))
  have HX1 := Lib.hid ((hb.block _ (Array.getElem?_eq_some_iff.1 HX0.out).1).trans HX0.out)
  have HSz := Lib.hid hb.size
  clear hb z0 z1 z2 z3 zf HX0 HB0
  have HB2 := Lib.hid (HB1.out.trans (((Below.refl w1.heap.size w1).alloc (Nat.le_refl _) (.cells #[.int .i64 o, .int .i64 j] 49)).mono HB1.out.size))
  have HX2 := Lib.hid ((heap_alloc_old w1 (.cells #[.int .i64 o, .int .i64 j] 49) (Array.getElem?_eq_some_iff.1 HX1.out).1).trans HX1.out)
  obtain ⟨z0, z1, z2, z3, zf⟩ := row4 HX2.out
  obtain ⟨y0, y1, yf⟩ := row2 (heap_alloc_new w1 (.cells #[.int .i64 o, .int .i64 j] 49))
  go_wp2_with fail
  refine (HAd.out _ HB2.out).mono ?_
  rintro e w2 ⟨hb, he⟩
  have he : e = .returned (.tuple #[.int .u64 a, .bool true]) := he
  subst he
  have HB3 := Lib.hid (HB2.out.trans (hb.mono HB2.out.size))
  have HX3 := Lib.hid ((hb.block _ (Array.getElem?_eq_some_iff.1 HX2.out).1).trans HX2.out)
  clear hb z0 z1 z2 z3 zf y0 y1 yf
  obtain ⟨z0, z1, z2, z3, zf⟩ := row4 HX3.out
  go_wp2
  go_ret
  exact ⟨rfl, HB3.out⟩
end Go.Proofs.YtjngkifoaljmaaaDoor
