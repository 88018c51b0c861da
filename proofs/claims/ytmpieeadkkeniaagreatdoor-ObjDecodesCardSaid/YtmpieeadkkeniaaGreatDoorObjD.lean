/- Layer 6: the reader of package obj: an object.
   Layer 6: the reader of package obj: all of a row of bytes. -/
import Derived.Test.YtmpieeadkkeniaaGreatDoorObjC
namespace Go.Proofs.YtmpieeadkkeniaaGreatDoor
set_option maxRecDepth 100000
open Go.RowKit
set_option linter.unusedVariables false
/-- an object as it lies, in blocks from lo on, below hi -/
def ObjAt (w : World) (lo hi : Nat) (d : ObjD) (v : Value) : Prop := ∃ A1 c1 A2 c2 A3 c3 A4 c4 A5 c5 es, v = .agg #[.slice A1 d.text.length c1, .slice A2 d.data.length c2, .slice A3 d.syms.length c3, .slice A4 d.rels.length c4, .slice A5 d.ents.length c5] ∧
  RowC w lo hi A1 (d.text.flatMap encU32) ∧ RowC w lo hi A2 (d.data.flatMap encU64) ∧ RowC w lo hi A3 (d.syms.flatMap encSym) ∧ RowC w lo hi A4 (d.rels.flatMap encRel) ∧ RowC w lo hi A5 es ∧ EntC w lo hi none d.ents es
theorem RowC.move {w w' : World} {lo lo' hi hi' : Nat} {A : Option Addr} {cs : List Value} (h : RowC w lo hi A cs) (hl : lo' ≤ lo) (hh : hi ≤ hi') (hk : ∀ b, lo ≤ b → b < hi → w'.heap[b]? = w.heap[b]?) : RowC w' lo' hi' A cs := by
  rcases h with h | ⟨b, o, e, h1, h2, h4⟩
  · exact .inl h
  · exact .inr ⟨b, o, e, by omega, by omega, fun j v hj => by rw [World.cell?_of_block (hk b h1 h2)]; exact h4 j v hj⟩
theorem EntC.lower {w : World} {lo lo' hi : Nat} {ob : Option Nat} (hl : lo' ≤ lo) : ∀ {es : List EntD} {cs : List Value}, EntC w lo hi ob es cs → EntC w lo' hi ob es cs
  | [], cs, h => h
  | e :: es, cs, ⟨A, c, rest, h1, h2, h3⟩ => ⟨A, c, rest, h1, by
    rcases h2 with h | ⟨b, o, e, h1, h2⟩
    · exact .inl h
    · exact .inr ⟨b, o, e, by omega, h2⟩, EntC.lower hl h3⟩
theorem ObjAt.move {w w' : World} {lo lo' hi hi' : Nat} {d : ObjD} {v : Value} (h : ObjAt w lo hi d v) (hl : lo' ≤ lo) (hh : hi ≤ hi') (hk : ∀ b, lo ≤ b → b < hi → w'.heap[b]? = w.heap[b]?) : ObjAt w' lo' hi' d v := by
  obtain ⟨A1, c1, A2, c2, A3, c3, A4, c4, A5, c5, es, hv, h1, h2, h3, h4, h5, h6⟩ := h
  exact ⟨A1, c1, A2, c2, A3, c3, A4, c4, A5, c5, es, hv, h1.move hl hh hk, h2.move hl hh hk, h3.move hl hh hk, h4.move hl hh hk, h5.move hl hh hk, (h6.move hh (fun b _ _ _ e => by cases e) (fun b h1 h2 _ => hk b h1 h2)).lower hl⟩
theorem RowC.out {w w' : World} {p lo hi : Nat} {A : Option Addr} {cs : List Value} (h : RowC w lo hi A cs) (ho : RdOut p w w') (hp : p < lo) (hh : hi ≤ w.heap.size) : RowC w' lo w'.heap.size A cs :=
  h.move (Nat.le_refl _) (Nat.le_trans hh ho.size) (fun b h1 h2 => ho.block b (by omega) (by omega))
theorem RowC.setNew {w : World} {lo hi c o : Nat} {A : Option Addr} {cs : List Value} {v : Value} (h : RowC w lo hi A cs) (hc : c < lo) : RowC (w.setCell ⟨c, o, none⟩ v) lo hi A cs :=
  h.move (Nat.le_refl _) (Nat.le_refl _) (fun b h1 h2 => setNew_row (by omega))
theorem EntC.setNew {w : World} {lo hi c o : Nat} {es : List EntD} {cs : List Value} {v : Value} (h : EntC w lo hi none es cs) (hc : c < lo) : EntC (w.setCell ⟨c, o, none⟩ v) lo hi none es cs :=
  h.move (Nat.le_refl _) (fun b _ _ _ e => by cases e) (fun b h1 h2 _ => setNew_row (by omega))
theorem size_set (w : World) (a : Addr) (v : Value) : (w.setCell a v).heap.size = w.heap.size := by simp
def ObjV (w : World) (d : ObjD) (v : Value) (w' : World) : Prop := ObjAt w' w.heap.size w'.heap.size d v
theorem res_obj {T : Array Value} {b : Nat} {W : World} {v0 v1 v2 v3 v4 : Value} (hT : T[2]? = some (.pointer (some ⟨b, 0, none⟩))) (h : W.heap[b]? = some (.cells #[v0, v1, v2, v3, v4] 28 (0, 0))) :
    (results Tryz.f74 T).run Tryz.prog W = .ok (.agg #[v0, v1, v2, v3, v4]) W := by
  have h0 := cell_of_row W b 0 _ _ _ h
  have h1 := cell_of_row W b 1 _ _ _ h
  have h2 := cell_of_row W b 2 _ _ _ h
  have h3 := cell_of_row W b 3 _ _ _ h
  have h4 := cell_of_row W b 4 _ _ _ h
  simp only [List.getElem?_toArray, List.getElem?_cons_zero, List.getElem?_cons_succ] at h0 h1 h2 h3 h4
  simp [results, Tryz.results74, go_sem, hT, h0, h1, h2, h3, h4]
theorem fill5 {W : World} {b : Nat} {a0 a1 a2 a3 a4 : Value} {T : TypeId} (h : W.heap[b]? = some (.cells #[a0, a1, a2, a3, a4] T (0, 0))) (v0 v1 v2 v3 v4 : Value) :
    (((((W.setCell ⟨b, 0, none⟩ v0).setCell ⟨b, 1, none⟩ v1).setCell ⟨b, 2, none⟩ v2).setCell ⟨b, 3, none⟩ v3).setCell ⟨b, 4, none⟩ v4).heap[b]? = some (.cells #[v0, v1, v2, v3, v4] T (0, 0)) := by
  rw [heap_setCell_same _ b 4 _ _ _ (heap_setCell_same _ b 3 _ _ _ (heap_setCell_same _ b 2 _ _ _ (heap_setCell_same _ b 1 _ _ _ (heap_setCell_same W b 0 _ _ _ h))))]
  rfl
theorem row_cells5 {W : World} {b : Nat} {v0 v1 v2 v3 v4 : Value} {T : TypeId} (h : W.heap[b]? = some (.cells #[v0, v1, v2, v3, v4] T (0, 0))) : (W.cell? ⟨b, 0, none⟩ = some v0 ∧ W.cell? ⟨b, 1, none⟩ = some v1 ∧ W.cell? ⟨b, 2, none⟩ = some v2 ∧ W.cell? ⟨b, 3, none⟩ = some v3 ∧ W.cell? ⟨b, 4, none⟩ = some v4) ∧ ∀ o, W.frozen? ⟨b, o, none⟩ = false := by
  have h0 := cell_of_row W b 0 _ _ _ h
  have h1 := cell_of_row W b 1 _ _ _ h
  have h2 := cell_of_row W b 2 _ _ _ h
  have h3 := cell_of_row W b 3 _ _ _ h
  have h4 := cell_of_row W b 4 _ _ _ h
  simp only [List.getElem?_toArray, List.getElem?_cons_zero, List.getElem?_cons_succ] at h0 h1 h2 h3 h4
  exact ⟨⟨h0, h1, h2, h3, h4⟩, fun o => frozen_of_row W b o _ _ h⟩
theorem bl_loop (bs : ByteArray) : ∀ n i r, bs.size - i = n → ByteArray.toList.loop bs i r = r.reverse ++ bs.data.toList.drop i := by
  intro n
  induction n with
  | zero =>
    intro i r h
    rw [ByteArray.toList.loop]
    rw [if_neg (by omega), List.drop_eq_nil_of_le (by simp; show bs.size ≤ i; omega), List.append_nil]
  | succ n ih =>
    intro i r h
    rw [ByteArray.toList.loop]
    have hi : i < bs.data.toList.length := by simp; show i < bs.size; omega
    rw [if_pos (by omega), ih (i + 1) _ (by omega), List.drop_eq_getElem_cons hi]
    simp [ByteArray.get!]
    exact getElem!_pos bs.data i (by simpa using hi)
theorem bl_data (bs : ByteArray) : bs.toList = bs.data.toList := by
  unfold ByteArray.toList
  rw [bl_loop bs bs.size 0 [] (by omega)]
  simp
theorem bl_ne {s : ByteArray} {l : List UInt8} (h : s ≠ ⟨l.toArray⟩) : (s.toList == l) = false := by
  rw [bl_data, beq_eq_false_iff_ne]
  intro e
  exact h (ByteArray.ext (by rw [← e]))
theorem magic_iff {x : List Int} (ha : AllB x) : (x = magicW) ↔ toBA x = ⟨#[79, 66, 74, 49]⟩ := by
  have e : sB ⟨#[79, 66, 74, 49]⟩ = magicW := by decide +kernel
  constructor
  · intro h; subst h; rfl
  · intro h
    rw [← sB_toBA ha, h, e]
theorem rdB_all {k : Nat} {l x r : List Int} (ha : AllB l) (h : rdB k l = some (x, r)) : AllB x ∧ AllB r := by
  unfold rdB at h
  split at h
  · simp only [Option.some.injEq, Prod.mk.injEq] at h
    rw [← h.1, ← h.2]; exact ⟨ha.take k, ha.drop k⟩
  · cases h
theorem five_nat {l r cs : List Int} (ha : AllB l) (h : rdL (rdN 2) 5 l = some (cs, r)) : ∃ a b c d e : Nat, cs = [(a : Int), b, c, d, e] ∧ a < 65536 ∧ b < 65536 ∧ c < 65536 ∧ d < 65536 ∧ e < 65536 ∧ AllB r := by
  obtain ⟨_, a1, l1, w1⟩ := rdL_back (num_back (by omega)) _ _ _ _ ha h
  have hc := five_cases l1
  have b0 := w1 (nth cs 0) (by rw [hc]; simp [nth])
  have b1 := w1 (nth cs 1) (by rw [hc]; simp [nth])
  have b2 := w1 (nth cs 2) (by rw [hc]; simp [nth])
  have b3 := w1 (nth cs 3) (by rw [hc]; simp [nth])
  have b4 := w1 (nth cs 4) (by rw [hc]; simp [nth])
  refine ⟨(nth cs 0).toNat, (nth cs 1).toNat, (nth cs 2).toNat, (nth cs 3).toNat, (nth cs 4).toNat, ?_, ?_, ?_, ?_, ?_, ?_, a1⟩
  · rw [Int.toNat_of_nonneg b0.1.1, Int.toNat_of_nonneg b1.1.1, Int.toNat_of_nonneg b2.1.1, Int.toNat_of_nonneg b3.1.1, Int.toNat_of_nonneg b4.1.1]; exact hc
  · have := b0.2; omega
  · have := b1.2; omega
  · have := b2.2; omega
  · have := b3.2; omega
  · have := b4.2; omega
theorem rdObj_head {l l1 l2 x : List Int} {a0 a1 a2 a3 a4 : Nat} (h1 : rdB 4 l = some (x, l1)) (hm : x = magicW) (h2 : rdL (rdN 2) 5 l1 = some ([(a0 : Int), a1, a2, a3, a4], l2)) :
    rdObj l = rdBind (rdL (rdN 4) a0) (fun t => rdBind (rdL (rdN 8) a1) fun dd => rdBind (rdL rdSym a2) fun ss => rdBind (rdL rdRel a3) fun rr => rdBind (rdL rdEnt a4) fun ee => rdRet ⟨t, dd, ss, rr, ee⟩) l2 := by
  unfold rdObj
  rw [rdBind_at h1, if_pos hm, rdBind_at h2]
  rfl
/-- the counts, as they lie -/
abbrev CntC (w : World) (b o a0 a1 a2 a3 a4 : Nat) : Prop := w.cell? ⟨b, o, none⟩ = some (.int .i64 a0) ∧ w.cell? ⟨b, o + 1, none⟩ = some (.int .i64 a1) ∧ w.cell? ⟨b, o + 2, none⟩ = some (.int .i64 a2) ∧ w.cell? ⟨b, o + 3, none⟩ = some (.int .i64 a3) ∧ w.cell? ⟨b, o + 4, none⟩ = some (.int .i64 a4)
theorem CntC.same {w w' : World} {b o a0 a1 a2 a3 a4 : Nat} (h : CntC w b o a0 a1 a2 a3 a4) (hk : w'.heap[b]? = w.heap[b]?) : CntC w' b o a0 a1 a2 a3 a4 := by
  refine ⟨?_, ?_, ?_, ?_, ?_⟩ <;> rw [World.cell?_of_block hk]
  · exact h.1
  · exact h.2.1
  · exact h.2.2.1
  · exact h.2.2.2.1
  · exact h.2.2.2.2
set_option maxHeartbeats 2000000 in
theorem rdobj_any (p B : Nat) (l : List Int) (w : World) (hR : RdIs w p B l) :
    Calls Tryz.prog 74 #[.pointer (some ⟨p, 0, none⟩)] w (RdP p B (rdObj l) (ObjV w) w) := by
  have hmf : ∀ (fn : Fn) (first cap : Array Value) (w : World), (Instr.makeFunc fn first cap).run Tryz.prog w = .ok (.func fn first cap) w := fun _ _ _ _ => rfl
  have HR := Lib.hid hR
  have HL := Lib.hid hR.lt
  have HA := Lib.hid hR.all
  clear hR
  have HO0 := Lib.hid ((RdOut.refl p w).alloc (.cells #[.slice none 0 0, .slice none 0 0, .slice none 0 0, .slice none 0 0, .slice none 0 0] 28))
  have HX := Lib.hid (show (w.alloc (.cells #[.slice none 0 0, .slice none 0 0, .slice none 0 0, .slice none 0 0, .slice none 0 0] 28)).heap[w.heap.size]? = some (.cells #[.slice none 0 0, .slice none 0 0, .slice none 0 0, .slice none 0 0, .slice none 0 0] 28 (0, 0)) from heap_alloc_new w _)
  go_enter Tryz.func74, Tryz.ntmps74
  go_wp2_with fail
  refine (take_any 4 p B l _ (HR.out.alloc _)).mono ?_
  intro e w1 h1
  cases hr1 : rdB 4 l with
  | none =>
    obtain ⟨rfl, ho⟩ := h1.no hr1
    exact ⟨rfl, RdP.mkNo (rdBind_no hr1) (HO0.out.trans ho)⟩
  | some q =>
  obtain ⟨x, l1⟩ := q
  obtain ⟨v, rfl, ⟨A, c, rfl, hs, hl⟩, h2, h3⟩ := h1.yes hr1
  have hax := rdB_all HA.out hr1
  have HAx := Lib.hid hax.1
  have HAl := Lib.hid hax.2
  have HS1 := Lib.hid hr1
  have HR1 := Lib.hid h2
  have HO1 := Lib.hid (HO0.out.trans h3)
  have HX1 := Lib.hid (h3.row HX.out (by have := HL.out; omega))
  have hcv := str_sl (c := c) hs.sl hl hax.1
  clear h1 h2 h3 hr1 hs hl hax
  by_cases hm : x = magicW
  case neg =>
    have HM := Lib.hid hm
    have hne : ((toBA x).toList == [79, 66, 74, 49]) = false := bl_ne (fun e => hm ((magic_iff HAx.out).2 e))
    clear hm
    go_wp2_with fail
    refine (want_no _).mono ?_
    rintro e w' ⟨rfl, rfl⟩
    exact ⟨rfl, RdP.mkNo (by unfold rdObj; rw [rdBind_at HS1.out, if_neg HM.out]) HO1.out⟩
  have hto : toBA x = ⟨#[79, 66, 74, 49]⟩ := (magic_iff HAx.out).1 hm
  rw [hto] at hcv
  have HM := Lib.hid hm
  clear hm hto
  go_wp2_with fail
  refine (want_yes _).mono ?_
  rintro e w' ⟨rfl, rfl⟩
  clear hcv
  go_wp2_with fail
  refine (list_count 5 (by omega) p B l1 _ HR1.out).mono ?_
  intro e w2 h1
  cases hr2 : rdL (rdN 2) 5 l1 with
  | none =>
    obtain ⟨rfl, ho⟩ := h1.no hr2
    exact ⟨rfl, RdP.mkNo (by unfold rdObj; rw [rdBind_at HS1.out, if_pos HM.out]; exact rdBind_no hr2) (HO1.out.trans ho)⟩
  | some q =>
  obtain ⟨cs, l2⟩ := q
  obtain ⟨v, rfl, ⟨Ac, cc, rfl, hcl, hrow⟩, h2, h3⟩ := h1.yes hr2
  obtain ⟨a0, a1, a2, a3, a4, hcs, b0, b1, b2, b3, b4, hal2⟩ := five_nat HAl.out hr2
  subst hcs
  rcases hrow with hrow | ⟨bc, oc, rfl, hb1, hb2, hcells⟩
  · cases hrow
  have hcn : CntC w2 bc oc a0 a1 a2 a3 a4 := ⟨hcells 0 _ rfl, hcells 1 _ rfl, hcells 2 _ rfl, hcells 3 _ rfl, hcells 4 _ rfl⟩
  have HCN := Lib.hid hcn
  have HS2 := Lib.hid (rdObj_head HS1.out HM.out hr2)
  have HAl2 := Lib.hid hal2
  have HR2 := Lib.hid h2
  have HO2 := Lib.hid (HO1.out.trans h3)
  have HX2 := Lib.hid (h3.row HX1.out (by have := HL.out; omega))
  have HBc := Lib.hid (show p < bc ∧ w.heap.size < bc ∧ bc < w2.heap.size by (have := HL.out; have := (Array.getElem?_eq_some_iff.1 HX1.out).1; omega))
  have HB0 := Lib.hid b0
  have HB1 := Lib.hid b1
  have HB2 := Lib.hid b2
  have HB3 := Lib.hid b3
  have HB4 := Lib.hid b4
  clear h1 h2 h3 hr2 hcl hcells hb1 hb2 b0 b1 b2 b3 b4 hal2
  -- t4
  have HCN0 := Lib.hid (CntC.same (w' := w2.alloc (.cells #[.slice none 0 0, .slice none 0 0, .slice none 0 0, .slice none 0 0, .slice none 0 0] 28)) HCN.out (heap_alloc_old w2 _ HBc.out.2.2))
  have HXa0 := Lib.hid ((heap_alloc_old w2 (.cells #[.slice none 0 0, .slice none 0 0, .slice none 0 0, .slice none 0 0, .slice none 0 0] 28) (Array.getElem?_eq_some_iff.1 HX2.out).1).trans HX2.out)
  have HYa0 := Lib.hid (show (w2.alloc (.cells #[.slice none 0 0, .slice none 0 0, .slice none 0 0, .slice none 0 0, .slice none 0 0] 28)).heap[w2.heap.size]? = some (.cells #[.slice none 0 0, .slice none 0 0, .slice none 0 0, .slice none 0 0, .slice none 0 0] 28 (0, 0)) from heap_alloc_new w2 _)
  have HOa0 := Lib.hid (HO2.out.alloc (.cells #[.slice none 0 0, .slice none 0 0, .slice none 0 0, .slice none 0 0, .slice none 0 0] 28))
  have HRa0 := Lib.hid (HR2.out.alloc (.cells #[.slice none 0 0, .slice none 0 0, .slice none 0 0, .slice none 0 0, .slice none 0 0] 28))
  have HWb := Lib.hid (show w.heap.size < w2.heap.size by (have := HBc.out; omega))
  have HSz0 := Lib.hid (show w2.heap.size + 1 ≤ (w2.alloc (.cells #[.slice none 0 0, .slice none 0 0, .slice none 0 0, .slice none 0 0, .slice none 0 0] 28)).heap.size by simp)
  have HR3 := HRa0
  obtain ⟨k0, k1, k2, k3, k4⟩ := HCN0.out
  clear hcn
  go_wp2_with fail
  clear k0 k1 k2 k3 k4
  refine (list_u32 a0 (by have := HB0.out; omega) p B l2 _ HRa0.out).mono ?_
  intro e u0 h1
  cases hr3 : rdL (rdN 4) a0 l2 with
  | none =>
    obtain ⟨rfl, ho⟩ := h1.no hr3
    exact ⟨rfl, RdP.mkNo (by rw [HS2.out]; exact rdBind_no hr3) (HOa0.out.trans ho)⟩
  | some q =>
  obtain ⟨x0, m0⟩ := q
  obtain ⟨v, rfl, ⟨B0, d0, rfl, hl0, hrow⟩, h2, h3⟩ := h1.yes hr3
  have HS3 := Lib.hid (show ∀ g : _ → Rd ObjD, rdBind (rdL (rdN 4) a0) g l2 = g x0 m0 from fun g => rdBind_at hr3)
  have HLn0 := Lib.hid hl0
  have HO3 := Lib.hid (HOa0.out.trans h3)
  have HX3 := Lib.hid (h3.row HXa0.out (by have := HL.out; omega))
  have HY3 := Lib.hid (h3.row HYa0.out (by have := HL.out; have := HWb.out; omega))
  have HSz1 := Lib.hid (show w2.heap.size + 1 ≤ u0.heap.size from Nat.le_trans HSz0.out h3.size)
  have HRw0 := Lib.hid (hrow.move (lo' := w2.heap.size + 1) HSz0.out (Nat.le_refl _) (fun _ _ _ => rfl))
  have HR4 := Lib.hid h2
  obtain ⟨⟨c0, c1, c2, c3, c4⟩, fr⟩ := row_cells5 (v0 := .slice none 0 0) (v1 := .slice none 0 0) (v2 := .slice none 0 0) (v3 := .slice none 0 0) (v4 := .slice none 0 0) HY3.out
  have HCN1 := Lib.hid (show CntC (u0.setCell ⟨w2.heap.size, 0, none⟩ (.slice B0 a0 d0)) bc oc a0 a1 a2 a3 a4 from CntC.same (HCN0.out.same (h3.block bc (by have := HSz0.out; have := HBc.out; omega) (by have := HBc.out; omega))) (setNew_row (by have := HBc.out; omega)))
  have HXa1 := Lib.hid ((setNew_row (w := u0) (b := w.heap.size) (c := w2.heap.size) (o := 0) (v := .slice B0 a0 d0) (by have := HWb.out; omega)).trans HX3.out)
  have HYa1 := Lib.hid (heap_setCell_same u0 w2.heap.size 0 _ _ (.slice B0 a0 d0) HY3.out)
  have HOa1 := Lib.hid (HO3.out.setNew (b := w2.heap.size) (o := 0) (v := .slice B0 a0 d0) (by have := HWb.out; omega))
  have HRa1 := Lib.hid (HR4.out.setNew (b := w2.heap.size) (o := 0) (v := .slice B0 a0 d0) (by have := HL.out; have := HWb.out; omega))
  have HSz1 := Lib.hid (show w2.heap.size + 1 ≤ (u0.setCell ⟨w2.heap.size, 0, none⟩ (.slice B0 a0 d0)).heap.size by (have := HSz1.out; rw [size_set]; omega))
  obtain ⟨k0, k1, k2, k3, k4⟩ := HCN1.out
  clear h1 h2 h3 hr3 hl0 hrow
  go_wp2_with fail
  clear k0 k1 k2 k3 k4 c0 c1 c2 c3 c4 fr
  refine (list_u64 a1 (by have := HB1.out; omega) p B m0 _ HRa1.out).mono ?_
  intro e u1 h1
  cases hr4 : rdL (rdN 8) a1 m0 with
  | none =>
    obtain ⟨rfl, ho⟩ := h1.no hr4
    exact ⟨rfl, RdP.mkNo (by rw [HS2.out, HS3.out]; exact rdBind_no hr4) (HOa1.out.trans ho)⟩
  | some q =>
  obtain ⟨x1, m1⟩ := q
  obtain ⟨v, rfl, ⟨B1, d1, rfl, hl1, hrow⟩, h2, h3⟩ := h1.yes hr4
  have HS4 := Lib.hid (show ∀ g : _ → Rd ObjD, rdBind (rdL (rdN 8) a1) g m0 = g x1 m1 from fun g => rdBind_at hr4)
  have HLn1 := Lib.hid hl1
  have HO4 := Lib.hid (HOa1.out.trans h3)
  have HX4 := Lib.hid (h3.row HXa1.out (by have := HL.out; omega))
  have HY4 := Lib.hid (h3.row HYa1.out (by have := HL.out; have := HWb.out; omega))
  have HSz2 := Lib.hid (show w2.heap.size + 1 ≤ u1.heap.size from Nat.le_trans HSz1.out h3.size)
  have HRw0 := Lib.hid (((HRw0.out).setNew (c := w2.heap.size) (o := 0) (v := .slice B0 a0 d0) (by omega)).out h3 (by have := HL.out; have := HWb.out; omega) (by rw [size_set]; omega))
  have HRw1 := Lib.hid (hrow.move (lo' := w2.heap.size + 1) HSz1.out (Nat.le_refl _) (fun _ _ _ => rfl))
  have HR5 := Lib.hid h2
  obtain ⟨⟨c0, c1, c2, c3, c4⟩, fr⟩ := row_cells5 (v0 := .slice B0 a0 d0) (v1 := .slice none 0 0) (v2 := .slice none 0 0) (v3 := .slice none 0 0) (v4 := .slice none 0 0) HY4.out
  have HCN2 := Lib.hid (show CntC (u1.setCell ⟨w2.heap.size, 1, none⟩ (.slice B1 a1 d1)) bc oc a0 a1 a2 a3 a4 from CntC.same (HCN1.out.same (h3.block bc (by have := HSz1.out; have := HBc.out; omega) (by have := HBc.out; omega))) (setNew_row (by have := HBc.out; omega)))
  have HXa2 := Lib.hid ((setNew_row (w := u1) (b := w.heap.size) (c := w2.heap.size) (o := 1) (v := .slice B1 a1 d1) (by have := HWb.out; omega)).trans HX4.out)
  have HYa2 := Lib.hid (heap_setCell_same u1 w2.heap.size 1 _ _ (.slice B1 a1 d1) HY4.out)
  have HOa2 := Lib.hid (HO4.out.setNew (b := w2.heap.size) (o := 1) (v := .slice B1 a1 d1) (by have := HWb.out; omega))
  have HRa2 := Lib.hid (HR5.out.setNew (b := w2.heap.size) (o := 1) (v := .slice B1 a1 d1) (by have := HL.out; have := HWb.out; omega))
  have HSz2 := Lib.hid (show w2.heap.size + 1 ≤ (u1.setCell ⟨w2.heap.size, 1, none⟩ (.slice B1 a1 d1)).heap.size by (have := HSz2.out; rw [size_set]; omega))
  obtain ⟨k0, k1, k2, k3, k4⟩ := HCN2.out
  clear h1 h2 h3 hr4 hl1 hrow
  go_wp2_with fail
  clear k0 k1 k2 k3 k4 c0 c1 c2 c3 c4 fr
  refine (list_sym a2 (by have := HB2.out; omega) p B m1 _ HRa2.out).mono ?_
  intro e u2 h1
  cases hr5 : rdL rdSym a2 m1 with
  | none =>
    obtain ⟨rfl, ho⟩ := h1.no hr5
    exact ⟨rfl, RdP.mkNo (by rw [HS2.out, HS3.out, HS4.out]; exact rdBind_no hr5) (HOa2.out.trans ho)⟩
  | some q =>
  obtain ⟨x2, m2⟩ := q
  obtain ⟨v, rfl, ⟨B2, d2, rfl, hl2, hrow⟩, h2, h3⟩ := h1.yes hr5
  have HS5 := Lib.hid (show ∀ g : _ → Rd ObjD, rdBind (rdL rdSym a2) g m1 = g x2 m2 from fun g => rdBind_at hr5)
  have HLn2 := Lib.hid hl2
  have HO5 := Lib.hid (HOa2.out.trans h3)
  have HX5 := Lib.hid (h3.row HXa2.out (by have := HL.out; omega))
  have HY5 := Lib.hid (h3.row HYa2.out (by have := HL.out; have := HWb.out; omega))
  have HSz3 := Lib.hid (show w2.heap.size + 1 ≤ u2.heap.size from Nat.le_trans HSz2.out h3.size)
  have HRw0 := Lib.hid (((HRw0.out).setNew (c := w2.heap.size) (o := 1) (v := .slice B1 a1 d1) (by omega)).out h3 (by have := HL.out; have := HWb.out; omega) (by rw [size_set]; omega))
  have HRw1 := Lib.hid (((HRw1.out).setNew (c := w2.heap.size) (o := 1) (v := .slice B1 a1 d1) (by omega)).out h3 (by have := HL.out; have := HWb.out; omega) (by rw [size_set]; omega))
  have HRw2 := Lib.hid (hrow.move (lo' := w2.heap.size + 1) HSz2.out (Nat.le_refl _) (fun _ _ _ => rfl))
  have HR6 := Lib.hid h2
  obtain ⟨⟨c0, c1, c2, c3, c4⟩, fr⟩ := row_cells5 (v0 := .slice B0 a0 d0) (v1 := .slice B1 a1 d1) (v2 := .slice none 0 0) (v3 := .slice none 0 0) (v4 := .slice none 0 0) HY5.out
  have HCN3 := Lib.hid (show CntC (u2.setCell ⟨w2.heap.size, 2, none⟩ (.slice B2 a2 d2)) bc oc a0 a1 a2 a3 a4 from CntC.same (HCN2.out.same (h3.block bc (by have := HSz2.out; have := HBc.out; omega) (by have := HBc.out; omega))) (setNew_row (by have := HBc.out; omega)))
  have HXa3 := Lib.hid ((setNew_row (w := u2) (b := w.heap.size) (c := w2.heap.size) (o := 2) (v := .slice B2 a2 d2) (by have := HWb.out; omega)).trans HX5.out)
  have HYa3 := Lib.hid (heap_setCell_same u2 w2.heap.size 2 _ _ (.slice B2 a2 d2) HY5.out)
  have HOa3 := Lib.hid (HO5.out.setNew (b := w2.heap.size) (o := 2) (v := .slice B2 a2 d2) (by have := HWb.out; omega))
  have HRa3 := Lib.hid (HR6.out.setNew (b := w2.heap.size) (o := 2) (v := .slice B2 a2 d2) (by have := HL.out; have := HWb.out; omega))
  have HSz3 := Lib.hid (show w2.heap.size + 1 ≤ (u2.setCell ⟨w2.heap.size, 2, none⟩ (.slice B2 a2 d2)).heap.size by (have := HSz3.out; rw [size_set]; omega))
  obtain ⟨k0, k1, k2, k3, k4⟩ := HCN3.out
  clear h1 h2 h3 hr5 hl2 hrow
  go_wp2_with fail
  clear k0 k1 k2 k3 k4 c0 c1 c2 c3 c4 fr
  refine (list_rel a3 (by have := HB3.out; omega) p B m2 _ HRa3.out).mono ?_
  intro e u3 h1
  cases hr6 : rdL rdRel a3 m2 with
  | none =>
    obtain ⟨rfl, ho⟩ := h1.no hr6
    exact ⟨rfl, RdP.mkNo (by rw [HS2.out, HS3.out, HS4.out, HS5.out]; exact rdBind_no hr6) (HOa3.out.trans ho)⟩
  | some q =>
  obtain ⟨x3, m3⟩ := q
  obtain ⟨v, rfl, ⟨B3, d3, rfl, hl3, hrow⟩, h2, h3⟩ := h1.yes hr6
  have HS6 := Lib.hid (show ∀ g : _ → Rd ObjD, rdBind (rdL rdRel a3) g m2 = g x3 m3 from fun g => rdBind_at hr6)
  have HLn3 := Lib.hid hl3
  have HO6 := Lib.hid (HOa3.out.trans h3)
  have HX6 := Lib.hid (h3.row HXa3.out (by have := HL.out; omega))
  have HY6 := Lib.hid (h3.row HYa3.out (by have := HL.out; have := HWb.out; omega))
  have HSz4 := Lib.hid (show w2.heap.size + 1 ≤ u3.heap.size from Nat.le_trans HSz3.out h3.size)
  have HRw0 := Lib.hid (((HRw0.out).setNew (c := w2.heap.size) (o := 2) (v := .slice B2 a2 d2) (by omega)).out h3 (by have := HL.out; have := HWb.out; omega) (by rw [size_set]; omega))
  have HRw1 := Lib.hid (((HRw1.out).setNew (c := w2.heap.size) (o := 2) (v := .slice B2 a2 d2) (by omega)).out h3 (by have := HL.out; have := HWb.out; omega) (by rw [size_set]; omega))
  have HRw2 := Lib.hid (((HRw2.out).setNew (c := w2.heap.size) (o := 2) (v := .slice B2 a2 d2) (by omega)).out h3 (by have := HL.out; have := HWb.out; omega) (by rw [size_set]; omega))
  have HRw3 := Lib.hid (hrow.move (lo' := w2.heap.size + 1) HSz3.out (Nat.le_refl _) (fun _ _ _ => rfl))
  have HR7 := Lib.hid h2
  obtain ⟨⟨c0, c1, c2, c3, c4⟩, fr⟩ := row_cells5 (v0 := .slice B0 a0 d0) (v1 := .slice B1 a1 d1) (v2 := .slice B2 a2 d2) (v3 := .slice none 0 0) (v4 := .slice none 0 0) HY6.out
  have HCN4 := Lib.hid (show CntC (u3.setCell ⟨w2.heap.size, 3, none⟩ (.slice B3 a3 d3)) bc oc a0 a1 a2 a3 a4 from CntC.same (HCN3.out.same (h3.block bc (by have := HSz3.out; have := HBc.out; omega) (by have := HBc.out; omega))) (setNew_row (by have := HBc.out; omega)))
  have HXa4 := Lib.hid ((setNew_row (w := u3) (b := w.heap.size) (c := w2.heap.size) (o := 3) (v := .slice B3 a3 d3) (by have := HWb.out; omega)).trans HX6.out)
  have HYa4 := Lib.hid (heap_setCell_same u3 w2.heap.size 3 _ _ (.slice B3 a3 d3) HY6.out)
  have HOa4 := Lib.hid (HO6.out.setNew (b := w2.heap.size) (o := 3) (v := .slice B3 a3 d3) (by have := HWb.out; omega))
  have HRa4 := Lib.hid (HR7.out.setNew (b := w2.heap.size) (o := 3) (v := .slice B3 a3 d3) (by have := HL.out; have := HWb.out; omega))
  have HSz4 := Lib.hid (show w2.heap.size + 1 ≤ (u3.setCell ⟨w2.heap.size, 3, none⟩ (.slice B3 a3 d3)).heap.size by (have := HSz4.out; rw [size_set]; omega))
  obtain ⟨k0, k1, k2, k3, k4⟩ := HCN4.out
  clear h1 h2 h3 hr6 hl3 hrow
  go_wp2_with fail
  clear k0 k1 k2 k3 k4 c0 c1 c2 c3 c4 fr
  refine (list_ent a4 (by have := HB4.out; omega) p B m3 _ HRa4.out).mono ?_
  intro e u4 h1
  cases hr7 : rdL rdEnt a4 m3 with
  | none =>
    obtain ⟨rfl, ho⟩ := h1.no hr7
    exact ⟨rfl, RdP.mkNo (by rw [HS2.out, HS3.out, HS4.out, HS5.out, HS6.out]; exact rdBind_no hr7) (HOa4.out.trans ho)⟩
  | some q =>
  obtain ⟨x4, m4⟩ := q
  obtain ⟨v, rfl, ⟨B4, d4, ecs, rfl, hl4, hrow, hent⟩, h2, h3⟩ := h1.yes hr7
  have HS7 := Lib.hid (show ∀ g : _ → Rd ObjD, rdBind (rdL rdEnt a4) g m3 = g x4 m4 from fun g => rdBind_at hr7)
  have HLn4 := Lib.hid hl4
  have HO7 := Lib.hid (HOa4.out.trans h3)
  have HX7 := Lib.hid (h3.row HXa4.out (by have := HL.out; omega))
  have HY7 := Lib.hid (h3.row HYa4.out (by have := HL.out; have := HWb.out; omega))
  have HSz5 := Lib.hid (show w2.heap.size + 1 ≤ u4.heap.size from Nat.le_trans HSz4.out h3.size)
  have HRw0 := Lib.hid (((HRw0.out).setNew (c := w2.heap.size) (o := 3) (v := .slice B3 a3 d3) (by omega)).out h3 (by have := HL.out; have := HWb.out; omega) (by rw [size_set]; omega))
  have HRw1 := Lib.hid (((HRw1.out).setNew (c := w2.heap.size) (o := 3) (v := .slice B3 a3 d3) (by omega)).out h3 (by have := HL.out; have := HWb.out; omega) (by rw [size_set]; omega))
  have HRw2 := Lib.hid (((HRw2.out).setNew (c := w2.heap.size) (o := 3) (v := .slice B3 a3 d3) (by omega)).out h3 (by have := HL.out; have := HWb.out; omega) (by rw [size_set]; omega))
  have HRw3 := Lib.hid (((HRw3.out).setNew (c := w2.heap.size) (o := 3) (v := .slice B3 a3 d3) (by omega)).out h3 (by have := HL.out; have := HWb.out; omega) (by rw [size_set]; omega))
  have HRw4 := Lib.hid (hrow.move (lo' := w2.heap.size + 1) HSz4.out (Nat.le_refl _) (fun _ _ _ => rfl))
  have HEn := Lib.hid (hent.lower (lo' := w2.heap.size + 1) HSz4.out)
  have HR8 := Lib.hid h2
  obtain ⟨⟨c0, c1, c2, c3, c4⟩, fr⟩ := row_cells5 (v0 := .slice B0 a0 d0) (v1 := .slice B1 a1 d1) (v2 := .slice B2 a2 d2) (v3 := .slice B3 a3 d3) (v4 := .slice none 0 0) HY7.out
  clear h1 h2 h3 hr7 hl4 hrow hent
  obtain ⟨⟨z0, z1, z2, z3, z4⟩, gr⟩ := row_cells5 HX7.out
  have hne : w.heap.size ≠ w2.heap.size := by have := HWb.out; omega
  go_wp2
  have HW := Lib.hid (fill5 ((setNew_row (w := u4) (b := w.heap.size) (c := w2.heap.size) (o := 4) (v := .slice B4 a4 d4) hne).trans HX7.out) (.slice B0 a0 d0) (.slice B1 a1 d1) (.slice B2 a2 d2) (.slice B3 a3 d3) (.slice B4 a4 d4))
  refine bodyPost_ret (res_obj (b := w.heap.size) ?hT HW.out) rfl ?_
  case hT => rfl
  refine RdP.mkYes (x := ⟨x0, x1, x2, x3, x4⟩) (l' := m4) (by rw [HS2.out, HS3.out, HS4.out, HS5.out, HS6.out, HS7.out]; rfl) ?ho ?hv ?hr
  case ho => (repeat (first | with_reducible exact HO7.out | refine RdOut.setNew ?_ (by have := HWb.out; omega)))
  case hr => (repeat (first | with_reducible exact HR8.out | refine RdIs.setNew ?_ (by have := HL.out; have := HWb.out; omega)))
  case hv =>
    have hz : ∀ {A : Option Addr} {cs : List Value}, RowC u4 (w2.heap.size + 1) u4.heap.size A cs → RowC _ w.heap.size u4.heap.size A cs := fun {A} {cs} h => ((((((h.setNew (c := w2.heap.size) (o := 4) (v := .slice B4 a4 d4) (by omega)).setNew (c := w.heap.size) (o := 0) (v := .slice B0 a0 d0) (by have := HWb.out; omega)).setNew (c := w.heap.size) (o := 1) (v := .slice B1 a1 d1) (by have := HWb.out; omega)).setNew (c := w.heap.size) (o := 2) (v := .slice B2 a2 d2) (by have := HWb.out; omega)).setNew (c := w.heap.size) (o := 3) (v := .slice B3 a3 d3) (by have := HWb.out; omega)).setNew (c := w.heap.size) (o := 4) (v := .slice B4 a4 d4) (by have := HWb.out; omega)).move (by have := HWb.out; omega) (Nat.le_refl _) (fun _ _ _ => rfl)
    have hy : ∀ {W : World} {hi : Nat} {A : Option Addr} {cs : List Value}, RowC W w.heap.size u4.heap.size A cs → u4.heap.size = hi → RowC W w.heap.size hi A cs := fun h e => e ▸ h
    have he := ((((((HEn.out.setNew (c := w2.heap.size) (o := 4) (v := .slice B4 a4 d4) (by omega)).setNew (c := w.heap.size) (o := 0) (v := .slice B0 a0 d0) (by have := HWb.out; omega)).setNew (c := w.heap.size) (o := 1) (v := .slice B1 a1 d1) (by have := HWb.out; omega)).setNew (c := w.heap.size) (o := 2) (v := .slice B2 a2 d2) (by have := HWb.out; omega)).setNew (c := w.heap.size) (o := 3) (v := .slice B3 a3 d3) (by have := HWb.out; omega)).setNew (c := w.heap.size) (o := 4) (v := .slice B4 a4 d4) (by have := HWb.out; omega)).lower (lo' := w.heap.size) (by have := HWb.out; omega)
    refine ⟨B0, d0, B1, d1, B2, d2, B3, d3, B4, d4, ecs, ?_, hy (hz HRw0.out) (by simp only [size_set]), hy (hz HRw1.out) (by simp only [size_set]), hy (hz HRw2.out) (by simp only [size_set]), hy (hz HRw3.out) (by simp only [size_set]), hy (hz HRw4.out) (by simp only [size_set]), ?_⟩
    · simp only [HLn0.out, HLn1.out, HLn2.out, HLn3.out, HLn4.out]
    · simp only [size_set]; exact he
end Go.Proofs.YtmpieeadkkeniaaGreatDoor
namespace Go.Proofs.YtmpieeadkkeniaaGreatDoor
set_option maxRecDepth 100000
open Go.RowKit
set_option linter.unusedVariables false
def rdTop (l : List Int) : Option ObjD := match rdObj l with
  | some (d, []) => some d
  | _ => none
/-- what a call that reads objects comes to -/
def TopP (r : Option ObjD) (w : World) (e : Ending) (w' : World) : Prop :=
  Below w.heap.size w w' ∧ match r with
    | none => e = lackP
    | some d => ∃ v, e = .returned v ∧ ObjAt w' w.heap.size w'.heap.size d v
theorem TopP.mkNo {r : Option ObjD} {w w' : World} (hr : r = none) (hb : Below w.heap.size w w') : TopP r w lackP w' := by subst hr; exact ⟨hb, rfl⟩
theorem TopP.mkYes {r : Option ObjD} {w w' : World} {d : ObjD} {v : Value} (hr : r = some d) (hb : Below w.heap.size w w') (ho : ObjAt w' w.heap.size w'.heap.size d v) : TopP r w (.returned v) w' := by subst hr; exact ⟨hb, v, rfl, ho⟩
theorem res_all {T : Array Value} {b : Nat} {W : World} {v0 v1 v2 v3 v4 : Value} (hT : T[2]? = some (.pointer (some ⟨b, 0, none⟩))) (h : W.heap[b]? = some (.cells #[v0, v1, v2, v3, v4] 28 (0, 0))) :
    (results Tryz.f32 T).run Tryz.prog W = .ok (.agg #[v0, v1, v2, v3, v4]) W := by
  have h0 := cell_of_row W b 0 _ _ _ h
  have h1 := cell_of_row W b 1 _ _ _ h
  have h2 := cell_of_row W b 2 _ _ _ h
  have h3 := cell_of_row W b 3 _ _ _ h
  have h4 := cell_of_row W b 4 _ _ _ h
  simp only [List.getElem?_toArray, List.getElem?_cons_zero, List.getElem?_cons_succ] at h0 h1 h2 h3 h4
  simp [results, Tryz.results32, go_sem, hT, h0, h1, h2, h3, h4]
/-- bytes in a block below hi -/
def SlB (w : World) (hi : Nat) (A : Option Addr) (l : List Int) : Prop := l = [] ∨ ∃ b off, A = some ⟨b, off, none⟩ ∧ b < hi ∧ ∀ k, k < l.length → w.cell? ⟨b, off + k, none⟩ = some (.int .u8 (nth l k))
theorem RdIs.make {w : World} {A : Option Addr} {l : List Int} {n c : Nat} {o : Obj} (hs : SlB w w.heap.size A l) (hn : l.length = n) (ha : AllB l) (hc : n ≤ c) (hm : c ≤ maxLen) :
    RdIs ((w.alloc o).alloc (.cells #[.slice A n c] 122)) (w.heap.size + 1) (w.heap.size + 2) l := by
  have hp : ((w.alloc o).alloc (.cells #[.slice A n c] 122)).heap[w.heap.size + 1]? = some (.cells #[.slice A n c] 122 (0, 0)) := by
    have h := heap_alloc_new (w.alloc o) (.cells #[.slice A n c] 122); simpa using h
  refine ⟨A, n, c, hp, hn.symm, ha, ?_, hc, hm, by omega, by simp⟩
  rcases hs with h | ⟨b, off, e, hb, hcell⟩
  · exact .inl h
  · refine .inr ⟨b, off, e, by omega, by omega, fun k hk => ?_⟩
    rw [World.cell?_of_block ((heap_alloc_old (w.alloc o) _ (r := b) (by simp; omega)).trans (heap_alloc_old w o (r := b) hb))]
    exact hcell k hk
theorem RdOut.to_below {p : Nat} {w w0 w' : World} (h : RdOut p w0 w') (hb : Below w.heap.size w w0) (hp : w.heap.size ≤ p) : Below w.heap.size w w' :=
  ⟨h.os.trans hb.os, h.tape.trans hb.tape, h.output.trans hb.output, Nat.le_trans hb.size h.size, fun k hk => (h.block k (Nat.lt_of_lt_of_le hk hb.size) (by omega)).trans (hb.block k hk)⟩
theorem below_setNew {w w1 : World} {b o : Nat} {v : Value} (h : Below w.heap.size w w1) (hb : w.heap.size ≤ b) : Below w.heap.size w (w1.setCell ⟨b, o, none⟩ v) :=
  ⟨h.os, h.tape, h.output, by rw [size_set]; exact h.size, fun k hk => (setNew_row (by omega)).trans (h.block k hk)⟩
theorem ObjAt.setNew {w : World} {lo hi c o : Nat} {d : ObjD} {v u : Value} (h : ObjAt w lo hi d v) (hc : c < lo) : ObjAt (w.setCell ⟨c, o, none⟩ u) lo hi d v :=
  h.move (Nat.le_refl _) (Nat.le_refl _) (fun b h1 h2 => setNew_row (by omega))
theorem rdTop_of {l r : List Int} {d : ObjD} (h : rdObj l = some (d, r)) : (r ≠ [] → rdTop l = none) ∧ (r = [] → rdTop l = some d) := by
  unfold rdTop
  rw [h]
  constructor
  · intro hr
    cases r with
    | nil => exact absurd rfl hr
    | cons x r => rfl
  · intro hr; subst hr; rfl
set_option maxHeartbeats 1000000 in
theorem readAll_any (A : Option Addr) (l : List Int) (n c : Nat) (w : World) (hs : SlB w w.heap.size A l) (hn : l.length = n) (ha : AllB l) (hc : n ≤ c) (hm : c ≤ maxLen) :
    Calls Tryz.prog 32 #[.slice A n c] w (TopP (rdTop l) w) := by
  have HR := Lib.hid (RdIs.make (o := .cells #[.slice none 0 0, .slice none 0 0, .slice none 0 0, .slice none 0 0, .slice none 0 0] 28) hs hn ha hc hm)
  have HB := Lib.hid (((Below.refl w.heap.size w).alloc (Nat.le_refl _) (.cells #[.slice none 0 0, .slice none 0 0, .slice none 0 0, .slice none 0 0, .slice none 0 0] 28)).alloc (by simp) (.cells #[.slice A n c] 122))
  have HX := Lib.hid (show ((w.alloc (.cells #[.slice none 0 0, .slice none 0 0, .slice none 0 0, .slice none 0 0, .slice none 0 0] 28)).alloc (.cells #[.slice A n c] 122)).heap[w.heap.size]? = some (.cells #[.slice none 0 0, .slice none 0 0, .slice none 0 0, .slice none 0 0, .slice none 0 0] 28 (0, 0)) by exact (heap_alloc_old _ _ (by simp)).trans (heap_alloc_new w _))
  have HSz := Lib.hid (show ((w.alloc (.cells #[.slice none 0 0, .slice none 0 0, .slice none 0 0, .slice none 0 0, .slice none 0 0] 28)).alloc (.cells #[.slice A n c] 122)).heap.size = w.heap.size + 2 by simp)
  clear hs hn ha hc hm
  go_enter Tryz.func32, Tryz.ntmps32
  go_wp2_with fail
  refine (rdobj_any (w.heap.size + 1) (w.heap.size + 2) l _ HR.out).mono ?_
  intro e w1 h1
  cases hr : rdObj l with
  | none =>
    obtain ⟨rfl, ho⟩ := h1.no hr
    exact ⟨rfl, TopP.mkNo (by unfold rdTop; rw [hr]) (ho.to_below HB.out (by omega))⟩
  | some q =>
  obtain ⟨d, r⟩ := q
  obtain ⟨v, rfl, hobj, h2, h3⟩ := h1.yes hr
  have HTop := Lib.hid (rdTop_of hr)
  have HB1 := Lib.hid (h3.to_below HB.out (by omega))
  have HX1 := Lib.hid (h3.row HX.out (by omega))
  have hobj2 : ObjAt w1 (w.heap.size + 2) w1.heap.size d v := by have := hobj; unfold ObjV at this; rw [HSz.out] at this; exact this
  have HOb := Lib.hid hobj2
  have HSz1 := Lib.hid (show w.heap.size + 2 ≤ w1.heap.size by have := h3.size; rw [HSz.out] at this; exact this)
  obtain ⟨A', n', c', hV⟩ := h2
  have hcell := hV.cell
  have hfree := hV.free
  have hl' := hV.2.1
  have HN := Lib.hid hl'
  obtain ⟨A1, c1, A2, c2, A3, c3, A4, c4, A5, c5, es, rfl, _⟩ := hobj
  clear h1 h3 hr hobj2 hV hl'
  have hlt : w.heap.size + 1 < w1.heap.size := by have := HSz1.out; omega
  by_cases h0 : n' = 0
  case neg =>
    have hx : ((n' : Int) == 0) = false := by rw [beq_eq_false_iff_ne]; omega
    have HZ := Lib.hid h0
    clear h0
    go_wp2_with fail
    refine (want_no _).mono ?_
    rintro e w' ⟨rfl, rfl⟩
    refine ⟨rfl, TopP.mkNo (HTop.out.1 (fun e => by have h1 := HN.out; have h2 := HZ.out; subst e; exact h2 h1)) (HB1.out.trans (((Below.refl _ _).alloc (Nat.le_refl _) _).mono HB1.out.size))⟩
  subst h0
  have HR0 := Lib.hid (show r = [] from List.eq_nil_of_length_eq_zero HN.out.symm)
  go_wp2_with fail
  refine (want_yes _).mono ?_
  rintro e w' ⟨rfl, rfl⟩
  clear hcell hfree
  have HXa := Lib.hid ((heap_alloc_old w1 (.cells #[.slice A1 d.text.length c1, .slice A2 d.data.length c2, .slice A3 d.syms.length c3, .slice A4 d.rels.length c4, .slice A5 d.ents.length c5] 28) (Array.getElem?_eq_some_iff.1 HX1.out).1).trans HX1.out)
  obtain ⟨⟨z0, z1, z2, z3, z4⟩, gr⟩ := row_cells5 HXa.out
  have hne : w.heap.size ≠ w1.heap.size := by omega
  go_wp2
  have HW := Lib.hid (fill5 HXa.out (.slice A1 d.text.length c1) (.slice A2 d.data.length c2) (.slice A3 d.syms.length c3) (.slice A4 d.rels.length c4) (.slice A5 d.ents.length c5))
  refine bodyPost_ret (res_all (b := w.heap.size) ?hT HW.out) rfl ?_
  case hT => rfl
  refine TopP.mkYes (HTop.out.2 HR0.out) ?hb ?ho
  case hb => (repeat (first | with_reducible exact (HB1.out.trans (((Below.refl _ _).alloc (Nat.le_refl _) _).mono HB1.out.size)) | refine below_setNew ?_ (Nat.le_refl _)))
  case ho =>
    have h1 : ObjAt (w1.alloc (.cells #[.slice A1 d.text.length c1, .slice A2 d.data.length c2, .slice A3 d.syms.length c3, .slice A4 d.rels.length c4, .slice A5 d.ents.length c5] 28)) (w.heap.size + 1) w1.heap.size d _ := HOb.out.move (by omega) (Nat.le_refl _) (fun b h1 h2 => heap_alloc_old w1 _ h2)
    have h2 := (((((h1.setNew (c := w.heap.size) (o := 0) (u := .slice A1 d.text.length c1) (by omega)).setNew (c := w.heap.size) (o := 1) (u := .slice A2 d.data.length c2) (by omega)).setNew (c := w.heap.size) (o := 2) (u := .slice A3 d.syms.length c3) (by omega)).setNew (c := w.heap.size) (o := 3) (u := .slice A4 d.rels.length c4) (by omega)).setNew (c := w.heap.size) (o := 4) (u := .slice A5 d.ents.length c5) (by omega))
    exact h2.move (by omega) (by simp only [size_set]; simp) (fun _ _ _ => rfl)
end Go.Proofs.YtmpieeadkkeniaaGreatDoor
