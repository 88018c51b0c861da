/- Layer 6: the reader of package obj: lists. -/
import Derived.Test.YtfdpbogbnfkilaaDoorObjRdB
import Derived.Test.YtfdpbogbnfkilaaDoorObjWr
namespace Go.Proofs.YtfdpbogbnfkilaaDoor
set_option maxRecDepth 100000
open Go.RowKit
set_option linter.unusedVariables false
/-- cells that lie in a block from lo on, below hi -/
def RowC (w : World) (lo hi : Nat) (A : Option Addr) (cs : List Value) : Prop := cs = [] ∨ ∃ b o, A = some ⟨b, o, none⟩ ∧ lo ≤ b ∧ b < hi ∧ ∀ j v, cs[j]? = some v → w.cell? ⟨b, o + j, none⟩ = some v
theorem RowC.of_own {w : World} {base sz n c : Nat} {ty : TypeId} {A : Option Addr} {cs : List Value} (h : w.ownsRow base ty sz (.slice A n c) n cs) : RowC w base w.heap.size A cs := by
  by_cases e : cs = []
  · exact .inl e
  rcases h.2 with ⟨h1, h2⟩ | ⟨g, cap, cur, h1, h2, h3, _⟩
  · exact absurd (List.eq_nil_of_length_eq_zero (by rw [h.1, h2, Nat.zero_mul])) e
  · cases h1
    refine .inr ⟨g, 0, rfl, h2, (Array.getElem?_eq_some_iff.1 h3).1, fun j v hj => ?_⟩
    have := h.cells (g := g) rfl j v hj
    rwa [addO] at this
theorem rdL_fail {α : Type} {f : Rd α} {l : List Int} {k : Nat} (h : rdL f k l = none) : ∀ n, k ≤ n → rdL f n l = none := by
  intro n hn
  induction n with
  | zero => have : k = 0 := by omega
            subst this; exact h
  | succ n ih =>
    by_cases e : k = n + 1
    · subst e; exact h
    · rw [rdL_snoc]; exact rdBind_no (ih (by omega))
theorem rdL_stop {α : Type} {f : Rd α} {l r : List Int} {k n : Nat} {xs : List α} (h : rdL f k l = some (xs, r)) (hf : f r = none) (hn : k < n) : rdL f n l = none :=
  rdL_fail (k := k + 1) (by rw [rdL_snoc, rdBind_at h]; exact rdBind_no hf) n hn
theorem rdL_go {α : Type} {f : Rd α} {l r r' : List Int} {k : Nat} {xs : List α} {x : α} (h : rdL f k l = some (xs, r)) (hf : f r = some (x, r')) : rdL f (k + 1) l = some (xs ++ [x], r') := by
  rw [rdL_snoc, rdBind_at h, rdBind_at hf]; rfl
theorem news_at {w w2 : World} {cs : List Value} {ty : TypeId} (e : w2 = w.alloc (.cells cs.toArray ty)) : ∀ j u, cs[j]? = some u → w2.cell? ((⟨w.heap.size, 0, none⟩ : Addr).add j) = some u := by
  intro j u hu
  subst e
  rw [addO]
  have h1 : (w.alloc (.cells cs.toArray ty)).heap[w.heap.size]? = some (.cells cs.toArray ty) := heap_alloc_new w _
  have := cell_of_row (w.alloc (.cells cs.toArray ty)) w.heap.size (0 + j) _ _ _ h1
  rw [this]
  simpa using hu
theorem OutO.rowKept {w w' : World} {p base sz n : Nat} {ty : TypeId} {v : Value} {cs : List Value} (h : w.ownsRow base ty sz v n cs) (ho : RdOut p w w') (hp : p < base) : w'.ownsRow base ty sz v n cs := by
  refine ⟨h.1, ?_⟩
  rcases h.2 with h | ⟨g, cap, cur, rfl, h1, h2, h3⟩
  · exact .inl h
  · exact .inr ⟨g, cap, cur, rfl, h1, by rw [ho.block g (Array.getElem?_eq_some_iff.1 h2).1 (by omega)]; exact h2, h3⟩
theorem RdOut.grown {p : Nat} {w w1 w2 : World} {row : Option Nat} (h : RdOut p w w1) (hg : w1.grownBy w2 row) (hr : ∀ g, row = some g → w.heap.size ≤ g) : RdOut p w w2 :=
  ⟨hg.os.trans h.os, hg.tape.trans h.tape, hg.output.trans h.output, Nat.le_trans h.size hg.size, fun k hk hn => by
    rw [hg.block k (Nat.lt_of_lt_of_le hk h.size) (fun e => by have := hr k e.symm; omega)]; exact h.block k hk hn⟩
theorem own_ge {w : World} {base sz n : Nat} {ty : TypeId} {v : Value} {cs : List Value} (h : w.ownsRow base ty sz v n cs) : ∀ g, v.ownBlock = some g → base ≤ g := fun g hg => (ownO_lt h hg).2.1
/-- what a list of elements is read as: a row of their cells -/
def LisV {α : Type} (enc : α → List Value) (w : World) (n : Nat) (xs : List α) (v : Value) (w' : World) : Prop := ∃ A c, v = .slice A n c ∧ xs.length = n ∧ RowC w' w.heap.size w'.heap.size A (xs.flatMap enc)
def LstR {α : Type} (w : World) (p B : Nat) (l0 : List Int) (f : Rd α) (ty : TypeId) (enc : α → List Value) (sz : Nat) (k : Nat) (v : Value) (wr : World) : Prop :=
  ∃ xs l, rdL f k l0 = some (xs, l) ∧ RdIs wr p B l ∧ RdOut p w wr ∧ wr.ownsRow w.heap.size ty sz v k (xs.flatMap enc) ∧ xs.length = k
theorem LstR.start {α : Type} {w : World} {p B : Nat} {l0 : List Int} {f : Rd α} {ty : TypeId} {enc : α → List Value} {sz : Nat} (h : RdIs w p B l0) : LstR w p B l0 f ty enc sz 0 (.slice none 0 0) w :=
  ⟨[], l0, rfl, h, OutO.refl _ _, World.ownsRow_nil w _ _ _, rfl⟩
theorem LstR.next {α : Type} {w w1 w2 w3 : World} {p B : Nat} {l0 : List Int} {f : Rd α} {ty : TypeId} {enc : α → List Value} {sz k : Nat} {v v' : Value} {xs : List α} {r r' : List Int} {x : α}
    (h1 : rdL f k l0 = some (xs, r)) (hf : f r = some (x, r')) (hl : xs.length = k) (ho : RdOut p w w1) (hR : RdIs w1 p B r')
    (hown : w1.ownsRow w.heap.size ty sz v k (xs.flatMap enc)) (hp : p < B) (hB : B ≤ w.heap.size)
    (hb : Below w1.heap.size w1 w2) (hr : w3.ownsRow w.heap.size ty sz v' (k + 1) (xs.flatMap enc ++ enc x)) (hg : w2.grownBy w3 v.ownBlock) : LstR w p B l0 f ty enc sz (k + 1) v' w3 := by
  have hge := own_ge hown
  refine ⟨xs ++ [x], r', rdL_go h1 hf, (hR.below hb).grown hg (fun g e => Nat.le_trans hB (hge g e)), (ho.trans (RdOut.below hb)).grown hg hge, ?_, by simp [hl]⟩
  rw [List.flatMap_append, List.flatMap_cons, List.flatMap_nil, List.append_nil]
  exact hr
def encI64 (x : Int) : List Value := [.int .i64 x]
def encU32 (x : Int) : List Value := [.int .u32 x]
def encU64 (x : Int) : List Value := [.int .u64 x]

theorem info_small : (Tryd.prog.info? 3).map (fun i => (i.zero, i.size, i.bytes)) = some (some (.int .i64 0), 1, 8) := by kernel_rfl
set_option maxHeartbeats 1000000 in
theorem list_small (n : Nat) (hn : n ≤ 1000000) (p B : Nat) (l : List Int) (w : World) (hR : RdIs w p B l) :
    Calls Tryd.prog 98 #[.int .i64 n, .func (Fn.func 142) #[.pointer (some ⟨p, 0, none⟩)] #[]] w (RdP p B (rdL (rdN 1) n l) (LisV encI64 w n) w) := by
  have HR := Lib.hid hR
  have HP := Lib.hid hR.lt
  clear hR
  obtain ⟨i0, hi, hz0, hz1, hz2⟩ := info_parts info_small
  go_enter Tryd.func98, Tryd.ntmps98
  go_wp2
  have hat : LstR w p B l (rdN 1) 3 encI64 1 0 (.slice none 0 0) w := LstR.start HR.out
  go_loopw [5, 7] (fun v i wr => ∃ k : Nat, k ≤ n ∧ i = .int .i64 k ∧ LstR w p B l (rdN 1) 3 encI64 1 k v wr) (fun _ i _ => n - (intOf i).toNat)
  case atStart => exact ⟨0, by omega, rfl, hat⟩
  case round =>
    obtain ⟨k, hk, rfl, he⟩ := hrel
    clear hat
    obtain ⟨xs, r, hrd, hRI, hout, hown, hlen⟩ := he
    have HRd := Lib.hid hrd
    have HRI := Lib.hid hRI
    have HOut := Lib.hid hout
    have HOwn := Lib.hid hown
    have HLen := Lib.hid hlen
    clear hrd hRI hout hown hlen
    by_cases hlt : k < n
    · have k0 : (0 : Int) ≤ k := by omega
      have k1 : (k : Int) < n := by omega
      cases hf : (rdN 1) r with
      | none =>
        have HF := Lib.hid hf
        have HN := Lib.hid (rdL_stop HRd.out hf hlt)
        clear hf
        go_wp2_with fail
        refine (small_any p B r _ HRI.out).mono ?_
        intro e w1 h1
        obtain ⟨rfl, h3⟩ := h1.no HF.out
        exact ⟨rfl, RdP.mkNo HN.out (HOut.out.trans h3)⟩
      | some xr =>
        obtain ⟨x, r'⟩ := xr
        have HF := Lib.hid hf
        clear hf
        go_wp2_with fail
        refine (small_any p B r _ HRI.out).mono ?_
        intro e w1 h1
        obtain ⟨v, rfl, rfl, h2, h3⟩ := h1.yes HF.out
        have H2 := Lib.hid h2
        have H3 := Lib.hid (HOut.out.trans h3)
        have HO1 := Lib.hid (OutO.rowKept HOwn.out h3 (by have := HP.out; omega))
        clear h1 h2 h3
        have HM := Lib.hid (show k + 1 ≤ maxLen by unfold maxLen; omega)
        have HB := Lib.hid (show (k + 1) * 8 ≤ 140737488355328 by omega)
        have HL1 := Lib.hid (show (encI64 x).length = 1 * 1 from rfl)
        have H1c := Lib.hid (show ∀ u ∈ encI64 x, u.oneCell' = true from fun u hu => by unfold encI64 at hu; simp only [List.mem_singleton] at hu; subst hu; rfl)
        have HBl := Lib.hid ((Below.refl w1.heap.size w1).alloc (Nat.le_refl _) (.cells #[.int .i64 x] 3))
        have HZ := Lib.hid (show w.heap.size ≤ (w1.alloc (.cells #[.int .i64 x] 3)).heap.size by (have := H3.out.size; simp; omega))
        have HN := Lib.hid (news_at (w := w1) (w2 := w1.alloc (.cells #[.int .i64 x] 3)) (cs := encI64 x) (ty := 3) rfl)
        have HO2 := Lib.hid (rowO_below HO1.out HBl.out)
        go_wp2_with (at_builtin; (refine wpList_append_at6 rfl _ _ 43 rfl w.heap.size 3 i0 (.int .i64 0) 1 8 Tryd.underlying43 hi hz0 hz1 hz2 rfl (by decide) u5 k (xs.flatMap encI64) ?hs HO2.out ⟨w1.heap.size, 0, none⟩ 1 1 (encI64 x) ?hx HL1.out HN.out H1c.out HM.out HB.out HZ.out ?_; (case hs => rfl); (case hx => rfl); intro v' w3 hr hg hv'; have HK := Lib.hid (LstR.next HRd.out HF.out HLen.out H3.out H2.out HO1.out HP.out.1 HP.out.2 HBl.out hr hg); clear hr hg hv'))
        go_roundw
        case rel => exact ⟨k + 1, by omega, by go_num, HK.out⟩
        case measure => simp [intOf]; omega
    · have hkn : k = n := by omega
      have k1 : ¬ (k : Int) < n := by omega
      have HKN := Lib.hid hkn
      obtain ⟨A, c, rfl⟩ := ownO_slice HOwn.out
      clear hkn hlt
      go_wp2
      go_ret
      exact RdP.mkYes (x := xs) (l' := r) (by rw [← HKN.out]; exact HRd.out) HOut.out ⟨A, c, by rw [HKN.out]; rfl, by rw [← HKN.out]; exact HLen.out, RowC.of_own HOwn.out⟩ HRI.out

set_option maxHeartbeats 1000000 in
theorem list_count (n : Nat) (hn : n ≤ 1000000) (p B : Nat) (l : List Int) (w : World) (hR : RdIs w p B l) :
    Calls Tryd.prog 98 #[.int .i64 n, .func (Fn.func 99) #[.pointer (some ⟨p, 0, none⟩)] #[]] w (RdP p B (rdL (rdN 2) n l) (LisV encI64 w n) w) := by
  have HR := Lib.hid hR
  have HP := Lib.hid hR.lt
  clear hR
  obtain ⟨i0, hi, hz0, hz1, hz2⟩ := info_parts info_small
  go_enter Tryd.func98, Tryd.ntmps98
  go_wp2
  have hat : LstR w p B l (rdN 2) 3 encI64 1 0 (.slice none 0 0) w := LstR.start HR.out
  go_loopw [5, 7] (fun v i wr => ∃ k : Nat, k ≤ n ∧ i = .int .i64 k ∧ LstR w p B l (rdN 2) 3 encI64 1 k v wr) (fun _ i _ => n - (intOf i).toNat)
  case atStart => exact ⟨0, by omega, rfl, hat⟩
  case round =>
    obtain ⟨k, hk, rfl, he⟩ := hrel
    clear hat
    obtain ⟨xs, r, hrd, hRI, hout, hown, hlen⟩ := he
    have HRd := Lib.hid hrd
    have HRI := Lib.hid hRI
    have HOut := Lib.hid hout
    have HOwn := Lib.hid hown
    have HLen := Lib.hid hlen
    clear hrd hRI hout hown hlen
    by_cases hlt : k < n
    · have k0 : (0 : Int) ≤ k := by omega
      have k1 : (k : Int) < n := by omega
      cases hf : (rdN 2) r with
      | none =>
        have HF := Lib.hid hf
        have HN := Lib.hid (rdL_stop HRd.out hf hlt)
        clear hf
        go_wp2_with fail
        refine (count_any p B r _ HRI.out).mono ?_
        intro e w1 h1
        obtain ⟨rfl, h3⟩ := h1.no HF.out
        exact ⟨rfl, RdP.mkNo HN.out (HOut.out.trans h3)⟩
      | some xr =>
        obtain ⟨x, r'⟩ := xr
        have HF := Lib.hid hf
        clear hf
        go_wp2_with fail
        refine (count_any p B r _ HRI.out).mono ?_
        intro e w1 h1
        obtain ⟨v, rfl, rfl, h2, h3⟩ := h1.yes HF.out
        have H2 := Lib.hid h2
        have H3 := Lib.hid (HOut.out.trans h3)
        have HO1 := Lib.hid (OutO.rowKept HOwn.out h3 (by have := HP.out; omega))
        clear h1 h2 h3
        have HM := Lib.hid (show k + 1 ≤ maxLen by unfold maxLen; omega)
        have HB := Lib.hid (show (k + 1) * 8 ≤ 140737488355328 by omega)
        have HL1 := Lib.hid (show (encI64 x).length = 1 * 1 from rfl)
        have H1c := Lib.hid (show ∀ u ∈ encI64 x, u.oneCell' = true from fun u hu => by unfold encI64 at hu; simp only [List.mem_singleton] at hu; subst hu; rfl)
        have HBl := Lib.hid ((Below.refl w1.heap.size w1).alloc (Nat.le_refl _) (.cells #[.int .i64 x] 3))
        have HZ := Lib.hid (show w.heap.size ≤ (w1.alloc (.cells #[.int .i64 x] 3)).heap.size by (have := H3.out.size; simp; omega))
        have HN := Lib.hid (news_at (w := w1) (w2 := w1.alloc (.cells #[.int .i64 x] 3)) (cs := encI64 x) (ty := 3) rfl)
        have HO2 := Lib.hid (rowO_below HO1.out HBl.out)
        go_wp2_with (at_builtin; (refine wpList_append_at6 rfl _ _ 43 rfl w.heap.size 3 i0 (.int .i64 0) 1 8 Tryd.underlying43 hi hz0 hz1 hz2 rfl (by decide) u5 k (xs.flatMap encI64) ?hs HO2.out ⟨w1.heap.size, 0, none⟩ 1 1 (encI64 x) ?hx HL1.out HN.out H1c.out HM.out HB.out HZ.out ?_; (case hs => rfl); (case hx => rfl); intro v' w3 hr hg hv'; have HK := Lib.hid (LstR.next HRd.out HF.out HLen.out H3.out H2.out HO1.out HP.out.1 HP.out.2 HBl.out hr hg); clear hr hg hv'))
        go_roundw
        case rel => exact ⟨k + 1, by omega, by go_num, HK.out⟩
        case measure => simp [intOf]; omega
    · have hkn : k = n := by omega
      have k1 : ¬ (k : Int) < n := by omega
      have HKN := Lib.hid hkn
      obtain ⟨A, c, rfl⟩ := ownO_slice HOwn.out
      clear hkn hlt
      go_wp2
      go_ret
      exact RdP.mkYes (x := xs) (l' := r) (by rw [← HKN.out]; exact HRd.out) HOut.out ⟨A, c, by rw [HKN.out]; rfl, by rw [← HKN.out]; exact HLen.out, RowC.of_own HOwn.out⟩ HRI.out

theorem info_u32 : (Tryd.prog.info? 44).map (fun i => (i.zero, i.size, i.bytes)) = some (some (.int .u32 0), 1, 4) := by kernel_rfl
set_option maxHeartbeats 1000000 in
theorem list_u32 (n : Nat) (hn : n ≤ 1000000) (p B : Nat) (l : List Int) (w : World) (hR : RdIs w p B l) :
    Calls Tryd.prog 100 #[.int .i64 n, .func (Fn.func 101) #[.pointer (some ⟨p, 0, none⟩)] #[]] w (RdP p B (rdL (rdN 4) n l) (LisV encU32 w n) w) := by
  have HR := Lib.hid hR
  have HP := Lib.hid hR.lt
  clear hR
  obtain ⟨i0, hi, hz0, hz1, hz2⟩ := info_parts info_u32
  go_enter Tryd.func100, Tryd.ntmps100
  go_wp2
  have hat : LstR w p B l (rdN 4) 44 encU32 1 0 (.slice none 0 0) w := LstR.start HR.out
  go_loopw [5, 7] (fun v i wr => ∃ k : Nat, k ≤ n ∧ i = .int .i64 k ∧ LstR w p B l (rdN 4) 44 encU32 1 k v wr) (fun _ i _ => n - (intOf i).toNat)
  case atStart => exact ⟨0, by omega, rfl, hat⟩
  case round =>
    obtain ⟨k, hk, rfl, he⟩ := hrel
    clear hat
    obtain ⟨xs, r, hrd, hRI, hout, hown, hlen⟩ := he
    have HRd := Lib.hid hrd
    have HRI := Lib.hid hRI
    have HOut := Lib.hid hout
    have HOwn := Lib.hid hown
    have HLen := Lib.hid hlen
    clear hrd hRI hout hown hlen
    by_cases hlt : k < n
    · have k0 : (0 : Int) ≤ k := by omega
      have k1 : (k : Int) < n := by omega
      cases hf : (rdN 4) r with
      | none =>
        have HF := Lib.hid hf
        have HN := Lib.hid (rdL_stop HRd.out hf hlt)
        clear hf
        go_wp2_with fail
        refine (instr_any p B r _ HRI.out).mono ?_
        intro e w1 h1
        obtain ⟨rfl, h3⟩ := h1.no HF.out
        exact ⟨rfl, RdP.mkNo HN.out (HOut.out.trans h3)⟩
      | some xr =>
        obtain ⟨x, r'⟩ := xr
        have HF := Lib.hid hf
        clear hf
        go_wp2_with fail
        refine (instr_any p B r _ HRI.out).mono ?_
        intro e w1 h1
        obtain ⟨v, rfl, rfl, h2, h3⟩ := h1.yes HF.out
        have H2 := Lib.hid h2
        have H3 := Lib.hid (HOut.out.trans h3)
        have HO1 := Lib.hid (OutO.rowKept HOwn.out h3 (by have := HP.out; omega))
        clear h1 h2 h3
        have HM := Lib.hid (show k + 1 ≤ maxLen by unfold maxLen; omega)
        have HB := Lib.hid (show (k + 1) * 4 ≤ 140737488355328 by omega)
        have HL1 := Lib.hid (show (encU32 x).length = 1 * 1 from rfl)
        have H1c := Lib.hid (show ∀ u ∈ encU32 x, u.oneCell' = true from fun u hu => by unfold encU32 at hu; simp only [List.mem_singleton] at hu; subst hu; rfl)
        have HBl := Lib.hid ((Below.refl w1.heap.size w1).alloc (Nat.le_refl _) (.cells #[.int .u32 x] 44))
        have HZ := Lib.hid (show w.heap.size ≤ (w1.alloc (.cells #[.int .u32 x] 44)).heap.size by (have := H3.out.size; simp; omega))
        have HN := Lib.hid (news_at (w := w1) (w2 := w1.alloc (.cells #[.int .u32 x] 44)) (cs := encU32 x) (ty := 44) rfl)
        have HO2 := Lib.hid (rowO_below HO1.out HBl.out)
        go_wp2_with (at_builtin; (refine wpList_append_at6 rfl _ _ 22 rfl w.heap.size 44 i0 (.int .u32 0) 1 4 Tryd.underlying22 hi hz0 hz1 hz2 rfl (by decide) u5 k (xs.flatMap encU32) ?hs HO2.out ⟨w1.heap.size, 0, none⟩ 1 1 (encU32 x) ?hx HL1.out HN.out H1c.out HM.out HB.out HZ.out ?_; (case hs => rfl); (case hx => rfl); intro v' w3 hr hg hv'; have HK := Lib.hid (LstR.next HRd.out HF.out HLen.out H3.out H2.out HO1.out HP.out.1 HP.out.2 HBl.out hr hg); clear hr hg hv'))
        go_roundw
        case rel => exact ⟨k + 1, by omega, by go_num, HK.out⟩
        case measure => simp [intOf]; omega
    · have hkn : k = n := by omega
      have k1 : ¬ (k : Int) < n := by omega
      have HKN := Lib.hid hkn
      obtain ⟨A, c, rfl⟩ := ownO_slice HOwn.out
      clear hkn hlt
      go_wp2
      go_ret
      exact RdP.mkYes (x := xs) (l' := r) (by rw [← HKN.out]; exact HRd.out) HOut.out ⟨A, c, by rw [HKN.out]; rfl, by rw [← HKN.out]; exact HLen.out, RowC.of_own HOwn.out⟩ HRI.out

theorem info_u64 : (Tryd.prog.info? 73).map (fun i => (i.zero, i.size, i.bytes)) = some (some (.int .u64 0), 1, 8) := by kernel_rfl
set_option maxHeartbeats 1000000 in
theorem list_u64 (n : Nat) (hn : n ≤ 1000000) (p B : Nat) (l : List Int) (w : World) (hR : RdIs w p B l) :
    Calls Tryd.prog 102 #[.int .i64 n, .func (Fn.func 103) #[.pointer (some ⟨p, 0, none⟩)] #[]] w (RdP p B (rdL (rdN 8) n l) (LisV encU64 w n) w) := by
  have HR := Lib.hid hR
  have HP := Lib.hid hR.lt
  clear hR
  obtain ⟨i0, hi, hz0, hz1, hz2⟩ := info_parts info_u64
  go_enter Tryd.func102, Tryd.ntmps102
  go_wp2
  have hat : LstR w p B l (rdN 8) 73 encU64 1 0 (.slice none 0 0) w := LstR.start HR.out
  go_loopw [5, 7] (fun v i wr => ∃ k : Nat, k ≤ n ∧ i = .int .i64 k ∧ LstR w p B l (rdN 8) 73 encU64 1 k v wr) (fun _ i _ => n - (intOf i).toNat)
  case atStart => exact ⟨0, by omega, rfl, hat⟩
  case round =>
    obtain ⟨k, hk, rfl, he⟩ := hrel
    clear hat
    obtain ⟨xs, r, hrd, hRI, hout, hown, hlen⟩ := he
    have HRd := Lib.hid hrd
    have HRI := Lib.hid hRI
    have HOut := Lib.hid hout
    have HOwn := Lib.hid hown
    have HLen := Lib.hid hlen
    clear hrd hRI hout hown hlen
    by_cases hlt : k < n
    · have k0 : (0 : Int) ≤ k := by omega
      have k1 : (k : Int) < n := by omega
      cases hf : (rdN 8) r with
      | none =>
        have HF := Lib.hid hf
        have HN := Lib.hid (rdL_stop HRd.out hf hlt)
        clear hf
        go_wp2_with fail
        refine (rdword_any p B r _ HRI.out).mono ?_
        intro e w1 h1
        obtain ⟨rfl, h3⟩ := h1.no HF.out
        exact ⟨rfl, RdP.mkNo HN.out (HOut.out.trans h3)⟩
      | some xr =>
        obtain ⟨x, r'⟩ := xr
        have HF := Lib.hid hf
        clear hf
        go_wp2_with fail
        refine (rdword_any p B r _ HRI.out).mono ?_
        intro e w1 h1
        obtain ⟨v, rfl, rfl, h2, h3⟩ := h1.yes HF.out
        have H2 := Lib.hid h2
        have H3 := Lib.hid (HOut.out.trans h3)
        have HO1 := Lib.hid (OutO.rowKept HOwn.out h3 (by have := HP.out; omega))
        clear h1 h2 h3
        have HM := Lib.hid (show k + 1 ≤ maxLen by unfold maxLen; omega)
        have HB := Lib.hid (show (k + 1) * 8 ≤ 140737488355328 by omega)
        have HL1 := Lib.hid (show (encU64 x).length = 1 * 1 from rfl)
        have H1c := Lib.hid (show ∀ u ∈ encU64 x, u.oneCell' = true from fun u hu => by unfold encU64 at hu; simp only [List.mem_singleton] at hu; subst hu; rfl)
        have HBl := Lib.hid ((Below.refl w1.heap.size w1).alloc (Nat.le_refl _) (.cells #[.int .u64 x] 73))
        have HZ := Lib.hid (show w.heap.size ≤ (w1.alloc (.cells #[.int .u64 x] 73)).heap.size by (have := H3.out.size; simp; omega))
        have HN := Lib.hid (news_at (w := w1) (w2 := w1.alloc (.cells #[.int .u64 x] 73)) (cs := encU64 x) (ty := 73) rfl)
        have HO2 := Lib.hid (rowO_below HO1.out HBl.out)
        go_wp2_with (at_builtin; (refine wpList_append_at6 rfl _ _ 23 rfl w.heap.size 73 i0 (.int .u64 0) 1 8 Tryd.underlying23 hi hz0 hz1 hz2 rfl (by decide) u5 k (xs.flatMap encU64) ?hs HO2.out ⟨w1.heap.size, 0, none⟩ 1 1 (encU64 x) ?hx HL1.out HN.out H1c.out HM.out HB.out HZ.out ?_; (case hs => rfl); (case hx => rfl); intro v' w3 hr hg hv'; have HK := Lib.hid (LstR.next HRd.out HF.out HLen.out H3.out H2.out HO1.out HP.out.1 HP.out.2 HBl.out hr hg); clear hr hg hv'))
        go_roundw
        case rel => exact ⟨k + 1, by omega, by go_num, HK.out⟩
        case measure => simp [intOf]; omega
    · have hkn : k = n := by omega
      have k1 : ¬ (k : Int) < n := by omega
      have HKN := Lib.hid hkn
      obtain ⟨A, c, rfl⟩ := ownO_slice HOwn.out
      clear hkn hlt
      go_wp2
      go_ret
      exact RdP.mkYes (x := xs) (l' := r) (by rw [← HKN.out]; exact HRd.out) HOut.out ⟨A, c, by rw [HKN.out]; rfl, by rw [← HKN.out]; exact HLen.out, RowC.of_own HOwn.out⟩ HRI.out
end Go.Proofs.YtfdpbogbnfkilaaDoor
