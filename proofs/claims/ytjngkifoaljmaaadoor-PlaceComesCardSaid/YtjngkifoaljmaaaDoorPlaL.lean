/- Layer 8: Link, behind allText's contract. Condition: the tables of package ins read as they should. -/
import Derived.Test.YtjngkifoaljmaaaDoorPlaK
namespace Go.Proofs.YtjngkifoaljmaaaDoor
set_option maxRecDepth 100000
open Go.RowKit
set_option linter.unusedVariables false
set_option maxHeartbeats 2000000 in
theorem boxed_all (b0 b1 : Nat) (v0 v1 : Value) (r : Option (List Int)) (w : World) (h0 : w.cell? ⟨b0, 0, none⟩ = some v0) (h1 : w.cell? ⟨b1, 0, none⟩ = some v1) (hc : Calls Tryd.prog 32 #[v0, v1] w (AllP r w)) :
    Calls Tryd.prog 31 #[.pointer (some ⟨b0, 0, none⟩), .pointer (some ⟨b1, 0, none⟩)] w (AllP r w) := by
  have HC := Lib.hid hc
  clear hc
  go_enter Tryd.func31, Tryd.ntmps31
  go_wp2_with fail
  refine HC.out.mono ?_
  intro e w1 h
  cases r with
  | none =>
    obtain ⟨hb, rfl⟩ := h
    exact ⟨rfl, hb, rfl⟩
  | some xs =>
    obtain ⟨hb, v, rfl, hv⟩ := h
    have HB := Lib.hid hb
    have HV := Lib.hid hv
    obtain ⟨Av, cv, rfl, -⟩ := hv
    clear hb
    go_wp2
    go_ret
    exact ⟨HB.out, _, rfl, HV.out⟩
/-- the code of Link -/
def lkC (l : List ObjD) (t d : Int) (n : Nat) : Int := if spC l t d ≠ 0 then spC l t d else if (txT l (spL l t d n) n).isSome then 0 else 5
def LinkP (l : List ObjD) (t d : Int) (n : Nat) (w : World) (e : Ending) (w' : World) : Prop :=
  Below w.heap.size w w' ∧ ∃ v u, e = .returned (.tuple #[v, u, .int .i64 (lkC l t d n)]) ∧ (lkC l t d n ≠ 0 → v = .slice none 0 0 ∧ u = .slice none 0 0) ∧
    (lkC l t d n = 0 → ∃ xs, txT l (spL l t d n) n = some xs ∧ TxAt w' w.heap.size xs v ∧ LgAt w' w.heap.size (daT l n) u)
theorem LinkP.no {l : List ObjD} {t d k : Int} {n : Nat} {w w' : World} (h : lkC l t d n = k) (hk : k ≠ 0) (hb : Below w.heap.size w w') : LinkP l t d n w (.returned (.tuple #[.slice none 0 0, .slice none 0 0, .int .i64 k])) w' := by
  subst h
  exact ⟨hb, _, _, rfl, fun _ => ⟨rfl, rfl⟩, fun h => absurd h hk⟩
theorem LinkP.yes {l : List ObjD} {t d : Int} {n : Nat} {w w' : World} {v u : Value} {xs : List Int} (h : lkC l t d n = 0) (hx : txT l (spL l t d n) n = some xs) (h1 : TxAt w' w.heap.size xs v) (h2 : LgAt w' w.heap.size (daT l n) u) (hb : Below w.heap.size w w') : LinkP l t d n w (.returned (.tuple #[v, u, .int .i64 0])) w' :=
  ⟨hb, v, u, by rw [h], fun k => absurd h k, fun _ => ⟨xs, hx, h1, h2⟩⟩
theorem SpAt.slice {w : World} {b : Nat} {xs : List (Int × Int)} {v : Value} (h : SpAt w b xs v) : ∃ A c, v = .slice A xs.length c := by
  obtain ⟨A, c, e, _⟩ := h; exact ⟨A, c, e⟩
theorem LgAt.low {w : World} {b b' : Nat} {xs : List Int} {v : Value} (h : LgAt w b xs v) (hb : b' ≤ b) : LgAt w b' xs v := by
  obtain ⟨A, c, e, ho⟩ := h
  exact ⟨A, c, e, kn_base ho hb⟩
theorem below_link {w w1 : World} (h : Below w.heap.size w w1) {o : Obj} : Below w.heap.size w (w1.alloc o) := h.trans (((Below.refl w1.heap.size w1).alloc (Nat.le_refl _) o).mono h.size)
set_option maxHeartbeats 4000000 in
/-- hAll: what allText does -/
theorem link_of (l : List ObjD) (hW : ∀ d ∈ l, ObjW d) (A : Option Addr) (n c lo hi : Nat) (hn : l.length = n) (hmx : n ≤ 1000000) (t d : Int) (ht : IsU t) (hd : IsU d) (w : World) (hT : Tabs w) (hA : ObjsAt w lo hi l A) (hh : hi ≤ w.heap.size)
    (hAll : ∀ (As : Option Addr) (cs base : Nat) (W : World), (chkF l).2 = 0 → Tabs W → ObjsAt W lo hi l A → hi ≤ W.heap.size → SpAt W base (spL l t d n) (.slice As n cs) → Calls Tryd.prog 32 #[.slice A n c, .slice As n cs] W (AllP (txT l (spL l t d n) n) W)) :
    Calls Tryd.prog 12 #[.slice A n c, .int .u64 t, .int .u64 d] w (LinkP l t d n w) := by
  have hmf : ∀ (fn : Fn) (first cap : Array Value) (w : World), (Instr.makeFunc fn first cap).run Tryd.prog w = .ok (.func fn first cap) w := fun _ _ _ _ => rfl
  have hb0 := (Below.refl w.heap.size w).alloc (Nat.le_refl _) (.cells #[.slice A n c] 34)
  have HB0 := Lib.hid hb0
  have HX0 := Lib.hid (heap_alloc_new w (.cells #[.slice A n c] 34))
  have HSp := Lib.hid (spots_any l hW A n c lo hi hn hmx t d ht hd (w.alloc (.cells #[.slice A n c] 34)) (hT.below hb0) (hA.below hh hb0) (Nat.le_trans hh hb0.size))
  have HAll := Lib.hid hAll
  have HA := Lib.hid hA
  have HH := Lib.hid hh
  have HT := Lib.hid hT
  have HN := Lib.hid hn
  obtain ⟨x0, xf⟩ := row1 HX0.out
  clear hb0 hAll hA hh hT hn hW ht hd
  go_enter Tryd.func12, Tryd.ntmps12
  go_wp2_with fail
  refine HSp.out.mono ?_
  rintro e w1 ⟨hb, v, rfl, h1, h2⟩
  have HB1 := Lib.hid (HB0.out.trans (hb.mono HB0.out.size))
  have HX1 := Lib.hid ((hb.block _ (Array.getElem?_eq_some_iff.1 HX0.out).1).trans HX0.out)
  have HSz := Lib.hid hb.size
  clear hb
  by_cases h0 : spC l t d = 0
  · have hck : (chkF l).2 = 0 := by
      by_cases h : (chkF l).2 = 0
      · exact h
      · unfold spC at h0
        rw [if_pos h] at h0
        exact h0
    have HCk := Lib.hid hck
    have hs := h1 h0
    obtain ⟨As, cs, rfl⟩ := hs.slice
    rw [spL_len] at hs ⊢
    have HS := Lib.hid hs
    have HL := Lib.hid (show lkC l t d n = if (txT l (spL l t d n) n).isSome then 0 else 5 from by unfold lkC; rw [if_neg (by rw [h0]; simp)])
    rw [h0]
    have hb2 := (Below.refl w1.heap.size w1).alloc (Nat.le_refl _) (.cells #[.slice As n cs] 57)
    have HB2 := Lib.hid (HB1.out.trans (hb2.mono HB1.out.size))
    have HX2 := Lib.hid ((hb2.block _ (Array.getElem?_eq_some_iff.1 HX1.out).1).trans HX1.out)
    have HY2 := Lib.hid (heap_alloc_new w1 (.cells #[.slice As n cs] 57))
    have HS2 := Lib.hid (HS.out.below hb2)
    clear hb2 hs h1 h2 h0 hck x0 xf
    obtain ⟨x0, xf⟩ := row1 HX2.out
    obtain ⟨y0, yf⟩ := row1 HY2.out
    have hb3 := (Below.refl (w1.alloc (.cells #[.slice As n cs] 57)).heap.size (w1.alloc (.cells #[.slice As n cs] 57))).alloc (Nat.le_refl _) (.cells #[.int .i64 0] 25)
    have HF := Lib.hid (fit_any2 (.pointer (some ⟨w.heap.size, 0, none⟩)) (.pointer (some ⟨w1.heap.size, 0, none⟩)) (txT l (spL l t d n) n) (w1.alloc (.cells #[.slice As n cs] 57))
      (boxed_all _ _ (.slice A n c) (.slice As n cs) _ _ ((hb3.cell (p := ⟨w.heap.size, 0, none⟩) (block_lt x0)).trans x0) ((hb3.cell (p := ⟨w1.heap.size, 0, none⟩) (block_lt y0)).trans y0)
        (HAll.out As cs _ _ HCk.out ((HT.out.below HB2.out).below hb3) ((HA.out.below HH.out HB2.out).below (Nat.le_trans HH.out HB2.out.size) hb3) (Nat.le_trans (Nat.le_trans HH.out HB2.out.size) hb3.size) (HS2.out.below hb3))))
    clear hb3
    go_wp2_with fail
    refine HF.out.mono ?_
    rintro e w3 ⟨hb, h⟩
    have HB3 := Lib.hid (HB2.out.trans (hb.mono HB2.out.size))
    have HX3 := Lib.hid ((hb.block _ (Array.getElem?_eq_some_iff.1 HX2.out).1).trans HX2.out)
    clear hb x0 xf y0 yf
    cases hx : txT l (spL l t d n) n with
    | none =>
      rw [hx] at h
      have h : e = .returned (.tuple #[.slice none 0 0, .int .i64 5]) := h
      subst h
      have HC := Lib.hid (show lkC l t d n = 5 from by rw [HL.out, hx]; rfl)
      clear hx
      go_wp2
      refine bodyPost_ret (v := .tuple #[.slice none 0 0, .slice none 0 0, .int .i64 5]) ?_ rfl (LinkP.no HC.out (by omega) HB3.out)
      simp [results, Tryd.results12, go_sem]
    | some xs =>
      rw [hx] at h
      obtain ⟨v, he, hv⟩ : ∃ v, e = .returned (.tuple #[v, .int .i64 0]) ∧ TxAt w3 (w1.alloc (.cells #[.slice As n cs] 57)).heap.size xs v := h
      subst he
      have HC := Lib.hid (show lkC l t d n = 0 from by rw [HL.out, hx]; rfl)
      have HQ := Lib.hid hx
      have HV := Lib.hid (hv.low (b' := w.heap.size) HB2.out.size)
      obtain ⟨Av, cv, rfl, -⟩ := hv
      have HDt := Lib.hid (data_any l A n c lo hi HN.out (chkF_may HCk.out) w3 (HA.out.below HH.out HB3.out) (Nat.le_trans HH.out HB3.out.size))
      clear hx
      obtain ⟨x0, xf⟩ := row1 HX3.out
      go_wp2_with fail
      refine HDt.out.mono ?_
      rintro e w4 ⟨u, rfl, hu, hb⟩
      have HB4 := Lib.hid (HB3.out.trans (hb.mono HB3.out.size))
      have HV4 := Lib.hid (HV.out.below hb)
      have HU := Lib.hid (hu.low (b' := w.heap.size) HB3.out.size)
      obtain ⟨Au, cu, rfl, -⟩ := hu
      clear hb x0 xf
      go_wp2
      refine bodyPost_ret (v := .tuple #[.slice Av xs.length cv, .slice Au (daT l n).length cu, .int .i64 0]) ?_ rfl (LinkP.yes HC.out HQ.out HV4.out HU.out HB4.out)
      simp [results, Tryd.results12, go_sem]
  · have HK := Lib.hid h0
    have HC := Lib.hid (show lkC l t d n = spC l t d from by unfold lkC; rw [if_pos h0])
    obtain ⟨k, hk⟩ : ∃ k, spC l t d = k := ⟨_, rfl⟩
    have h2' := h2 h0
    subst h2'
    rw [hk] at HK HC ⊢
    have k0 : (k == (0 : Int)) = false := by simpa using HK.out
    have k1 : ¬ k = 0 := HK.out
    clear h1 h2 h0 hk x0 xf
    go_wp2
    refine bodyPost_ret (v := .tuple #[.slice none 0 0, .slice none 0 0, .int .i64 k]) ?_ rfl (LinkP.no HC.out HK.out (below_link HB1.out))
    simp [results, Tryd.results12, go_sem]
end Go.Proofs.YtjngkifoaljmaaaDoor
