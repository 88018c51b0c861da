/- Layer 2: what Decode of package ins answers. Conditions: the two tables read as they should. -/
import Derived.Test.YtjngkifoaljmaaaGreatDoorInsB
import Derived.Laws.ResultCell
namespace Go.Proofs.YtjngkifoaljmaaaGreatDoor
set_option maxRecDepth 100000
open Go.RowKit Go.Maps
set_option linter.unusedVariables false

/-- what a cell holds: said so that a store may stand between -/
def cellOr (w : World) (a : Addr) : Value := (w.cell? a).getD undef
theorem cellOr_of {w : World} {a : Addr} {v : Value} (h : w.cell? a = some v) : w.cell? a = some (cellOr w a) := by unfold cellOr; rw [h]; rfl
theorem set_get {w : World} {a : Addr} {v x : Value} (h : (w.setCell a v).cell? a = some x) : (w.setCell a v).cell? a = some v := by
  cases e : w.cell? a with
  | some u => exact World.cell?_setCell_same w a v e
  | none =>
    exfalso
    obtain ⟨b, o, sp⟩ := a
    simp only [World.setCell, World.cell?, Array.getElem?_modify] at h e
    cases hh : w.heap[b]? with
    | none => simp [hh] at h
    | some ob =>
      cases ob <;> simp [hh] at h e
      cases sp
      · simp at h e
        have := (Array.getElem?_eq_some_iff.1 h).1
        simp at this
        omega
      · simp at h
/-- a block of the call's own of five cells: they are there, and may be written -/
abbrev Mine5 (w : World) (b : Nat) : Prop := w.cell? ⟨b, 0, none⟩ = some (cellOr w ⟨b, 0, none⟩) ∧ w.cell? ⟨b, 1, none⟩ = some (cellOr w ⟨b, 1, none⟩) ∧ w.cell? ⟨b, 2, none⟩ = some (cellOr w ⟨b, 2, none⟩) ∧ w.cell? ⟨b, 3, none⟩ = some (cellOr w ⟨b, 3, none⟩) ∧ w.cell? ⟨b, 4, none⟩ = some (cellOr w ⟨b, 4, none⟩) ∧
  w.frozen? ⟨b, 0, none⟩ = false ∧ w.frozen? ⟨b, 1, none⟩ = false ∧ w.frozen? ⟨b, 2, none⟩ = false ∧ w.frozen? ⟨b, 3, none⟩ = false ∧ w.frozen? ⟨b, 4, none⟩ = false
def set5 (w : World) (b : Nat) (v0 v1 v2 v3 v4 : Value) : World := ((((w.setCell ⟨b, 0, none⟩ v0).setCell ⟨b, 1, none⟩ v1).setCell ⟨b, 2, none⟩ v2).setCell ⟨b, 3, none⟩ v3).setCell ⟨b, 4, none⟩ v4
abbrev Cells5 (w : World) (b : Nat) (v0 v1 v2 v3 v4 : Value) : Prop := w.cell? ⟨b, 0, none⟩ = some v0 ∧ w.cell? ⟨b, 1, none⟩ = some v1 ∧ w.cell? ⟨b, 2, none⟩ = some v2 ∧ w.cell? ⟨b, 3, none⟩ = some v3 ∧ w.cell? ⟨b, 4, none⟩ = some v4
theorem set5_get {w : World} {b : Nat} {v0 v1 v2 v3 v4 : Value} (h : Mine5 (set5 w b v0 v1 v2 v3 v4) b) : Cells5 (set5 w b v0 v1 v2 v3 v4) b v0 v1 v2 v3 v4 := by
  obtain ⟨h0, h1, h2, h3, h4, _⟩ := h
  have far (w : World) (i j : Nat) (v : Value) (hij : i ≠ j) : (w.setCell ⟨b, i, none⟩ v).cell? ⟨b, j, none⟩ = w.cell? ⟨b, j, none⟩ := World.cell?_setCell_other w _ _ v (by intro he; cases he; exact hij rfl)
  unfold set5 at *
  refine ⟨?_, ?_, ?_, ?_, set_get h4⟩
  · rw [far _ 4 0 _ (by omega), far _ 3 0 _ (by omega), far _ 2 0 _ (by omega), far _ 1 0 _ (by omega)] at h0 ⊢
    exact set_get h0
  · rw [far _ 4 1 _ (by omega), far _ 3 1 _ (by omega), far _ 2 1 _ (by omega)] at h1 ⊢
    exact set_get h1
  · rw [far _ 4 2 _ (by omega), far _ 3 2 _ (by omega)] at h2 ⊢
    exact set_get h2
  · rw [far _ 4 3 _ (by omega)] at h3 ⊢
    exact set_get h3
theorem mine5_set {w : World} {b j : Nat} {v : Value} (h : Mine5 w b) : Mine5 (w.setCell ⟨b, j, none⟩ v) b := by
  have keep (i : Nat) (x : Value) (hx : w.cell? ⟨b, i, none⟩ = some x) : ∃ y, (w.setCell ⟨b, j, none⟩ v).cell? ⟨b, i, none⟩ = some y := by
    by_cases e : j = i
    · subst e; exact ⟨v, World.cell?_setCell_same w _ v hx⟩
    · exact ⟨x, by rw [World.cell?_setCell_other w _ _ v (by intro he; cases he; exact e rfl)]; exact hx⟩
  have fz (i : Nat) (hx : w.frozen? ⟨b, i, none⟩ = false) : (w.setCell ⟨b, j, none⟩ v).frozen? ⟨b, i, none⟩ = false := by rw [World.frozen?_setCell]; exact hx
  obtain ⟨h0, h1, h2, h3, h4, f0, f1, f2, f3, f4⟩ := h
  exact ⟨cellOr_of (keep 0 _ h0).choose_spec, cellOr_of (keep 1 _ h1).choose_spec, cellOr_of (keep 2 _ h2).choose_spec, cellOr_of (keep 3 _ h3).choose_spec, cellOr_of (keep 4 _ h4).choose_spec, fz 0 f0, fz 1 f1, fz 2 f2, fz 3 f3, fz 4 f4⟩
theorem mine5_below {w w' : World} {b : Nat} (h : Mine5 w b) (hb : Below w.heap.size w w') : Mine5 w' b := by
  obtain ⟨h0, h1, h2, h3, h4, f0, f1, f2, f3, f4⟩ := h
  have lt : b < w.heap.size := by
    rcases Nat.lt_or_ge b w.heap.size with h | h
    · exact h
    · simp [World.cell?, Array.getElem?_eq_none h] at h0
  have fz (i : Nat) (hx : w.frozen? ⟨b, i, none⟩ = false) : w'.frozen? ⟨b, i, none⟩ = false := by rw [hb.frozen (p := ⟨b, i, none⟩) lt]; exact hx
  exact ⟨cellOr_of (cell_kept hb h0), cellOr_of (cell_kept hb h1), cellOr_of (cell_kept hb h2), cellOr_of (cell_kept hb h3), cellOr_of (cell_kept hb h4), fz 0 f0, fz 1 f1, fz 2 f2, fz 3 f3, fz 4 f4⟩
abbrev DecS (w0 w : World) (b c s : Nat) : Prop := Mine5 w b ∧ HeldL w c s ∧ LayAt w c 0 s ∧ Below w0.heap.size w0 w
theorem decS_below {w0 w w' : World} {b c s : Nat} (h : DecS w0 w b c s) (hb : Below w.heap.size w w') : DecS w0 w' b c s :=
  ⟨mine5_below h.1 hb, heldL_of (h.2.2.1.below hb), h.2.2.1.below hb, h.2.2.2.trans (hb.mono h.2.2.2.size)⟩
theorem decS_drew {w0 w : World} {b c s : Nat} (h : DecS w0 w b c s) : DecS w0 w.drew b c s := decS_below h (Below.drew (Below.refl _ _))
theorem decS_drewN {w0 w : World} {b c s : Nat} (h : DecS w0 w b c s) (n : Nat) : DecS w0 (w.drewN n) b c s := decS_below h (below_drewN (Below.refl _ _) n)
theorem decS_set {w0 w : World} {b c s j : Nat} {v : Value} (h : DecS w0 w b c s) (hne : b ≠ c) (hb : w0.heap.size ≤ b) : DecS w0 (w.setCell ⟨b, j, none⟩ v) b c s := by
  have hl : LayAt (w.setCell ⟨b, j, none⟩ v) c 0 s := fun i hi => by
    rw [World.cell?_setCell_far w ⟨b, j, none⟩ ⟨c, 0 + i, none⟩ v hne]; exact h.2.2.1 i hi
  exact ⟨mine5_set h.1, heldL_of hl, hl, h.2.2.2.setCell hb _⟩
theorem decS_set5 {w0 w : World} {b c s : Nat} {v0 v1 v2 v3 v4 : Value} (h : DecS w0 w b c s) (hne : b ≠ c) (hb : w0.heap.size ≤ b) : DecS w0 (((((w.setCell ⟨b, 0, none⟩ v0).setCell ⟨b, 1, none⟩ v1).setCell ⟨b, 2, none⟩ v2).setCell ⟨b, 3, none⟩ v3).setCell ⟨b, 4, none⟩ v4) b c s :=
  decS_set (decS_set (decS_set (decS_set (decS_set h hne hb) hne hb) hne hb) hne hb) hne hb
theorem mine5_new {w : World} {x0 x1 x2 x3 x4 : Value} {t : TypeId} : Mine5 (w.alloc (.cells #[x0, x1, x2, x3, x4] t)) w.heap.size := by
  refine ⟨cellOr_of (v := x0) ?_, cellOr_of (v := x1) ?_, cellOr_of (v := x2) ?_, cellOr_of (v := x3) ?_, cellOr_of (v := x4) ?_, ?_, ?_, ?_, ?_, ?_⟩ <;> simp [go_sem]
theorem insInfo : (Tryz.prog.info? 49).map (·.size) = some 5 := by kernel_rfl
attribute [local go_sem ↓] loadAt_lay
theorem decode_no (v : Int) (w : World) (hv : IsW v) (hT : Tabs w) (hn : ∀ n, n < 43 → ¬ Match v n) :
    Calls Tryz.prog 58 #[.int .u32 v] w fun e w' => e = .returned (.tuple #[.agg #[.int .i64 0, .int .i64 0, .int .i64 0, .int .i64 0, .int .i64 0], .int .i64 3]) ∧ Below w.heap.size w w' := by
  have HT := Lib.hid (hT.alloc (.cells #[.int .i64 0, .int .i64 0, .int .i64 0, .int .i64 0, .int .i64 0] 49))
  have HN := Lib.hid hn
  have m5 := mine5_new (w := w) (x0 := .int .i64 0) (x1 := .int .i64 0) (x2 := .int .i64 0) (x3 := .int .i64 0) (x4 := .int .i64 0) (t := 49)
  have M5 := Lib.hid m5
  clear hT hn m5
  go_enter Tryz.func58, Tryz.ntmps58
  go_wp2_with fail
  refine (operation_no v _ hv HT.out HN.out).mono ?_
  rintro e w1 ⟨rfl, hb⟩
  have Hb := Lib.hid (((Below.refl w.heap.size w).alloc (Nat.le_refl _) _).trans (hb.mono (by simp)))
  obtain ⟨q0, q1, q2, q3, q4, f0, f1, f2, f3, f4⟩ := mine5_below M5.out hb
  clear hb M5
  generalize cellOr w1 _ = y0 at q0
  generalize cellOr w1 _ = y1 at q1
  generalize cellOr w1 _ = y2 at q2
  generalize cellOr w1 _ = y3 at q3
  generalize cellOr w1 _ = y4 at q4
  go_wp2
  refine bodyPost_ret (v := .tuple #[.agg #[.int .i64 0, .int .i64 0, .int .i64 0, .int .i64 0, .int .i64 0], .int .i64 3]) (by simp [results, Tryz.results58, go_sem, q0, q1, q2, q3, q4]) rfl ⟨rfl, ?_⟩
  exact ((((Hb.out.setCell (Nat.le_refl _) _).setCell (Nat.le_refl _) _).setCell (Nat.le_refl _) _).setCell (Nat.le_refl _) _).setCell (Nat.le_refl _) _
theorem dec_start {w0 w : World} {b s : Nat} {u : TypeId} (h : Mine5 w b) (hb : Below w0.heap.size w0 w) : DecS w0 (w.alloc (.cells (layA s) u)) b w.heap.size s := by
  have hl : LayAt (w.alloc (.cells (layA s) u)) w.heap.size 0 s := layC_iff.1 layC_new
  have b1 : Below w.heap.size w (w.alloc (.cells (layA s) u)) := (Below.refl _ _).alloc (Nat.le_refl _) _
  exact ⟨mine5_below h b1, heldL_of hl, hl, hb.trans (b1.mono hb.size)⟩
theorem decS_bel {w0 w : World} {b c s : Nat} (h : DecS w0 w b c s) : Below w0.heap.size w0 w := h.2.2.2
theorem decS_mine {w0 w : World} {b c s : Nat} (h : DecS w0 w b c s) : Mine5 w b := h.1
set_option maxHeartbeats 1000000 in
theorem decode_yes (v : Int) (n : Nat) (w : World) (hv : IsW v) (hT : Tabs w) (hn : n < 43) (hM : Match v n) :
    Calls Tryz.prog 58 #[.int .u32 v] w fun e w' => e = .returned (.tuple #[.agg #[.int .i64 n, .int .i64 (regI v 7 (lRd (opS n))), .int .i64 (regI v 15 (lR1 (opS n))), .int .i64 (regI v 20 (lR2 (opS n))), .int .i64 (numberI v (opS n))], .int .i64 0]) ∧ Below w.heap.size w w' := by
  have HT := Lib.hid (hT.alloc (.cells #[.int .i64 0, .int .i64 0, .int .i64 0, .int .i64 0, .int .i64 0] 49))
  have HM := Lib.hid hM
  have m5 := mine5_new (w := w) (x0 := .int .i64 0) (x1 := .int .i64 0) (x2 := .int .i64 0) (x3 := .int .i64 0) (x4 := .int .i64 0) (t := 49)
  have M5 := Lib.hid m5
  have hs := opS_lt hn
  clear hT hM m5
  go_enter Tryz.func58, Tryz.ntmps58
  go_wp2_with fail
  refine (operation_yes v n _ hv HT.out hn HM.out).mono ?_
  rintro e w1 ⟨rfl, hb⟩
  have Hb := Lib.hid (((Below.refl w.heap.size w).alloc (Nat.le_refl _) _).trans (hb.mono (by simp)))
  have T1 := HT.out.below hb
  have c0 := T1.shape hn
  have L := Lib.hid (T1.layAt hs)
  have hne : w.heap.size ≠ w1.heap.size := by have := hb.size; simp at this; omega
  have HS := Lib.hid (dec_start (s := opS n) (u := 126) (mine5_below M5.out hb) Hb.out)
  have g0 : (0 : Int) ≤ n := by omega
  have g1 : (n : Int) < 43 := by omega
  have g2 : (0 : Int) ≤ opS n := by omega
  have g3 : ((opS n : Nat) : Int) < 8 := by omega
  clear hb M5 T1 HT
  generalize hE : opS n = s at *
  have HE := Lib.hid hE
  clear hE
  go_wp2_with (first | (refine wpList_load_lay rfl _ rfl _ _ s rfl L.out ?_) | (refine wpList_store_new rfl 126 _ _ rfl _ _ _ _ rfl rfl ?hi ?hs ?h1 rfl ?hg ?_; (case hi => exact layInfo); (case hs => exact rfl); (case h1 => simp [Value.oneCell']); (case hg => exact rfl)))
  have hS := HS.out
  unfold layA at hS
  clear HS L c0 Hb
  generalize w1.alloc _ = W at hS ⊢
  have le0 : w.heap.size ≤ w.heap.size := Nat.le_refl _
  go_region_held3 (fun w' => Mine5 w' w.heap.size ∧ HeldL w' w1.heap.size s ∧ LayAt w' w1.heap.size 0 s ∧ Below w.heap.size w w') (first | (with_reducible assumption) | ((with_reducible apply decS_drew); (with_reducible assumption)) | ((with_reducible apply decS_drewN); (with_reducible assumption)) | ((with_reducible refine decS_set5 ?_ hne le0); (with_reducible assumption)) | ((with_reducible apply decS_below); (with_reducible assumption); (with_reducible assumption)))
    (first
    | (go_at_call 73; (with_reducible refine (register_any v 7 (lRd s) hv (by omega) (by omega) _).mono ?_); rintro e w' ⟨rfl, k, rfl⟩)
    | (go_at_call 73; (with_reducible refine (register_any v 15 (lR1 s) hv (by omega) (by omega) _).mono ?_); rintro e w' ⟨rfl, k, rfl⟩)
    | (go_at_call 73; (with_reducible refine (register_any v 20 (lR2 s) hv (by omega) (by omega) _).mono ?_); rintro e w' ⟨rfl, k, rfl⟩)
    | (go_at_call 74; (with_reducible refine (number_at v s hv hs _).mono ?_); rintro e w' ⟨rfl, hb⟩))
  rename_i hh
  have hB := decS_bel hh
  obtain ⟨k0, k1, k2, k3, k4⟩ := set5_get (decS_mine hh)
  clear hh hS
  unfold set5 at k0 k1 k2 k3 k4
  generalize (World.setCell _ ⟨w.heap.size, 4, none⟩ _) = V at k0 k1 k2 k3 k4 hB ⊢
  have HB := Lib.hid hB
  clear hB
  go_wp2
  refine bodyPost_ret (v := .tuple #[.agg #[.int .i64 n, .int .i64 (regI v 7 (lRd s)), .int .i64 (regI v 15 (lR1 s)), .int .i64 (regI v 20 (lR2 s)), .int .i64 (numberI v s)], .int .i64 0]) (by simp [results, Tryz.results58, go_sem, k0, k1, k2, k3, k4]) rfl ⟨by rw [HE.out], HB.out⟩
end Go.Proofs.YtjngkifoaljmaaaGreatDoor
