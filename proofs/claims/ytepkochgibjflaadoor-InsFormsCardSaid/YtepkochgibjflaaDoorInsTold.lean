/- Layer 2: what readTold, alike and operation of package ins answer. Conditions: the two tables read as they should. -/
import Derived.Test.YtepkochgibjflaaDoorInsDrew
import Derived.Outline
namespace Go.Proofs.YtepkochgibjflaaDoor
open Go.RowKit
set_option linter.unusedVariables false

/-- what is read of a word at shape s -/
def tK (v : Int) (s : Nat) : Int := if lKd s then fld v 12 3 else 0
def tR (v : Int) (s : Nat) : Int := fld v (lRest s) (32 - (lRest s : Int))
theorem lRest_bd {s : Nat} (hs : s < 8) : 7 ≤ lRest s ∧ lRest s ≤ 32 := all8 (p := fun s => 7 ≤ lRest s ∧ lRest s ≤ 32) (by decide +kernel) hs
attribute [local go_sem ↓] loadAt_lay
abbrev RowS (w : World) (c s : Nat) : Prop := HeldL w c s ∧ LayAt w c 0 s
theorem rowS_below {w w' : World} {c s : Nat} (h : RowS w c s) (hb : Below w.heap.size w w') : RowS w' c s := ⟨heldL_of (h.2.below hb), h.2.below hb⟩
theorem rowS_drew {w : World} {c s : Nat} (h : RowS w c s) : RowS w.drew c s := rowS_below h (Below.drew (Below.refl _ _))
theorem rowS_drewN {w : World} {c s : Nat} (h : RowS w c s) (n : Nat) : RowS (w.drewN n) c s := rowS_below h (below_drewN (Below.refl _ _) n)
theorem rowS_alloc {w : World} {c s : Nat} (h : RowS w c s) (o : Obj) : RowS (w.alloc o) c s := rowS_below h ((Below.refl _ _).alloc (Nat.le_refl _) o)
/-- a block of the call's own, n cells: they are there, and may be written -/
abbrev Mine4 (w : World) (b : Nat) : Prop := (∃ v, w.cell? ⟨b, 0, none⟩ = some v) ∧ (∃ v, w.cell? ⟨b, 1, none⟩ = some v) ∧ (∃ v, w.cell? ⟨b, 2, none⟩ = some v) ∧ (∃ v, w.cell? ⟨b, 3, none⟩ = some v) ∧
  w.frozen? ⟨b, 0, none⟩ = false ∧ w.frozen? ⟨b, 1, none⟩ = false ∧ w.frozen? ⟨b, 2, none⟩ = false ∧ w.frozen? ⟨b, 3, none⟩ = false
theorem told_start {w : World} {s : Nat} {t u : TypeId} {x0 x1 x2 x3 : Value} :
    RowS ((w.alloc (.cells #[x0, x1, x2, x3] t)).alloc (.cells (layA s) u)) (w.heap.size + 1) s ∧ Mine4 ((w.alloc (.cells #[x0, x1, x2, x3] t)).alloc (.cells (layA s) u)) w.heap.size ∧ w.heap.size + 1 < ((w.alloc (.cells #[x0, x1, x2, x3] t)).alloc (.cells (layA s) u)).heap.size ∧ Below w.heap.size w ((w.alloc (.cells #[x0, x1, x2, x3] t)).alloc (.cells (layA s) u)) := by
  have e : w.heap.size + 1 = (w.alloc (.cells #[x0, x1, x2, x3] t)).heap.size := by simp
  have hl : LayAt ((w.alloc (.cells #[x0, x1, x2, x3] t)).alloc (.cells (layA s) u)) (w.heap.size + 1) 0 s := by
    rw [e]; exact layC_iff.1 layC_new
  refine ⟨⟨heldL_of hl, hl⟩, ⟨⟨x0, ?_⟩, ⟨x1, ?_⟩, ⟨x2, ?_⟩, ⟨x3, ?_⟩, ?_, ?_, ?_, ?_⟩, by simp, ((Below.refl _ _).alloc (Nat.le_refl _) _).alloc (by simp) _⟩ <;> simp [go_sem]
theorem below_set4 {w W : World} (h : Below w.heap.size w W) {v0 v1 v2 v3 : Value} : Below w.heap.size w ((((W.setCell ⟨w.heap.size, 0, none⟩ v0).setCell ⟨w.heap.size, 1, none⟩ v1).setCell ⟨w.heap.size, 2, none⟩ v2).setCell ⟨w.heap.size, 3, none⟩ v3) :=
  (((h.setCell (Nat.le_refl _) _).setCell (Nat.le_refl _) _).setCell (Nat.le_refl _) _).setCell (Nat.le_refl _) _
theorem below_drew3 {B : Nat} {a w : World} (h : Below B a w) : Below B a w.drew.drew.drew := h.drew.drew.drew
theorem below_drew4 {B : Nat} {a w : World} (h : Below B a w) : Below B a w.drew.drew.drew.drew := h.drew.drew.drew.drew
set_option maxHeartbeats 1000000 in
theorem readTold_any (v : Int) (s : Nat) (w : World) (hv : IsW v) (hs : s < 8) (hT : Tabs w) :
    Calls Tryd.prog 21 #[.int .u32 v, .int .i64 s] w fun e w' => e = .returned (.agg #[.int .i64 s, .int .u32 (fld v 0 7), .int .u32 (tK v s), .int .u32 (tR v s)]) ∧ Below w.heap.size w w' := by
  obtain ⟨l0, l1⟩ := lRest_bd hs
  have h3 : (0 : Int) ≤ s := by omega
  have h4 : (s : Int) < 8 := by omega
  have z1 : 1 < w.heap.size := hT.size
  have L := Lib.hid ((hT.alloc (.cells #[.int .i64 0, .int .u32 0, .int .u32 0, .int .u32 0] 42)).layAt hs)
  clear hT
  go_enter Tryd.func21, Tryd.ntmps21
  go_wp2_with (first | (refine wpList_load_lay rfl _ rfl _ _ s rfl L.out ?_) | (refine wpList_store_new rfl 39 _ _ rfl _ _ _ _ rfl rfl ?hi ?hs ?h1 rfl ?hg ?_; (case hi => exact layInfo); (case hs => exact rfl); (case h1 => simp [Value.oneCell']); (case hg => simp)))
  have hS := told_start (w := w) (s := s) (x0 := .int .i64 0) (x1 := .int .u32 0) (x2 := .int .u32 0) (x3 := .int .u32 0) (t := 42) (u := 39)
  unfold layA at hS
  generalize (w.alloc (.cells #[.int .i64 0, .int .u32 0, .int .u32 0, .int .u32 0] 42)).alloc _ = W at hS ⊢
  clear L
  obtain ⟨hS, ⟨⟨r0, q0⟩, ⟨r1, q1⟩, ⟨r2, q2⟩, ⟨r3, q3⟩, f0, f1, f2, f3⟩, hz, HB⟩ := hS
  have HBel := Lib.hid HB
  have hz0 : w.heap.size < W.heap.size := by omega
  clear HB
  have y4 := hS.1.2.2.2.1
  have e1 : IntKind.i64.wrap (32 - (lRest s : Int)) = 32 - (lRest s : Int) := by rw [IntKind.wrap_i64]; omega
  have b1 : (0 : Int) ≤ lRest s := by omega
  have b2 : (0 : Int) ≤ 32 - (lRest s : Int) := by omega
  have b3 : (lRest s : Int) + (32 - (lRest s : Int)) ≤ 64 := by omega
  go_region_held3 (fun w' => HeldL w' (w.heap.size + 1) s ∧ LayAt w' (w.heap.size + 1) 0 s) ((repeat (first | (with_reducible exact hS) | (with_reducible apply rowS_drew) | (with_reducible apply rowS_alloc))))
    (first
    | (go_at_call 17; (with_reducible refine (wfield_drew v 0 7 hv (by omega) (by omega) (by omega) _).mono ?_); rintro e w' ⟨rfl, rfl⟩)
    | (go_at_call 17; (with_reducible refine (wfield_drew v (lRest s) (32 - (lRest s : Int)) hv b1 b2 b3 _).mono ?_); rintro e w' ⟨rfl, rfl⟩))
  all_goals
    rename_i hh
    clear hh hS
    cases hk : lKd s with
    | false =>
      have HK := Lib.hid (show (0 : Int) = tK v s by unfold tK; rw [hk]; rfl)
      rw [hk] at y4
      clear hk
      go_wp2
      refine bodyPost_ret (v := .agg #[.int .i64 s, .int .u32 (fld v 0 7), .int .u32 0, .int .u32 (fld v (lRest s) (32 - (lRest s : Int)))]) (by simp [results, Tryd.results21, go_sem, hz0, q0, q1, q2, q3]) rfl ⟨by rw [← HK.out]; rfl, ?_⟩
      exact below_drew3 ((below_set4 HBel.out).alloc (Nat.le_trans HBel.out.size (by simp [World.setCell])) _)
    | true =>
      have HK := Lib.hid (show fld v 12 3 = tK v s by unfold tK; rw [hk]; rfl)
      rw [hk] at y4
      clear hk
      go_wp2_with (go_at_call 17; (with_reducible refine (wfield_drew v 12 3 hv (by omega) (by omega) (by omega) _).mono ?_); rintro e w' ⟨rfl, rfl⟩)
      refine bodyPost_ret (v := .agg #[.int .i64 s, .int .u32 (fld v 0 7), .int .u32 (fld v 12 3), .int .u32 (fld v (lRest s) (32 - (lRest s : Int)))]) (by simp [results, Tryd.results21, go_sem, hz0, q0, q1, q2, q3]) rfl ⟨by rw [← HK.out]; rfl, ?_⟩
      exact below_drew4 ((below_set4 HBel.out).alloc (Nat.le_trans HBel.out.size (by simp [World.setCell])) _)
end Go.Proofs.YtepkochgibjflaaDoor
