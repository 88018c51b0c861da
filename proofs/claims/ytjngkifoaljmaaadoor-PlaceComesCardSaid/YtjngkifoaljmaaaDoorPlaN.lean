/- Layer 8: what the document fixes, behind Link's contract. Condition: the tables of package ins read as they should. -/
import Derived.Test.YtjngkifoaljmaaaDoorPlaM
import Derived.Test.YtjngkifoaljmaaaDoorInsE
namespace Go.Proofs.YtjngkifoaljmaaaDoor
set_option maxRecDepth 100000
open Go.RowKit
set_option linter.unusedVariables false
theorem wk_ws : ∀ d ∈ [wkO, wkO], ObjW d := fun d hd => by
  simp only [List.mem_cons, List.not_mem_nil, or_false] at hd
  rcases hd with rfl | rfl <;> exact wk_w
theorem five_boxes (w : World) (o0 o1 o2 o3 o4 : Array Value) (t0 t1 t2 t3 t4 : TypeId) : ∃ W, ((((w.alloc (.cells o0 t0)).alloc (.cells o1 t1)).alloc (.cells o2 t2)).alloc (.cells o3 t3)).alloc (.cells o4 t4) = W ∧ W.heap[w.heap.size]? = some (.cells o0 t0 (0, 0)) ∧ W.heap[w.heap.size + 1]? = some (.cells o1 t1 (0, 0)) ∧ W.heap[w.heap.size + 1 + 1]? = some (.cells o2 t2 (0, 0)) ∧ W.heap[w.heap.size + 1 + 1 + 1]? = some (.cells o3 t3 (0, 0)) ∧ W.heap[w.heap.size + 1 + 1 + 1 + 1]? = some (.cells o4 t4 (0, 0)) ∧ Below w.heap.size w W ∧ W.heap.size = w.heap.size + 1 + 1 + 1 + 1 + 1 := by
  have s1 : (w.alloc (.cells o0 t0)).heap.size = w.heap.size + 1 := by simp
  have s2 : ((w.alloc (.cells o0 t0)).alloc (.cells o1 t1)).heap.size = w.heap.size + 1 + 1 := by simp
  have s3 : (((w.alloc (.cells o0 t0)).alloc (.cells o1 t1)).alloc (.cells o2 t2)).heap.size = w.heap.size + 1 + 1 + 1 := by simp
  have s4 : ((((w.alloc (.cells o0 t0)).alloc (.cells o1 t1)).alloc (.cells o2 t2)).alloc (.cells o3 t3)).heap.size = w.heap.size + 1 + 1 + 1 + 1 := by simp
  have g0 := heap_alloc_new w (.cells o0 t0)
  have g1 := heap_alloc_new (w.alloc (.cells o0 t0)) (.cells o1 t1)
  have g2 := heap_alloc_new ((w.alloc (.cells o0 t0)).alloc (.cells o1 t1)) (.cells o2 t2)
  have g3 := heap_alloc_new (((w.alloc (.cells o0 t0)).alloc (.cells o1 t1)).alloc (.cells o2 t2)) (.cells o3 t3)
  have g4 := heap_alloc_new ((((w.alloc (.cells o0 t0)).alloc (.cells o1 t1)).alloc (.cells o2 t2)).alloc (.cells o3 t3)) (.cells o4 t4)
  rw [s1] at g1
  rw [s2] at g2
  rw [s3] at g3
  rw [s4] at g4
  refine ⟨_, rfl, ?_, ?_, ?_, ?_, g4, ((((((Below.refl _ w).alloc (Nat.le_refl _) _).alloc (by omega) _).alloc (by omega) _).alloc (by omega) _).alloc (by omega) _), by simp⟩
  · rw [heap_alloc_old _ _ (by omega), heap_alloc_old _ _ (by omega), heap_alloc_old _ _ (by omega), heap_alloc_old _ _ (by omega)]; exact g0
  · rw [heap_alloc_old _ _ (by omega), heap_alloc_old _ _ (by omega), heap_alloc_old _ _ (by omega)]; exact g1
  · rw [heap_alloc_old _ _ (by omega), heap_alloc_old _ _ (by omega)]; exact g2
  · rw [heap_alloc_old _ _ (by omega)]; exact g3
theorem wk_may : mayB 38 5 0 0 0 = true := by decide +kernel
set_option maxHeartbeats 4000000 in
theorem awake8_of (w : World) (hT : Tabs w) (hL : ∀ (A : Option Addr) (c lo hi : Nat) (W : World), Tabs W → ObjsAt W lo hi [wkO, wkO] A → hi ≤ W.heap.size → Calls Tryd.prog 12 #[.slice A 2 c, .int .u64 4096, .int .u64 77824] W (LinkP [wkO, wkO] 4096 77824 2 W)) :
    Calls Tryd.prog 7 #[] w fun e w' => e = .returned (.bool true) ∧ Below w.heap.size w w' := by
  have HT := Lib.hid hT
  have HL := Lib.hid hL
  clear hT hL
  go_enter Tryd.func7, Tryd.ntmps7
  go_wp2_with fail
  refine (renc_yes 38 5 0 0 0 w (by omega) ⟨by omega, by omega⟩ wk_may).mono ?_
  rintro e w1 ⟨rfl, hb⟩
  rw [wk_enc]
  have HB1 := Lib.hid hb
  clear hb
  go_wp2_with fail
  refine (relocate_any 695 0 0 77823 ⟨by omega, by omega⟩ ⟨by omega, by omega⟩ ⟨by omega, by omega⟩ ⟨by omega, by omega⟩ w1 (HT.out.below HB1.out)).mono ?_
  rintro e w2 ⟨hb, rfl⟩
  rw [wk_hi]
  have HB2 := Lib.hid (HB1.out.trans (hb.mono HB1.out.size))
  clear hb
  go_wp2_with fail
  refine (relocate_any 695 1 0 0 ⟨by omega, by omega⟩ ⟨by omega, by omega⟩ ⟨by omega, by omega⟩ ⟨by omega, by omega⟩ w2 (HT.out.below HB2.out)).mono ?_
  rintro e w3 ⟨hb, rfl⟩
  rw [wk_lo]
  have HB3 := Lib.hid (HB2.out.trans (hb.mono HB2.out.size))
  clear hb
  go_upto_region 5 with fail
  obtain ⟨W, hWe, e0, e1, e2, e3, e4, hbW, hsz⟩ := five_boxes w3 #[.int .u32 695, .int .u32 111] #[.int .u64 7] #[.string ⟨#[100]⟩, .bool true, .int .i64 0, .bool false, .string ⟨#[102]⟩, .bool false, .int .i64 4, .bool false] #[.int .i64 0, .int .i64 0, .string ⟨#[100]⟩, .int .i64 0, .int .i64 4, .int .i64 2, .string ⟨#[102]⟩, .int .i64 0]
    #[.slice (some ⟨w3.heap.size, 0, none⟩) 2 2, .slice (some ⟨w3.heap.size + 1, 0, none⟩) 1 1, .slice (some ⟨w3.heap.size + 1 + 1, 0, none⟩) 2 2, .slice (some ⟨w3.heap.size + 1 + 1 + 1, 0, none⟩) 2 2, .slice none 0 0] 22 24 53 47 45
  have HB4 := Lib.hid (HB3.out.trans (hbW.mono HB3.out.size))
  have hO := wk_at (K := W.heap.size) e0 e1 e2 e3 (by omega) (by omega) (by omega) (by omega)
  have HO := Lib.hid hO
  have HX := Lib.hid e4
  rw [hWe]
  clear hWe e0 e1 e2 e3 hbW hO e4 hsz
  obtain ⟨x0, x1, x2, x3, x4, xf⟩ := row5 HX.out
  generalize w3.heap.size + 1 + 1 + 1 + 1 = k4 at *
  generalize w3.heap.size + 1 + 1 + 1 = k3 at *
  generalize w3.heap.size + 1 + 1 = k2 at *
  generalize w3.heap.size + 1 = k1 at *
  generalize w3.heap.size = k0 at *
  have hbx := (Below.refl W.heap.size W).alloc (Nat.le_refl _) (.cells #[.slice (some ⟨k0, 0, none⟩) 2 2, .slice (some ⟨k1, 0, none⟩) 1 1, .slice (some ⟨k2, 0, none⟩) 2 2, .slice (some ⟨k3, 0, none⟩) 2 2, .slice none 0 0, .slice (some ⟨k0, 0, none⟩) 2 2, .slice (some ⟨k1, 0, none⟩) 1 1, .slice (some ⟨k2, 0, none⟩) 2 2, .slice (some ⟨k3, 0, none⟩) 2 2, .slice none 0 0] 45)
  have HB5 := Lib.hid (HB4.out.trans (hbx.mono HB4.out.size))
  have HLk := Lib.hid (HL.out (some ⟨W.heap.size, 0, none⟩) 2 0 (W.heap.size + 1) _ (HT.out.below HB5.out) (objs_two (T := 45) (Nat.le_refl _) HO.out HO.out) (by simp))
  clear hbx
  go_wp2_with fail
  refine HLk.out.mono ?_
  rintro e w5 ⟨hb, v, u, rfl, -, h2⟩
  rw [wk_lk]
  obtain ⟨xs, hx, htx, hlg⟩ := h2 wk_lk
  rw [wk_tx] at hx
  cases hx
  have HB6 := Lib.hid (HB5.out.trans (hb.mono HB5.out.size))
  obtain ⟨Av, cv, rfl, hown⟩ := htx
  have htx : TxAt w5 _ [78519, 111, 78519, 111] (.slice Av 4 cv) := ⟨Av, cv, rfl, hown⟩
  obtain ⟨g, eg, -, c0, -⟩ := htx.at_ (i := 0) (by simp)
  subst eg
  obtain ⟨g', eg, -, c3, -⟩ := htx.at_ (i := 3) (by simp)
  cases eg
  obtain ⟨Au, cu, rfl, -⟩ := hlg
  rw [wk_da]
  have c0 : w5.cell? ⟨g, 0, none⟩ = some (.int .u32 78519) := c0
  have c3 : w5.cell? ⟨g, 3, none⟩ = some (.int .u32 111) := c3
  clear hb h2 hown htx x0 x1 x2 x3 x4 xf
  go_wp2
  go_ret
  exact ⟨rfl, HB6.out⟩
end Go.Proofs.YtjngkifoaljmaaaDoor
