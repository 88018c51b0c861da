/- Layer 7: cmp.Or of two ints; byPlace. No condition. -/
import Derived.Test.YthoehbmbmjmpbaaDoorSymP
namespace Go.Proofs.YthoehbmbmjmpbaaDoor
set_option maxRecDepth 100000
open Go.RowKit Go.Maps
set_option linter.unusedVariables false
/-- cmp.Or of two -/
def orI (x y : Int) : Int := if x = 0 then y else x
set_option maxHeartbeats 4000000 in
theorem or_any (x y : Int) (g : Nat) (w : World) (h : w.heap[g]? = some (.cells #[.int .i64 x, .int .i64 y] 3 (0, 0))) : Calls Tryd.prog 69 #[.slice (some ⟨g, 0, none⟩) 2 2] w fun e w' => e = .returned (.int .i64 (orI x y)) ∧ w' = w := by
  have HX := Lib.hid h
  clear h
  go_enter Tryd.func69, Tryd.ntmps69
  obtain ⟨x0, x1, xf⟩ := row2 HX.out
  go_wp2
  go_loopg [8] 2 (fun m v wr => ∃ k : Nat, k + m = 2 ∧ v = .int .i64 k ∧ Hid (0 < k → x = 0) ∧ Hid (1 < k → y = 0) ∧ wr = w)
  case atStart => exact ⟨0, rfl, rfl, Lib.hid (fun h => by omega), Lib.hid (fun h => by omega), rfl⟩
  case round =>
    obtain ⟨k, hk, rfl, H0, H1, rfl⟩ := hrel
    rcases (show k = 0 ∨ k = 1 ∨ k = 2 by omega) with rfl | rfl | rfl
    · have hgk : gk = 2 := by omega
      clear hk
      by_cases hx : x = 0
      · have HX0 := Lib.hid hx
        go_wp2
        go_roundg 1
        case measure => omega
        case rel => exact ⟨1, rfl, rfl, Lib.hid (fun _ => HX0.out), Lib.hid (fun h => by omega), rfl⟩
      · have HO := Lib.hid (show orI x y = x from if_neg hx)
        go_wp2
        go_ret
        exact ⟨by rw [HO.out]; rfl, rfl⟩
    · have hgk : gk = 1 := by omega
      clear hk
      have HO := Lib.hid (show orI x y = y from if_pos (H0.out (by omega)))
      by_cases hy : y = 0
      · have HY0 := Lib.hid hy
        have HX0 := Lib.hid (H0.out (by omega))
        go_wp2
        go_roundg 0
        case measure => omega
        case rel => exact ⟨2, rfl, rfl, Lib.hid (fun _ => HX0.out), Lib.hid (fun _ => HY0.out), rfl⟩
      · go_wp2
        go_ret
        exact ⟨by rw [HO.out]; rfl, rfl⟩
    · clear hk
      have HO := Lib.hid (show orI x y = 0 from (if_pos (H0.out (by omega))).trans (H1.out (by omega)))
      go_wp2
      go_ret
      exact ⟨by rw [HO.out]; rfl, rfl⟩
theorem calls_cmp (args : Array Value) (w : World) : (callFunc 70 args).run Tryd.prog w = .ok (.enter 70 args) w := by kernel_rfl
theorem calls_or (args : Array Value) (w : World) : (callFunc 69 args).run Tryd.prog w = .ok (.enter 69 args) w := by kernel_rfl
set_option maxHeartbeats 4000000 in
theorem by_place (ao az bo bs : Int) (w : World) : Calls Tryd.prog 42 #[.agg #[.int .i64 ao, .int .i64 az], .agg #[.int .i64 bo, .int .i64 bs]] w fun e w' => e = .returned (.int .i64 (orI (cmpI ao bo) (cmpI az bs))) ∧ ∃ q os', w' = Sort.grow (w.drewN q) os' := by
  go_enter Tryd.func42, Tryd.ntmps42
  go_upto_region 1 with fail
  have HB1 := Lib.hid ((Below.refl w.heap.size w).alloc (Nat.le_refl _) (.cells #[.int .i64 ao, .int .i64 az] 39))
  have HB2 := Lib.hid ((Below.refl (w.alloc (.cells #[.int .i64 ao, .int .i64 az] 39)).heap.size (w.alloc (.cells #[.int .i64 ao, .int .i64 az] 39))).alloc (Nat.le_refl _) (.cells #[.int .i64 bo, .int .i64 bs] 39))
  have H1 := Lib.hid (heap_alloc_new w (.cells #[.int .i64 ao, .int .i64 az] 39))
  have H2 := Lib.hid (heap_alloc_new (w.alloc (.cells #[.int .i64 ao, .int .i64 az] 39)) (.cells #[.int .i64 bo, .int .i64 bs] 39))
  have hsz : (w.alloc (.cells #[.int .i64 ao, .int .i64 az] 39)).heap.size = w.heap.size + 1 := by simp
  have HB := Lib.hid (HB1.out.trans (HB2.out.mono HB1.out.size))
  have H3 := Lib.hid ((HB2.out.block _ (by rw [hsz]; omega)).trans H1.out)
  rw [hsz] at H2
  have HG := Lib.hid (show ∃ q os', ((w.alloc (.cells #[.int .i64 ao, .int .i64 az] 39)).alloc (.cells #[.int .i64 bo, .int .i64 bs] 39)).drew.alloc (.cells #[.int .i64 (cmpI ao bo), .int .i64 (cmpI az bs)] 3) = Sort.grow (w.drewN q) os' from ⟨1, _, by rw [Sort.alloc_eq_grow, Sort.alloc_eq_grow, Sort.alloc_eq_grow, Sort.grow_grow]; exact Sort.grow_grow (w.drewN 1) _ _⟩)
  generalize ((w.alloc (.cells #[.int .i64 ao, .int .i64 az] 39)).alloc (.cells #[.int .i64 bo, .int .i64 bs] 39)) = W at *
  obtain ⟨x0, x1, xf⟩ := row2 H3.out
  obtain ⟨y0, y1, yf⟩ := row2 H2.out
  have HO := Lib.hid (or_any (cmpI ao bo) (cmpI az bs) W.heap.size (W.drew.alloc (.cells #[.int .i64 (cmpI ao bo), .int .i64 (cmpI az bs)] 3)) (heap_alloc_new W.drew _))
  have _HD := Lib.hid (HB.out.trans ((((Below.refl W.heap.size W).drew).alloc (show W.heap.size ≤ W.drew.heap.size from Nat.le_refl _) (.cells #[.int .i64 (cmpI ao bo), .int .i64 (cmpI az bs)] 3)).mono HB.out.size))
  clear HB1 HB2 H1 hsz
  go_region_law (first
    | (refine step_call6 rfl 70 _ _ rfl #[.int .i64 ao, .int .i64 bo] ?hv calls_cmp (compare_any ao bo _) ?_; (case hv => simp [go_sem]); rintro e w5 ⟨rfl, rfl⟩; refine ⟨_, rfl, ?_⟩)
    | (refine step_call6 rfl 70 _ _ rfl #[.int .i64 az, .int .i64 bs] ?hv calls_cmp (compare_any az bs _) ?_; (case hv => simp [go_sem]); rintro e w5 ⟨rfl, rfl⟩; refine ⟨_, rfl, ?_⟩)
    | (refine step_call6 rfl 69 _ _ rfl #[.slice (some ⟨W.heap.size, 0, none⟩) 2 2] ?hv calls_or HO.out ?_; (case hv => simp [go_sem]); rintro e w5 ⟨rfl, rfl⟩; refine ⟨_, rfl, ?_⟩))
  all_goals
    go_wp2
    go_ret
    exact ⟨rfl, HG.out⟩
end Go.Proofs.YthoehbmbmjmpbaaDoor
