/- Layer 7: slices.Compact of Defs, of rows that the call made. No condition. -/
import Derived.Test.YthoehbmbmjmpbaaDoorSymS
import Derived.Test.YthoehbmbmjmpbaaDoorSymZ
import Derived.Lib.SlicesCompact
import Derived.Lib.SliceRun
import Derived.Deep.LoopGhost
import Derived.Deep.QuietTactic
import Derived.BigQuiet
namespace Go.Proofs.YthoehbmbmjmpbaaDoor
set_option maxRecDepth 100000
open Go.RowKit Go.Maps Go.Sort
set_option linter.unusedVariables false
/-- a row of Defs as it lies in a block of the call's own -/
structure RwD (w : World) (g cap : Nat) (d : Array (Int × Int)) : Prop where
  ex : ∃ cur, w.heap[g]? = some (.cells cur 39 (0, 0)) ∧ cur.size = cap * 2 ∧ ∀ j, j < d.size → cur[j * 2]? = some (.int .i64 d[j]!.1) ∧ cur[j * 2 + 1]? = some (.int .i64 d[j]!.2)
  le : d.size ≤ cap
section
variable {w : World} {g cap : Nat} {d : Array (Int × Int)}
theorem RwD.cells (h : RwD w g cap d) {j : Nat} (hj : j < d.size) : w.cell? ⟨g, j * 2, none⟩ = some (.int .i64 d[j]!.1) ∧ w.cell? ⟨g, j * 2 + 1, none⟩ = some (.int .i64 d[j]!.2) := by
  obtain ⟨cur, h1, h2, h3⟩ := h.ex
  obtain ⟨g1, g2⟩ := h3 j hj
  exact ⟨(cell_of_row w g (j * 2) cur _ _ h1).trans g1, (cell_of_row w g (j * 2 + 1) cur _ _ h1).trans g2⟩
theorem RwD.frozen (h : RwD w g cap d) : ∀ o, w.frozen? ⟨g, o, none⟩ = false := fun o => by
  obtain ⟨cur, h1, _⟩ := h.ex
  exact frozen_of_row w g o _ _ h1
theorem RwD.isS (h : RwD w g cap d) {o : Nat} (ho : o < d.size * 2) : (w.cell? ⟨g, o, none⟩).isSome = true := by
  obtain ⟨h1, h2⟩ := h.cells (j := o / 2) (by omega)
  rcases (show o % 2 = 0 ∨ o % 2 = 1 by omega) with e | e
  · rw [show o / 2 * 2 = o by omega] at h1; rw [h1]; rfl
  · rw [show o / 2 * 2 + 1 = o by omega] at h2; rw [h2]; rfl
theorem RwD.set (h : RwD w g cap d) {i : Nat} (hi : i < d.size) (x : Int × Int) : RwD ((w.setCell ⟨g, i * 2, none⟩ (.int .i64 x.1)).setCell ⟨g, i * 2 + 1, none⟩ (.int .i64 x.2)) g cap (d.setIfInBounds i x) := by
  obtain ⟨cur, h1, h2, h3⟩ := h.ex
  have hle := h.le
  refine ⟨⟨_, heap_setCell_same _ g (i * 2 + 1) _ _ _ (heap_setCell_same w g (i * 2) _ _ _ h1), by simpa using h2, fun j hj => ?_⟩, by simpa using hle⟩
  have hj' : j < d.size := by simpa using hj
  obtain ⟨g1, g2⟩ := h3 j hj'
  by_cases e : j = i
  · subst e
    rw [getElem!_set_same d j x hi]
    constructor
    · rw [Array.getElem?_setIfInBounds, if_neg (by omega), Array.getElem?_setIfInBounds, if_pos rfl, if_pos (by omega)]
    · rw [Array.getElem?_setIfInBounds, if_pos rfl, if_pos (by simp; omega)]
  · rw [getElem!_set_other d i j x e]
    constructor
    · rw [Array.getElem?_setIfInBounds, if_neg (by omega), Array.getElem?_setIfInBounds, if_neg (by omega)]; exact g1
    · rw [Array.getElem?_setIfInBounds, if_neg (by omega), Array.getElem?_setIfInBounds, if_neg (by omega)]; exact g2
theorem RwD.clear : ∀ (m : Nat) {w : World} {d : Array (Int × Int)} {k : Nat}, RwD w g cap d → k + m ≤ d.size → RwD (w.setCells g (k * 2) (List.replicate (m * 2) (.int .i64 0))) g cap (Lib.lay d k (List.replicate m (0, 0)))
  | 0, w, d, k, h, _ => h
  | m + 1, w, d, k, h, hk => by
    have h2 := RwD.clear m (h.set (i := k) (by omega) (0, 0)) (k := k + 1) (by simp; omega)
    rw [show (m + 1) * 2 = m * 2 + 1 + 1 by omega, List.replicate_succ, List.replicate_succ]
    simp only [World.setCells]
    rw [show k * 2 + 1 + 1 = (k + 1) * 2 by omega]
    exact h2
theorem grown_setCells (g : Nat) : ∀ (vs : List Value) (w : World) (o : Nat), w.grownBy (w.setCells g o vs) (some g)
  | [], w, o => ⟨rfl, rfl, rfl, Nat.le_refl _, fun _ _ _ => rfl⟩
  | v :: vs, w, o => by
    have h1 := grown_setO w g o v
    have h2 := grown_setCells g vs (w.setCell ⟨g, o, none⟩ v) (o + 1)
    exact ⟨h2.os.trans h1.os, h2.tape.trans h1.tape, h2.output.trans h1.output, Nat.le_trans h1.size h2.size, fun k hk hne => (h2.block k (Nat.lt_of_lt_of_le hk h1.size) hne).trans (h1.block k hk hne)⟩
theorem RwD.drewN (h : RwD w g cap d) (n : Nat) : RwD (w.drewN n) g cap d := ⟨h.ex, h.le⟩
theorem RwD.of_own {base : Nat} {ds : List (Int × Int)} {c : Nat} (h : w.ownsRow base 39 2 (.slice (some ⟨g, 0, none⟩) ds.length c) ds.length (ds.flatMap encDef)) : RwD w g c ds.toArray := by
  rcases h.2 with ⟨e, _⟩ | ⟨g', cap', cur, e, hb, hg, hnc, hcm, hcs, htk⟩
  · cases e
  · injection e with e1 e2 e3
    injection e1 with e1
    injection e1 with e1
    subst e1 e3
    refine ⟨⟨cur, hg, hcs, fun j hj => ?_⟩, by simpa using hnc⟩
    have hj' : j < ds.length := by simpa using hj
    have z0 := flat_get (enc := encDef) (sz := 2) (xs := ds) (fun _ => rfl) (j := j) (i := 0) hj' (by omega)
    have z1 := flat_get (enc := encDef) (sz := 2) (xs := ds) (fun _ => rfl) (j := j) (i := 1) hj' (by omega)
    rw [← htk, List.getElem?_take_of_lt (by omega), Array.getElem?_toList] at z0 z1
    rw [getElem!_pos ds.toArray j hj]
    exact ⟨z0, z1⟩
theorem RwD.own {base : Nat} {cs : List (Int × Int)} {m : Nat} (h : RwD w g cap (cs ++ List.replicate m (0, 0)).toArray) (hb : base ≤ g) (hm : cap ≤ maxLen) : DefsAt w base cs (.slice (some ⟨g, 0, none⟩) cs.length cap) := by
  obtain ⟨cur, h1, h2, h3⟩ := h.ex
  have hle := h.le
  have hl : cs.length ≤ cap := by simp at hle; omega
  refine ⟨_, cap, rfl, by rw [flat_len (enc := encDef) (sz := 2) (fun _ => rfl)], .inr ⟨g, cap, cur, rfl, hb, h1, hl, hm, h2, ?_⟩⟩
  apply List.ext_getElem?
  intro j
  by_cases hj : j < cs.length * 2
  · have hq : j / 2 < cs.length := by omega
    have hg := flat_get (enc := encDef) (sz := 2) (xs := cs) (fun _ => rfl) (j := j / 2) (i := j % 2) hq (by omega)
    rw [show j / 2 * 2 + j % 2 = j by omega] at hg
    rw [hg, List.getElem?_take_of_lt hj, Array.getElem?_toList]
    obtain ⟨z0, z1⟩ := h3 (j / 2) (by simp; omega)
    have e : (cs ++ List.replicate m (0, 0)).toArray[j / 2]! = cs[j / 2] := by
      rw [getElem!_pos _ _ (by simp; omega)]
      simp [List.getElem_append_left hq]
    rw [e] at z0 z1
    rcases (show j % 2 = 0 ∨ j % 2 = 1 by omega) with e2 | e2
    · rw [e2]
      rw [show j / 2 * 2 = j by omega] at z0
      exact z0
    · rw [e2]
      rw [show j / 2 * 2 + 1 = j by omega] at z1
      exact z1
  · rw [List.getElem?_take_eq_none (by omega), List.getElem?_eq_none (by rw [flat_len (enc := encDef) (sz := 2) (fun _ => rfl)]; omega)]
end
theorem eql_def (x0 x1 y0 y1 : Int) (w : World) : (binOp .eql 39 (.agg #[.int .i64 x0, .int .i64 x1]) (.agg #[.int .i64 y0, .int .i64 y1])).run Tryd.prog w = .ok (.bool (x0 == y0 && x1 == y1)) w := by
  rw [run_eql_struct]
  generalize hn : (10000 : Nat) = n
  obtain ⟨d, rfl⟩ : ∃ d, n = d + 2 := ⟨9998, by omega⟩
  rw [run_equalIn_agg w (d + 1) 39 _ _ def_und def_stood]
  rw [se_two7 def_fields (by decide) (by decide) (se_part7 _ se_agg_i7 _ 0 (.int .i64 x0) rfl w) (se_part7 _ se_agg_i7 _ 1 (.int .i64 x1) rfl w)
    (se_part7 _ se_agg_i7 _ 0 (.int .i64 y0) rfl w) (se_part7 _ se_agg_i7 _ 1 (.int .i64 y1) rfl w)
    (run_equalIn_int w d _ .i64 .i64 _ _ se_uInt7) (run_equalIn_int w d _ .i64 .i64 _ _ se_uInt7)]
  rw [Result.andThen_ok]
theorem run_clear_def (w : World) (ty : TypeId) (b o n c : Nat) (hn : 0 < n) (hc : ∀ j, j < n * 2 → (w.cell? ⟨b, o + j, none⟩).isSome = true) (hf : ∀ j, j < n * 2 → w.frozen? ⟨b, o + j, none⟩ = false) :
    (Builtin.clear_ #[44] ty #[.slice (some ⟨b, o, none⟩) n c]).run Tryd.prog w = .ok (.tuple #[]) (w.setCells b o (List.replicate (n * 2) (.int .i64 0))) := by
  have hv : ∀ w, (zeroValue 39).run Tryd.prog w = .ok (.agg #[.int .i64 0, .int .i64 0]) w := fun w => by kernel_rfl
  have hzc : (Builtin.zeroCells (Value.agg #[.int .i64 0, .int .i64 0]).cells n).toList = List.replicate (n * 2) (.int .i64 0) := by
    apply List.ext_getElem
    · simp [Builtin.zeroCells, Value.cells]
    · intro i h1 h2
      have : i % 2 = 0 ∨ i % 2 = 1 := by omega
      rcases this with e | e <;> simp [Builtin.zeroCells, Value.cells, e]
  have hst := run_storeCells_cells (P := Tryd.prog) b o (List.replicate (n * 2) (.int .i64 0)) 0 w (by simpa using hc) (by simpa using hf) (by intro v hv'; rw [List.eq_of_mem_replicate hv']; rfl)
  simp only [Nat.add_zero] at hst
  obtain ⟨m, rfl⟩ : ∃ m, n = m + 1 := ⟨n - 1, by omega⟩
  simp [Builtin.clear_, run_underlying Tryd.underlying44, hv, hzc, hst]
set_option maxHeartbeats 4000000 in
theorem compact_defs (ds : List (Int × Int)) (base : Nat) (v : Value) (w : World) (hn : ds.length ≤ 1000000) (hbw : base ≤ w.heap.size) (h : DefsAt w base ds v) :
    Calls Tryd.prog 43 #[v] w fun e w' => ∃ v', e = .returned v' ∧ DefsAt w' base (Lib.compact ds) v' ∧ Below base w w' := by
  by_cases h2 : ds.length < 2
  · have hc : Lib.compact ds = ds := Lib.compact_all ds fun j hj => by
      match ds, h2, j, hj with
      | [x], _, 0, _ => exact Lib.keeps_lt_one _ 0 (by omega)
    rw [hc]
    have HD := Lib.hid h
    obtain ⟨A, c, rfl, _⟩ := h
    have hl : (ds.length : Int) < 2 := by omega
    clear hc
    go_enter Tryd.func43, Tryd.ntmps43
    go_wp2
    go_ret
    exact ⟨_, rfl, HD.out, Below.refl _ _⟩
  · obtain ⟨A, cap, rfl, ho⟩ := h
    rcases ho.2 with ⟨e, e0⟩ | ⟨g, cap', cur, e, hb, hg, hnc, hcm, hcs, htk⟩
    · omega
    injection e with e1 e2 e3
    subst e1 e3
    have HD := Lib.hid (show DefsAt w base ds (.slice (some ⟨g, 0, none⟩) ds.length cap) from ⟨_, cap, rfl, ho⟩)
    have HR := Lib.hid (RwD.of_own ho)
    obtain ⟨d, hd⟩ : ∃ d, d = ds.toArray := ⟨_, rfl⟩
    have hds : ds.length = d.size := by rw [hd]; simp
    have HDs := Lib.hid hd
    have HCm := Lib.hid (show cap ≤ maxLen from hcm)
    have HBg := Lib.hid hb
    have HBw := Lib.hid hbw
    have HCap := Lib.hid (show d.size ≤ cap by rw [← hds]; exact hnc)
    rw [← hd] at HR
    have HDl := Lib.hid (show ds = d.toList by rw [hd])
    have hds0 := hds
    rw [hds] at hn h2 ⊢
    have h2' : ¬ (d.size : Int) < 2 := by omega
    have HGl := Lib.hid (show g < w.heap.size from (Array.getElem?_eq_some_iff.1 hg).1)
    clear ho hb hg hnc hcm hcs htk hbw hd
    have hd6 : d.size ≤ 1000000 := by omega
    have HDn := Lib.hid (show DefsAt w base d.toList (.slice (some ⟨g, 0, none⟩) d.size cap) from by have h := HD.out; rw [hds0] at h; rw [← HDl.out]; exact h)
    go_enter Tryd.func43, Tryd.ntmps43
    go_wp2
    go_loopg [3] d.size (fun gh s3 wr => ∃ k : Nat, 1 ≤ k ∧ k ≤ d.size ∧ d.size - k ≤ gh ∧ s3 = .int .i64 k ∧ Hid (∃ q, wr = w.drewN q) ∧ Hid (∀ j, j < k → Lib.keeps d j = true))
    case atStart => exact ⟨1, by omega, by omega, by omega, rfl, Lib.hid ⟨0, rfl⟩, Lib.hid (Lib.keeps_lt_one d)⟩
    case round =>
      obtain ⟨k, hk1, hk, hgg, rfl, HW, HK⟩ := hrel
      have HRr := Lib.hid (show RwD wr g cap d from by obtain ⟨q, e⟩ := HW.out; rw [e]; exact HR.out.drewN q)
      by_cases hlt : k < d.size
      · obtain ⟨c1, d1⟩ := HRr.out.cells hlt
        obtain ⟨c0, d0⟩ := HRr.out.cells (j := k - 1) (by omega)
        have hi0 : (0 : Int) ≤ k := by omega
        have hi1 : (k : Int) < d.size := by omega
        have hi2 : (0 : Int) ≤ (k : Int) - 1 := by omega
        have hi3 : (k : Int) - 1 < d.size := by omega
        have HX := Lib.hid (show d[k]! = d[k]! from rfl)
        generalize hx : d[k]! = x at c1 d1
        generalize hy : d[k - 1]! = y at c0 d0
        have HXY := Lib.hid (And.intro hx hy)
        clear hx hy HX
        obtain ⟨x0, x1⟩ := x
        obtain ⟨y0, y1⟩ := y
        simp only at c1 d1 c0 d0
        have hq := fun W => eql_def x0 x1 y0 y1 W
        by_cases hdup : (x0, x1) = (y0, y1)
        · have HE := Lib.hid hdup
          have hb : (x0 == y0 && x1 == y1) = true := by cases hdup; simp
          rw [hb] at hq
          clear hdup hb
          have HS0 := Lib.hid (Lib.CompInv.start HK.out (Lib.keeps_neg (by omega) (by rw [HXY.out.1, HXY.out.2]; exact HE.out)))
          go_wp2
          go_quiet (fail)
          have HW0 := Lib.hid (show RwD (wr.drewN nq) g cap d from HRr.out.drewN nq)
          have HB0 := Lib.hid (show Below base w (wr.drewN nq) from by obtain ⟨q, e⟩ := HW.out; rw [e]; exact ⟨rfl, rfl, rfl, Nat.le_refl _, fun _ _ => rfl⟩)
          clear c0 c1 d0 d1 HRr HW
          generalize wr.drewN nq = wx at *
          have hck : ¬ cap = k := by have := HCap.out; omega
          go_wp2
          go_loopg [3, 5] d.size (fun gh s3 s5 wq => ∃ (kk k2 : Nat) (dk : Array (Int × Int)), s3 = .int .i64 kk ∧ s5 = .int .i64 k2 ∧ kk ≤ d.size ∧ 1 ≤ k2 ∧ k + k2 ≤ d.size ∧ d.size - (k + k2) ≤ gh ∧ Hid (RwD wq g cap dk) ∧ Hid (Lib.CompInv d (k + k2) kk dk) ∧ Hid (Below base w wq))
          case atStart => exact ⟨k, 1, d, rfl, rfl, by omega, by omega, by omega, by omega, HW0, HS0, HB0⟩
          case round =>
            clear HW0 HB0 HS0
            obtain ⟨kk, k2, dk, rfl, rfl, hkk, hk21, hk22, hg2, HR2, HI2, HB2⟩ := hrel
            have hkl := HI2.out.lt
            have hds2 := HI2.out.size
            by_cases hlt2 : k + k2 < d.size
            · obtain ⟨cm, dm⟩ := HR2.out.cells (j := k + k2) (by omega)
              obtain ⟨cp, dp⟩ := HR2.out.cells (j := k + k2 - 1) (by omega)
              obtain ⟨ck, ek⟩ := HR2.out.cells (j := kk) (by omega)
              have hfr := HR2.out.frozen
              rw [HI2.out.high (k + k2) (by omega), show (k + k2) * 2 = k * 2 + k2 * 2 by omega] at cm dm
              rw [HI2.out.high (k + k2 - 1) (by omega), show (k + k2 - 1) * 2 = k * 2 + (k2 - 1) * 2 by omega] at cp dp
              have hm0 : (0 : Int) ≤ k2 := by omega
              have hm1 : (k2 : Int) < (d.size : Int) - k := by omega
              have hm1' : (k2 : Int) < ((d.size - k : Nat) : Int) := by omega
              have hm2 : (0 : Int) ≤ (k2 : Int) - 1 := by omega
              have hm3 : (k2 : Int) - 1 < ((d.size - k : Nat) : Int) := by omega
              have hkk0 : (0 : Int) ≤ (kk : Int) := by omega
              have hkk1 : (kk : Int) < d.size := by omega
              generalize hu : d[k + k2]! = u at cm dm
              generalize hv : d[k + k2 - 1]! = v at cp dp
              have HUV := Lib.hid (And.intro hu hv)
              generalize dk[kk]! = old at ck ek
              clear hu hv
              obtain ⟨u0, u1⟩ := u
              obtain ⟨v0, v1⟩ := v
              simp only at cm dm cp dp
              have hq2 := fun W => neq_def u0 u1 v0 v1 W
              by_cases huv : (u0, u1) = (v0, v1)
              · have HE2 := Lib.hid huv
                have hb2 : (u0 == v0 && u1 == v1) = true := by cases huv; simp
                rw [hb2] at hq2
                clear huv hb2
                go_wp2
                go_quiet (fail)
                have HR3 := Lib.hid (HR2.out.drewN nq)
                have HB3 := Lib.hid (show Below base w (wr.drewN nq) from ⟨HB2.out.os, HB2.out.tape, HB2.out.output, HB2.out.size, HB2.out.block⟩)
                go_wp2
                go_roundg (d.size - (k + (k2 + 1)))
                case measure => omega
                case rel => exact ⟨kk, k2 + 1, dk, rfl, by go_num, by omega, by omega, by omega, Nat.le_refl _, HR3, Lib.hid (HI2.out.skip (Lib.keeps_neg (by omega) (by rw [HUV.out.1, HUV.out.2]; exact HE2.out))), HB3⟩
              · have HE2 := Lib.hid huv
                have hb2 : (u0 == v0 && u1 == v1) = false := by
                  rw [← Bool.not_eq_true]
                  intro h
                  simp only [Bool.and_eq_true, beq_iff_eq] at h
                  exact huv (by rw [h.1, h.2])
                rw [hb2] at hq2
                clear huv hb2
                go_wp2
                go_quiet (fail)
                have HR3 := Lib.hid ((HR2.out.drewN nq).set (i := kk) (by omega) (u0, u1))
                have HB3 := Lib.hid (show Below base w (((wr.drewN nq).setCell ⟨g, kk * 2, none⟩ (.int .i64 u0)).setCell ⟨g, kk * 2 + 1, none⟩ (.int .i64 u1)) from by
                  have h0 : Below base w (wr.drewN nq) := ⟨HB2.out.os, HB2.out.tape, HB2.out.output, HB2.out.size, HB2.out.block⟩
                  have hbw := HBw.out
                  have hbg := HBg.out
                  have h1 := h0.grown (grown_setO _ g (kk * 2) (.int .i64 u0)) (Nat.le_trans hbw h0.size) (fun k e => by cases e; exact hbg)
                  exact h1.grown (grown_setO _ g (kk * 2 + 1) (.int .i64 u1)) (Nat.le_trans hbw h1.size) (fun k e => by cases e; exact hbg))
                go_wp2
                go_roundg (d.size - (k + (k2 + 1)))
                case measure => omega
                case rel => exact ⟨kk + 1, k2 + 1, dk.setIfInBounds kk (u0, u1), by go_num, by go_num, by omega, by omega, by omega, Nat.le_refl _, HR3, Lib.hid (by have := HI2.out.keep hlt2 (Lib.keeps_pos (by rw [HUV.out.1, HUV.out.2]; exact HE2.out)); rwa [HUV.out.1] at this), HB3⟩
            · have hend : k + k2 = d.size := by omega
              have hm1' : ¬ (k2 : Int) < ((d.size - k : Nat) : Int) := by omega
              have hck2 : ¬ cap = kk := by have := HCap.out; omega
              have hkk0 : (0 : Int) ≤ (kk : Int) := by omega
              have hkk1 : (kk : Int) ≤ d.size := by omega
              have hkk2 : (kk : Int) ≤ cap := by have := HCap.out; omega
              have hcl := fun ty => run_clear_def wr ty g (kk * 2) (d.size - kk) (cap - kk) (by omega) (fun j hj => HR2.out.isS (by omega)) (fun j hj => HR2.out.frozen _)
              have HI3 := HI2.out
              rw [hend] at HI3
              have HR3 := Lib.hid (show RwD (wr.setCells g (kk * 2) (List.replicate ((d.size - kk) * 2) (.int .i64 0))) g cap (Lib.compactUpTo d d.size ++ List.replicate (d.size - kk) (0, 0)).toArray from by
                rw [← HI3.done]
                exact RwD.clear (d.size - kk) HR2.out (by omega))
              have HB3 := Lib.hid (show Below base w (wr.setCells g (kk * 2) (List.replicate ((d.size - kk) * 2) (.int .i64 0))) from
                HB2.out.grown (grown_setCells g _ wr (kk * 2)) (Nat.le_trans HBw.out HB2.out.size) (fun k e => by cases e; exact HBg.out))
              have HL := Lib.hid (show (Lib.compactUpTo d d.size).length = kk from HI3.len)
              clear HI3
              go_wp2
              go_ret
              refine ⟨_, rfl, ?_, HB3.out⟩
              have hfin := HR3.out.own (base := base) HBg.out HCm.out
              have e : Lib.compact ds = Lib.compactUpTo d d.size := by unfold Lib.compact; rw [HDs.out]; simp
              rw [e]
              rw [HL.out] at hfin
              exact hfin
        · have HE := Lib.hid hdup
          have hb : (x0 == y0 && x1 == y1) = false := by
            rw [← Bool.not_eq_true]
            intro h
            simp only [Bool.and_eq_true, beq_iff_eq] at h
            exact hdup (by rw [h.1, h.2])
          rw [hb] at hq
          clear hdup hb
          go_wp2
          go_quiet (fail)
          go_wp2
          go_roundg (d.size - (k + 1))
          case measure => omega
          case rel =>
            refine ⟨k + 1, by omega, by omega, Nat.le_refl _, by go_num, Lib.hid (by obtain ⟨q, e⟩ := HW.out; rw [e]; exact ⟨_, by rw [World.drewN_drewN]⟩), Lib.hid (fun j hj => ?_)⟩
            by_cases e : j = k
            · subst e
              exact Lib.keeps_pos (by rw [HXY.out.1, HXY.out.2]; exact HE.out)
            · exact HK.out j (by omega)
      · obtain rfl : k = d.size := by omega
        have hcc : Lib.compact d.toList = d.toList := Lib.compact_all d.toList fun j hj => by simpa using HK.out j (by simpa using hj)
        have HCC := Lib.hid hcc
        have HWb := Lib.hid (show Below w.heap.size w wr from by obtain ⟨q, e⟩ := HW.out; rw [e]; exact ⟨rfl, rfl, rfl, Nat.le_refl _, fun _ _ => rfl⟩)
        clear hcc
        go_wp2
        go_ret
        refine ⟨_, rfl, ?_, HWb.out.mono HBw.out⟩
        rw [HDl.out, HCC.out]
        obtain ⟨A1, c1, e1, h1⟩ := HDn.out
        exact ⟨A1, c1, e1, rowO_below h1 HWb.out⟩
end Go.Proofs.YthoehbmbmjmpbaaDoor
