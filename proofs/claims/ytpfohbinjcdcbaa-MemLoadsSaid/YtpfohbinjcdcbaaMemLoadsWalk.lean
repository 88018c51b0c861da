/- The walk of the statement MemLoads: it returns true, and writes nothing that was there. -/
import Derived.Test.YtpfohbinjcdcbaaMemOne
import Derived.Test.YtpfohbinjcdcbaaMemOpen
namespace Go.Proofs.Ytpfohbinjcdcbaa.MemLoadsWalk
open Go.RowKit Go.Maps
set_option linter.unusedVariables false

def BL (v x y : Int) : Nat → List Int := setB (zerosB (T1 64 80 x y)) 0 (splice (zerosB (T1 64 80 x y) 0) (72 - rlo (nthR (T1 64 80 x y) 0)).toNat (bytesL v 8))
theorem bl_eight {v x y : Int} : cut (T1 64 80 x y) (BL v x y) 72 8 0 = bytesL v 8 := by
  show ((splice (List.replicate 16 (0 : Int)) 8 (bytesL v 8)).drop 8).take 8 = _
  simp [splice, bytesL_length]
  exact List.take_of_length_le (by rw [bytesL_length]; omega)
theorem bl_word {v x y : Int} (hv : IsU v) : wordI (cut (T1 64 80 x y) (BL v x y) 72 8 0) = v := by
  rw [bl_eight]
  have h := restI_word v hv 8
  have h2 : restI v 8 = 0 := by
    obtain ⟨h0, h1⟩ := hv
    unfold restI
    omega
  rw [h2] at h
  omega
theorem bl_one {v x y : Int} {i : Nat} (hi : i < 8) : wordI (cut (T1 64 80 x y) (BL v x y) (72 + i) 1 0) = byteI v i := by
  have : cut (T1 64 80 x y) (BL v x y) (72 + i) 1 0 = ((splice (List.replicate 16 (0 : Int)) 8 (bytesL v 8)).drop (72 + (i : Int) - 64).toNat).take 1 := rfl
  rw [this, show (72 + (i : Int) - 64).toNat = 8 + i by omega]
  have h : i = 0 ∨ i = 1 ∨ i = 2 ∨ i = 3 ∨ i = 4 ∨ i = 5 ∨ i = 6 ∨ i = 7 := by omega
  rcases h with rfl | rfl | rfl | rfl | rfl | rfl | rfl | rfl <;> simp [splice, bytesL, wordI, List.range, List.range.loop]
/-- may it be read? -/
def May (x y : Int) (own : Bool) : Prop := (if own then x else y) % 2 = 1
theorem may_yes {x y p q : Int} {own : Bool} (hx : 0 ≤ x ∧ x ≤ 7) (hy : 0 ≤ y ∧ y ≤ 7) (h : May x y own) (hq : accB p q = true) (h0 : 64 ≤ p) (h1 : 1 ≤ q) (h2 : p + q ≤ 80) : AllYes (T1 64 80 x y) p q own 1 0 := by
  refine ⟨hq, t1_f h0 h1 h2, ?_⟩
  rw [t1_right, has1 (by split <;> omega) (by split <;> omega), decide_eq_true_eq]
  exact h
theorem may_no {x y p q : Int} {own : Bool} (hx : 0 ≤ x ∧ x ≤ 7) (hy : 0 ≤ y ∧ y ≤ 7) (h : ¬ May x y own) (h0 : 64 ≤ p) (h1 : 1 ≤ q) (h2 : p + q ≤ 80) : AllNo (T1 64 80 x y) p q own 1 := by
  refine .inr (.inr ⟨0, t1_f h0 h1 h2, ?_⟩)
  rw [t1_right, has1 (by split <;> omega) (by split <;> omega), decide_eq_false_iff_not]
  exact h
theorem ret_true {b : Bool} (h : b = true) : Ending.returned (.bool b) = Ending.returned (.bool true) := by rw [h]
theorem sl_open {w : World} {ad : Addr} {v : Int} (h : Sl w (some ad) (bytesL v 8)) : ∃ b o, ad = ⟨b, o, none⟩ ∧ ∀ k, k < 8 → w.cell? ⟨b, o + k, none⟩ = some (.int .u8 (byteI v k)) := by
  rcases h with h | ⟨b, o, h, hc⟩
  · have := bytesL_length v 8; rw [h] at this; simp at this
  · refine ⟨b, o, Option.some.inj h, fun k hk => ?_⟩
    have := hc k (by rw [bytesL_length]; exact hk)
    rw [this, bytesL_nth v hk]
set_option maxRecDepth 100000 in
set_option maxHeartbeats 2000000 in
theorem walkCtx (a0 : Int) (c0 c1 : Int) (w : World) (hu : IsU a0) (p0 : 0 ≤ c0) (p1 : c0 ≤ 255) (r0 : 0 ≤ c1) (r1 : c1 ≤ 255) :
    Calls Try.prog 4 #[.int .u64 a0, .bool false, .agg #[.int .u8 c0, .int .u8 c1]] w fun e w' => e = .returned (.bool true) ∧ Below w.heap.size w w' := by
  have HU := Lib.hid hu
  have HX := Lib.hid (show 0 ≤ c0 % 8 ∧ c0 % 8 ≤ 7 by omega)
  have HY := Lib.hid (show 0 ≤ c1 % 8 ∧ c1 % 8 ≤ 7 by omega)
  clear hu
  go_enter Try.func4, Try.ntmps4
  go_wp2_with fail
  refine (awakeM _).mono ?_
  rintro e w1 ⟨rfl, hb1⟩
  have H1 := Lib.hid (((Below.refl _ _).alloc (Nat.le_refl _) _ : Below w.heap.size w _).trans (hb1.mono (by simp)))
  have d0 : w1.cell? ⟨w.heap.size, 0, none⟩ = some (.int .u8 c0) := by rw [hb1.cell (p := ⟨_, 0, none⟩) (by simp)]; simp [go_sem]
  have d1 : w1.cell? ⟨w.heap.size, 1, none⟩ = some (.int .u8 c1) := by rw [hb1.cell (p := ⟨_, 1, none⟩) (by simp)]; simp [go_sem]
  have L1 := Lib.hid (block_lt d0)
  clear hb1
  go_wp2_with fail
  refine (new_yes _ 0 1 (T1 64 80 (c0 % 8) (c1 % 8)) 1 rfl (t1_w (by omega) (by omega) (by omega) HX.out HY.out) (t1_may (by omega) (by omega) (by omega) (by omega) (by omega) HX.out HY.out) _ (t1_tab _)).mono ?_
  rintro e w2 ⟨m, tb, tc, hb, G, rfl, hI, hb2⟩
  have hb2' : Below w1.heap.size w1 w2 := ((Below.refl _ _).alloc (Nat.le_refl _) _).trans (hb2.mono (by simp))
  have HI := Lib.hid (hI.rebase (Nat.le_trans L1.out (by simp) : w.heap.size + 1 ≤ _))
  have H2 := Lib.hid (H1.out.trans (hb2'.mono H1.out.size))
  have e0 := (hb2'.cell (p := ⟨w.heap.size, 0, none⟩) L1.out).trans d0
  have e1 := (hb2'.cell (p := ⟨w.heap.size, 1, none⟩) L1.out).trans d1
  clear hI hb2 hb2' H1 d0 d1 L1
  go_wp2_with fail
  refine (rbytes_fresh a0 8 HU.out (by omega) _).mono ?_
  rintro e w3 ⟨A, c, rfl, hs, hb3, hfr⟩
  obtain ⟨ad, rfl⟩ := sl_some hs (by rw [bytesL_length]; omega)
  have HI3 := Lib.hid (HI.out.below hb3)
  have H3 := Lib.hid (H2.out.trans (hb3.mono H2.out.size))
  have HS := Lib.hid hs
  have f0 := (hb3.cell (p := ⟨w.heap.size, 0, none⟩) (block_lt e0)).trans e0
  have f1 := (hb3.cell (p := ⟨w.heap.size, 1, none⟩) (block_lt e0)).trans e1
  have HGl := Lib.hid (show ad.block ≠ G 0 by have := hfr ad rfl; have := (HI.out.rows 0 (by omega)).lt; omega)
  clear hb3 hs HI e0 e1 hfr
  go_wp2_with fail
  refine (poke_yes _ m tb tc hb 1 (T1 64 80 (c0 % 8) (c1 % 8)) G (zerosB (T1 64 80 (c0 % 8) (c1 % 8))) 72 ad 8 c (bytesL a0 8) 0 ⟨by omega, by omega⟩ (by omega) _ HI3.out (t1_f (by omega) (by omega) (by omega)) (bytesL_length _ _) (bytesL_all _ _) HS.out).mono ?_
  rintro e w4 ⟨rfl, hI4, hg4⟩
  have HI4 := Lib.hid (show MemIs w4 (w.heap.size + 1) m tb tc hb 1 (T1 64 80 (c0 % 8) (c1 % 8)) G (BL a0 (c0 % 8) (c1 % 8)) from hI4)
  have hG := HI3.out.from_ 0 (by omega)
  have hG2 := HGl.out
  have H4 := Lib.hid (H3.out.grown hg4 H3.out.size (fun j hj => by cases hj; omega))
  have g0 := hg4.cell f0 (by simp; omega)
  have g1 := hg4.cell f1 (by simp; omega)
  have HS4 := Lib.hid (HS.out.kept hg4 (fun a ha => by cases ha; exact HGl.out))
  obtain ⟨sb, so, had, hsc⟩ : ∃ b o, ad = ⟨b, o, none⟩ ∧ ∀ k, k < 8 → w4.cell? ⟨b, o + k, none⟩ = some (.int .u8 (byteI a0 k)) := sl_open HS4.out
  subst had
  have HC := Lib.hid hsc
  clear hI4 hg4 f0 f1 hG hG2 hsc HS HS4 HI3
  go_wp2_with fail
  by_cases hm : May (c0 % 8) (c1 % 8) false
  · have HM := Lib.hid hm
    have hm2 : c1 % 2 = 1 := by unfold May at hm; simp at hm; omega
    clear hm
    refine (load_yes _ m tb tc hb 1 _ G _ 72 8 false 0 ⟨by omega, by omega⟩ ⟨by omega, by omega⟩ _ HI4.out (may_yes HX.out HY.out HM.out (by decide) (by omega) (by omega) (by omega))).mono ?_
    rw [bl_word HU.out]
    rintro e w5 ⟨rfl, hb5⟩
    have HI5 := Lib.hid (HI4.out.below hb5)
    have H5 := Lib.hid (H4.out.trans (hb5.mono H4.out.size))
    have HC5 := Lib.hid (fun k hk => (hb5.cell (p := ⟨sb, so + k, none⟩) (block_lt (HC.out k hk))).trans (HC.out k hk))
    clear hb5 HI4 H4 HC
    go_wp2
    go_loopw [14] (fun i wr => ∃ k : Nat, k ≤ 8 ∧ i = .int .u64 k ∧ MemIs wr (w.heap.size + 1) m tb tc hb 1 (T1 64 80 (c0 % 8) (c1 % 8)) G (BL a0 (c0 % 8) (c1 % 8)) ∧ (∀ j, j < 8 → wr.cell? ⟨sb, so + j, none⟩ = some (.int .u8 (byteI a0 j))) ∧ Below w.heap.size w wr) (fun i _ => 8 - (intOf i).toNat)
    case atStart => exact ⟨0, by omega, rfl, HI5.out, HC5.out, H5.out⟩
    case round =>
      obtain ⟨k, hk, rfl, hI, hC, hB⟩ := hrel
      clear HI5 HC5 H5
      have HI := Lib.hid hI
      have HC := Lib.hid hC
      have HB := Lib.hid hB
      clear hI hC hB
      by_cases hlt : k < 8
      · have k0 : (0 : Int) ≤ k := by omega
        have k1 : (k : Int) < 8 := by omega
        obtain ⟨v0, v1⟩ := byteI_bd a0 k
        go_wp2_with fail
        refine (load_yes _ m tb tc hb 1 _ G _ (72 + k) 1 false 0 ⟨by omega, by omega⟩ ⟨by omega, by omega⟩ _ HI.out (may_yes HX.out HY.out HM.out (by unfold accB; rw [decide_eq_true_eq]; omega) (by omega) (by omega) (by omega))).mono ?_
        rw [bl_one hlt]
        rintro e w6 ⟨rfl, hb6⟩
        have hc := (hb6.cell (p := ⟨sb, so + k, none⟩) (block_lt (HC.out k hlt))).trans (HC.out k hlt)
        have HI6 := Lib.hid (HI.out.below hb6)
        have HB6 := Lib.hid (HB.out.trans (hb6.mono HB.out.size))
        have HC6 := Lib.hid (fun j hj => (hb6.cell (p := ⟨sb, so + j, none⟩) (block_lt (HC.out j hj))).trans (HC.out j hj))
        clear hb6 HI HC HB
        go_wp2
        go_roundw
        case rel => exact ⟨k + 1, by omega, by go_num, HI6.out, HC6.out, HB6.out⟩
        case measure => simp [intOf]; omega
      · obtain rfl : k = 8 := by omega
        go_wp2
        go_ret
        exact ⟨rfl, HB.out⟩
  · have HM := Lib.hid hm
    have hm2 : (c1 % 2 == 1) = false := by rw [beq_eq_false_iff_ne]; unfold May at hm; simp at hm; omega
    clear hm
    refine (load_no _ m tb tc hb 1 _ G _ 72 8 false ⟨by omega, by omega⟩ ⟨by omega, by omega⟩ _ HI4.out (may_no HX.out HY.out HM.out (by omega) (by omega) (by omega))).mono ?_
    rintro e w5 ⟨rfl, hb5⟩
    have H5 := Lib.hid (H4.out.trans (hb5.mono H4.out.size))
    clear hb5 HI4 H4 HC
    go_wp2
    go_loopw [14] (fun i wr => i = .int .u64 0 ∧ wr = w5) (fun i _ => 8 - (intOf i).toNat)
    case atStart => exact ⟨rfl, rfl⟩
    case round =>
      obtain ⟨rfl, rfl⟩ := hrel
      go_wp2
      go_ret
      exact ⟨rfl, H5.out⟩
set_option maxRecDepth 100000 in
set_option maxHeartbeats 2000000 in
theorem walkOwn (a0 : Int) (c0 c1 : Int) (w : World) (hu : IsU a0) (p0 : 0 ≤ c0) (p1 : c0 ≤ 255) (r0 : 0 ≤ c1) (r1 : c1 ≤ 255) :
    Calls Try.prog 4 #[.int .u64 a0, .bool true, .agg #[.int .u8 c0, .int .u8 c1]] w fun e w' => e = .returned (.bool true) ∧ Below w.heap.size w w' := by
  have HU := Lib.hid hu
  have HX := Lib.hid (show 0 ≤ c0 % 8 ∧ c0 % 8 ≤ 7 by omega)
  have HY := Lib.hid (show 0 ≤ c1 % 8 ∧ c1 % 8 ≤ 7 by omega)
  clear hu
  go_enter Try.func4, Try.ntmps4
  go_wp2_with fail
  refine (awakeM _).mono ?_
  rintro e w1 ⟨rfl, hb1⟩
  have H1 := Lib.hid (((Below.refl _ _).alloc (Nat.le_refl _) _ : Below w.heap.size w _).trans (hb1.mono (by simp)))
  have d0 : w1.cell? ⟨w.heap.size, 0, none⟩ = some (.int .u8 c0) := by rw [hb1.cell (p := ⟨_, 0, none⟩) (by simp)]; simp [go_sem]
  have d1 : w1.cell? ⟨w.heap.size, 1, none⟩ = some (.int .u8 c1) := by rw [hb1.cell (p := ⟨_, 1, none⟩) (by simp)]; simp [go_sem]
  have L1 := Lib.hid (block_lt d0)
  clear hb1
  go_wp2_with fail
  refine (new_yes _ 0 1 (T1 64 80 (c0 % 8) (c1 % 8)) 1 rfl (t1_w (by omega) (by omega) (by omega) HX.out HY.out) (t1_may (by omega) (by omega) (by omega) (by omega) (by omega) HX.out HY.out) _ (t1_tab _)).mono ?_
  rintro e w2 ⟨m, tb, tc, hb, G, rfl, hI, hb2⟩
  have hb2' : Below w1.heap.size w1 w2 := ((Below.refl _ _).alloc (Nat.le_refl _) _).trans (hb2.mono (by simp))
  have HI := Lib.hid (hI.rebase (Nat.le_trans L1.out (by simp) : w.heap.size + 1 ≤ _))
  have H2 := Lib.hid (H1.out.trans (hb2'.mono H1.out.size))
  have e0 := (hb2'.cell (p := ⟨w.heap.size, 0, none⟩) L1.out).trans d0
  have e1 := (hb2'.cell (p := ⟨w.heap.size, 1, none⟩) L1.out).trans d1
  clear hI hb2 hb2' H1 d0 d1 L1
  go_wp2_with fail
  refine (rbytes_fresh a0 8 HU.out (by omega) _).mono ?_
  rintro e w3 ⟨A, c, rfl, hs, hb3, hfr⟩
  obtain ⟨ad, rfl⟩ := sl_some hs (by rw [bytesL_length]; omega)
  have HI3 := Lib.hid (HI.out.below hb3)
  have H3 := Lib.hid (H2.out.trans (hb3.mono H2.out.size))
  have HS := Lib.hid hs
  have f0 := (hb3.cell (p := ⟨w.heap.size, 0, none⟩) (block_lt e0)).trans e0
  have f1 := (hb3.cell (p := ⟨w.heap.size, 1, none⟩) (block_lt e0)).trans e1
  have HGl := Lib.hid (show ad.block ≠ G 0 by have := hfr ad rfl; have := (HI.out.rows 0 (by omega)).lt; omega)
  clear hb3 hs HI e0 e1 hfr
  go_wp2_with fail
  refine (poke_yes _ m tb tc hb 1 (T1 64 80 (c0 % 8) (c1 % 8)) G (zerosB (T1 64 80 (c0 % 8) (c1 % 8))) 72 ad 8 c (bytesL a0 8) 0 ⟨by omega, by omega⟩ (by omega) _ HI3.out (t1_f (by omega) (by omega) (by omega)) (bytesL_length _ _) (bytesL_all _ _) HS.out).mono ?_
  rintro e w4 ⟨rfl, hI4, hg4⟩
  have HI4 := Lib.hid (show MemIs w4 (w.heap.size + 1) m tb tc hb 1 (T1 64 80 (c0 % 8) (c1 % 8)) G (BL a0 (c0 % 8) (c1 % 8)) from hI4)
  have hG := HI3.out.from_ 0 (by omega)
  have hG2 := HGl.out
  have H4 := Lib.hid (H3.out.grown hg4 H3.out.size (fun j hj => by cases hj; omega))
  have g0 := hg4.cell f0 (by simp; omega)
  have g1 := hg4.cell f1 (by simp; omega)
  have HS4 := Lib.hid (HS.out.kept hg4 (fun a ha => by cases ha; exact HGl.out))
  obtain ⟨sb, so, had, hsc⟩ : ∃ b o, ad = ⟨b, o, none⟩ ∧ ∀ k, k < 8 → w4.cell? ⟨b, o + k, none⟩ = some (.int .u8 (byteI a0 k)) := sl_open HS4.out
  subst had
  have HC := Lib.hid hsc
  clear hI4 hg4 f0 f1 hG hG2 hsc HS HS4 HI3
  go_wp2_with fail
  by_cases hm : May (c0 % 8) (c1 % 8) true
  · have HM := Lib.hid hm
    have hm2 : c0 % 2 = 1 := by unfold May at hm; simp at hm; omega
    clear hm
    refine (load_yes _ m tb tc hb 1 _ G _ 72 8 true 0 ⟨by omega, by omega⟩ ⟨by omega, by omega⟩ _ HI4.out (may_yes HX.out HY.out HM.out (by decide) (by omega) (by omega) (by omega))).mono ?_
    rw [bl_word HU.out]
    rintro e w5 ⟨rfl, hb5⟩
    have HI5 := Lib.hid (HI4.out.below hb5)
    have H5 := Lib.hid (H4.out.trans (hb5.mono H4.out.size))
    have HC5 := Lib.hid (fun k hk => (hb5.cell (p := ⟨sb, so + k, none⟩) (block_lt (HC.out k hk))).trans (HC.out k hk))
    clear hb5 HI4 H4 HC
    go_wp2
    go_loopw [14] (fun i wr => ∃ k : Nat, k ≤ 8 ∧ i = .int .u64 k ∧ MemIs wr (w.heap.size + 1) m tb tc hb 1 (T1 64 80 (c0 % 8) (c1 % 8)) G (BL a0 (c0 % 8) (c1 % 8)) ∧ (∀ j, j < 8 → wr.cell? ⟨sb, so + j, none⟩ = some (.int .u8 (byteI a0 j))) ∧ Below w.heap.size w wr) (fun i _ => 8 - (intOf i).toNat)
    case atStart => exact ⟨0, by omega, rfl, HI5.out, HC5.out, H5.out⟩
    case round =>
      obtain ⟨k, hk, rfl, hI, hC, hB⟩ := hrel
      clear HI5 HC5 H5
      have HI := Lib.hid hI
      have HC := Lib.hid hC
      have HB := Lib.hid hB
      clear hI hC hB
      by_cases hlt : k < 8
      · have k0 : (0 : Int) ≤ k := by omega
        have k1 : (k : Int) < 8 := by omega
        obtain ⟨v0, v1⟩ := byteI_bd a0 k
        go_wp2_with fail
        refine (load_yes _ m tb tc hb 1 _ G _ (72 + k) 1 true 0 ⟨by omega, by omega⟩ ⟨by omega, by omega⟩ _ HI.out (may_yes HX.out HY.out HM.out (by unfold accB; rw [decide_eq_true_eq]; omega) (by omega) (by omega) (by omega))).mono ?_
        rw [bl_one hlt]
        rintro e w6 ⟨rfl, hb6⟩
        have hc := (hb6.cell (p := ⟨sb, so + k, none⟩) (block_lt (HC.out k hlt))).trans (HC.out k hlt)
        have HI6 := Lib.hid (HI.out.below hb6)
        have HB6 := Lib.hid (HB.out.trans (hb6.mono HB.out.size))
        have HC6 := Lib.hid (fun j hj => (hb6.cell (p := ⟨sb, so + j, none⟩) (block_lt (HC.out j hj))).trans (HC.out j hj))
        clear hb6 HI HC HB
        go_wp2
        go_roundw
        case rel => exact ⟨k + 1, by omega, by go_num, HI6.out, HC6.out, HB6.out⟩
        case measure => simp [intOf]; omega
      · obtain rfl : k = 8 := by omega
        go_wp2
        go_ret
        exact ⟨rfl, HB.out⟩
  · have HM := Lib.hid hm
    have hm2 : (c0 % 2 == 1) = false := by rw [beq_eq_false_iff_ne]; unfold May at hm; simp at hm; omega
    clear hm
    refine (load_no _ m tb tc hb 1 _ G _ 72 8 true ⟨by omega, by omega⟩ ⟨by omega, by omega⟩ _ HI4.out (may_no HX.out HY.out HM.out (by omega) (by omega) (by omega))).mono ?_
    rintro e w5 ⟨rfl, hb5⟩
    have H5 := Lib.hid (H4.out.trans (hb5.mono H4.out.size))
    clear hb5 HI4 H4 HC
    go_wp2
    go_loopw [14] (fun i wr => i = .int .u64 0 ∧ wr = w5) (fun i _ => 8 - (intOf i).toNat)
    case atStart => exact ⟨rfl, rfl⟩
    case round =>
      obtain ⟨rfl, rfl⟩ := hrel
      go_wp2
      go_ret
      exact ⟨rfl, H5.out⟩
theorem walk (a0 : Int) (a1 : Bool) (c0 c1 : Int) (w : World) (w0 : (Lit.int .u64 a0).wf = true) (z0 : (Lit.int .u8 c0).wf = true) (z1 : (Lit.int .u8 c1).wf = true) :
    Calls Try.prog 4 #[.int .u64 a0, .bool a1, .agg #[.int .u8 c0, .int .u8 c1]] w fun e w' => e = .returned (.bool true) ∧ Below w.heap.size w w' := by
  obtain ⟨p0, p1⟩ := bounds_u8 z0
  obtain ⟨r0, r1⟩ := bounds_u8 z1
  cases a1
  · exact walkCtx a0 c0 c1 w (isU_of_wf w0) p0 p1 r0 r1
  · exact walkOwn a0 c0 c1 w (isU_of_wf w0) p0 p1 r0 r1
end Go.Proofs.Ytpfohbinjcdcbaa.MemLoadsWalk
