/- The walk of the statement LexDepth: it returns true, and writes nothing that was there. -/
import Derived.Test.YtlkpfblpofjekaaDoorLexN
namespace Go.Proofs.YtlkpfblpofjekaaDoor.LexDepthWalk
set_option maxRecDepth 100000
open Go.RowKit Go.Sort
set_option linter.unusedVariables false
theorem up_step (k : Nat) : upS k ++ ⟨#[40]⟩ = upS (k + 1) := by
  unfold upS
  apply ByteArray.ext
  rw [ByteArray.data_append]
  apply Array.ext'
  simp [List.replicate_succ']
theorem dn_step (k : Nat) : dnS k ++ ⟨#[41]⟩ = dnS (k + 1) := by
  unfold dnS
  apply ByteArray.ext
  rw [ByteArray.data_append]
  apply Array.ext'
  simp [List.replicate_succ']
theorem up_size (k : Nat) : (upS k).size = k := by unfold upS; simp [ByteArray.size]
theorem dn_size (k : Nat) : (dnS k).size = k := by unfold dnS; simp [ByteArray.size]
theorem deep_size (k : Nat) : (deepS k).size = 2 * k + 1 := by
  unfold deepS
  rw [ByteArray.size_append, ByteArray.size_append, up_size, dn_size]
  show k + 1 + k = _
  omega
theorem deepW_len (k : Nat) : (deepW k).length = 2 * k + 1 := by unfold deepW; simp; omega
theorem deepW_nst : ∀ k : Nat, k < 25 → nstB (deepW k) = true := by decide +kernel
theorem deepW_mid (k : Nat) : wdK (deepW k) k = ⟨#[120]⟩ := by unfold wdK deepW; simp [List.getD]
set_option maxHeartbeats 4000000 in
theorem walk (a0 : Int) (w : World) (w0 : (Lit.int .u8 a0).wf = true) (hT : LxT w) :
    Calls Tryd.prog 6 #[.int .u8 a0] w fun e w' => e = .returned (.bool true) ∧ Below w.heap.size w w' := by
  have hb := bounds_u8 w0
  have h0 : 0 ≤ a0 := by omega
  have h1 : a0 ≤ 255 := by omega
  have HT := Lib.hid hT
  have HAw := Lib.hid (awake_yes w hT)
  obtain ⟨k, hk⟩ : ∃ k : Nat, a0 % 40 = (k : Int) := ⟨(a0 % 40).toNat, by omega⟩
  have hk39 : k < 40 := by omega
  have HK := Lib.hid hk
  clear hT hb w0 hk
  go_enter Tryd.func6, Tryd.ntmps6
  go_wp2_with fail
  refine HAw.out.mono ?_
  rintro e w1 ⟨rfl, hb1⟩
  have HB1 := Lib.hid hb1
  clear hb1 HAw
  go_wp2
  rw [HK.out]
  go_loop [4, 5, 6] (fun s t i => ∃ j : Nat, j ≤ k ∧ i = .int .i64 j ∧ s = .string (upS j) ∧ t = .string (dnS j)) (fun _ _ i => k - (intOf i).toNat)
  case atStart => exact ⟨0, by omega, rfl, rfl, rfl⟩
  case round =>
    obtain ⟨j, hj, rfl, rfl, rfl⟩ := hrel
    by_cases hlt : j < k
    · have s1 := up_size j
      have s2 := dn_size j
      have H1 := Lib.hid (up_step j)
      have H2 := Lib.hid (dn_step j)
      have g1 : (upS j).size ≤ 40 := by omega
      have g2 : (dnS j).size ≤ 40 := by omega
      clear s1 s2
      go_wp2
      go_round
      case rel => exact ⟨j + 1, by omega, by go_num, by rw [H1.out], by rw [H2.out]⟩
      case measure => simp [intOf]; omega
    · have e : j = k := by omega
      subst e
      have HW := Lib.hid (words_any (deepS j) (by rw [deep_size]; omega) w1 (HT.out.below HB1.out))
      have HWv := Lib.hid (words_deep j hk39)
      have g1 : (upS j).size ≤ 40 := by rw [up_size]; omega
      have g2 : (dnS j).size ≤ 40 := by rw [dn_size]; omega
      have g3 : (upS j ++ ⟨#[120]⟩).size ≤ 41 := by rw [ByteArray.size_append, up_size]; show j + 1 ≤ _; omega
      by_cases h24 : 24 < j
      · have h24' : (24 : Int) < (j : Int) := by omega
        have HV := Lib.hid (HWv.out.trans (if_pos h24))
        clear h24
        go_wp2_with fail
        rw [show upS j ++ ⟨#[120]⟩ ++ dnS j = deepS j from rfl]
        refine HW.out.mono ?_
        rintro e w2 ⟨hb2, ⟨_, rfl⟩ | ⟨ws, A, c, hv, _⟩⟩
        case inr => rw [HV.out] at hv; cases hv
        have HB2 := Lib.hid (HB1.out.trans (hb2.mono HB1.out.size))
        clear hb2
        go_wp2
        go_ret
        exact ⟨rfl, HB2.out⟩
      · have h24' : (j : Int) ≤ 24 := by omega
        have HV := Lib.hid (HWv.out.trans (if_neg h24))
        have HN := Lib.hid (deepW_nst j (by omega))
        clear h24
        go_wp2_with fail
        rw [show upS j ++ ⟨#[120]⟩ ++ dnS j = deepS j from rfl]
        refine HW.out.mono ?_
        rintro e w2 ⟨hb2, ⟨hv, _⟩ | ⟨ws, A, c, hv, hl, rfl, ho⟩⟩
        case inl => rw [HV.out] at hv; cases hv
        rw [HV.out] at hv
        cases hv
        have HB2 := Lib.hid (HB1.out.trans (hb2.mono HB1.out.size))
        have HN1 := Lib.hid (nested_any (deepW j) A (deepW j).length c rfl hl w2 ho.wd)
        have HN2 := Lib.hid (rnested_any (deepW j) A (deepW j).length c rfl hl w2 ho.wd)
        rw [HN.out] at HN1 HN2
        rcases ho.wd with h | ⟨b, o, rfl, hc⟩
        · have := deepW_len j; rw [h] at this; simp at this
        have hcell := hc j (by rw [deepW_len]; omega)
        rw [deepW_mid] at hcell
        rw [deepW_len] at HN1 HN2 ⊢
        have hln : (((2 * j + 1 : Nat) : Int) == 2 * (j : Int) + 1) = true := by rw [beq_iff_eq]; omega
        clear hb2 ho hc hl
        have hj0 : (0 : Int) ≤ (j : Int) := by omega
        have hjl : (j : Int) < ((2 * j + 1 : Nat) : Int) := by omega
        obtain ⟨m, hm⟩ : ∃ m, m = 2 * j + 1 := ⟨_, rfl⟩
        rw [← hm] at HN1 HN2 hln hjl ⊢
        clear hm
        go_wp2_with fail
        refine HN1.out.mono ?_
        rintro e w3 ⟨rfl, rfl⟩
        go_wp2_with fail
        refine HN2.out.mono ?_
        rintro e w3 ⟨rfl, rfl⟩
        go_wp2
        go_ret
        exact ⟨rfl, HB2.out⟩
end Go.Proofs.YtlkpfblpofjekaaDoor.LexDepthWalk
