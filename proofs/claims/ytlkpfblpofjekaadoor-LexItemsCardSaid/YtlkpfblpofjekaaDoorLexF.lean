/- Layer 9: the reference's Number and Digits. No condition. -/
import Derived.Test.YtlkpfblpofjekaaDoorLexE
namespace Go.Proofs.YtlkpfblpofjekaaDoor
set_option maxRecDepth 100000
open Go.RowKit Go.Sort
set_option linter.unusedVariables false
def RNumE (s : ByteArray) (w : World) (e : Ending) (w' : World) : Prop := e = .returned (.tuple #[.int .u64 (numV s), .bool (numB s)]) ∧ w = w'
theorem rnum_none {s : ByteArray} (h : refP s.data.toList = none) : numV s = 0 ∧ numB s = false := by
  rw [refP_num] at h; unfold numV numB; rw [h]; exact ⟨rfl, rfl⟩
theorem rnum_some {s : ByteArray} {n : Nat} (h : refP s.data.toList = some n) : numV s = n ∧ numB s = true := by
  rw [refP_num] at h; unfold numV numB; rw [h]; exact ⟨rfl, rfl⟩
theorem ba_len (s : ByteArray) : s.data.toList.length = s.size := by simp
theorem ba_drop (s : ByteArray) (k : Nat) (h : k < s.size) : s.data.toList.drop k = s[k] :: s.data.toList.drop (k + 1) := by
  rw [List.drop_eq_getElem_cons (by rw [ba_len]; exact h)]; rfl
theorem ba_zero (s : ByteArray) (h : 0 < s.size) : s.data.toList.getD 0 0 = s[0] := by
  rw [← List.getElem_eq_getD (h := by rw [ba_len]; exact h)]; rfl
set_option maxHeartbeats 2000000 in
theorem rnumber_any (s : ByteArray) (hs : s.size ≤ 1000000000) (w : World) : Calls Tryd.prog 10 #[.string s] w (RNumE s w) := by
  by_cases h1 : s.size < 1
  · have HV := Lib.hid (rnum_none (s := s) (by unfold refP; rw [if_pos (.inl (by rw [ba_len]; exact h1))]))
    have d1 : decide ((s.size : Int) < 1) = true := by rw [decide_eq_true_iff]; omega
    go_enter Tryd.func10, Tryd.ntmps10
    go_wp2
    go_ret2
    exact ⟨by rw [HV.out.1, HV.out.2]; rfl, rfl⟩
  · by_cases h2 : 20 < s.size
    · have HV := Lib.hid (rnum_none (s := s) (by unfold refP; rw [if_pos (.inr (.inl (by rw [ba_len]; exact h2)))]))
      have d1 : decide ((s.size : Int) < 1) = false := by rw [decide_eq_false_iff_not]; omega
      have d2 : decide (20 < (s.size : Int)) = true := by rw [decide_eq_true_iff]; omega
      go_enter Tryd.func10, Tryd.ntmps10
      go_wp2
      go_ret2
      exact ⟨by rw [HV.out.1, HV.out.2]; rfl, rfl⟩
    · by_cases h3 : 1 < s.size ∧ s.data.toList.getD 0 0 = 48
      · have HV := Lib.hid (rnum_none (s := s) (by unfold refP; rw [if_pos (.inr (.inr ⟨by rw [ba_len]; exact h3.1, h3.2⟩))]))
        have h4 : 0 < s.size := by omega
        have e0 : ((s[0].toNat : Int) == 48) = true := by rw [ba_zero s h4] at h3; rw [h3.2]; rfl
        have h5 : 1 < s.size := h3.1
        clear h3
        go_enter Tryd.func10, Tryd.ntmps10
        go_wp2
        go_ret2
        exact ⟨by rw [HV.out.1, HV.out.2]; rfl, rfl⟩
      · have HR := Lib.hid (show refP s.data.toList = refM 0 s.data.toList from by unfold refP; rw [if_neg]; rw [ba_len]; rintro (h | h | h); exact h1 h; exact h2 h; exact h3 h)
        have h4 : 0 < s.size := by omega
        have key : Hid (s.size = 1 ∨ (1 < s.size ∧ ((s[0].toNat : Int) == 48) = false)) := by
          by_cases h5 : s.size = 1
          · exact Lib.hid (.inl h5)
          · refine Lib.hid (.inr ⟨by omega, ?_⟩)
            rw [ba_zero s h4] at h3
            rw [beq_eq_false_iff_ne]
            intro e
            refine h3 ⟨by omega, UInt8.toNat_inj.1 ?_⟩
            show s[0].toNat = 48
            omega
        clear h3
        rcases key.out with h5 | ⟨h5, e0⟩
        · have d5 : decide (1 < (s.size : Int)) = false := by rw [decide_eq_false_iff_not]; omega
          have H5 := Lib.hid h5
          clear h5
          go_enter Tryd.func10, Tryd.ntmps10
          go_wp2
          go_loop [4, 5] (fun t i => ∃ (k N : Nat), k ≤ s.size ∧ N ≤ 18446744073709551615 ∧ i = .int .i64 k ∧ t = .int .u64 N ∧ Hid (refP s.data.toList = refM N (s.data.toList.drop k))) (fun _ i => s.size - (intOf i).toNat)
          case atStart => exact ⟨0, 0, by omega, by omega, rfl, rfl, HR⟩
          case round =>
            obtain ⟨k, N, hk, hN, rfl, rfl, HP⟩ := hrel
            by_cases hlt : k < s.size
            · have HN := Lib.hid (show refM N (s.data.toList.drop k) = if s[k].toNat < 48 ∨ 57 < s[k].toNat then none else if 1844674407370955161 < N ∨ N = 1844674407370955161 ∧ 5 < s[k].toNat - 48 then none else refM (N * 10 + (s[k].toNat - 48)) (s.data.toList.drop (k + 1)) from by rw [ba_drop s k hlt]; rfl)
              go_wp2
              all_goals first
                | (go_round
                   case rel => exact ⟨k + 1, N * 10 + (s[k].toNat - 48), by omega, by omega, by go_num, by congr 1; omega, Lib.hid (HP.out.trans (by rw [HN.out, if_neg (by omega), if_neg (by omega)]))⟩
                   case measure => simp [intOf]; omega)
                | (have HV := Lib.hid (rnum_none (HP.out.trans (by rw [HN.out]; first | rw [if_pos (by omega)] | (rw [if_neg (by omega), if_pos (by omega)]))))
                   go_ret2
                   exact ⟨by rw [HV.out.1, HV.out.2]; rfl, rfl⟩)
            · have HE := Lib.hid (rnum_some (HP.out.trans (show refM N (s.data.toList.drop k) = some N from by rw [List.drop_eq_nil_of_le (by rw [ba_len]; omega)]; rfl)))
              go_wp2
              go_ret2
              exact ⟨by rw [HE.out.1, HE.out.2]; rfl, rfl⟩
        · go_enter Tryd.func10, Tryd.ntmps10
          go_wp2
          go_loop [4, 5] (fun t i => ∃ (k N : Nat), k ≤ s.size ∧ N ≤ 18446744073709551615 ∧ i = .int .i64 k ∧ t = .int .u64 N ∧ Hid (refP s.data.toList = refM N (s.data.toList.drop k))) (fun _ i => s.size - (intOf i).toNat)
          case atStart => exact ⟨0, 0, by omega, by omega, rfl, rfl, HR⟩
          case round =>
            obtain ⟨k, N, hk, hN, rfl, rfl, HP⟩ := hrel
            by_cases hlt : k < s.size
            · have HN := Lib.hid (show refM N (s.data.toList.drop k) = if s[k].toNat < 48 ∨ 57 < s[k].toNat then none else if 1844674407370955161 < N ∨ N = 1844674407370955161 ∧ 5 < s[k].toNat - 48 then none else refM (N * 10 + (s[k].toNat - 48)) (s.data.toList.drop (k + 1)) from by rw [ba_drop s k hlt]; rfl)
              go_wp2
              all_goals first
                | (go_round
                   case rel => exact ⟨k + 1, N * 10 + (s[k].toNat - 48), by omega, by omega, by go_num, by congr 1; omega, Lib.hid (HP.out.trans (by rw [HN.out, if_neg (by omega), if_neg (by omega)]))⟩
                   case measure => simp [intOf]; omega)
                | (have HV := Lib.hid (rnum_none (HP.out.trans (by rw [HN.out]; first | rw [if_pos (by omega)] | (rw [if_neg (by omega), if_pos (by omega)]))))
                   go_ret2
                   exact ⟨by rw [HV.out.1, HV.out.2]; rfl, rfl⟩)
            · have HE := Lib.hid (rnum_some (HP.out.trans (show refM N (s.data.toList.drop k) = some N from by rw [List.drop_eq_nil_of_le (by rw [ba_len]; omega)]; rfl)))
              go_wp2
              go_ret2
              exact ⟨by rw [HE.out.1, HE.out.2]; rfl, rfl⟩
end Go.Proofs.YtlkpfblpofjekaaDoor
