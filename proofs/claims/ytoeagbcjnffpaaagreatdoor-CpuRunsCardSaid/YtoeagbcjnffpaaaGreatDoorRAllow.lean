/- The reference's memory: Allowed, for 1, 4 or 8 bytes, and reading, writing or fetching. -/
import Derived.Test.YtoeagbcjnffpaaaGreatDoorRMemA
import Derived.Test.YtoeagbcjnffpaaaGreatDoorCpuA
namespace Go.Proofs.YtoeagbcjnffpaaaGreatDoor
set_option maxRecDepth 100000
open Go.RowKit Go.Maps
set_option linter.unusedVariables false
theorem has_div {m x : Int} (h0 : 0 ≤ m) (h7 : m ≤ 7) (hx : x = 1 ∨ x = 2 ∨ x = 4) : hasB m x = decide (m / x % 2 = 1) := by
  have : m = 0 ∨ m = 1 ∨ m = 2 ∨ m = 3 ∨ m = 4 ∨ m = 5 ∨ m = 6 ∨ m = 7 := by omega
  rcases hx with rfl | rfl | rfl <;> rcases this with rfl | rfl | rfl | rfl | rfl | rfl | rfl | rfl <;> decide +kernel
theorem right_bd {T : List Rg} (h : MayT T) {i : Nat} (hi : i < T.length) (own : Bool) : 0 ≤ rightI (nthR T i) own ∧ rightI (nthR T i) own ≤ 7 := by
  have := okB_iff.1 (h.2.2.1 i hi)
  unfold rightI
  cases own <;> simp <;> omega
set_option maxHeartbeats 2000000 in
theorem rallowed_yes (r tb to tc bb bc n : Nat) (T : List Rg) (L : List Int) (p q : Int) (own : Bool) (x : Int) (i : Nat) (hp : IsU p) (hq : q = 1 ∨ q = 4 ∨ q = 8) (hx : x = 1 ∨ x = 2 ∨ x = 4) (w : World) (hM : RMem w r tb to tc bb bc n T L) (hA : AllYes T p q own x i) :
    Calls Tryz.prog 181 #[.pointer (some ⟨r, 0, none⟩), .int .u64 p, .int .i64 q, .bool own, .int .i64 x] w fun e w' => e = .returned (.bool true) ∧ w = w' := by
  obtain ⟨ha, hF, hr⟩ := hA
  have hi : i < T.length := hF.2.1
  have hm := right_bd hM.may hi own
  rw [has_div hm.1 hm.2 hx] at hr
  have hr : rightI (nthR T i) own / x % 2 = 1 := by simpa using hr
  have hmod : p % q = 0 := by unfold accB at ha; exact (of_decide_eq_true ha).2
  have HF := Lib.hid hF
  have HM := Lib.hid hM
  have h0 := hM.c0
  obtain ⟨t0, t1, t2, t3⟩ := hM.tab i hi
  have hin : i < n := by rw [← hM.len]; exact hi
  have i0 : (0 : Int) ≤ i := by omega
  have i1 : (i : Int) < n := by omega
  have hpu := hp
  obtain ⟨p0, p1⟩ := hp
  have HFd := Lib.hid (rfind_yes r tb to tc bb bc n T L p q i hpu ⟨by omega, by omega⟩ w hM hF)
  clear hM hF ha hin hi
  obtain ⟨m, hmm⟩ : ∃ m, rightI (nthR T i) own = m := ⟨_, rfl⟩
  rw [hmm] at hr hm
  obtain ⟨m0, m7⟩ := hm
  have hz : (p % q != 0) = false := by rw [hmod]; rfl
  have hz2 : (p % q == 0) = true := by rw [hmod]; rfl
  have hq0 : (m / x % 2 == 0) = false := by rw [hr]; rfl
  have HMod := Lib.hid hmod
  clear hmod
  cases own
  all_goals
    first | rw [show rown (nthR T i) = m from hmm] at t2 | rw [show rout (nthR T i) = m from hmm] at t3
    clear hmm
    rcases hq with rfl | rfl | rfl
    all_goals
      go_enter Tryz.func181, Tryz.ntmps181
      go_wp2_with fail
      refine HFd.out.mono ?_
      rintro e w' ⟨rfl, rfl⟩
      go_wp2_with fail
  all_goals
    rcases hx with rfl | rfl | rfl
    all_goals
      first | (have hq1 : (m % 2 == 0) = false := by (rw [beq_eq_false_iff_ne]; omega)) | skip
      clear hr
      go_loop [14] (fun b => b = .int .i64 1 ∨ b = .int .i64 2 ∨ b = .int .i64 4 ∨ b = .int .i64 8) (fun b => 8 - (intOf b).toNat)
      case atStart => exact .inl rfl
      case round =>
        rcases hrel with rfl | rfl | rfl | rfl
        · go_wp2
          go_round
          case rel => exact .inr (.inl rfl)
          case measure => simp [intOf]
        · go_wp2
          go_round
          case rel => exact .inr (.inr (.inl rfl))
          case measure => simp [intOf]
        · go_wp2
          go_round
          case rel => exact .inr (.inr (.inr rfl))
          case measure => simp [intOf]
        · go_wp2
          go_ret
          exact ⟨rfl, rfl⟩
set_option maxHeartbeats 2000000 in
theorem rallowed_no (r tb to tc bb bc n : Nat) (T : List Rg) (L : List Int) (p q : Int) (own : Bool) (x : Int) (hp : IsU p) (hq : q = 1 ∨ q = 4 ∨ q = 8) (hx : x = 1 ∨ x = 2 ∨ x = 4) (w : World) (hM : RMem w r tb to tc bb bc n T L) (hA : AllNo T p q own x) :
    Calls Tryz.prog 181 #[.pointer (some ⟨r, 0, none⟩), .int .u64 p, .int .i64 q, .bool own, .int .i64 x] w fun e w' => e = .returned (.bool false) ∧ w = w' := by
  have hpu := hp
  obtain ⟨p0, p1⟩ := hp
  rcases find_or T p q with hF | ⟨i, hF⟩
  · have HFd := Lib.hid (rfind_no r tb to tc bb bc n T L p q hpu ⟨by omega, by omega⟩ w hM hF)
    clear hM hF hA
    go_enter Tryz.func181, Tryz.ntmps181
    go_wp2_with fail
    refine HFd.out.mono ?_
    rintro e w' ⟨rfl, rfl⟩
    go_wp2
    go_ret
    exact ⟨rfl, rfl⟩
  · have HFd := Lib.hid (rfind_yes r tb to tc bb bc n T L p q i hpu ⟨by omega, by omega⟩ w hM hF)
    have hi : i < T.length := hF.2.1
    have hm := right_bd hM.may hi own
    have h0 := hM.c0
    obtain ⟨t0, t1, t2, t3⟩ := hM.tab i hi
    have hin : i < n := by rw [← hM.len]; exact hi
    have i0 : (0 : Int) ≤ i := by omega
    have i1 : (i : Int) < n := by omega
    by_cases hmod : p % q = 0
    · have hr : hasB (rightI (nthR T i) own) x = false := by
        rcases hA with h | h | ⟨j, h, h'⟩
        · unfold accB at h
          exact absurd (show (q = 1 ∨ q = 4 ∨ q = 8) ∧ p % q = 0 from ⟨hq, hmod⟩) (of_decide_eq_false h)
        · exact (find_one hF h).elim
        · have e : some i = some j := (findI_yes hF).symm.trans (findI_yes h)
          cases e; exact h'
      rw [has_div hm.1 hm.2 hx] at hr
      have hr : rightI (nthR T i) own / x % 2 = 0 := by
        have := of_decide_eq_false hr
        omega
      obtain ⟨m, hmm⟩ : ∃ m, rightI (nthR T i) own = m := ⟨_, rfl⟩
      rw [hmm] at hr hm
      obtain ⟨m0, m7⟩ := hm
      have hz : (p % q != 0) = false := by rw [hmod]; rfl
      have hz2 : (p % q == 0) = true := by rw [hmod]; rfl
      have hq0 : (m / x % 2 == 0) = true := by rw [hr]; rfl
      obtain ⟨y, hy⟩ : ∃ y, y = x := ⟨_, rfl⟩
      clear hmod hM hF hA hin hi
      cases own
      all_goals
        first | rw [show rown (nthR T i) = m from hmm] at t2 | rw [show rout (nthR T i) = m from hmm] at t3
        clear hmm
        rcases hq with rfl | rfl | rfl
        all_goals
          go_enter Tryz.func181, Tryz.ntmps181
          go_wp2_with fail
          refine HFd.out.mono ?_
          rintro e w' ⟨rfl, rfl⟩
          go_wp2_with fail
      all_goals
        rcases hx with rfl | rfl | rfl
        all_goals
          first | (have hq1 : (m % 2 == 0) = true := by (rw [beq_iff_eq]; omega)) | skip
          clear hr
          have HY := Lib.hid hy
          clear hy
          go_loop [14] (fun b => b = .int .i64 1 ∨ (b = .int .i64 2 ∧ y ≠ 1) ∨ (b = .int .i64 4 ∧ y = 4)) (fun b => 8 - (intOf b).toNat)
          case atStart => exact .inl rfl
          case round =>
            rcases hrel with rfl | ⟨rfl, hh⟩ | ⟨rfl, hh⟩
            all_goals
              first
              | (exfalso; have := HY.out; omega)
              | (try clear hh
                 go_wp2
                 first
                 | (go_ret; exact ⟨rfl, rfl⟩)
                 | (go_round
                    case rel => first | exact .inr (.inl ⟨rfl, by have := HY.out; omega⟩) | exact .inr (.inr ⟨rfl, HY.out⟩)
                    case measure => simp [intOf]))
    · have hz : (p % q != 0) = true := by rw [bne_iff_ne]; exact hmod
      have hz2 : (p % q == 0) = false := by rw [beq_eq_false_iff_ne]; exact hmod
      have hq' : q = 4 ∨ q = 8 := by
        rcases hq with rfl | h
        · omega
        · exact h
      clear hmod hM hF hA hin hi hm hq
      rcases hq' with rfl | rfl
      all_goals
        go_enter Tryz.func181, Tryz.ntmps181
        go_wp2_with fail
        refine HFd.out.mono ?_
        rintro e w' ⟨rfl, rfl⟩
        go_wp2
        go_ret
        exact ⟨rfl, rfl⟩
end Go.Proofs.YtoeagbcjnffpaaaGreatDoor
