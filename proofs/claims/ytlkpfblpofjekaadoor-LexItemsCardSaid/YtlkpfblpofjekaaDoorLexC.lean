/- Layer 9: the reference's Nested and Texts. No condition. -/
import Derived.Test.YtlkpfblpofjekaaDoorLexB
namespace Go.Proofs.YtlkpfblpofjekaaDoor
set_option maxRecDepth 100000
open Go.RowKit
set_option linter.unusedVariables false
theorem opn_cases (s : ByteArray) : (s.data.toList = [40] ∧ opnW s = 1) ∨ (s.data.toList = [41] ∧ opnW s = -1) ∨ (s.data.toList ≠ [40] ∧ s.data.toList ≠ [41] ∧ opnW s = 0) := by
  unfold opnW
  by_cases h1 : s.data.toList = [40]
  · exact .inl ⟨h1, if_pos h1⟩
  · by_cases h2 : s.data.toList = [41]
    · exact .inr (.inl ⟨h2, by rw [if_neg h1, if_pos h2]⟩)
    · exact .inr (.inr ⟨h1, h2, by rw [if_neg h1, if_neg h2]⟩)
theorem tl_eq (s : ByteArray) (l : List UInt8) (h : s.data.toList = l) : (s.toList == l) = true := by rw [ByteArray.toList_eq, h]; simp
theorem tl_ne (s : ByteArray) (l : List UInt8) (h : s.data.toList ≠ l) : (s.toList == l) = false := by rw [ByteArray.toList_eq]; simpa using h
set_option maxHeartbeats 1000000 in
theorem rnested_any (l : List ByteArray) (A : Option Addr) (n c : Nat) (hn : l.length = n) (hmx : n ≤ 1000000000) (w : World) (hA : WdAt w A l) :
    Calls Tryd.prog 16 #[.slice A n c] w fun e w' => e = .returned (.bool (nstB l)) ∧ w = w' := by
  rcases hA with rfl | ⟨b, o, rfl, hc⟩
  · simp only [List.length_nil] at hn
    subst hn
    go_enter Tryd.func16, Tryd.ntmps16
    go_wp2
    go_loop [3, 4] (fun t i => i = .int .i64 ((0 : Nat) : Int) ∧ t = .int .i64 0) (fun _ i => 0)
    case atStart => exact ⟨rfl, rfl⟩
    case round =>
      obtain ⟨rfl, rfl⟩ := hrel
      go_wp2
      go_ret
      exact ⟨rfl, rfl⟩
  · have HC := Lib.hid hc
    have HL := Lib.hid hn
    clear hc hn
    go_enter Tryd.func16, Tryd.ntmps16
    go_wp2
    go_loop [3, 4] (fun t i => ∃ (k : Nat) (p : Int), k ≤ n ∧ 0 ≤ p ∧ p ≤ 24 ∧ i = .int .i64 k ∧ t = .int .i64 p ∧ Hid (nstP l 0 = nstP (l.drop k) p)) (fun _ i => n - (intOf i).toNat)
    case atStart => exact ⟨0, 0, by omega, by omega, by omega, rfl, rfl, Lib.hid rfl⟩
    case round =>
      obtain ⟨k, p, hk, hp0, hp1, rfl, rfl, HP⟩ := hrel
      by_cases hlt : k < n
      · have hlt' : k < l.length := by rw [HL.out]; exact hlt
        have hcell := HC.out k hlt'
        have HN := Lib.hid (show nstP (l.drop k) p = if p + opnW (wdK l k) < 0 ∨ 24 < p + opnW (wdK l k) then none else nstP (l.drop (k + 1)) (p + opnW (wdK l k)) from by rw [drop_wd hlt']; rfl)
        clear hlt'
        generalize wdK l k = s at *
        rcases opn_cases s with ⟨h1, h2⟩ | ⟨h1, h2⟩ | ⟨h1, h3, h2⟩
        · have t1 := tl_eq s _ h1
          have t2 := tl_ne s [41] (by rw [h1]; simp)
          have HQ := Lib.hid h2
          clear h1 h2
          go_wp2
          all_goals first
            | (go_ret; exact ⟨ret_bool' (by unfold nstB; rw [HP.out, HN.out, HQ.out, if_pos (by omega)]; rfl), rfl⟩)
            | (go_round
               case rel => exact ⟨k + 1, p + 1, by omega, by omega, by omega, by go_num, rfl, Lib.hid (by rw [HP.out, HN.out, HQ.out, if_neg (by omega)])⟩
               case measure => simp [intOf]; omega)
        · have t1 := tl_ne s [40] (by rw [h1]; simp)
          have t2 := tl_eq s _ h1
          have HQ := Lib.hid h2
          clear h1 h2
          go_wp2
          all_goals first
            | (go_ret; exact ⟨ret_bool' (by unfold nstB; rw [HP.out, HN.out, HQ.out, if_pos (by omega)]; rfl), rfl⟩)
            | (go_round
               case rel => exact ⟨k + 1, p - 1, by omega, by omega, by omega, by go_num, rfl, Lib.hid (by rw [HP.out, HN.out, HQ.out, if_neg (by omega)]; rfl)⟩
               case measure => simp [intOf]; omega)
        · have t1 := tl_ne s [40] h1
          have t2 := tl_ne s [41] h3
          have HQ := Lib.hid h2
          clear h1 h2 h3
          go_wp2
          all_goals first
            | (go_ret; exact ⟨ret_bool' (by unfold nstB; rw [HP.out, HN.out, HQ.out, if_pos (by omega)]; rfl), rfl⟩)
            | (go_round
               case rel => exact ⟨k + 1, p, by omega, by omega, by omega, by go_num, rfl, Lib.hid (by rw [HP.out, HN.out, HQ.out, if_neg (by omega), Int.add_zero])⟩
               case measure => simp [intOf]; omega)
      · have HE := Lib.hid (show nstP (l.drop k) p = some p from by rw [List.drop_eq_nil_of_le (by rw [HL.out]; omega)]; rfl)
        go_wp2
        go_ret
        exact ⟨ret_bool' (by unfold nstB; rw [HP.out, HE.out, Bool.eq_iff_iff]; simp), rfl⟩
theorem tl_beq (s t : ByteArray) : (s.toList == t.toList) = decide (s = t) := by
  rw [ByteArray.toList_eq, ByteArray.toList_eq]
  by_cases h : s = t
  · subst h; simp
  · rw [decide_eq_false h, beq_eq_false_iff_ne]
    intro e
    exact h (ByteArray.ext (Array.ext' e))
theorem wds_eq {a b : List ByteArray} (hl : a.length = b.length) (h : ∀ k, k < a.length → wdK a k = wdK b k) : a = b := by
  refine List.ext_getElem hl fun i h1 h2 => ?_
  have := h i h1
  unfold wdK at this
  simpa [h1, h2] using this
set_option maxHeartbeats 1000000 in
theorem texts_any (la lb : List ByteArray) (A B : Option Addr) (n m c d : Nat) (hn : la.length = n) (hm : lb.length = m) (hmx : n ≤ 1000000000) (w : World) (hA : WdAt w A la) (hB : WdAt w B lb) :
    Calls Tryd.prog 17 #[.slice A n c, .slice B m d] w fun e w' => e = .returned (.bool (decide (la = lb))) ∧ ∃ k, w' = w.drewN k := by
  by_cases hnm : n = m
  case neg =>
    have HF := Lib.hid (show decide (la = lb) = false from decide_eq_false (fun e => hnm (by rw [← hn, ← hm, e])))
    have t0 : ((n : Int) != (m : Int)) = true := by simpa using fun e => hnm (by omega)
    clear hA hB
    go_enter Tryd.func17, Tryd.ntmps17
    go_wp2
    go_ret
    exact ⟨ret_bool' HF.out.symm, 0, by simp [World.drewN_zero]⟩
  case pos =>
    subst hnm
    have HLa := Lib.hid hn
    have HLb := Lib.hid hm
    have HA := Lib.hid hA
    have HB := Lib.hid hB
    clear hA hB hn hm
    go_enter Tryd.func17, Tryd.ntmps17
    go_wp2
    go_loopw [5] (fun i wr => ∃ (k : Nat) (q : Nat), k ≤ n ∧ i = .int .i64 k ∧ Hid (wr = w.drewN q) ∧ Hid (∀ j, j < k → wdK la j = wdK lb j)) (fun i _ => n - (intOf i).toNat)
    case atStart => exact ⟨0, 0, by omega, rfl, Lib.hid (by simp [World.drewN_zero]), Lib.hid (fun j hj => by omega)⟩
    case round =>
      obtain ⟨k, q, hk, rfl, HW, HS⟩ := hrel
      have hw := HW.out
      clear HW
      subst hw
      by_cases hlt : k < n
      · have hla : k < la.length := by rw [HLa.out]; exact hlt
        have hlb : k < lb.length := by rw [HLb.out]; exact hlt
        rcases HA.out with h0 | ⟨ba, oa, rfl, hca⟩
        · rw [h0] at hla; simp at hla
        rcases HB.out with h0 | ⟨bb, ob, rfl, hcb⟩
        · rw [h0] at hlb; simp at hlb
        have g1 := hca k hla
        have g2 := hcb k hlb
        have HS' := Lib.hid (tl_beq (wdK la k) (wdK lb k))
        have HSn : wdK la k = wdK lb k → ∀ j, j < k + 1 → wdK la j = wdK lb j := fun e j hj => by
          by_cases hj' : j = k
          · subst hj'; exact e
          · exact HS.out j (by omega)
        have HSn' := Lib.hid HSn
        have HNe := Lib.hid (show wdK la k ≠ wdK lb k → decide (la = lb) = false from fun h => decide_eq_false (fun e => h (by rw [e])))
        have h0k : (0 : Int) ≤ (k : Int) := by omega
        have hkn : (k : Int) < (n : Int) := by omega
        clear hca hcb hla hlb HA HB HS HSn
        generalize wdK la k = s at *
        generalize wdK lb k = t at *
        by_cases hst : s = t
        · have t1 : (s.toList == t.toList) = true := by rw [HS'.out]; simpa using hst
          have t2 : (s.toList != t.toList) = false := by unfold bne; rw [t1]; rfl
          have HE := Lib.hid hst
          clear hst
          go_wp2
          go_quiet (fail)
          go_wp2
          go_roundw
          case rel => exact ⟨k + 1, _, by omega, by go_num, Lib.hid rfl, Lib.hid (HSn'.out HE.out)⟩
          case measure => simp [intOf]; omega
        · have t1 : (s.toList == t.toList) = false := by rw [HS'.out]; simpa using hst
          have t2 : (s.toList != t.toList) = true := by unfold bne; rw [t1]; rfl
          have HE := Lib.hid (HNe.out hst)
          clear hst
          go_wp2
          go_quiet (fail)
          go_wp2
          go_ret
          exact ⟨ret_bool' HE.out.symm, q + nq, by first | rfl | (rw [World.drewN_drewN])⟩
      · have HE := Lib.hid (show decide (la = lb) = true from decide_eq_true (wds_eq (by rw [HLa.out, HLb.out]) (fun j hj => HS.out j (by rw [HLa.out] at hj; omega))))
        go_wp2
        go_ret
        exact ⟨ret_bool' HE.out.symm, _, rfl⟩
end Go.Proofs.YtlkpfblpofjekaaDoor
