/- The walk of the statement LexCounts: it returns true, and writes nothing that was there. -/
import Derived.Test.YtlkpfblpofjekaaDoorLexO
namespace Go.Proofs.YtlkpfblpofjekaaDoor.LexCountsWalk
set_option maxRecDepth 100000
open Go.RowKit Go.Sort
set_option linter.unusedVariables false
theorem count_step {l : List ByteArray} {k : Nat} (h : k < l.length) : opC (l.drop k) = (if (wdK l k).data.toList = [40] then 1 else 0) + opC (l.drop (k + 1)) ∧ shC (l.drop k) = (if (wdK l k).data.toList = [41] then 1 else 0) + shC (l.drop (k + 1)) := by
  rw [drop_wd h]; exact ⟨rfl, rfl⟩
theorem tl_bne (s : ByteArray) (l : List UInt8) (h : s.data.toList = l) : (s.toList != l) = false := by unfold bne; rw [tl_eq s l h]; rfl
set_option maxHeartbeats 8000000 in
theorem walk (a0 : Option Addr) (n c : Nat) (l : List ByteArray) (w : World) (hn : l.length = n) (hnc : n ≤ c) (hcm : c ≤ maxLen) (hA : WdAt w a0 l) (hT : LxT w) :
    Calls Tryd.prog 5 #[.slice a0 n c] w fun e w' => e = .returned (.bool true) ∧ Below w.heap.size w w' := by
  unfold maxLen at hcm
  have HT := Lib.hid hT
  have HAw := Lib.hid (awake_yes w hT)
  by_cases hs : 2000 < n
  · have hs' : 2000 < (n : Int) := by omega
    clear hT hA hn hs
    go_enter Tryd.func5, Tryd.ntmps5
    go_wp2_with fail
    refine HAw.out.mono ?_
    rintro e w1 ⟨rfl, hb1⟩
    have HB1 := Lib.hid hb1
    clear hb1 HAw
    go_wp2
    go_ret
    exact ⟨rfl, HB1.out⟩
  have hs' : (n : Int) ≤ 2000 := by omega
  have HL := Lib.hid hn
  have HA := Lib.hid hA
  clear hT hA hn hs
  go_enter Tryd.func5, Tryd.ntmps5
  go_wp2_with fail
  refine HAw.out.mono ?_
  rintro e w1 ⟨rfl, hb1⟩
  have HB1 := Lib.hid hb1
  have HA1 := Lib.hid (HA.out.below hb1)
  clear hb1 HAw HA
  go_wp2
  go_loop [3, 4, 5] (fun o s i => ∃ (k : Nat) (p q : Int), k ≤ n ∧ 0 ≤ p ∧ p ≤ k ∧ 0 ≤ q ∧ q ≤ k ∧ i = .int .i64 k ∧ o = .int .i64 p ∧ s = .int .i64 q ∧ Hid (p + opC (l.drop k) = opC l ∧ q + shC (l.drop k) = shC l)) (fun _ _ i => n - (intOf i).toNat)
  case atStart => exact ⟨0, 0, 0, by omega, by omega, by omega, by omega, by omega, rfl, rfl, rfl, Lib.hid (by simp)⟩
  case round =>
    obtain ⟨k, p, q, hk, hp0, hp1, hq0, hq1, rfl, rfl, rfl, HC⟩ := hrel
    by_cases hlt : k < n
    · have hkl : k < l.length := by rw [HL.out]; exact hlt
      rcases HA1.out with h0 | ⟨b, o, rfl, hc⟩
      · rw [h0] at hkl; simp at hkl
      have hcell := hc k hkl
      have HSt := Lib.hid (count_step hkl)
      clear hc hkl
      generalize wdK l k = s at *
      rcases opn_cases s with ⟨h1, h2⟩ | ⟨h1, h2⟩ | ⟨h1, h3, h2⟩
      · have t1 := tl_eq s _ h1
        have t2 := tl_ne s [41] (by rw [h1]; simp)
        have HN := Lib.hid (show p + 1 + opC (l.drop (k + 1)) = opC l ∧ q + shC (l.drop (k + 1)) = shC l from by
          have a := HSt.out; have b := HC.out; rw [h1] at a; simp at a; omega)
        clear h1 h2 HSt HC
        go_wp2
        go_round
        case rel => exact ⟨k + 1, p + 1, q, by omega, by omega, by omega, by omega, by omega, by go_num, rfl, rfl, HN⟩
        case measure => simp [intOf]; omega
      · have t1 := tl_ne s [40] (by rw [h1]; simp)
        have t2 := tl_eq s _ h1
        have HN := Lib.hid (show p + opC (l.drop (k + 1)) = opC l ∧ q + 1 + shC (l.drop (k + 1)) = shC l from by
          have a := HSt.out; have b := HC.out; rw [h1] at a; simp at a; omega)
        clear h1 h2 HSt HC
        go_wp2
        go_round
        case rel => exact ⟨k + 1, p, q + 1, by omega, by omega, by omega, by omega, by omega, by go_num, rfl, rfl, HN⟩
        case measure => simp [intOf]; omega
      · have t1 := tl_ne s [40] h1
        have t2 := tl_ne s [41] h3
        have HN := Lib.hid (show p + opC (l.drop (k + 1)) = opC l ∧ q + shC (l.drop (k + 1)) = shC l from by
          have a := HSt.out; have b := HC.out; rw [if_neg h1, if_neg h3] at a; omega)
        clear h1 h2 h3 HSt HC
        go_wp2
        go_round
        case rel => exact ⟨k + 1, p, q, by omega, by omega, by omega, by omega, by omega, by go_num, rfl, rfl, HN⟩
        case measure => simp [intOf]; omega
    · have HE := Lib.hid (show p = opC l ∧ q = shC l from by
        have h := HC.out
        rw [List.drop_eq_nil_of_le (by rw [HL.out]; omega)] at h
        simpa [opC, shC] using h)
      have HI := Lib.hid (items_any l a0 n c HL.out hnc (by omega) hcm w1 HA1.out)
      clear HC
      go_wp2_with fail
      refine HI.out.mono ?_
      rintro e w2 ⟨hb2, ⟨hf, rfl⟩ | ⟨ht, A2, c2, rfl, hr⟩⟩
      · have HN := Lib.hid (nested_any l a0 n c HL.out (by omega) w2 (HA1.out.below hb2))
        rw [hf] at HN
        have HB2 := Lib.hid (HB1.out.trans (hb2.mono HB1.out.size))
        clear hb2 hf
        go_wp2_with fail
        refine HN.out.mono ?_
        rintro e w3 ⟨rfl, rfl⟩
        go_wp2
        go_ret
        exact ⟨rfl, HB2.out⟩
      · have HN := Lib.hid (nested_any l a0 n c HL.out (by omega) w2 (HA1.out.below hb2))
        rw [ht] at HN
        have HB2 := Lib.hid (HB1.out.trans (hb2.mono HB1.out.size))
        have hpq : (p == q) = true := by rw [HE.out.1, HE.out.2, nst_even ht]; simp
        have HRk := Lib.hid (fun j (hj : j < (itmP l 0 []).length) => items_rows ht j hj)
        have HRo := Lib.hid hr
        have hrl : ((itmP l 0 []).length : Int) ≤ 2000 := by have := itm_len l 0 []; rw [HL.out] at this; omega
        have HRl := Lib.hid (fun j (hj : j < (itmP l 0 []).length) => (show (rwK (itmP l 0 []) j).length ≤ n from by have := itm_rowK l j hj; rw [HL.out] at this; exact this))
        clear hb2 ht hr
        generalize itmP l 0 [] = rs at *
        go_wp2_with fail
        refine HN.out.mono ?_
        rintro e w3 ⟨rfl, rfl⟩
        go_wp2
        go_loop [8] (fun i => ∃ j : Nat, j ≤ rs.length ∧ i = .int .i64 j) (fun i => rs.length - (intOf i).toNat)
        case atStart => exact ⟨0, by omega, rfl⟩
        case round =>
          obtain ⟨j, hj, rfl⟩ := hrel
          by_cases hjl : j < rs.length
          · obtain ⟨g, A', c', rfl, hcl, ho⟩ := HRo.out.cell j hjl
            have hok := HRk.out j hjl
            have hrn := HRl.out j hjl
            generalize rwK rs j = r at *
            have hj0 : (0 : Int) ≤ (j : Int) := by omega
            have hjl' : (j : Int) < (rs.length : Int) := by omega
            by_cases h1 : r.length = 1
            · rw [h1] at hcl
              clear ho hok
              go_wp2
              go_round
              case rel => exact ⟨j + 1, by omega, by go_num⟩
              case measure => simp [intOf]; omega
            · obtain ⟨m, hm⟩ : ∃ m, r.length = m + 1 := ⟨r.length - 1, by have := hok.1; omega⟩
              have hm0 : 0 < m := by omega
              rcases hok.2 with h | ⟨h2, h3⟩
              · exact absurd h h1
              rcases ho.wd with h | ⟨b, o, rfl, hc⟩
              · rw [h] at hm; simp at hm
              have c0 := hc 0 (by omega)
              have c1 := hc m (by omega)
              rw [hm, Nat.add_sub_cancel] at h3
              rw [hm] at hcl
              have t1 : (wdK r 0).toList = [40] := by rw [ByteArray.toList_eq]; exact h2
              have t2 : (wdK r m).toList = [41] := by rw [ByteArray.toList_eq]; exact h3
              have t3 : ((m : Int) + 1 == 0) = false := by rw [beq_eq_false_iff_ne]; omega
              rw [hm] at hrn
              have hm1 : (m : Int) + 1 ≤ 2000 := by omega
              rw [Nat.add_zero] at c0
              clear ho hok h1 h2 h3 hc hm
              generalize wdK r 0 = s0 at *
              generalize wdK r m = s1 at *
              go_wp2
              go_round
              case rel => exact ⟨j + 1, by omega, by go_num⟩
              case measure => simp [intOf]; omega
          · go_wp2
            go_ret
            exact ⟨rfl, HB2.out⟩
end Go.Proofs.YtlkpfblpofjekaaDoor.LexCountsWalk
