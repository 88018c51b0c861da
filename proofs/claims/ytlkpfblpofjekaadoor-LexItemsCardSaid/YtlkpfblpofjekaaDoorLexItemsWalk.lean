/- The walk of the statement LexItems: it returns true, and writes nothing that was there. -/
import Derived.Test.YtlkpfblpofjekaaDoorLexP
namespace Go.Proofs.YtlkpfblpofjekaaDoor.LexItemsWalk
set_option maxRecDepth 100000
open Go.RowKit Go.Sort
set_option linter.unusedVariables false
theorem wd_drew {w : World} {A : Option Addr} {l : List ByteArray} (h : WdAt w A l) (m : Nat) : WdAt (w.drewN m) A l := h
theorem rows_drop {rs : List (List ByteArray)} {j : Nat} (h : j < rs.length) : rs.drop j = rwK rs j :: rs.drop (j + 1) := by
  rw [List.drop_eq_getElem_cons h]
  unfold rwK
  simp [h]
theorem RowsV.below' {B : Nat} {w w' : World} {rs : List (List ByteArray)} {v : Value} (h : RowsOwn B w rs v) (hb : Below w.heap.size w w') : RowsOwn B w' rs v := by
  obtain ⟨vs, h⟩ := h
  exact ⟨vs, h.below hb⟩
theorem drew_below (w : World) (m : Nat) : Below w.heap.size w (w.drewN m) := ⟨rfl, rfl, rfl, Nat.le_refl _, fun _ _ => rfl⟩
set_option maxHeartbeats 8000000 in
theorem walk (a0 : Option Addr) (n c : Nat) (l : List ByteArray) (w : World) (hn : l.length = n) (hnc : n ≤ c) (hcm : c ≤ maxLen) (hA : WdAt w a0 l) (hT : LxT w) :
    Calls Tryd.prog 4 #[.slice a0 n c] w fun e w' => e = .returned (.bool true) ∧ Below w.heap.size w w' := by
  unfold maxLen at hcm
  have HT := Lib.hid hT
  have HAw := Lib.hid (awake_yes w hT)
  by_cases hs : 2000 < n
  · have hs' : 2000 < (n : Int) := by omega
    clear hT hA hn hs
    go_enter Tryd.func4, Tryd.ntmps4
    go_wp2_with fail
    refine HAw.out.mono ?_
    rintro e w1 ⟨rfl, hb1⟩
    have HB1 := Lib.hid hb1
    clear hb1 HAw
    go_wp2
    go_ret
    exact ⟨rfl, HB1.out⟩
  have hs' : (n : Int) ≤ 2000 := by omega
  have HL := Lib.hid hn
  have HA := Lib.hid hA
  obtain ⟨i1, hi1, hy0, hy1, hy2⟩ := info_parts info_strL
  clear hT hA hn hs
  go_enter Tryd.func4, Tryd.ntmps4
  go_wp2_with fail
  refine HAw.out.mono ?_
  rintro e w1 ⟨rfl, hb1⟩
  have HB1 := Lib.hid hb1
  have HA1 := Lib.hid (HA.out.below hb1)
  have HI := Lib.hid (items_any l a0 n c HL.out hnc (by omega) hcm w1 HA1.out)
  clear hb1 HAw HA
  go_wp2_with fail
  refine HI.out.mono ?_
  rintro e w2 ⟨hb2, ⟨hf, rfl⟩ | ⟨ht, A2, c2, rfl, hr2⟩⟩
  · have HB2 := Lib.hid (HB1.out.trans (hb2.mono HB1.out.size))
    have HA2 := Lib.hid (HA1.out.below hb2)
    have HR := Lib.hid (ritems_any l a0 n c HL.out (by omega) w2 HA2.out)
    have HF := Lib.hid hf
    clear hb2 hf HI
    go_wp2_with fail
    refine HR.out.mono ?_
    rintro e w3 ⟨hb3, ⟨_, rfl⟩ | ⟨ht, _⟩⟩
    case inr => rw [HF.out] at ht; cases ht
    have HB3 := Lib.hid (HB2.out.trans (hb3.mono HB2.out.size))
    have HN1 := Lib.hid (nested_any l a0 n c HL.out (by omega) w3 (HA2.out.below hb3))
    have HN2 := Lib.hid (rnested_any l a0 n c HL.out (by omega) w3 (HA2.out.below hb3))
    rw [HF.out] at HN1 HN2
    clear hb3 HR
    go_wp2_with fail
    refine HN1.out.mono ?_
    rintro e w4 ⟨rfl, rfl⟩
    go_wp2_with fail
    refine HN2.out.mono ?_
    rintro e w4 ⟨rfl, rfl⟩
    go_wp2
    go_loop [7, 8] (fun v i => v = .slice none 0 0 ∧ i = .int .i64 0) (fun _ _ => 0)
    case atStart => exact ⟨rfl, rfl⟩
    case round =>
      obtain ⟨rfl, rfl⟩ := hrel
      go_wp2
      go_ret
      exact ⟨rfl, HB3.out⟩
  · have HB2 := Lib.hid (HB1.out.trans (hb2.mono HB1.out.size))
    have HA2 := Lib.hid (HA1.out.below hb2)
    have HR := Lib.hid (ritems_any l a0 n c HL.out (by omega) w2 HA2.out)
    have HF := Lib.hid ht
    have HR2 := Lib.hid hr2
    clear hb2 ht HI hr2
    go_wp2_with fail
    refine HR.out.mono ?_
    rintro e w3 ⟨hb3, ⟨hf, _⟩ | ⟨_, A3, c3, rfl, hr3⟩⟩
    · rw [HF.out] at hf; cases hf
    have HB3 := Lib.hid (HB2.out.trans (hb3.mono HB2.out.size))
    have HA3 := Lib.hid (HA2.out.below hb3)
    have HR3 := Lib.hid (RowsV.below' HR2.out hb3)
    have HQ3 := Lib.hid hr3
    have HN1 := Lib.hid (nested_any l a0 n c HL.out (by omega) w3 HA3.out)
    have HN2 := Lib.hid (rnested_any l a0 n c HL.out (by omega) w3 HA3.out)
    rw [HF.out] at HN1 HN2
    have HFl := Lib.hid (show (itmP l 0 []).flatten = l from by
      rw [flat_items l 0 [] (by have := HF.out; unfold nstB at this; simpa using this) (fun _ => rfl)]; rfl)
    have HRk := Lib.hid (fun j (hj : j < (itmP l 0 []).length) => items_rows HF.out j hj)
    have hrl : ((itmP l 0 []).length : Int) ≤ 2000 := by have := itm_len l 0 []; rw [HL.out] at this; omega
    clear hb3 HR hr3 HR2
    obtain ⟨rs, hrs⟩ : ∃ rs, rs = itmP l 0 [] := ⟨_, rfl⟩
    rw [← hrs] at HR3 HQ3 HFl HRk hrl ⊢
    clear hrs
    go_wp2_with fail
    refine HN1.out.mono ?_
    rintro e w4 ⟨rfl, rfl⟩
    go_wp2_with fail
    refine HN2.out.mono ?_
    rintro e w4 ⟨rfl, rfl⟩
    go_wp2
    go_loopw [7, 8] (fun v i wr => ∃ (j : Nat) (ws : List ByteArray), j ≤ rs.length ∧ i = .int .i64 j ∧ ws.length ≤ 2000 ∧ Hid (ws ++ (rs.drop j).flatten = l) ∧ Hid (Own w3.heap.size wr ws v) ∧ Hid (Below w3.heap.size w3 wr)) (fun _ i _ => rs.length - (intOf i).toNat)
    case atStart => exact ⟨0, [], by omega, rfl, by simp, Lib.hid (by rw [List.drop_zero]; exact HFl.out), Lib.hid (Own.nil _ _), Lib.hid (Below.refl _ _)⟩
    case round =>
      obtain ⟨j, ws, hj, rfl, hwl, HW, HO, HBr⟩ := hrel
      by_cases hjl : j < rs.length
      · obtain ⟨ga, Aa, ca, rfl, hca, hoa⟩ := (RowsV.below' HR3.out HBr.out).cell j hjl
        obtain ⟨gb, Ab, cb, rfl, hcb, hob⟩ := (RowsV.below' HQ3.out HBr.out).cell j hjl
        have hok := HRk.out j hjl
        have HStep := Lib.hid (show (ws ++ rwK rs j) ++ (rs.drop (j + 1)).flatten = l from by rw [← HW.out, rows_drop hjl]; simp)
        generalize rwK rs j = r at *
        have HSm := Lib.hid (show (ws ++ r).length ≤ 2000 from by
          have := congrArg List.length HStep.out
          rw [List.length_append, HL.out] at this; omega)
        have hj0 : (0 : Int) ≤ (j : Int) := by omega
        have hjl' : (j : Int) < (rs.length : Int) := by omega
        have HTx := fun m => texts_any r r Aa Ab r.length r.length ca cb rfl rfl (by have := HSm.out; simp at this; omega) (wr.drewN m) (wd_drew hoa.wd m) (wd_drew hob.wd m)
        have HTx' : ∀ m, Calls Tryd.prog 17 #[.slice Aa r.length ca, .slice Ab r.length cb] (wr.drewN m) (fun e w' => e = .returned (.bool true) ∧ ∃ k, w' = (wr.drewN m).drewN k) := fun m => (HTx m).mono fun e w' ⟨h1, h2⟩ => ⟨h1.trans (ret_bool' (decide_eq_true rfl)), h2⟩
        have HTq := Lib.hid HTx'
        rcases hoa.wd with h | ⟨b, o, rfl, hc⟩
        · exact absurd (by rw [h]; rfl) hok.1
        have HCr := Lib.hid hc
        clear HTx HTx' hoa hob hok hc
        go_wp2
        go_quiet ((go_at_call 17; exact Calls.quiet_of (HTq.out _)))
        have HOd := Lib.hid (fun m => (show (wr.drewN m).ownsRow w3.heap.size 9 1 u7 ws.length (ws.map Value.string) from HO.out))
        have HNd := Lib.hid (fun (m : Nat) (k : Nat) (u : Value) (h : (r.map Value.string)[k]? = some u) => (show (wr.drewN m).cell? ((⟨b, o, none⟩ : Addr).add k) = some u from by
          have hk : k < r.length := by simpa using (List.getElem?_eq_some_iff.1 h).1
          rw [addr_add]
          have e : (wr.drewN m).cell? ⟨b, o + k, none⟩ = wr.cell? ⟨b, o + k, none⟩ := rfl
          rw [e, HCr.out k hk, ← h]
          unfold wdK
          simp [hk]))
        have H1 := Lib.hid (show ∀ u ∈ r.map Value.string, u.oneCell' = true from fun u hu => by obtain ⟨x, _, rfl⟩ := List.mem_map.1 hu; rfl)
        have HLr := Lib.hid (show (r.map Value.string).length = r.length * 1 from by simp)
        have HM := Lib.hid (show ws.length + r.length ≤ maxLen from by have := HSm.out; simp at this; unfold maxLen; omega)
        have HY := Lib.hid (show (ws.length + r.length) * 16 ≤ 140737488355328 from by have := HSm.out; simp at this; omega)
        have HBd := Lib.hid (fun m => (show w3.heap.size ≤ (wr.drewN m).heap.size from HBr.out.size))
        go_wp2_with (at_builtin; (refine wpList_append_at9 rfl _ _ 28 rfl w3.heap.size 9 i1 (.string ⟨#[]⟩) 1 16 Tryd.underlying28 hi1 hy0 hy1 hy2 rfl (by decide) u7 ws.length (ws.map Value.string) ?hs (HOd.out _) ⟨b, o, none⟩ r.length ca (r.map Value.string) ?hx HLr.out (HNd.out _) H1.out HM.out HY.out (HBd.out _) ?_; (case hs => rfl); (case hx => rfl); intro v9 w9 hr9 hg9 hv9))
        have HO9 := Lib.hid (show Own w3.heap.size w9 (ws ++ r) v9 from by unfold Own; rw [List.length_append, List.map_append]; exact hr9)
        have HB9 := Lib.hid (show Below w3.heap.size w3 w9 from (show Below w3.heap.size w3 (wr.drewN _) from HBr.out.trans ((drew_below wr _).mono HBr.out.size)).grown hg9 (HBd.out _) (fun g h => (HO.out.lt g h).1))
        clear hr9 hg9 hv9
        go_wp2
        go_roundw
        case rel => exact ⟨j + 1, ws ++ r, by omega, by go_num, HSm.out, HStep, HO9, HB9⟩
        case measure => simp [intOf]; omega
      · have HE := Lib.hid (show ws = l from by
          have h := HW.out
          rw [List.drop_eq_nil_of_le (by omega)] at h
          simpa using h)
        obtain ⟨A7, c7, rfl⟩ := HO.out.slice
        have HTq := Lib.hid (texts_any ws l A7 a0 ws.length n c7 c rfl HL.out (by omega) wr HO.out.wd (HA3.out.below HBr.out))
        have HB5 := Lib.hid (HB3.out.trans (HBr.out.mono HB3.out.size))
        go_wp2_with fail
        refine HTq.out.mono ?_
        rintro e w5 ⟨rfl, k5, rfl⟩
        rw [show decide (ws = l) = true from decide_eq_true HE.out]
        go_wp2
        go_ret
        exact ⟨rfl, HB5.out.trans ((drew_below wr k5).mono HB5.out.size)⟩
end Go.Proofs.YtlkpfblpofjekaaDoor.LexItemsWalk
