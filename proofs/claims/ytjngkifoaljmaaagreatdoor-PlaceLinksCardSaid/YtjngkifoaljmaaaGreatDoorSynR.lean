/- Layer 7: the reference's May, least, outs, Find. No condition.
   Layer 7: the reference's outs and Check. No condition.
   Layer 7: the reference's Check. No condition.
   Layer 7: an object of relocations, and one of Syms, that a caller builds one by one. No condition. -/
import Derived.Test.YtjngkifoaljmaaaGreatDoorSynP
import Derived.Test.YtjngkifoaljmaaaGreatDoorSymR
import Derived.Test.YtjngkifoaljmaaaGreatDoorObjK
import Derived.Test.YtjngkifoaljmaaaGreatDoorSynA
import Derived.Lib.MinMaxS
import Derived.Test.YtjngkifoaljmaaaGreatDoorSymF
namespace Go.Proofs.YtjngkifoaljmaaaGreatDoor
set_option maxRecDepth 100000
open Go.RowKit
set_option linter.unusedVariables false
set_option maxHeartbeats 2000000 in
theorem rmay7_any (l : List ObjD) (hW : ∀ d ∈ l, ObjW d) (A : Option Addr) (n c lo hi : Nat) (hn : l.length = n) (hmx : n ≤ maxLen) (w : World) (hA : ObjsAt w lo hi l A) (hh : hi ≤ w.heap.size) :
    Calls Tryz.prog 48 #[.slice A n c] w fun e w' => e = .returned (.bool (mayLs l)) ∧ Below w.heap.size w w' := by
  have HW := Lib.hid hW
  have HN := Lib.hid hn
  have HA := Lib.hid hA
  have HH := Lib.hid hh
  unfold maxLen at hmx
  clear hW hn hA hh
  go_enter Tryz.func48, Tryz.ntmps48
  by_cases h16 : n ≤ 16
  case neg =>
    have h1 : (n : Int) > 16 := by omega
    have HR := Lib.hid (mayLs_far (l := l) (by rw [HN.out]; exact h16))
    go_wp2
    go_ret
    exact ⟨ret_bool HR.out.symm, Below.refl _ _⟩
  have h1 : ¬ (n : Int) > 16 := by omega
  go_wp2
  go_loopw [3] (fun i wr => ∃ k : Nat, k ≤ n ∧ i = .int .i64 k ∧ Hid (Below w.heap.size w wr) ∧ Hid (∀ (j : Nat) (hj : j < l.length), j < k → mayO l[j] = true)) (fun i _ => n - (intOf i).toNat)
  case atStart => exact ⟨0, by omega, rfl, Lib.hid (Below.refl _ _), Lib.hid (fun j _ hj => by omega)⟩
  case round =>
    obtain ⟨k, hk, rfl, HB, HY⟩ := hrel
    by_cases hlt : k < n
    · have k0 : (0 : Int) ≤ k := by omega
      have k1 : (k : Int) < n := by omega
      have HLk := Lib.hid (show k < l.length by rw [HN.out]; exact hlt)
      obtain ⟨b, o, A1, n1, c1, A2, n2, c2, A3, n3, c3, A4, n4, c4, A5, n5, c5, rfl, hb, ⟨x0, x1, x2, x3, x4⟩, ho, -⟩ := (HA.out.below HH.out HB.out).at_ HLk.out
      have HO := Lib.hid ho
      clear ho
      go_wp2_with fail
      refine (rmay_any _ (HW.out _ (List.getElem_mem HLk.out)) _ lo hi _ HO.out (by have := HB.out.size; have := HH.out; omega)).mono ?_
      rintro e w2 ⟨rfl, hb2⟩
      have HB2 := Lib.hid (HB.out.trans (hb2.mono HB.out.size))
      clear hb2 x0 x1 x2 x3 x4
      cases hm : mayO l[k]
      case false =>
        have HR := Lib.hid (mayLs_no HLk.out hm)
        clear hm
        go_wp2
        go_ret
        exact ⟨ret_bool HR.out.symm, HB2.out⟩
      case true =>
        have HY2 := Lib.hid (show ∀ (j : Nat) (hj : j < l.length), j < k + 1 → mayO l[j] = true from fun j hj hjk => by
          by_cases e : j = k
          · subst e; exact hm
          · exact HY.out j hj (by omega))
        clear hm HY
        go_wp2
        go_roundw
        case rel => exact ⟨k + 1, by omega, by go_num, HB2, HY2⟩
        case measure => simp [intOf]; omega
    · have hkn : k = n := by omega
      have k1 : ¬ (k : Int) < n := by omega
      have HR := Lib.hid (mayLs_yes (l := l) (by rw [HN.out]; exact h16) (fun i hi => HY.out i hi (by rw [HN.out] at hi; omega)))
      clear hkn hlt
      go_wp2
      go_ret
      exact ⟨ret_bool HR.out.symm, HB.out⟩
/-- the lesser of two names; an empty one counts as none -/
def lessR (a b : ByteArray) : ByteArray := if a.data.toList.isEmpty = true ∨ b.data.toList < a.data.toList then b else a
theorem least7_any (a b : ByteArray) (w : World) : Calls Tryz.prog 50 #[.string a, .string b] w fun e w' => e = .returned (.string (lessR a b)) ∧ w = w' := by
  have hl : Op.bytesLess b.toList a.toList = decide (b.data.toList < a.data.toList) := by rw [Proofs.bytesLess_eq, Lib.toList_data, Lib.toList_data]
  have he : a.toList.isEmpty = a.data.toList.isEmpty := by rw [Lib.toList_data]
  by_cases h1 : a.data.toList.isEmpty = true
  · have HR := Lib.hid (show lessR a b = b from by unfold lessR; rw [if_pos (.inl h1)])
    rw [h1] at he
    clear h1 hl
    go_enter Tryz.func50, Tryz.ntmps50
    go_wp2
    go_ret
    exact ⟨by rw [HR.out]; rfl, rfl⟩
  · have h1' : a.data.toList.isEmpty = false := by simpa using h1
    rw [h1'] at he
    by_cases h2 : b.data.toList < a.data.toList
    · have HR := Lib.hid (show lessR a b = b from by unfold lessR; rw [if_pos (.inr h2)])
      rw [decide_eq_true h2] at hl
      clear h1 h1' h2
      go_enter Tryz.func50, Tryz.ntmps50
      go_wp2
      go_ret
      exact ⟨by rw [HR.out]; rfl, rfl⟩
    · have HR := Lib.hid (show lessR a b = a from by unfold lessR; rw [if_neg (fun h => h.elim h1 h2)])
      rw [decide_eq_false h2] at hl
      clear h1 h1' h2
      go_enter Tryz.func50, Tryz.ntmps50
      go_wp2
      go_ret
      exact ⟨by rw [HR.out]; rfl, rfl⟩
theorem idx_at {ss : List SymD} {s : ByteArray} {o : Bool} {k : Nat} (hk : k < ss.length) (h : mtS s o ss[k] = true) (hn : ∀ (j : Nat) (hj : j < ss.length), j < k → mtS s o ss[j] = false) : idxS ss s o = some (k : Int) := by
  unfold idxS
  have : ss.findIdx? (mtS s o) = some k := by
    rw [List.findIdx?_eq_some_iff_getElem]
    exact ⟨hk, h, fun j hj => by have := hn j (by omega) hj; simpa using this⟩
  rw [this]; rfl
theorem idx_no {ss : List SymD} {s : ByteArray} {o : Bool} (hn : ∀ (j : Nat) (hj : j < ss.length), mtS s o ss[j] = false) : idxS ss s o = none := by
  rw [idx_none]
  rw [← Bool.not_eq_true, List.any_eq_true]
  rintro ⟨x, hx, h⟩
  obtain ⟨j, hj, rfl⟩ := List.getElem_of_mem hx
  rw [hn j hj] at h; cases h
theorem res_rfind {T : Array Value} {b : Nat} {c : Bool} {W : World} {v0 v1 : Value} {ty : TypeId} (h2 : T[6]? = some (.pointer (some ⟨b, 0, none⟩))) (h3 : T[7]? = some (.bool c)) (hr : W.heap[b]? = some (.cells #[v0, v1] ty (0, 0))) :
    (results Tryz.f28 T).run Tryz.prog W = .ok (.tuple #[.agg #[v0, v1], .bool c]) W := by
  have y0 := cell_of_row W b 0 _ _ _ hr
  have y1 := cell_of_row W b 1 _ _ _ hr
  simp only [List.getElem?_toArray, List.getElem?_cons_zero, List.getElem?_cons_succ] at y0 y1
  simp [results, Tryz.results28, go_sem, h2, h3, y0, y1]
set_option maxHeartbeats 4000000 in
theorem rfind7_any (l : List ObjD) (A : Option Addr) (n c lo hi : Nat) (hn : l.length = n) (hmx : n ≤ 1000000) (hsum : sumS l l.length ≤ 1000000) (q : Nat) (hq : q < n) (nm : ByteArray) (w : World) (hA : ObjsAt w lo hi l A) (hh : hi ≤ w.heap.size) :
    Calls Tryz.prog 28 #[.slice A n c, .int .i64 q, .string nm] w fun e w' => e = .returned (.tuple #[defV (findP l q nm), .bool (findP l q nm).isSome]) ∧ Below w.heap.size w w' := by
  have HN := Lib.hid hn
  have HA := Lib.hid hA
  have HH := Lib.hid hh
  have hbx := (Below.refl w.heap.size w).alloc (Nat.le_refl _) (.cells #[.int .i64 0, .int .i64 0] 27)
  have HBx := Lib.hid hbx
  have HD := Lib.hid (heap_alloc_new w (.cells #[.int .i64 0, .int .i64 0] 27))
  have HLq := Lib.hid (show q < l.length by rw [hn]; exact hq)
  have HSum := Lib.hid hsum
  obtain ⟨b, o, A1, n1, c1, A2, n2, c2, A3, n3, c3, A4, n4, c4, A5, n5, c5, rfl, hb, ⟨-, -, x2, -, -⟩, -, hn3, -⟩ := HA.out.at_ HLq.out
  have hn3b : n3 ≤ 1000000 := by have h1 := sumS_go HLq.out; have h2 := sumS_le l (q + 1); omega
  have HN3 := Lib.hid hn3
  have HX2 := Lib.hid x2
  have hbw : b < w.heap.size := by omega
  have h0q : (0 : Int) ≤ (q : Int) := by omega
  have h1q : (q : Int) < n := by omega
  have hg0 : ¬ (q : Int) < 0 := by omega
  have hg1 : ¬ (q : Int) ≥ n := by omega
  have hg2 : decide ((q : Int) < 0) = false := by simp
  have hg3 : decide (n ≤ q) = false := by simp; omega
  clear hn hA hh hbx hsum x2 hn3
  go_enter Tryz.func28, Tryz.ntmps28
  go_wp2
  go_loopw [8] (fun i wr => ∃ k : Nat, k ≤ n3 ∧ i = .int .i64 k ∧ Hid (Below w.heap.size w wr) ∧ Hid (wr.heap[w.heap.size]? = some (.cells #[.int .i64 0, .int .i64 0] 27 (0, 0))) ∧ Hid (∀ (j : Nat) (hj : j < (l[q]'HLq.out).syms.length), j < k → mtS nm false (l[q]'HLq.out).syms[j] = false)) (fun i _ => n3 - (intOf i).toNat)
  case atStart => exact ⟨0, by omega, rfl, HBx, HD, Lib.hid (fun j hj h => by omega)⟩
  case round =>
    clear HBx HD
    obtain ⟨k, hk, rfl, HB, HD, HNo⟩ := hrel
    have x2 := (HB.out.cell (p := ⟨b, o + q * 5 + 2, none⟩) hbw).trans HX2.out
    by_cases hlt : k < n3
    · have k0 : (0 : Int) ≤ k := by omega
      have k1 : (k : Int) < n3 := by omega
      have HLk := Lib.hid (show k < (l[q]'HLq.out).syms.length by rw [HN3.out]; exact hlt)
      obtain ⟨b', o', n3', c3', b3, o3, eq, z, -, s0, -, -, -⟩ := HA.out.symAt HLq.out HLk.out
      cases eq
      have hz := HX2.out.symm.trans z
      simp only [Option.some.injEq, Value.slice.injEq] at hz
      obtain ⟨rfl, rfl, rfl⟩ := hz
      replace s0 := (HB.out.cell (p := ⟨b3, o3 + k * 4, none⟩) (block_lt s0)).trans s0
      have HMt := Lib.hid (show mtS nm false ((l[q]'HLq.out).syms[k]'HLk.out) = decide (((l[q]'HLq.out).syms[k]'HLk.out).1 = nm) from by unfold mtS; simp)
      generalize hsy : ((l[q]'HLq.out).syms[k]'HLk.out).1 = sy at *
      have HMd := Lib.hid (beq_str' sy nm)
      by_cases he : sy = nm
      · have hbe : (sy.toList == nm.toList) = true := by rw [beq_str', decide_eq_true he]
        have HF := Lib.hid (show findP l q nm = some ((q : Int), (k : Int)) from own_find (by
          rw [nAt_get HLq.out]
          exact idx_at HLk.out (by rw [HMt.out, decide_eq_true he]) (fun j hj h => HNo.out j hj h)))
        clear z hsy
        subst he
        obtain ⟨d0, d1, df⟩ := row2 HD.out
        go_wp2
        rw [HF.out]
        exact bodyPost_ret (v := .tuple #[.agg #[.int .i64 q, .int .i64 k], .bool true]) (res_rfind (b := w.heap.size) rfl rfl (sfill2 HD.out _ _)) rfl ⟨rfl, below_setNew (below_setNew HB.out (Nat.le_refl _)) (Nat.le_refl _)⟩
      · have hbe : (sy.toList == nm.toList) = false := by rw [beq_str', decide_eq_false he]
        have HNo2 := Lib.hid (show ∀ (j : Nat) (hj : j < (l[q]'HLq.out).syms.length), j < k + 1 → mtS nm false (l[q]'HLq.out).syms[j] = false from fun j hj h => by
          by_cases e : j = k
          · subst e; rw [HMt.out, decide_eq_false he]
          · exact HNo.out j hj (by omega))
        clear z hsy he
        go_wp2
        go_roundw
        case rel => exact ⟨k + 1, by omega, by go_num, HB, HD, HNo2⟩
        case measure => simp [intOf]; omega
    · have hkn : k = n3 := by omega
      have k1 : ¬ (k : Int) < n3 := by omega
      have HOwn := Lib.hid (show idxS (nAt l q).syms nm false = none from by
        rw [nAt_get HLq.out]
        exact idx_no fun j hj => HNo.out j hj (by have := HN3.out; omega))
      clear hkn hlt hk HNo
      clear HX2 HN3
      go_wp2
      go_loopw [9] (fun i wr => ∃ m : Nat, m ≤ n ∧ i = .int .i64 m ∧ Hid (Below w.heap.size w wr) ∧ Hid (wr.heap[w.heap.size]? = some (.cells #[.int .i64 0, .int .i64 0] 27 (0, 0))) ∧ Hid (∀ j, j < m → idxS (nAt l j).syms nm true = none)) (fun i _ => n - (intOf i).toNat)
      case atStart => exact ⟨0, by omega, rfl, HB, HD, Lib.hid (fun j h => by omega)⟩
      case round =>
        clear HB HD
        obtain ⟨m, hm, rfl, HB, HD, HNm⟩ := hrel
        by_cases hlt : m < n
        · have k0 : (0 : Int) ≤ m := by omega
          have k1 : (m : Int) < n := by omega
          have HLm := Lib.hid (show m < l.length by rw [HN.out]; exact hlt)
          obtain ⟨bq, oq, B1, p1, e1, B2, p2, e2, B3, p3, e3, B4, p4, e4, B5, p5, e5, eq, -, ⟨-, -, x2, -, -⟩, -, hp3, -⟩ := HA.out.at_ HLm.out
          cases eq
          have hp3b : p3 ≤ 1000000 := by have h1 := sumS_go HLm.out; have h2 := sumS_le l (m + 1); have h3 := HSum.out; omega
          have HP3 := Lib.hid hp3
          have HX2 := Lib.hid x2
          clear x2 hp3
          go_wp2
          go_loopw [10] (fun i wr => ∃ k : Nat, k ≤ p3 ∧ i = .int .i64 k ∧ Hid (Below w.heap.size w wr) ∧ Hid (wr.heap[w.heap.size]? = some (.cells #[.int .i64 0, .int .i64 0] 27 (0, 0))) ∧ Hid (∀ (j : Nat) (hj : j < (l[m]'HLm.out).syms.length), j < k → mtS nm true (l[m]'HLm.out).syms[j] = false)) (fun i _ => p3 - (intOf i).toNat)
          case atStart => exact ⟨0, by omega, rfl, HB, HD, Lib.hid (fun j hj h => by omega)⟩
          case round =>
            clear HB HD
            obtain ⟨k, hk, rfl, HB, HD, HNo⟩ := hrel
            have x2 := (HB.out.cell (p := ⟨b, o + m * 5 + 2, none⟩) hbw).trans HX2.out
            by_cases hlk : k < p3
            · have j0 : (0 : Int) ≤ k := by omega
              have j1 : (k : Int) < p3 := by omega
              have HLk := Lib.hid (show k < (l[m]'HLm.out).syms.length by rw [HP3.out]; exact hlk)
              obtain ⟨b', o', n3', c3', b3, o3, eq, z, -, s0, -, -, s3⟩ := HA.out.symAt HLm.out HLk.out
              cases eq
              have hz := HX2.out.symm.trans z
              simp only [Option.some.injEq, Value.slice.injEq] at hz
              obtain ⟨rfl, rfl, rfl⟩ := hz
              replace s0 := (HB.out.cell (p := ⟨b3, o3 + k * 4, none⟩) (block_lt s0)).trans s0
              replace s3 := (HB.out.cell (p := ⟨b3, o3 + k * 4 + 3, none⟩) (block_lt s3)).trans s3
              have HMt := Lib.hid (show mtS nm true ((l[m]'HLm.out).syms[k]'HLk.out) = (decide (((l[m]'HLm.out).syms[k]'HLk.out).1 = nm) && ((l[m]'HLm.out).syms[k]'HLk.out).2.2.2) from by unfold mtS; simp)
              generalize ((l[m]'HLm.out).syms[k]'HLk.out).1 = sy at *
              generalize ((l[m]'HLm.out).syms[k]'HLk.out).2.2.2 = fl at *
              have hnx : mtS nm true ((l[m]'HLm.out).syms[k]'HLk.out) = false → ∀ (j : Nat) (hj : j < (l[m]'HLm.out).syms.length), j < k + 1 → mtS nm true (l[m]'HLm.out).syms[j] = false := fun h0 j hj h => by
                by_cases e : j = k
                · subst e; exact h0
                · exact HNo.out j hj (by omega)
              by_cases he : sy = nm
              · have hbe : (sy.toList == nm.toList) = true := by rw [beq_str', decide_eq_true he]
                subst he
                cases fl
                case true =>
                  have HF := Lib.hid (show findP l q sy = some ((m : Int), (k : Int)) from by
                    unfold findP
                    rw [HOwn.out]
                    simp only
                    refine find_at (k := m) (by have := HLm.out; omega) (fun j hj => by rw [HNm.out j hj]; rfl) ?_
                    rw [nAt_get HLm.out, idx_at HLk.out (by rw [HMt.out]; simp) (fun j hj h => HNo.out j hj h)]
                    rfl)
                  clear z hnx
                  obtain ⟨d0, d1, df⟩ := row2 HD.out
                  go_wp2
                  rw [HF.out]
                  exact bodyPost_ret (v := .tuple #[.agg #[.int .i64 m, .int .i64 k], .bool true]) (res_rfind (b := w.heap.size) rfl rfl (sfill2 HD.out _ _)) rfl ⟨rfl, below_setNew (below_setNew HB.out (Nat.le_refl _)) (Nat.le_refl _)⟩
                case false =>
                  have HNo2 := Lib.hid (hnx (by rw [HMt.out]; simp))
                  clear z hnx
                  go_wp2
                  go_roundw
                  case rel => exact ⟨k + 1, by omega, by go_num, HB, HD, HNo2⟩
                  case measure => simp [intOf]; omega
              · have hbe : (sy.toList == nm.toList) = false := by rw [beq_str', decide_eq_false he]
                have HNo2 := Lib.hid (hnx (by rw [HMt.out, decide_eq_false he]; rfl))
                clear z hnx he
                go_wp2
                go_roundw
                case rel => exact ⟨k + 1, by omega, by go_num, HB, HD, HNo2⟩
                case measure => simp [intOf]; omega
            · have hkp : k = p3 := by omega
              have j1 : ¬ (k : Int) < p3 := by omega
              have HNm2 := Lib.hid (show ∀ j, j < m + 1 → idxS (nAt l j).syms nm true = none from fun j hj => by
                by_cases e : j = m
                · subst e
                  rw [nAt_get HLm.out]
                  exact idx_no fun i hi => HNo.out i hi (by have := HP3.out; omega)
                · exact HNm.out j (by omega))
              clear hkp hlk
              go_wp2
              go_roundw
              case rel => exact ⟨m + 1, by omega, by go_num, HB, HD, HNm2⟩
              case measure => simp [intOf]; omega
        · have hmn : m = n := by omega
          have k1 : ¬ (m : Int) < n := by omega
          have HF := Lib.hid (show findP l q nm = none from by
            unfold findP
            rw [HOwn.out]
            refine List.findSome?_eq_none_iff.2 fun j hj => ?_
            rw [HNm.out j (by have := List.mem_range.1 hj; have := HN.out; omega)]; rfl)
          clear hmn hlt
          obtain ⟨d0, d1, df⟩ := row2 HD.out
          go_wp2
          rw [HF.out]
          exact bodyPost_ret (v := .tuple #[.agg #[.int .i64 0, .int .i64 0], .bool false]) (res_rfind (b := w.heap.size) rfl rfl (sfill2 HD.out _ _)) rfl ⟨rfl, below_setNew (below_setNew HB.out (Nat.le_refl _)) (Nat.le_refl _)⟩
end Go.Proofs.YtjngkifoaljmaaaGreatDoor
namespace Go.Proofs.YtjngkifoaljmaaaGreatDoor
set_option maxRecDepth 100000
open Go.RowKit
set_option linter.unusedVariables false
/-- how many Syms of a name are Out, in the first k objects; how many entries have it -/
def outC (l : List ObjD) (s : ByteArray) (k : Nat) : Nat := ((l.take k).map fun d => d.syms.countP (mtS s true)).sum
def entC7 (l : List ObjD) (s : ByteArray) (k : Nat) : Nat := ((l.take k).map fun d => d.ents.countP fun e => decide (e.1 = s)).sum
def sumEn (l : List ObjD) (k : Nat) : Nat := ((l.take k).map fun d => d.ents.length).sum
theorem sumEn_go {l : List ObjD} {k : Nat} (h : k < l.length) : sumEn l (k + 1) = sumEn l k + l[k].ents.length := by
  unfold sumEn
  rw [List.take_succ_eq_append_getElem h, List.map_append, List.sum_append]
  simp
theorem sumEn_le (l : List ObjD) (k : Nat) : sumEn l k ≤ sumEn l l.length := by
  unfold sumEn
  rw [List.take_length]
  conv => rhs; rw [← List.take_append_drop k l]
  rw [List.map_append, List.sum_append]
  omega
theorem outC_go {l : List ObjD} {s : ByteArray} {k : Nat} (h : k < l.length) : outC l s (k + 1) = outC l s k + l[k].syms.countP (mtS s true) := by
  unfold outC
  rw [List.take_succ_eq_append_getElem h, List.map_append, List.sum_append]
  simp
theorem entC7_go {l : List ObjD} {s : ByteArray} {k : Nat} (h : k < l.length) : entC7 l s (k + 1) = entC7 l s k + l[k].ents.countP (fun e => decide (e.1 = s)) := by
  unfold entC7
  rw [List.take_succ_eq_append_getElem h, List.map_append, List.sum_append]
  simp
theorem count_go {α : Type} {f : α → Bool} {xs : List α} {k : Nat} (h : k < xs.length) : (xs.take (k + 1)).countP f = (xs.take k).countP f + (if f xs[k] = true then 1 else 0) := by
  rw [List.take_succ_eq_append_getElem h, List.countP_append]
  simp [List.countP_cons]
theorem count_all {α : Type} (f : α → Bool) {xs : List α} {k : Nat} (h : k = xs.length) : (xs.take k).countP f = xs.countP f := by
  subst h; rw [List.take_length]
theorem outC_le (l : List ObjD) (s : ByteArray) : ∀ k, k ≤ l.length → outC l s k ≤ sumS l k
  | 0, _ => by simp [outC, sumS]
  | k + 1, h => by
    rw [outC_go (by omega), sumS_go (by omega)]
    have := outC_le l s k (by omega)
    have := List.countP_le_length (p := mtS s true) (l := l[k].syms)
    omega
theorem entC7_le (l : List ObjD) (s : ByteArray) : ∀ k, k ≤ l.length → entC7 l s k ≤ sumEn l k
  | 0, _ => by simp [entC7, sumEn]
  | k + 1, h => by
    rw [entC7_go (by omega), sumEn_go (by omega)]
    have := entC7_le l s k (by omega)
    have := List.countP_le_length (p := fun e : EntD => decide (e.1 = s)) (l := l[k].ents)
    omega
set_option maxHeartbeats 4000000 in
theorem routs_any (l : List ObjD) (A : Option Addr) (n c lo hi : Nat) (hn : l.length = n) (hmx : n ≤ 1000000) (hsum : sumS l l.length ≤ 1000000) (hsumE : sumEn l l.length ≤ 1000000) (nm : ByteArray) (w : World) (hA : ObjsAt w lo hi l A) (hh : hi ≤ w.heap.size) :
    Calls Tryz.prog 49 #[.slice A n c, .string nm] w fun e w' => e = .returned (.tuple #[.int .i64 (outC l nm n), .int .i64 (entC7 l nm n)]) ∧ Below w.heap.size w w' := by
  have HN := Lib.hid hn
  have HA := Lib.hid hA
  have HH := Lib.hid hh
  have HSum := Lib.hid hsum
  have HSumE := Lib.hid hsumE
  clear hn hA hh hsum hsumE
  go_enter Tryz.func49, Tryz.ntmps49
  go_wp2
  go_loopw [6, 7, 8] (fun x y i wr => ∃ k a b : Nat, k ≤ n ∧ i = .int .i64 k ∧ x = .int .i64 a ∧ y = .int .i64 b ∧ a ≤ 1000000 ∧ b ≤ 1000000 ∧ Hid (Below w.heap.size w wr) ∧ Hid (a = outC l nm k ∧ b = entC7 l nm k)) (fun _ _ i _ => n - (intOf i).toNat)
  case atStart => exact ⟨0, 0, 0, by omega, rfl, rfl, rfl, by omega, by omega, Lib.hid (Below.refl _ _), Lib.hid ⟨rfl, rfl⟩⟩
  case round =>
    obtain ⟨k, a, b, hk, rfl, rfl, rfl, ha, hb, HB, HC⟩ := hrel
    by_cases hlt : k < n
    · have k0 : (0 : Int) ≤ k := by omega
      have k1 : (k : Int) < n := by omega
      have HLk := Lib.hid (show k < l.length by rw [HN.out]; exact hlt)
      obtain ⟨bq, oq, B1, p1, e1, B2, p2, e2, B3, p3, e3, B4, p4, e4, B5, p5, e5, rfl, hbq, ⟨-, -, x2, -, x4⟩, -, hp3, -, hp5⟩ := HA.out.at_ HLk.out
      have hbw : bq < w.heap.size := by have := HH.out; omega
      have hp3b : a + p3 ≤ 1000000 := by have h1 := sumS_go HLk.out; have h2 := sumS_le l (k + 1); have h3 := HSum.out; have h4 := outC_le l nm k (by have := HLk.out; omega); have h5 := HC.out.1; omega
      have hp5b : b + p5 ≤ 1000000 := by have h1 := sumEn_go HLk.out; have h2 := sumEn_le l (k + 1); have h3 := HSumE.out; have h4 := entC7_le l nm k (by have := HLk.out; omega); have h5 := HC.out.2; omega
      have HP3 := Lib.hid hp3
      have HP5 := Lib.hid hp5
      have HX2 := Lib.hid x2
      have HX4 := Lib.hid x4
      clear x2 x4 hp3 hp5 ha hb
      go_wp2
      go_loopw [9, 6] (fun i x wr => ∃ j a' : Nat, j ≤ p3 ∧ i = .int .i64 j ∧ x = .int .i64 a' ∧ a' ≤ a + j ∧ Hid (Below w.heap.size w wr) ∧ Hid (a' = outC l nm k + ((l[k]'HLk.out).syms.take j).countP (mtS nm true))) (fun i _ _ => p3 - (intOf i).toNat)
      case atStart => exact ⟨0, a, by omega, rfl, rfl, by omega, HB, Lib.hid (by rw [HC.out.1]; simp)⟩
      case round =>
        clear HB
        obtain ⟨j, a', hj, rfl, rfl, ha', HB, HCj⟩ := hrel
        have x2 := (HB.out.cell (p := ⟨bq, oq + k * 5 + 2, none⟩) hbw).trans HX2.out
        by_cases hlj : j < p3
        · have j0 : (0 : Int) ≤ j := by omega
          have j1 : (j : Int) < p3 := by omega
          have HLj := Lib.hid (show j < (l[k]'HLk.out).syms.length by rw [HP3.out]; exact hlj)
          obtain ⟨b', o', n3', c3', b3, o3, eq, z, -, s0, -, -, s3⟩ := HA.out.symAt HLk.out HLj.out
          cases eq
          have hz := HX2.out.symm.trans z
          simp only [Option.some.injEq, Value.slice.injEq] at hz
          obtain ⟨rfl, rfl, rfl⟩ := hz
          replace s0 := (HB.out.cell (p := ⟨b3, o3 + j * 4, none⟩) (block_lt s0)).trans s0
          replace s3 := (HB.out.cell (p := ⟨b3, o3 + j * 4 + 3, none⟩) (block_lt s3)).trans s3
          have HMt := Lib.hid (show mtS nm true ((l[k]'HLk.out).syms[j]'HLj.out) = (decide (((l[k]'HLk.out).syms[j]'HLj.out).1 = nm) && ((l[k]'HLk.out).syms[j]'HLj.out).2.2.2) from by unfold mtS; simp)
          have HGo := Lib.hid (count_go (f := mtS nm true) HLj.out)
          generalize ((l[k]'HLk.out).syms[j]'HLj.out).1 = sy at *
          generalize ((l[k]'HLk.out).syms[j]'HLj.out).2.2.2 = fl at *
          clear z
          cases fl
          case false =>
            have HC2 := Lib.hid (show a' = outC l nm k + ((l[k]'HLk.out).syms.take (j + 1)).countP (mtS nm true) from by rw [HGo.out, HMt.out, HCj.out]; simp)
            go_wp2
            go_roundw
            case rel => exact ⟨j + 1, a', by omega, by go_num, rfl, by omega, HB, HC2⟩
            case measure => simp [intOf]; omega
          case true =>
            by_cases he : sy = nm
            · have hbe : (sy.toList == nm.toList) = true := by rw [beq_str', decide_eq_true he]
              have HC2 := Lib.hid (show a' + 1 = outC l nm k + ((l[k]'HLk.out).syms.take (j + 1)).countP (mtS nm true) from by rw [HGo.out, HMt.out, HCj.out, decide_eq_true he]; simp; omega)
              subst he
              go_wp2
              go_roundw
              case rel => exact ⟨j + 1, a' + 1, by omega, by go_num, by go_num, by omega, HB, HC2⟩
              case measure => simp [intOf]; omega
            · have hbe : (sy.toList == nm.toList) = false := by rw [beq_str', decide_eq_false he]
              have HC2 := Lib.hid (show a' = outC l nm k + ((l[k]'HLk.out).syms.take (j + 1)).countP (mtS nm true) from by rw [HGo.out, HMt.out, HCj.out, decide_eq_false he]; simp)
              clear he
              go_wp2
              go_roundw
              case rel => exact ⟨j + 1, a', by omega, by go_num, rfl, by omega, HB, HC2⟩
              case measure => simp [intOf]; omega
        · have hjp : j = p3 := by omega
          have j1 : ¬ (j : Int) < p3 := by omega
          have HC2 := Lib.hid (show a' = outC l nm (k + 1) from by rw [outC_go HLk.out, HCj.out, count_all _ (by have := HP3.out; omega)])
          have ha2 : a' ≤ 1000000 := by omega
          clear hjp hlj HCj ha'
          go_wp2
          go_loopw [10, 7] (fun i x wr => ∃ j b' : Nat, j ≤ p5 ∧ i = .int .i64 j ∧ x = .int .i64 b' ∧ b' ≤ b + j ∧ Hid (Below w.heap.size w wr) ∧ Hid (b' = entC7 l nm k + ((l[k]'HLk.out).ents.take j).countP (fun e => decide (e.1 = nm)))) (fun i _ _ => p5 - (intOf i).toNat)
          case atStart => exact ⟨0, b, by omega, rfl, rfl, by omega, HB, Lib.hid (by rw [HC.out.2]; simp)⟩
          case round =>
            clear HB
            obtain ⟨j, b', hj, rfl, rfl, hb', HB, HCj⟩ := hrel
            have x4 := (HB.out.cell (p := ⟨bq, oq + k * 5 + 4, none⟩) hbw).trans HX4.out
            by_cases hlj : j < p5
            · have j0 : (0 : Int) ≤ j := by omega
              have j1 : (j : Int) < p5 := by omega
              have HLj := Lib.hid (show j < (l[k]'HLk.out).ents.length by rw [HP5.out]; exact hlj)
              obtain ⟨b1, o', n5', c5', b5, o5, Ap, cp, eq, z, -, s0, -⟩ := HA.out.entAt HLk.out HLj.out
              cases eq
              have hz := HX4.out.symm.trans z
              simp only [Option.some.injEq, Value.slice.injEq] at hz
              obtain ⟨rfl, rfl, rfl⟩ := hz
              replace s0 := (HB.out.cell (p := ⟨b5, o5 + j * 2, none⟩) (block_lt s0)).trans s0
              have HGo := Lib.hid (count_go (f := fun e : EntD => decide (e.1 = nm)) HLj.out)
              generalize ((l[k]'HLk.out).ents[j]'HLj.out).1 = sy at *
              clear z
              by_cases he : sy = nm
              · have hbe : (sy.toList == nm.toList) = true := by rw [beq_str', decide_eq_true he]
                have HC3 := Lib.hid (show b' + 1 = entC7 l nm k + ((l[k]'HLk.out).ents.take (j + 1)).countP (fun e => decide (e.1 = nm)) from by rw [HGo.out, HCj.out, decide_eq_true he]; simp; omega)
                subst he
                go_wp2
                go_roundw
                case rel => exact ⟨j + 1, b' + 1, by omega, by go_num, by go_num, by omega, HB, HC3⟩
                case measure => simp [intOf]; omega
              · have hbe : (sy.toList == nm.toList) = false := by rw [beq_str', decide_eq_false he]
                have HC3 := Lib.hid (show b' = entC7 l nm k + ((l[k]'HLk.out).ents.take (j + 1)).countP (fun e => decide (e.1 = nm)) from by rw [HGo.out, HCj.out, decide_eq_false he]; simp)
                clear he
                go_wp2
                go_roundw
                case rel => exact ⟨j + 1, b', by omega, by go_num, rfl, by omega, HB, HC3⟩
                case measure => simp [intOf]; omega
            · have hjp : j = p5 := by omega
              have j1 : ¬ (j : Int) < p5 := by omega
              have HC3 := Lib.hid (show a' = outC l nm (k + 1) ∧ b' = entC7 l nm (k + 1) from ⟨HC2.out, by rw [entC7_go HLk.out, HCj.out, count_all _ (by have := HP5.out; omega)]⟩)
              clear hjp hlj HCj
              go_wp2
              go_roundw
              case rel => exact ⟨k + 1, a', b', by omega, by go_num, rfl, rfl, ha2, by omega, HB, HC3⟩
              case measure => simp [intOf]; omega
    · have hkn : k = n := by omega
      have k1 : ¬ (k : Int) < n := by omega
      have HR := Lib.hid (show a = outC l nm n ∧ b = entC7 l nm n from by rw [← hkn]; exact HC.out)
      clear hkn hlt
      go_wp2
      go_ret2
      exact ⟨by rw [← HR.out.1, ← HR.out.2]; rfl, HB.out⟩
end Go.Proofs.YtjngkifoaljmaaaGreatDoor
namespace Go.Proofs.YtjngkifoaljmaaaGreatDoor
set_option maxRecDepth 100000
open Go.RowKit
set_option linter.unusedVariables false
def badS (l : List ObjD) (s : ByteArray) : Bool := decide (1 < outC l s l.length) || decide (1 < entC7 l s l.length)
/-- the least name that clashes, of the first Syms; that means nothing, of the first relocations -/
def twS (l : List ObjD) (ss : List SymD) (t : ByteArray) (j : Nat) : ByteArray := (ss.take j).foldl (fun t s => if badS l s.1 = true then lessR t s.1 else t) t
def noS (l : List ObjD) (i : Nat) (rs : List RelD) (t : ByteArray) (j : Nat) : ByteArray := (rs.take j).foldl (fun t r => if (findP l i r.2.2.1).isSome = true then t else lessR t r.2.2.1) t
def twL (l : List ObjD) : Nat → ByteArray
  | 0 => ⟨#[]⟩
  | k + 1 => twS l (nAt l k).syms (twL l k) (nAt l k).syms.length
def noL (l : List ObjD) : Nat → ByteArray
  | 0 => ⟨#[]⟩
  | k + 1 => noS l k (nAt l k).rels (noL l k) (nAt l k).rels.length
theorem twS_go {l : List ObjD} {ss : List SymD} {t : ByteArray} {j : Nat} (h : j < ss.length) : twS l ss t (j + 1) = if badS l ss[j].1 = true then lessR (twS l ss t j) ss[j].1 else twS l ss t j := by
  unfold twS
  rw [List.take_succ_eq_append_getElem h, List.foldl_append]
  rfl
theorem noS_go {l : List ObjD} {i : Nat} {rs : List RelD} {t : ByteArray} {j : Nat} (h : j < rs.length) : noS l i rs t (j + 1) = if (findP l i rs[j].2.2.1).isSome = true then noS l i rs t j else lessR (noS l i rs t j) rs[j].2.2.1 := by
  unfold noS
  rw [List.take_succ_eq_append_getElem h, List.foldl_append]
  rfl
def rchkF (l : List ObjD) : ByteArray × Int :=
  if mayLs l = false then (⟨#[]⟩, 1) else
  if (twL l l.length).data.toList.isEmpty = false then (twL l l.length, 6) else
  if (noL l l.length).data.toList.isEmpty = false then (noL l l.length, 7) else (⟨#[]⟩, 0)
theorem may_sumEn {l : List ObjD} (h : mayLs l = true) : sumEn l l.length ≤ 1024 := by
  unfold mayLs at h
  simp only [Bool.and_eq_true, decide_eq_true_eq] at h
  have hm : ∀ d ∈ l, d.ents.length ≤ 64 := fun d hd => by
    have h1 := List.all_eq_true.1 h.2 d hd
    rw [mayO_eq] at h1
    simp only [Bool.and_eq_true] at h1
    exact (few_of h1.1.1).2.2.2.2
  have h1 := sum_le (f := fun d => d.ents.length) (m := 64) hm
  unfold sumEn
  rw [List.take_length]
  omega
theorem defV_form7 (r : Option (Int × Int)) : ∃ a j, defV r = .agg #[.int .i64 a, .int .i64 j] := by
  rcases r with _ | ⟨o, j⟩
  · exact ⟨0, 0, rfl⟩
  · exact ⟨o, j, rfl⟩
set_option maxHeartbeats 8000000 in
theorem rcheck7_any (l : List ObjD) (hW : ∀ d ∈ l, ObjW d) (A : Option Addr) (n c lo hi : Nat) (hn : l.length = n) (hmx : n ≤ maxLen) (w : World) (hA : ObjsAt w lo hi l A) (hh : hi ≤ w.heap.size) :
    Calls Tryz.prog 22 #[.slice A n c] w fun e w' => e = .returned (.tuple #[.string (rchkF l).1, .int .i64 (rchkF l).2]) ∧ Below w.heap.size w w' := by
  have HN := Lib.hid hn
  have HA := Lib.hid hA
  have HH := Lib.hid hh
  have HMa := Lib.hid (rmay7_any l hW A n c lo hi hn hmx w hA hh)
  clear hW hn hA hh
  go_enter Tryz.func22, Tryz.ntmps22
  go_wp2_with fail
  refine HMa.out.mono ?_
  rintro e w1 ⟨rfl, hb1⟩
  have HB1 := Lib.hid hb1
  clear hb1 HMa
  cases hm : mayLs l
  case false =>
    have HR := Lib.hid (show rchkF l = (⟨#[]⟩, 1) from by unfold rchkF; rw [if_pos hm])
    clear hm
    go_wp2
    go_ret2
    exact ⟨by rw [HR.out]; rfl, HB1.out⟩
  have HMay := Lib.hid hm
  obtain ⟨h16, hsS, hsR⟩ := may_sums hm
  have HS := Lib.hid hsS
  have HSr := Lib.hid hsR
  have HSe := Lib.hid (may_sumEn hm)
  have hn16 : n ≤ 16 := by rw [← HN.out]; exact h16
  clear hm h16 hsS hsR hmx
  go_wp2
  go_loopw [4, 5, 6] (fun x y i wr => ∃ (k : Nat) (tw no : ByteArray), k ≤ n ∧ i = .int .i64 k ∧ x = .string tw ∧ y = .string no ∧ Hid (Below w.heap.size w wr) ∧ Hid (tw = twL l k ∧ no = noL l k)) (fun _ _ i _ => n - (intOf i).toNat)
  case atStart => exact ⟨0, _, _, by omega, rfl, rfl, rfl, HB1, Lib.hid ⟨rfl, rfl⟩⟩
  case round =>
    clear HB1
    obtain ⟨k, tw, no, hk, rfl, rfl, rfl, HB, HC⟩ := hrel
    by_cases hlt : k < n
    · have k0 : (0 : Int) ≤ k := by omega
      have k1 : (k : Int) < n := by omega
      have HLk := Lib.hid (show k < l.length by rw [HN.out]; exact hlt)
      obtain ⟨bq, oq, B1, p1, e1, B2, p2, e2, B3, p3, e3, B4, p4, e4, B5, p5, e5, rfl, hbq, ⟨-, -, x2, x3, -⟩, -, hp3, hp4, -⟩ := HA.out.at_ HLk.out
      have hbw : bq < w.heap.size := by have := HH.out; omega
      have hp3b : p3 ≤ 4096 := by have h1 := sumS_go HLk.out; have h2 := sumS_le l (k + 1); have h3 := HS.out; omega
      have hp4b : p4 ≤ 16384 := by have h1 := sumR_go HLk.out; have h2 := sumR_le l (k + 1); have h3 := HSr.out; omega
      have HP3 := Lib.hid hp3
      have HP4 := Lib.hid hp4
      have HX2 := Lib.hid x2
      have HX3 := Lib.hid x3
      clear x2 x3 hp3 hp4
      go_wp2
      go_loopw [7, 4] (fun i x wr => ∃ (j : Nat) (t : ByteArray), j ≤ p3 ∧ i = .int .i64 j ∧ x = .string t ∧ Hid (Below w.heap.size w wr) ∧ Hid (t = twS l (l[k]'HLk.out).syms (twL l k) j)) (fun i _ _ => p3 - (intOf i).toNat)
      case atStart => exact ⟨0, tw, by omega, rfl, rfl, HB, Lib.hid (by rw [HC.out.1]; rfl)⟩
      case round =>
        clear HB
        obtain ⟨j, t, hj, rfl, rfl, HB, HT⟩ := hrel
        have x2 := (HB.out.cell (p := ⟨bq, oq + k * 5 + 2, none⟩) hbw).trans HX2.out
        by_cases hlj : j < p3
        · have j0 : (0 : Int) ≤ j := by omega
          have j1 : (j : Int) < p3 := by omega
          have HLj := Lib.hid (show j < (l[k]'HLk.out).syms.length by rw [HP3.out]; exact hlj)
          obtain ⟨b', o', n3', c3', b3, o3, eq, z, -, s0, -, -, -⟩ := HA.out.symAt HLk.out HLj.out
          cases eq
          have hz := HX2.out.symm.trans z
          simp only [Option.some.injEq, Value.slice.injEq] at hz
          obtain ⟨rfl, rfl, rfl⟩ := hz
          have HGo := Lib.hid (twS_go (l := l) (t := twL l k) HLj.out)
          generalize ((l[k]'HLk.out).syms[j]'HLj.out).1 = sy at *
          have HS0 := Lib.hid s0
          replace s0 := (HB.out.cell (p := ⟨b3, o3 + j * 4, none⟩) (block_lt s0)).trans s0
          clear z
          go_wp2_with fail
          refine (routs_any l _ n c lo hi HN.out (by omega) (by have := HS.out; omega) (by have := HSe.out; omega) sy wr (HA.out.below HH.out HB.out) (Nat.le_trans HH.out HB.out.size)).mono ?_
          rintro e w2 ⟨rfl, hb2⟩
          have HB2 := Lib.hid (HB.out.trans (hb2.mono HB.out.size))
          have x2' := (hb2.cell (p := ⟨bq, oq + k * 5 + 2, none⟩) (by have := HB.out.size; show bq < _; omega)).trans x2
          have s0' := (hb2.cell (p := ⟨b3, o3 + j * 4, none⟩) (block_lt s0)).trans s0
          have HBd := Lib.hid (show badS l sy = (decide (1 < outC l sy n) || decide (1 < entC7 l sy n)) from by unfold badS; rw [HN.out])
          generalize outC l sy n = oc at *
          generalize entC7 l sy n = ec at *
          clear hb2 x2 s0 HB
          by_cases ho : 1 < oc
          · have g1 : (oc : Int) > 1 := by omega
            have g2 : decide (1 < oc) = true := by simpa using ho
            have gg : (decide (1 < oc) || decide (1 < ec)) = true := by rw [g2]; rfl
            have HT2 := Lib.hid (show lessR t sy = twS l (l[k]'HLk.out).syms (twL l k) (j + 1) from by rw [HGo.out, HBd.out, gg, ← HT.out]; simp)
            go_wp2_with fail
            refine (least7_any t sy w2).mono ?_
            rintro e w3 ⟨rfl, rfl⟩
            go_wp2
            go_roundw
            case rel => exact ⟨j + 1, _, by omega, by go_num, rfl, HB2, HT2⟩
            case measure => simp [intOf]; omega
          · have g1 : ¬ (oc : Int) > 1 := by omega
            have g2 : decide (1 < oc) = false := by simpa using ho
            by_cases he : 1 < ec
            · have g3 : (ec : Int) > 1 := by omega
              have g4 : decide (1 < ec) = true := by simpa using he
              have gg : (decide (1 < oc) || decide (1 < ec)) = true := by rw [g4]; simp
              have HT2 := Lib.hid (show lessR t sy = twS l (l[k]'HLk.out).syms (twL l k) (j + 1) from by rw [HGo.out, HBd.out, gg, ← HT.out]; simp)
              go_wp2_with fail
              refine (least7_any t sy w2).mono ?_
              rintro e w3 ⟨rfl, rfl⟩
              go_wp2
              go_roundw
              case rel => exact ⟨j + 1, _, by omega, by go_num, rfl, HB2, HT2⟩
              case measure => simp [intOf]; omega
            · have g3 : ¬ (ec : Int) > 1 := by omega
              have g4 : decide (1 < ec) = false := by simpa using he
              have HT2 := Lib.hid (show t = twS l (l[k]'HLk.out).syms (twL l k) (j + 1) from by rw [HGo.out, HBd.out, g2, g4, ← HT.out]; simp)
              go_wp2
              go_roundw
              case rel => exact ⟨j + 1, _, by omega, by go_num, rfl, HB2, HT2⟩
              case measure => simp [intOf]; omega
        · have hjp : j = p3 := by omega
          have j1 : ¬ (j : Int) < p3 := by omega
          have HT2 := Lib.hid (show t = twL l (k + 1) from by
            rw [HT.out]
            show _ = twS l (nAt l k).syms (twL l k) (nAt l k).syms.length
            rw [nAt_get HLk.out, HP3.out, hjp])
          clear hjp hlj HT
          go_wp2
          go_loopw [10, 5] (fun i x wr => ∃ (j : Nat) (t : ByteArray), j ≤ p4 ∧ i = .int .i64 j ∧ x = .string t ∧ Hid (Below w.heap.size w wr) ∧ Hid (t = noS l k (l[k]'HLk.out).rels (noL l k) j)) (fun i _ _ => p4 - (intOf i).toNat)
          case atStart => exact ⟨0, no, by omega, rfl, rfl, HB, Lib.hid (by rw [HC.out.2]; rfl)⟩
          case round =>
            clear HB
            obtain ⟨j, t', hj, rfl, rfl, HB, HT⟩ := hrel
            have x3 := (HB.out.cell (p := ⟨bq, oq + k * 5 + 3, none⟩) hbw).trans HX3.out
            by_cases hlj : j < p4
            · have j0 : (0 : Int) ≤ j := by omega
              have j1 : (j : Int) < p4 := by omega
              have HLj := Lib.hid (show j < (l[k]'HLk.out).rels.length by rw [HP4.out]; exact hlj)
              obtain ⟨b', o', n4', c4', b4, o4, eq, z, -, -, -, s2, -⟩ := HA.out.relAt HLk.out HLj.out
              cases eq
              have hz := HX3.out.symm.trans z
              simp only [Option.some.injEq, Value.slice.injEq] at hz
              obtain ⟨rfl, rfl, rfl⟩ := hz
              have HGo := Lib.hid (noS_go (l := l) (i := k) (t := noL l k) HLj.out)
              generalize ((l[k]'HLk.out).rels[j]'HLj.out).2.2.1 = sy at *
              replace s2 := (HB.out.cell (p := ⟨b4, o4 + j * 4 + 2, none⟩) (block_lt s2)).trans s2
              clear z
              go_wp2_with fail
              refine (rfind7_any l _ n c lo hi HN.out (by omega) (by have := HS.out; omega) k (by have := HLk.out; have := HN.out; omega) sy wr (HA.out.below HH.out HB.out) (Nat.le_trans HH.out HB.out.size)).mono ?_
              rintro e w2 ⟨rfl, hb2⟩
              obtain ⟨da, dj, hd⟩ := defV_form7 (findP l k sy)
              rw [hd]
              have hb3 := hb2.trans (((Below.refl w2.heap.size w2).alloc (Nat.le_refl _) (.cells #[.int .i64 da, .int .i64 dj] 27)).mono hb2.size)
              have HB2 := Lib.hid (HB.out.trans (hb3.mono HB.out.size))
              have x3' := (hb3.cell (p := ⟨bq, oq + k * 5 + 3, none⟩) (by have := HB.out.size; show bq < _; omega)).trans x3
              have s2' := (hb3.cell (p := ⟨b4, o4 + j * 4 + 2, none⟩) (block_lt s2)).trans s2
              clear hb2 hb3 x3 s2 HB
              cases hf : (findP l k sy).isSome
              case true =>
                have HT2' := Lib.hid (show t' = noS l k (l[k]'HLk.out).rels (noL l k) (j + 1) from by rw [HGo.out, hf, ← HT.out]; simp)
                clear hf hd
                go_wp2
                go_roundw
                case rel => exact ⟨j + 1, _, by omega, by go_num, rfl, HB2, HT2'⟩
                case measure => simp [intOf]; omega
              case false =>
                have HT2' := Lib.hid (show lessR t' sy = noS l k (l[k]'HLk.out).rels (noL l k) (j + 1) from by rw [HGo.out, hf, ← HT.out]; simp)
                clear hf hd
                go_wp2_with fail
                refine (least7_any t' sy _).mono ?_
                rintro e w3 ⟨rfl, rfl⟩
                go_wp2
                go_roundw
                case rel => exact ⟨j + 1, _, by omega, by go_num, rfl, HB2, HT2'⟩
                case measure => simp [intOf]; omega
            · have hjp : j = p4 := by omega
              have j1 : ¬ (j : Int) < p4 := by omega
              have HC3 := Lib.hid (show t = twL l (k + 1) ∧ t' = noL l (k + 1) from ⟨HT2.out, by
                rw [HT.out]
                show _ = noS l k (nAt l k).rels (noL l k) (nAt l k).rels.length
                rw [nAt_get HLk.out, HP4.out, hjp]⟩)
              clear hjp hlj HT
              go_wp2
              go_roundw
              case rel => exact ⟨k + 1, _, _, by omega, by go_num, rfl, rfl, HB, HC3⟩
              case measure => simp [intOf]; omega
    · have hkn : k = n := by omega
      have k1 : ¬ (k : Int) < n := by omega
      have htw : tw = twL l l.length := by rw [HC.out.1, hkn, HN.out]
      have hno : no = noL l l.length := by rw [HC.out.2, hkn, HN.out]
      have hl1 : tw.toList.isEmpty = tw.data.toList.isEmpty := by rw [Lib.toList_data]
      have hl2 : no.toList.isEmpty = no.data.toList.isEmpty := by rw [Lib.toList_data]
      cases h1 : tw.data.toList.isEmpty
      case false =>
        have HR := Lib.hid (show rchkF l = (tw, 6) from by unfold rchkF; rw [if_neg (by rw [HMay.out]; simp), if_pos (by rw [← htw]; exact h1), ← htw])
        rw [h1] at hl1
        clear hkn hlt htw hno h1 hl2
        go_wp2
        go_ret2
        exact ⟨by rw [HR.out]; rfl, HB.out⟩
      case true =>
        rw [h1] at hl1
        cases h2 : no.data.toList.isEmpty
        case false =>
          have HR := Lib.hid (show rchkF l = (no, 7) from by unfold rchkF; rw [if_neg (by rw [HMay.out]; simp), if_neg (by rw [← htw, h1]; simp), if_pos (by rw [← hno]; exact h2), ← hno])
          rw [h2] at hl2
          clear hkn hlt htw hno h1 h2
          go_wp2
          go_ret2
          exact ⟨by rw [HR.out]; rfl, HB.out⟩
        case true =>
          have HR := Lib.hid (show rchkF l = (⟨#[]⟩, 0) from by unfold rchkF; rw [if_neg (by rw [HMay.out]; simp), if_neg (by rw [← htw, h1]; simp), if_neg (by rw [← hno, h2]; simp)])
          rw [h2] at hl2
          clear hkn hlt htw hno h1 h2
          go_wp2
          go_ret2
          exact ⟨by rw [HR.out]; rfl, HB.out⟩
end Go.Proofs.YtjngkifoaljmaaaGreatDoor
namespace Go.Proofs.YtjngkifoaljmaaaGreatDoor
set_option maxRecDepth 100000
open Go.RowKit
set_option linter.unusedVariables false
/-- a row of another type stays, where a row of the call's own grows -/
theorem rowO_other {w w' : World} {B1 B2 s1 s2 n m : Nat} {t1 t2 : TypeId} {v u : Value} {xs ys : List Value} (h : w.ownsRow B1 t1 s1 v n xs) (h2 : w.ownsRow B2 t2 s2 u m ys) (ht : t1 ≠ t2) (hg : w.grownBy w' u.ownBlock) : w'.ownsRow B1 t1 s1 v n xs :=
  rowO_kept h hg fun g e1 e2 => by
    obtain ⟨_, _, c1, a1⟩ := ownO_lt h e1
    obtain ⟨_, _, c2, a2⟩ := ownO_lt h2 e2.symm
    rw [a1] at a2
    injection a2 with a2
    injection a2 with _ a3 _
    exact ht a3
/-- .. and where a cell of a block of another type is written -/
theorem rowO_box {w : World} {B1 s1 n b j : Nat} {t1 t2 : TypeId} {v u : Value} {xs : List Value} {cs : Array Value} (h : w.ownsRow B1 t1 s1 v n xs) (h2 : w.heap[b]? = some (.cells cs t2 (0, 0))) (ht : t1 ≠ t2) : (w.setCell ⟨b, j, none⟩ u).ownsRow B1 t1 s1 v n xs :=
  rowO_kept h (grown_setO w b j u) fun g e1 e2 => by
    obtain ⟨_, _, c1, a1⟩ := ownO_lt h e1
    cases e2
    rw [a1] at h2
    injection h2 with a2
    injection a2 with _ a3 _
    exact ht a3
/-- names, and an object's box whose text and relocations are rows of the call's own -/
structure Ob (w0 : World) (n0 : Nat) (T : List Int) (R : List RelD) (vt vr : Value) (w : World) : Prop where
  nm : w.heap[n0]? = some (.cells #[.string ⟨#[97]⟩, .string ⟨#[98]⟩, .string ⟨#[99]⟩, .string ⟨#[100]⟩, .string ⟨#[101]⟩, .string ⟨#[102]⟩, .string ⟨#[103]⟩, .string ⟨#[104]⟩, .string ⟨#[105]⟩, .string ⟨#[106]⟩] 9 (0, 0))
  fo : w.heap[n0 + 1]? = some (.cells #[vt, .slice none 0 0, .slice none 0 0, vr, .slice none 0 0] 59 (0, 0))
  ft : w.ownsRow (n0 + 2) 45 1 vt T.length (T.flatMap encU32)
  fr : w.ownsRow (n0 + 2) 55 4 vr R.length (R.flatMap encRel)
  b : Below w0.heap.size w0 w
  nb : w0.heap.size ≤ n0
  z : n0 + 2 ≤ w.heap.size
section
variable {w0 w w' : World} {n0 : Nat} {T : List Int} {R : List RelD} {vt vr v' : Value}
theorem Ob.below (h : Ob w0 n0 T R vt vr w) (hb : Below w.heap.size w w') : Ob w0 n0 T R vt vr w' :=
  ⟨(hb.block _ (Array.getElem?_eq_some_iff.1 h.nm).1).trans h.nm, (hb.block _ (Array.getElem?_eq_some_iff.1 h.fo).1).trans h.fo, rowO_below h.ft hb, rowO_below h.fr hb, h.b.trans (hb.mono h.b.size), h.nb, Nat.le_trans h.z hb.size⟩
theorem Ob.cell (h : Ob w0 n0 T R vt vr w) {c : Nat} (hc : c < 10) : w.cell? ⟨n0, c, none⟩ = some (.string (nmK c)) := by
  have := cell_of_row w n0 c _ _ _ h.nm
  rw [this]
  rcases (by omega : c = 0 ∨ c = 1 ∨ c = 2 ∨ c = 3 ∨ c = 4 ∨ c = 5 ∨ c = 6 ∨ c = 7 ∨ c = 8 ∨ c = 9) with rfl | rfl | rfl | rfl | rfl | rfl | rfl | rfl | rfl | rfl <;> rfl
theorem Ob.rest (h : Ob w0 n0 T R vt vr w) {row : Option Nat} {j : Nat} {u : Value} (hg : w.grownBy w' row) (hr : ∀ g, row = some g → n0 + 2 ≤ g) : (w'.setCell ⟨n0 + 1, j, none⟩ u).heap[n0]? = w.heap[n0]? ∧ w'.heap[n0 + 1]? = w.heap[n0 + 1]? ∧ Below w0.heap.size w0 (w'.setCell ⟨n0 + 1, j, none⟩ u) ∧ n0 + 2 ≤ (w'.setCell ⟨n0 + 1, j, none⟩ u).heap.size := by
  have h1 := h.b.grown hg h.b.size (fun g e => by have := hr g e; have := h.nb; omega)
  refine ⟨(heap_setCell_other w' _ n0 u (by show n0 ≠ n0 + 1; omega)).trans (hg.block _ (Array.getElem?_eq_some_iff.1 h.nm).1 (fun e => by have := hr _ e.symm; omega)), hg.block _ (Array.getElem?_eq_some_iff.1 h.fo).1 (fun e => by have := hr _ e.symm; omega), h1.grown (grown_setO w' (n0 + 1) j u) h1.size (fun g e => by cases e; have := h.nb; omega), ?_⟩
  rw [size_set7]
  exact Nat.le_trans h.z hg.size
theorem Ob.putR {r : RelD} (h : Ob w0 n0 T R vt vr w) (hr : w'.ownsRow (n0 + 2) 55 4 v' (R.length + 1) (R.flatMap encRel ++ encRel r)) (hg : w.grownBy w' vr.ownBlock) : Ob w0 n0 T (R ++ [r]) vt v' (w'.setCell ⟨n0 + 1, 3, none⟩ v') := by
  obtain ⟨h1, h2, h3, h4⟩ := h.rest (j := 3) (u := v') hg (own_ge h.fr)
  refine ⟨h1.trans h.nm, heap_setCell_same w' _ 3 _ _ _ (h2.trans h.fo), own_set7 (rowO_other h.ft h.fr (by decide) hg) (by omega), ?_, h3, h.nb, h4⟩
  rw [List.length_append, List.flatMap_append, List.flatMap_cons, List.flatMap_nil, List.append_nil]
  exact own_set7 hr (by omega)
theorem Ob.putT {x : Int} (h : Ob w0 n0 T R vt vr w) (hr : w'.ownsRow (n0 + 2) 45 1 v' (T.length + 1) (T.flatMap encU32 ++ encU32 x)) (hg : w.grownBy w' vt.ownBlock) : Ob w0 n0 (T ++ [x]) R v' vr (w'.setCell ⟨n0 + 1, 0, none⟩ v') := by
  obtain ⟨h1, h2, h3, h4⟩ := h.rest (j := 0) (u := v') hg (own_ge h.ft)
  refine ⟨h1.trans h.nm, heap_setCell_same w' _ 0 _ _ _ (h2.trans h.fo), ?_, own_set7 (rowO_other h.fr h.ft (by decide) hg) (by omega), h3, h.nb, h4⟩
  rw [List.length_append, List.flatMap_append, List.flatMap_cons, List.flatMap_nil, List.append_nil]
  exact own_set7 hr (by omega)
theorem Ob.box (h : Ob w0 n0 T R vt vr w) {row : Option Nat} (hg : w.grownBy w' row) (hr : ∀ g, row = some g → n0 + 2 ≤ g) : w'.heap[n0 + 1]? = some (.cells #[vt, .slice none 0 0, .slice none 0 0, vr, .slice none 0 0] 59 (0, 0)) :=
  (hg.block _ (Array.getElem?_eq_some_iff.1 h.fo).1 (fun e => by have := hr _ e.symm; omega)).trans h.fo
theorem Ob.at (h : Ob w0 n0 T R vt vr w) : ObjAt w 0 w.heap.size ⟨T, [], [], R, []⟩ (.agg #[vt, .slice none 0 0, .slice none 0 0, vr, .slice none 0 0]) := by
  obtain ⟨A, c, rfl⟩ := ownO_slice h.ft
  obtain ⟨A', c', rfl⟩ := ownO_slice h.fr
  exact ⟨A, c, none, 0, none, 0, A', c', none, 0, [], rfl, (RowC.of_own h.ft).move (Nat.zero_le _) (Nat.le_refl _) (fun _ _ _ => rfl), .inl rfl, .inl rfl, (RowC.of_own h.fr).move (Nat.zero_le _) (Nat.le_refl _) (fun _ _ _ => rfl), .inl rfl, rfl⟩
end
/-- .. and another one's, whose Syms are such a row -/
structure Pb (w0 : World) (n0 : Nat) (T : List Int) (R : List RelD) (vt vr : Value) (t b : Nat) (S : List SymD) (vs : Value) (w : World) : Prop where
  o : Ob w0 n0 T R vt vr w
  f1 : w.heap[t]? = some (.cells #[.int .u32 1048691] 45 (0, 0))
  f2 : w.heap[b]? = some (.cells #[.slice (some ⟨t, 0, none⟩) 1 1, .slice none 0 0, vs, .slice none 0 0, .slice none 0 0] 59 (0, 0))
  fs : w.ownsRow (b + 1) 52 4 vs S.length (S.flatMap encSym)
  tb : t < b
  nt : n0 + 2 ≤ t
section
variable {w0 w w' : World} {n0 t b : Nat} {T : List Int} {R : List RelD} {S : List SymD} {vt vr vs v' : Value}
theorem Pb.below (h : Pb w0 n0 T R vt vr t b S vs w) (hb : Below w.heap.size w w') : Pb w0 n0 T R vt vr t b S vs w' :=
  ⟨h.o.below hb, (hb.block _ (Array.getElem?_eq_some_iff.1 h.f1).1).trans h.f1, (hb.block _ (Array.getElem?_eq_some_iff.1 h.f2).1).trans h.f2, rowO_below h.fs hb, h.tb, h.nt⟩
theorem Pb.put {s : SymD} (h : Pb w0 n0 T R vt vr t b S vs w) (hr : w'.ownsRow (b + 1) 52 4 v' (S.length + 1) (S.flatMap encSym ++ encSym s)) (hg : w.grownBy w' vs.ownBlock) : Pb w0 n0 T R vt vr t b (S ++ [s]) v' (w'.setCell ⟨b, 2, none⟩ v') := by
  have hge := own_ge h.fs
  have htb := h.tb
  have hnt := h.nt
  have k2 := (hg.block _ (Array.getElem?_eq_some_iff.1 h.f2).1 (fun e => by have := hge _ e.symm; omega)).trans h.f2
  have k1 := (hg.block _ (Array.getElem?_eq_some_iff.1 h.f1).1 (fun e => by have := hge _ e.symm; omega)).trans h.f1
  have h1 := h.o.b.grown hg h.o.b.size (fun g e => by have := hge g e; have := h.o.nb; omega)
  refine ⟨⟨?_, ?_, ?_, ?_, h1.grown (grown_setO w' b 2 v') h1.size (fun g e => by cases e; have := h.o.nb; omega), h.o.nb, ?_⟩, ?_, heap_setCell_same w' _ 2 _ _ _ k2, ?_, htb, hnt⟩
  · exact (heap_setCell_other w' _ n0 v' (by show n0 ≠ b; omega)).trans ((hg.block _ (Array.getElem?_eq_some_iff.1 h.o.nm).1 (fun e => by have := hge _ e.symm; omega)).trans h.o.nm)
  · exact (heap_setCell_other w' _ (n0 + 1) v' (by show n0 + 1 ≠ b; omega)).trans ((hg.block _ (Array.getElem?_eq_some_iff.1 h.o.fo).1 (fun e => by have := hge _ e.symm; omega)).trans h.o.fo)
  · exact rowO_box (rowO_other h.o.ft h.fs (by decide) hg) k2 (by decide)
  · exact rowO_box (rowO_other h.o.fr h.fs (by decide) hg) k2 (by decide)
  · rw [size_set7]; exact Nat.le_trans h.o.z hg.size
  · exact (heap_setCell_other w' _ t v' (by show t ≠ b; omega)).trans k1
  · rw [List.length_append, List.flatMap_append, List.flatMap_cons, List.flatMap_nil, List.append_nil]
    exact own_set7 hr (by omega)
theorem Pb.box (h : Pb w0 n0 T R vt vr t b S vs w) (hg : w.grownBy w' vs.ownBlock) : w'.heap[b]? = some (.cells #[.slice (some ⟨t, 0, none⟩) 1 1, .slice none 0 0, vs, .slice none 0 0, .slice none 0 0] 59 (0, 0)) :=
  (hg.block _ (Array.getElem?_eq_some_iff.1 h.f2).1 (fun e => by have := own_ge h.fs _ e.symm; omega)).trans h.f2
theorem Pb.at (h : Pb w0 n0 T R vt vr t b S vs w) : ObjAt w 0 w.heap.size ⟨[1048691], [], S, [], []⟩ (.agg #[.slice (some ⟨t, 0, none⟩) 1 1, .slice none 0 0, vs, .slice none 0 0, .slice none 0 0]) := by
  obtain ⟨A, c, rfl⟩ := ownO_slice h.fs
  exact ⟨_, 1, none, 0, A, c, none, 0, none, 0, [], rfl, rowC_one h.f1 (Array.getElem?_eq_some_iff.1 h.f1).1, .inl rfl, (RowC.of_own h.fs).move (Nat.zero_le _) (Nat.le_refl _) (fun _ _ _ => rfl), .inl rfl, .inl rfl, rfl⟩
end
theorem one_rel7 (r : RelD) : ∀ u ∈ encRel r, u.oneCell' = true := fun u hu => by
  unfold encRel at hu
  simp only [List.mem_cons, List.not_mem_nil, or_false] at hu
  rcases hu with rfl | rfl | rfl | rfl <;> rfl
theorem one_u32v (x : Int) : ∀ u ∈ encU32 x, u.oneCell' = true := fun u hu => by
  unfold encU32 at hu
  simp only [List.mem_cons, List.not_mem_nil, or_false] at hu
  rcases hu with rfl; rfl
/-- k relocations, from the last name down to name c; k words; m Syms -/
def rlL (k c : Nat) : List RelD := (List.range (k - c)).map fun (j : Nat) => (4 * (j : Int), 2, nmK (k - 1 - j), 0)
def txL (k c : Nat) : List Int := List.replicate (k - c) 111
def smL (m : Nat) : List SymD := (List.range m).map fun i => (nmK i, false, 0, true)
theorem rlL_go {k c : Nat} (h : c < k) : rlL k c = rlL k (c + 1) ++ [(4 * ((k - (c + 1) : Nat) : Int), 2, nmK c, 0)] := by
  unfold rlL
  rw [show k - c = k - (c + 1) + 1 by omega, List.range_succ, List.map_append, List.map_singleton, show k - 1 - (k - (c + 1)) = c by omega]
theorem txL_go {k c : Nat} (h : c < k) : txL k c = txL k (c + 1) ++ [111] := by
  unfold txL
  rw [show k - c = k - (c + 1) + 1 by omega, List.replicate_succ']
theorem smL_go (m : Nat) : smL (m + 1) = smL m ++ [(nmK m, false, 0, true)] := by
  unfold smL
  rw [List.range_succ, List.map_append, List.map_singleton]
theorem rlL_len (k c : Nat) : (rlL k c).length = k - c := by simp [rlL]
theorem txL_len (k c : Nat) : (txL k c).length = k - c := by simp [txL]
theorem smL_len (m : Nat) : (smL m).length = m := by simp [smL]
def pD7 (m : Nat) : ObjD := ⟨[1048691], [], smL m, [], []⟩
def oD7 (k : Nat) : ObjD := ⟨txL k 0, [], [], rlL k 0, []⟩
theorem nmK_size (c : Nat) : (nmK c).size ≤ maxLen := show 1 ≤ maxLen from by unfold maxLen; omega
theorem pD7_w (m : Nat) : ObjW (pD7 m) where
  text := fun x hx => by simp only [pD7, List.mem_singleton] at hx; subst hx; unfold IsW; omega
  data := by simp [pD7]
  syms := fun x hx => by
    simp only [pD7, smL, List.mem_map] at hx
    obtain ⟨i, _, rfl⟩ := hx
    exact ⟨nmK_size i, by unfold IsI; simp⟩
  rels := by simp [pD7]
  ents := by simp [pD7]
theorem oD7_w {k : Nat} (hk : k ≤ 1000) : ObjW (oD7 k) where
  text := fun x hx => by simp only [oD7, txL, List.mem_replicate] at hx; rw [hx.2]; unfold IsW; omega
  data := by simp [oD7]
  syms := by simp [oD7]
  rels := fun x hx => by
    simp only [oD7, rlL, List.mem_map, List.mem_range] at hx
    obtain ⟨i, hi, rfl⟩ := hx
    refine ⟨?_, by unfold IsI; simp, nmK_size _, by unfold IsI; simp⟩
    show -9223372036854775808 ≤ 4 * (i : Int) ∧ 4 * (i : Int) ≤ 9223372036854775807
    omega
  ents := by simp [oD7]
theorem po_w {m k : Nat} (hk : k ≤ 1000) : ∀ d ∈ [pD7 m, oD7 k], ObjW d := fun d hd => by
  simp only [List.mem_cons, List.not_mem_nil, or_false] at hd
  rcases hd with rfl | rfl
  · exact pD7_w _
  · exact oD7_w hk
theorem chk_po : ∀ k, k < 11 → ∀ m, m < 11 → (1 ≤ k ∧ m ≤ k) → chkF [pD7 m, oD7 k] = if m = k then (⟨#[]⟩, 0) else (nmK m, 7) := by decide +kernel
theorem rchk_po : ∀ k, k < 11 → ∀ m, m < 11 → (1 ≤ k ∧ m ≤ k) → rchkF [pD7 m, oD7 k] = if m = k then (⟨#[]⟩, 0) else (nmK m, 7) := by decide +kernel
end Go.Proofs.YtjngkifoaljmaaaGreatDoor
