/- Layer 6: the reference's entries: each may be. No condition.
   Layer 6: the reference's May. No condition. -/
import Derived.Test.YtjngkifoaljmaaaGreatDoorObjJ
namespace Go.Proofs.YtjngkifoaljmaaaGreatDoor
set_option maxRecDepth 100000
open Go.RowKit
set_option linter.unusedVariables false
/-- is one of the first k Syms such as an entry s leads to? -/
def fndB (d : ObjD) (s : ByteArray) (k : Nat) : Bool := (d.syms.take k).any fun t => decide (t.1 = s) && !t.2.1 && t.2.2.2
theorem fnd_zero (d : ObjD) (s : ByteArray) : fndB d s 0 = false := rfl
theorem fnd_all {d : ObjD} {s : ByteArray} {n : Nat} (h : d.syms.length = n) : fndB d s n = (d.syms.any fun t => decide (t.1 = s) && !t.2.1 && t.2.2.2) := by
  unfold fndB; rw [List.take_of_length_le (by omega)]
theorem fnd_go {d : ObjD} {s : ByteArray} {k : Nat} (h : k < d.syms.length) : fndB d s (k + 1) = (fndB d s k || (decide ((symAt d k).1 = s) && !(symAt d k).2.1 && (symAt d k).2.2.2)) := by
  have e : d.syms[k] = symAt d k := by unfold symAt; rw [List.getD_eq_getElem?_getD, List.getElem?_eq_getElem h]; rfl
  unfold fndB
  rw [List.take_succ_eq_append_getElem h, List.any_append, e]
  simp
/-- what is asked of an entry beside its name's being new -/
def entR (d : ObjD) (i : Nat) : Bool := (d.syms.any fun t => decide (t.1 = (entAt d i).1) && !t.2.1 && t.2.2.2) && parB (entAt d i).2
theorem entOk_split (d : ObjD) (i : Nat) : entOkB d i = (entR d i && (List.range i).all fun j => !decide ((entAt d j).1 = (entAt d i).1)) := by
  unfold entOkB entR
  generalize ((List.range i).all fun j => !decide ((entAt d j).1 = (entAt d i).1)) = a
  generalize parB (entAt d i).2 = b
  generalize (d.syms.any fun t => decide (t.1 = (entAt d i).1) && !t.2.1 && t.2.2.2) = c
  cases a <;> cases b <;> cases c <;> rfl
theorem entR_of {d : ObjD} {i n : Nat} {s : ByteArray} {zs : List Int} (h : entAt d i = (s, zs)) (hn : d.syms.length = n) : entR d i = (fndB d s n && parB zs) := by
  unfold entR; rw [h, fnd_all hn]
theorem ents_no {d : ObjD} {i : Nat} (hi : i < d.ents.length) (h : entR d i = false) : entsB d = false := range_all_no hi (by rw [entOk_split, h]; rfl)
theorem ents_twice {d : ObjD} {i j : Nat} (hi : i < d.ents.length) (hj : j < i) (h : (entAt d j).1 = (entAt d i).1) : entsB d = false := range_all_no hi (by rw [entOk_split, range_all_no hj (by simp [h])]; simp)
theorem ent_yes {d : ObjD} {i : Nat} (h : entR d i = true) (hn : ∀ j, j < i → (entAt d j).1 ≠ (entAt d i).1) : entOkB d i = true := by
  rw [entOk_split, h, range_all_yes (fun j hj => by simp [hn j hj])]; rfl
theorem RowC.raw {w : World} {lo hi : Nat} {A : Option Addr} {cs : List Value} (h : RowC w lo hi A cs) (h0 : 0 < cs.length) : ∃ b o, A = some ⟨b, o, none⟩ ∧ lo ≤ b ∧ b < hi ∧ ∀ j v, cs[j]? = some v → w.cell? ⟨b, o + j, none⟩ = some v := by
  rcases h with h | h
  · subst h; exact absurd h0 (by simp)
  · exact h
set_option maxHeartbeats 8000000 in
theorem rentries_any (d : ObjD) (hW : ObjW d) (v : Value) (lo hi : Nat) (w : World) (hO : ObjAt w lo hi d v) (hh : hi ≤ w.heap.size) (hs : d.syms.length ≤ 256) (hd : d.ents.length ≤ 64) :
    Calls Tryz.prog 81 #[v] w fun e w' => e = .returned (.bool (entsB d)) ∧ Below w.heap.size w w' := by
  obtain ⟨A1, c1, A2, c2, A3, c3, A4, c4, A5, c5, es, rfl, p1, p2, p3, p4, p5, p6⟩ := hO
  obtain ⟨n1, f1⟩ : ∃ n, d.text.length = n := ⟨_, rfl⟩
  obtain ⟨n2, f2⟩ : ∃ n, d.data.length = n := ⟨_, rfl⟩
  obtain ⟨n3, f3⟩ : ∃ n, d.syms.length = n := ⟨_, rfl⟩
  obtain ⟨n4, f4⟩ : ∃ n, d.rels.length = n := ⟨_, rfl⟩
  obtain ⟨n5, f5⟩ : ∃ n, d.ents.length = n := ⟨_, rfl⟩
  rw [f1, f2, f3, f4, f5]
  have b3 : n3 ≤ 256 := by omega
  have b5 : n5 ≤ 64 := by omega
  have hX0 := heap_alloc_new w (.cells #[.slice A1 n1 c1, .slice A2 n2 c2, .slice A3 n3 c3, .slice A4 n4 c4, .slice A5 n5 c5] 59)
  have HB0 := Lib.hid ((Below.refl w.heap.size w).alloc (Nat.le_refl _) (.cells #[.slice A1 n1 c1, .slice A2 n2 c2, .slice A3 n3 c3, .slice A4 n4 c4, .slice A5 n5 c5] 59))
  have HX0 := Lib.hid hX0
  have HWd := Lib.hid hW
  have P3 := Lib.hid p3
  have P5 := Lib.hid p5
  have P6 := Lib.hid p6
  have HN := Lib.hid f5
  have F3 := Lib.hid f3
  have HH := Lib.hid hh
  clear p1 p2 p3 p4 p5 p6 f1 f2 f3 f4 f5 hh hX0 hW hs hd
  go_enter Tryz.func81, Tryz.ntmps81
  go_wp2
  go_loopw [3] (fun i wr => ∃ (k : Nat), k ≤ n5 ∧ i = .int .i64 k ∧ Hid (Below w.heap.size w wr) ∧ Hid (wr.heap[w.heap.size]? = some (.cells #[.slice A1 n1 c1, .slice A2 n2 c2, .slice A3 n3 c3, .slice A4 n4 c4, .slice A5 n5 c5] 59 (0, 0))) ∧ Hid (∀ j, j < k → entOkB d j = true)) (fun i _ => n5 - (intOf i).toNat)
  case atStart => exact ⟨0, by omega, rfl, HB0, HX0, Lib.hid (fun j hj => by omega)⟩
  case round =>
    clear HB0 HX0
    obtain ⟨k, hk, rfl, HW, HX, HS⟩ := hrel
    obtain ⟨⟨x0, x1, x2, x3, x4⟩, _⟩ := row_cells5 HX.out
    by_cases hlt : k < n5
    · have k0 : (0 : Int) ≤ k := by omega
      have k1 : (k : Int) < n5 := by omega
      have hle : k < d.ents.length := by rw [HN.out]; exact hlt
      obtain ⟨bb5, o5, eA, _, hb5, hc⟩ := P5.out.raw (by rw [P6.out.len, HN.out]; omega)
      subst eA
      obtain ⟨Ap, cp, g0, g1, g2⟩ := EntC.get P6.out hle
      have hen : d.ents[k] = entAt d k := by unfold entAt; rw [List.getD_eq_getElem?_getD, List.getElem?_eq_getElem hle]; rfl
      obtain ⟨⟨s, zs⟩, hq⟩ : ∃ x, entAt d k = x := ⟨_, rfl⟩
      have hmem := HWd.out.ents _ (List.getElem_mem hle)
      rw [hen, hq] at hmem g0 g1 g2
      obtain ⟨np, hnp⟩ : ∃ n, zs.length = n := ⟨_, rfl⟩
      obtain ⟨hms, hmz, hml⟩ := hmem
      simp only [hnp] at g0 g1 g2 hml
      have hpm : np ≤ 9223372036854775807 := by unfold maxLen at hml; omega
      have y0 := (HW.out.cell (p := ⟨bb5, o5 + k * 2, none⟩) (by have := HH.out; show bb5 < _; omega)).trans (hc _ _ g0)
      have y1 := (HW.out.cell (p := ⟨bb5, o5 + (k * 2 + 1), none⟩) (by have := HH.out; show bb5 < _; omega)).trans (hc _ _ g1)
      rw [← Nat.add_assoc] at y1
      have HR := Lib.hid (entR_of hq F3.out)
      have HQ := Lib.hid hq
      have HLe := Lib.hid hle
      have HP := Lib.hid (RowO.rowC g2)
      have HNp := Lib.hid hnp
      have HZ := Lib.hid hmz
      have hbx := (Array.getElem?_eq_some_iff.1 HX.out).1
      have HHc := Lib.hid hc
      clear hen hq hc hms hmz hml g0 g1 g2 hnp
      go_wp2_with fail
      have HX2 := Lib.hid ((heap_alloc_old wr (.cells #[.string s, .slice Ap np cp] 84) hbx).trans HX.out)
      have HY2 := Lib.hid (heap_alloc_new wr (.cells #[.string s, .slice Ap np cp] 84))
      have HB2 := Lib.hid (HW.out.trans (((Below.refl wr.heap.size wr).alloc (Nat.le_refl _) (.cells #[.string s, .slice Ap np cp] 84)).mono HW.out.size))
      have HB5 := Lib.hid hb5
      clear x0 x1 x2 x3 x4 y0 y1 HX hbx hb5
      generalize (wr.alloc (.cells #[.string s, .slice Ap np cp] 84)) = wq at *
      generalize wr.heap.size = hq at *
      clear HW
      obtain ⟨⟨x0, x1, x2, x3, x4⟩, _⟩ := row_cells5 HX2.out
      have y0 := cell_of_row wq hq 0 _ _ _ HY2.out
      have y1 := cell_of_row wq hq 1 _ _ _ HY2.out
      simp only [List.getElem?_toArray, List.getElem?_cons_zero, List.getElem?_cons_succ] at y0 y1
      go_loopw [5, 6] (fun f i wr => ∃ (kk q : Nat), kk ≤ n3 ∧ i = .int .i64 kk ∧ f = .bool (fndB d s kk) ∧ wr = wq.drewN q) (fun _ i _ => n3 - (intOf i).toNat)
      case atStart => exact ⟨0, 0, by omega, rfl, rfl, rfl⟩
      case round =>
        obtain ⟨kk, q, hkk, rfl, rfl, rfl⟩ := hrel
        by_cases hlk : kk < n3
        · have kk0 : (0 : Int) ≤ kk := by omega
          have kk1 : (kk : Int) < n3 := by omega
          have hlj : kk < d.syms.length := by rw [F3.out]; exact hlk
          obtain ⟨b3', o3, eA3, _, hb3, hc3⟩ := P3.out.at_ (sz := 4) (fun x => rfl) (by omega) (by omega)
          subst eA3
          have hz := fun i v h => (HB2.out.cell (p := ⟨b3', o3 + (kk * 4 + i), none⟩) (by have := HH.out; show b3' < _; omega)).trans (hc3 kk hlj i v h)
          have hsym : d.syms[kk] = symAt d kk := by unfold symAt; rw [List.getD_eq_getElem?_getD, List.getElem?_eq_getElem hlj]; rfl
          obtain ⟨⟨sj, dj, oj, pj⟩, hqj⟩ : ∃ x, symAt d kk = x := ⟨_, rfl⟩
          rw [hsym, hqj] at hz
          have z0 := hz 0 _ rfl
          have z1 := hz 1 _ rfl
          have z3 := hz 3 _ rfl
          rw [show o3 + (kk * 4 + 0) = o3 + kk * 4 by omega] at z0
          rw [← Nat.add_assoc] at z1 z3
          have hgo := fnd_go (s := s) hlj
          rw [hqj] at hgo
          generalize fndB d s kk = f0 at *
          have HGo := Lib.hid hgo
          clear hz hsym hqj hgo hlj hc3
          cases f0
          case true =>
            go_wp2
            go_quiet (fail)
            go_wp2
            go_roundw
            case rel => exact ⟨kk + 1, _, by omega, by go_num, by rw [HGo.out]; simp, rfl⟩
            case measure => simp [intOf]; omega
          case false =>
            by_cases he : sj = s
            case neg =>
              have hb : (sj.toList == s.toList) = false := by rw [beq_str, decide_eq_false he]
              have HG2 := Lib.hid (HGo.out.trans (show (false || (decide (sj = s) && !dj && pj)) = false by rw [decide_eq_false he]; rfl))
              clear he
              go_wp2
              go_quiet (fail)
              go_wp2
              go_roundw
              case rel => exact ⟨kk + 1, _, by omega, by go_num, by rw [HG2.out], rfl⟩
              case measure => simp [intOf]; omega
            have hb : (sj.toList == s.toList) = true := by rw [beq_str, decide_eq_true he]
            have HG2 := Lib.hid (HGo.out.trans (show (false || (decide (sj = s) && !dj && pj)) = (!dj && pj) by rw [decide_eq_true he]; rfl))
            clear he
            cases pj
            case false =>
              go_wp2
              go_quiet (fail)
              go_wp2
              go_roundw
              case rel => exact ⟨kk + 1, _, by omega, by go_num, by rw [HG2.out]; simp, rfl⟩
              case measure => simp [intOf]; omega
            case true =>
              go_wp2
              go_quiet (fail)
              go_wp2
              go_roundw
              case rel => exact ⟨kk + 1, _, by omega, by go_num, by rw [HG2.out]; simp, rfl⟩
              case measure => simp [intOf]; omega
        · obtain rfl : kk = n3 := by omega
          clear hlk
          have HXq := Lib.hid (show (wq.drewN q).heap[w.heap.size]? = _ from HX2.out)
          have HYq := Lib.hid (show (wq.drewN q).heap[hq]? = _ from HY2.out)
          have HBq := Lib.hid (belq HB2.out q)
          clear x0 x1 x2 x3 x4 y0 y1 HX2 HY2 HB2
          generalize wq.drewN q = wz at *
          obtain ⟨⟨x0, x1, x2, x3, x4⟩, _⟩ := row_cells5 HXq.out
          have y0 := cell_of_row wz hq 0 _ _ _ HYq.out
          have y1 := cell_of_row wz hq 1 _ _ _ HYq.out
          simp only [List.getElem?_toArray, List.getElem?_cons_zero, List.getElem?_cons_succ] at y0 y1
          generalize fndB d s kk = f0 at *
          cases f0
          case false =>
            have HF := Lib.hid (ents_no HLe.out (by rw [HR.out]; rfl))
            go_wp2
            go_ret
            exact ⟨ret_bool HF.out.symm, HBq.out⟩
          by_cases h6 : np ≤ 6
          case neg =>
            have h7 : (np : Int) > 6 := by omega
            have HF := Lib.hid (ents_no HLe.out (by rw [HR.out, parB_long (by rw [HNp.out]; exact h6)]; rfl))
            go_wp2
            go_ret
            exact ⟨ret_bool HF.out.symm, HBq.out⟩
          have h7 : (np : Int) ≤ 6 := by omega
          have h8 : ¬ (np : Int) > 6 := by omega
          go_wp2
          go_loop [7] (fun i => ∃ (kk : Nat), kk ≤ np ∧ i = .int .i64 kk ∧ Hid (∀ j, j < kk → inB (nth zs j) 64 = true)) (fun i => np - (intOf i).toNat)
          case atStart => exact ⟨0, by omega, rfl, Lib.hid (fun j hj => by omega)⟩
          case round =>
            obtain ⟨kk, hkk, rfl, HI⟩ := hrel
            by_cases hlk : kk < np
            · have kk0 : (0 : Int) ≤ kk := by omega
              have kk1 : (kk : Int) < np := by omega
              have hlz : kk < zs.length := by rw [HNp.out]; exact hlk
              obtain ⟨bp, op, eAp, _, hbp, hcp⟩ := HP.out.at_ (sz := 1) (fun x => rfl) (by omega) (by omega)
              subst eAp
              have z0 := (HBq.out.cell (p := ⟨bp, op + (kk * 1 + 0), none⟩) (by have := HH.out; show bp < _; omega)).trans (hcp kk hlz 0 _ rfl)
              rw [show op + (kk * 1 + 0) = op + kk by omega, ← nth_get hlz] at z0
              have hzI := HZ.out _ (List.getElem_mem hlz)
              rw [← nth_get hlz] at hzI
              have HB := Lib.hid (fun (h : inB (nth zs kk) 64 = false) => ents_no HLe.out (by rw [HR.out, parB_bad hlz h]; rfl))
              have HG := Lib.hid (fun (h : inB (nth zs kk) 64 = true) => all_lt_succ HI.out h)
              clear hcp hlz hbp
              generalize nth zs kk = z at *
              obtain ⟨zi0, zi1⟩ := hzI
              by_cases hz0 : z < 0
              · have HF := Lib.hid (HB.out (inB_neg hz0))
                go_wp2
                go_ret
                exact ⟨ret_bool HF.out.symm, HBq.out⟩
              have hz1 : 0 ≤ z := by omega
              by_cases hz2 : z > 64
              · have HF := Lib.hid (HB.out (by rw [inB_pos hz1, decide_eq_false (by omega)]))
                go_wp2
                go_ret
                exact ⟨ret_bool HF.out.symm, HBq.out⟩
              have HF := Lib.hid (HG.out (by rw [inB_pos hz1, decide_eq_true (by omega)]))
              have hz3 : z ≤ 64 := by omega
              go_wp2
              go_round
              case rel => exact ⟨kk + 1, by omega, by go_num, HF⟩
              case measure => simp [intOf]; omega
            · obtain rfl : kk = np := by omega
              have HY := Lib.hid (show entR d k = true by rw [HR.out, parB_good (by rw [HNp.out]; exact h6) (by rw [HNp.out]; exact HI.out)]; rfl)
              clear hlk HI
              go_wp2
              go_loopw [8] (fun i wr => ∃ (kk q : Nat), kk ≤ k ∧ i = .int .i64 kk ∧ wr = wz.drewN q ∧ Hid (∀ j, j < kk → (entAt d j).1 ≠ (entAt d k).1)) (fun i _ => k - (intOf i).toNat)
              case atStart => exact ⟨0, 0, by omega, rfl, rfl, Lib.hid (fun j hj => by omega)⟩
              case round =>
                obtain ⟨kk, q, hkk, rfl, rfl, HD⟩ := hrel
                by_cases hlk : kk < k
                · have kk0 : (0 : Int) ≤ kk := by omega
                  have kk1 : (kk : Int) < n5 := by omega
                  have kk2 : (kk : Int) < k := by omega
                  have hlj : kk < d.ents.length := by have := HLe.out; omega
                  have z0 : wz.cell? ⟨bb5, o5 + kk * 2, none⟩ = some (.string d.ents[kk].1) := by
                    obtain ⟨_, _, g0, _, _⟩ := EntC.get P6.out hlj
                    exact (HBq.out.cell (p := ⟨bb5, o5 + kk * 2, none⟩) (by have := HH.out; have := HB5.out; show bb5 < _; omega)).trans (HHc.out _ _ g0)
                  have hsj : d.ents[kk] = entAt d kk := by unfold entAt; rw [List.getD_eq_getElem?_getD, List.getElem?_eq_getElem hlj]; rfl
                  rw [hsj] at z0
                  obtain ⟨sj, hsj2⟩ : ∃ x, (entAt d kk).1 = x := ⟨_, rfl⟩
                  rw [hsj2] at z0
                  have HSj := Lib.hid hsj2
                  clear hsj hsj2 hlj
                  by_cases he : sj = s
                  · have HF := Lib.hid (ents_twice HLe.out hlk (by rw [HSj.out, HQ.out, he]))
                    have hb : (sj.toList == s.toList) = true := by rw [beq_str, decide_eq_true he]
                    clear he
                    go_wp2
                    go_quiet (fail)
                    go_wp2
                    go_ret
                    exact ⟨ret_bool HF.out.symm, belq (belq HBq.out _) _⟩
                  · have HD2 := Lib.hid (fun j (hj : j < kk + 1) => show (entAt d j).1 ≠ (entAt d k).1 from by
                      by_cases e : j = kk
                      · subst e; rw [HSj.out, HQ.out]; exact he
                      · exact HD.out j (by omega))
                    have hb : (sj.toList == s.toList) = false := by rw [beq_str, decide_eq_false he]
                    clear he
                    go_wp2
                    go_quiet (fail)
                    go_wp2
                    go_roundw
                    case rel => exact ⟨kk + 1, _, by omega, by go_num, rfl, HD2⟩
                    case measure => simp [intOf]; omega
                · obtain rfl : kk = k := by omega
                  have HS2 := Lib.hid (fun j (hj : j < kk + 1) => show entOkB d j = true from by
                    by_cases e : j = kk
                    · subst e; exact ent_yes HY.out HD.out
                    · exact HS.out j (by omega))
                  have HBz := Lib.hid (belq HBq.out q)
                  have HXz := Lib.hid (show (wz.drewN q).heap[w.heap.size]? = _ from HXq.out)
                  clear hlk
                  go_wp2
                  go_roundw
                  case rel => exact ⟨kk + 1, by omega, by go_num, HBz, HXz, HS2⟩
                  case measure => simp [intOf]; omega
    · obtain rfl : k = n5 := by omega
      have HE := Lib.hid (show entsB d = true from range_all_yes (fun j hj => HS.out j (by rw [HN.out] at hj; exact hj)))
      clear hlt
      go_wp2
      go_ret
      exact ⟨ret_bool HE.out.symm, HW.out⟩
end Go.Proofs.YtjngkifoaljmaaaGreatDoor
namespace Go.Proofs.YtjngkifoaljmaaaGreatDoor
set_option maxRecDepth 100000
open Go.RowKit
set_option linter.unusedVariables false
theorem ObjAt.below {w w' : World} {lo hi : Nat} {d : ObjD} {v : Value} (h : ObjAt w lo hi d v) (hh : hi ≤ w.heap.size) (hb : Below w.heap.size w w') : ObjAt w' lo hi d v :=
  h.move (Nat.le_refl _) (Nat.le_refl _) (fun b _ h2 => hb.block b (by omega))
theorem rdecode_o (v : Int) (hv : IsW v) : ∃ q0 q1 q2 q3 q4 : Int, ∀ w, Calls Tryz.prog 53 #[.int .u32 v] w fun e w' => e = .returned (.tuple #[.agg #[.int .i64 q0, .int .i64 q1, .int .i64 q2, .int .i64 q3, .int .i64 q4], .int .i64 (if (opOf v).isSome then 0 else 3)]) ∧ Below w.heap.size w w' := by
  cases h : opOf v with
  | none => exact ⟨0, 0, 0, 0, 0, fun w => rdecode_no v w hv (opOf_none h)⟩
  | some n =>
    obtain ⟨h1, h2⟩ := opOf_some h
    exact ⟨n, _, _, _, _, fun w => rdecode_yes v n w hv h1 h2⟩
theorem few_no {d : ObjD} (h : fewB d.text.length d.data.length d.syms.length d.rels.length d.ents.length = false) : mayO d = false := by unfold mayO; rw [h]; rfl
theorem may_text_no {d : ObjD} {j : Nat} (hj : j < d.text.length) (h : (opOf d.text[j]).isSome = false) : mayO d = false := by
  have : textB d.text = false := List.all_eq_false.2 ⟨d.text[j], List.getElem_mem hj, by rw [h]; exact Bool.false_ne_true⟩
  unfold mayO; rw [this]; simp
set_option maxHeartbeats 8000000 in
theorem rmay_any (d : ObjD) (hW : ObjW d) (v : Value) (lo hi : Nat) (w : World) (hO : ObjAt w lo hi d v) (hh : hi ≤ w.heap.size) :
    Calls Tryz.prog 63 #[v] w fun e w' => e = .returned (.bool (mayO d)) ∧ Below w.heap.size w w' := by
  have hO' := hO
  obtain ⟨A1, c1, A2, c2, A3, c3, A4, c4, A5, c5, es, rfl, p1, p2, p3, p4, p5, p6⟩ := hO
  obtain ⟨n1, f1⟩ : ∃ n, d.text.length = n := ⟨_, rfl⟩
  obtain ⟨n2, f2⟩ : ∃ n, d.data.length = n := ⟨_, rfl⟩
  obtain ⟨n3, f3⟩ : ∃ n, d.syms.length = n := ⟨_, rfl⟩
  obtain ⟨n4, f4⟩ : ∃ n, d.rels.length = n := ⟨_, rfl⟩
  obtain ⟨n5, f5⟩ : ∃ n, d.ents.length = n := ⟨_, rfl⟩
  have hfew : fewB d.text.length d.data.length d.syms.length d.rels.length d.ents.length = (decide (n1 ≤ 4096) && decide (n2 ≤ 1024) && decide (n3 ≤ 256) && decide (n4 ≤ 1024) && decide (n5 ≤ 64)) := by rw [f1, f2, f3, f4, f5]; rfl
  rw [f1, f2, f3, f4, f5] at hO' ⊢
  have hX0 := heap_alloc_new w (.cells #[.slice A1 n1 c1, .slice A2 n2 c2, .slice A3 n3 c3, .slice A4 n4 c4, .slice A5 n5 c5] 59)
  have HB0 := Lib.hid ((Below.refl w.heap.size w).alloc (Nat.le_refl _) (.cells #[.slice A1 n1 c1, .slice A2 n2 c2, .slice A3 n3 c3, .slice A4 n4 c4, .slice A5 n5 c5] 59))
  have HX0 := Lib.hid hX0
  have HWd := Lib.hid hW
  have HO := Lib.hid hO'
  have P1 := Lib.hid p1
  have F1 := Lib.hid f1
  have HFb := Lib.hid (fun (h : (decide (n1 ≤ 4096) && decide (n2 ≤ 1024) && decide (n3 ≤ 256) && decide (n4 ≤ 1024) && decide (n5 ≤ 64)) = false) => few_no (hfew.trans h))
  have HFg := Lib.hid (fun (h : (decide (n1 ≤ 4096) && decide (n2 ≤ 1024) && decide (n3 ≤ 256) && decide (n4 ≤ 1024) && decide (n5 ≤ 64)) = true) => few_of (hfew.trans h))
  have HH := Lib.hid hh
  clear p1 p2 p3 p4 p5 p6 f1 f2 f3 f4 f5 hh hX0 hW hO' hfew
  go_enter Tryz.func63, Tryz.ntmps63
  by_cases g1 : n1 ≤ 4096
  case neg =>
    have HF := Lib.hid (HFb.out (by simp [g1]))
    have j1 : (n1 : Int) > 4096 := by omega
    go_wp2
    go_ret
    exact ⟨ret_bool HF.out.symm, HB0.out⟩
  by_cases g2 : n2 ≤ 1024
  case neg =>
    have HF := Lib.hid (HFb.out (by simp [g2]))
    have j2 : (n2 : Int) > 1024 := by omega
    have j1 : ¬ (n1 : Int) > 4096 := by omega
    go_wp2
    go_ret
    exact ⟨ret_bool HF.out.symm, HB0.out⟩
  by_cases g3 : n3 ≤ 256
  case neg =>
    have HF := Lib.hid (HFb.out (by simp [g3]))
    have j3 : (n3 : Int) > 256 := by omega
    have j1 : ¬ (n1 : Int) > 4096 := by omega
    have j2 : ¬ (n2 : Int) > 1024 := by omega
    go_wp2
    go_ret
    exact ⟨ret_bool HF.out.symm, HB0.out⟩
  by_cases g4 : n4 ≤ 1024
  case neg =>
    have HF := Lib.hid (HFb.out (by simp [g4]))
    have j4 : (n4 : Int) > 1024 := by omega
    have j1 : ¬ (n1 : Int) > 4096 := by omega
    have j2 : ¬ (n2 : Int) > 1024 := by omega
    have j3 : ¬ (n3 : Int) > 256 := by omega
    go_wp2
    go_ret
    exact ⟨ret_bool HF.out.symm, HB0.out⟩
  by_cases g5 : n5 ≤ 64
  case neg =>
    have HF := Lib.hid (HFb.out (by simp [g5]))
    have j5 : (n5 : Int) > 64 := by omega
    have j1 : ¬ (n1 : Int) > 4096 := by omega
    have j2 : ¬ (n2 : Int) > 1024 := by omega
    have j3 : ¬ (n3 : Int) > 256 := by omega
    have j4 : ¬ (n4 : Int) > 1024 := by omega
    go_wp2
    go_ret
    exact ⟨ret_bool HF.out.symm, HB0.out⟩
  have HFew := Lib.hid (HFg.out (by simp [g1, g2, g3, g4, g5]))
  have m1 : (n1 : Int) ≤ 4096 := by omega
  have m2 : (n2 : Int) ≤ 1024 := by omega
  have m3 : (n3 : Int) ≤ 256 := by omega
  have m4 : (n4 : Int) ≤ 1024 := by omega
  have m5 : (n5 : Int) ≤ 64 := by omega
  have k1 : ¬ (n1 : Int) > 4096 := by omega
  have k2 : ¬ (n2 : Int) > 1024 := by omega
  have k3 : ¬ (n3 : Int) > 256 := by omega
  have k4 : ¬ (n4 : Int) > 1024 := by omega
  have k5 : ¬ (n5 : Int) > 64 := by omega
  go_wp2
  go_loopw [3] (fun i wr => ∃ (k : Nat), k ≤ n1 ∧ i = .int .i64 k ∧ Hid (Below w.heap.size w wr) ∧ Hid (wr.heap[w.heap.size]? = some (.cells #[.slice A1 n1 c1, .slice A2 n2 c2, .slice A3 n3 c3, .slice A4 n4 c4, .slice A5 n5 c5] 59 (0, 0))) ∧ Hid (∀ j (hj : j < d.text.length), j < k → (opOf d.text[j]).isSome = true)) (fun i _ => n1 - (intOf i).toNat)
  case atStart => exact ⟨0, by omega, rfl, HB0, HX0, Lib.hid (fun j _ hj => by omega)⟩
  case round =>
    clear HB0 HX0 k1 k2 k3 k4 k5
    obtain ⟨k, hk, rfl, HW, HX, HS⟩ := hrel
    obtain ⟨⟨x0, x1, x2, x3, x4⟩, _⟩ := row_cells5 HX.out
    by_cases hlt : k < n1
    · have k0 : (0 : Int) ≤ k := by omega
      have k1 : (k : Int) < n1 := by omega
      have hle : k < d.text.length := by rw [F1.out]; exact hlt
      obtain ⟨bb1, o1, eA, _, hb1, hc⟩ := P1.out.at_ (sz := 1) (fun x => rfl) (by omega) (by omega)
      subst eA
      have y0 := (HW.out.cell (p := ⟨bb1, o1 + (k * 1 + 0), none⟩) (by have := HH.out; show bb1 < _; omega)).trans (hc k hle 0 _ rfl)
      rw [show o1 + (k * 1 + 0) = o1 + k by omega] at y0
      have hxw := HWd.out.text _ (List.getElem_mem hle)
      have HNo := Lib.hid (fun (h : (opOf d.text[k]).isSome = false) => may_text_no hle h)
      have HYe := Lib.hid (fun (h : (opOf d.text[k]).isSome = true) j (hj : j < d.text.length) (hjk : j < k + 1) => show (opOf d.text[j]).isSome = true from by
        by_cases e : j = k
        · subst e; exact h
        · exact HS.out j hj (by omega))
      clear hc HS
      generalize d.text[k] = x at *
      clear hle
      obtain ⟨q0, q1, q2, q3, q4, hcon⟩ := rdecode_o x hxw
      cases ho : (opOf x).isSome
      case false =>
        rw [ho] at hcon
        have HC := Lib.hid hcon
        have HF := Lib.hid (HNo.out ho)
        clear hcon ho hxw HNo HYe
        go_wp2_with fail
        refine (HC.out _).mono ?_
        rintro e w1 ⟨rfl, hb⟩
        have HB1 := Lib.hid ((HW.out.trans (hb.mono HW.out.size)).trans (((Below.refl w1.heap.size w1).alloc (Nat.le_refl _) (.cells #[.int .i64 q0, .int .i64 q1, .int .i64 q2, .int .i64 q3, .int .i64 q4] 49)).mono (Nat.le_trans HW.out.size hb.size)))
        clear hb x0 x1 x2 x3 x4 y0
        go_wp2
        go_ret
        exact ⟨ret_bool HF.out.symm, HB1.out⟩
      case true =>
        rw [ho] at hcon
        have HC := Lib.hid hcon
        have HY := Lib.hid (HYe.out ho)
        clear hcon ho hxw HNo HYe
        go_wp2_with fail
        refine (HC.out _).mono ?_
        rintro e w1 ⟨rfl, hb⟩
        have HB1 := Lib.hid ((HW.out.trans (hb.mono HW.out.size)).trans (((Below.refl w1.heap.size w1).alloc (Nat.le_refl _) (.cells #[.int .i64 q0, .int .i64 q1, .int .i64 q2, .int .i64 q3, .int .i64 q4] 49)).mono (Nat.le_trans HW.out.size hb.size)))
        have HX1 := Lib.hid ((heap_alloc_old w1 (.cells #[.int .i64 q0, .int .i64 q1, .int .i64 q2, .int .i64 q3, .int .i64 q4] 49) (Nat.lt_of_lt_of_le (Array.getElem?_eq_some_iff.1 HX.out).1 hb.size)).trans ((hb.block _ (Array.getElem?_eq_some_iff.1 HX.out).1).trans HX.out))
        clear hb x0 x1 x2 x3 x4 y0
        go_wp2
        go_roundw
        case rel => exact ⟨k + 1, by omega, by go_num, HB1, HX1, HY⟩
        case measure => simp [intOf]; omega
    · obtain rfl : k = n1 := by omega
      have HT := Lib.hid (show textB d.text = true from List.all_eq_true.2 (fun x hx => by
        obtain ⟨j, hj, e⟩ := List.mem_iff_getElem.1 hx
        have := HS.out j hj (by rw [← F1.out]; exact hj)
        rw [e] at this
        exact this))
      have HMy := Lib.hid (show mayO d = (symsB d && relsB d && entsB d) by
        have h := HFew.out
        unfold mayO
        rw [HT.out, show fewB d.text.length d.data.length d.syms.length d.rels.length d.ents.length = true by
          unfold fewB
          rw [decide_eq_true h.1, decide_eq_true h.2.1, decide_eq_true h.2.2.1, decide_eq_true h.2.2.2.1, decide_eq_true h.2.2.2.2]; rfl]
        simp)
      have HOw := Lib.hid (HO.out.below HH.out HW.out)
      have HHw := Lib.hid (Nat.le_trans HH.out HW.out.size)
      clear hlt
      go_wp2_with fail
      refine (rsyms_any d HWd.out _ lo hi wr HOw.out HHw.out HFew.out.1 HFew.out.2.1 HFew.out.2.2.1).mono ?_
      rintro e w1 ⟨rfl, hb⟩
      have HB1 := Lib.hid (HW.out.trans (hb.mono HW.out.size))
      have HX1 := Lib.hid ((hb.block _ (Array.getElem?_eq_some_iff.1 HX.out).1).trans HX.out)
      clear hb x0 x1 x2 x3 x4
      cases hsb : symsB d
      case false =>
        have HF := Lib.hid (HMy.out.trans (show (symsB d && relsB d && entsB d) = false by rw [hsb]; rfl))
        clear hsb
        go_wp2
        go_ret
        exact ⟨ret_bool HF.out.symm, HB1.out⟩
      have HMy2 := Lib.hid (HMy.out.trans (show (symsB d && relsB d && entsB d) = (relsB d && entsB d) by rw [hsb]; rfl))
      clear hsb
      obtain ⟨⟨x0, x1, x2, x3, x4⟩, _⟩ := row_cells5 HX1.out
      have HOx := Lib.hid (HO.out.below HH.out HB1.out)
      have HHx := Lib.hid (Nat.le_trans HH.out HB1.out.size)
      go_wp2_with fail
      refine (rrels_any d HWd.out _ lo hi w1 HOx.out HHx.out HFew.out.1 HFew.out.2.2.2.1 HT.out).mono ?_
      rintro e w2 ⟨rfl, hb⟩
      have HB2 := Lib.hid (HB1.out.trans (hb.mono HB1.out.size))
      have HX2 := Lib.hid ((hb.block _ (Array.getElem?_eq_some_iff.1 HX1.out).1).trans HX1.out)
      clear hb x0 x1 x2 x3 x4
      cases hrb : relsB d
      case false =>
        have HF := Lib.hid (HMy2.out.trans (show (relsB d && entsB d) = false by rw [hrb]; rfl))
        clear hrb
        go_wp2
        go_ret
        exact ⟨ret_bool HF.out.symm, HB2.out⟩
      have HMy3 := Lib.hid (HMy2.out.trans (show (relsB d && entsB d) = entsB d by rw [hrb]; rfl))
      clear hrb
      obtain ⟨⟨x0, x1, x2, x3, x4⟩, _⟩ := row_cells5 HX2.out
      have HOy := Lib.hid (HO.out.below HH.out HB2.out)
      have HHy := Lib.hid (Nat.le_trans HH.out HB2.out.size)
      go_wp2_with fail
      refine (rentries_any d HWd.out _ lo hi w2 HOy.out HHy.out HFew.out.2.2.1 HFew.out.2.2.2.2).mono ?_
      rintro e w3 ⟨rfl, hb⟩
      have HB3 := Lib.hid (HB2.out.trans (hb.mono HB2.out.size))
      clear hb x0 x1 x2 x3 x4
      go_wp2
      go_ret
      exact ⟨ret_bool HMy3.out.symm, HB3.out⟩
end Go.Proofs.YtjngkifoaljmaaaGreatDoor
