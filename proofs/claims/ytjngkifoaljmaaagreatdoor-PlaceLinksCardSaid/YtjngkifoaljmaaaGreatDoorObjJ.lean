/- Regions that draw their order, whose operations and callees come to the same in every world of a class. No condition.
   Layer 6: the reference's syms: each Sym may be. No condition.
   Layer 6: the reference's fits, of a word that is an instruction. No condition.
   Layer 6: the reference's rels: each relocation may be, where every word is an instruction. No condition. -/
import Derived.Test.YtjngkifoaljmaaaGreatDoorObjH
import Derived.BigQuiet
import Derived.Test.YtjngkifoaljmaaaGreatDoorObjE
import Derived.Test.YtjngkifoaljmaaaGreatDoorInsRDecode
namespace Go.Proofs.YtjngkifoaljmaaaGreatDoor
set_option maxRecDepth 100000
open Go.RowKit
theorem wp_region_cls (C : World → Prop) {P : Program} {id : Nat} {Q : Exit → Act → World → Prop} {a : Act} {w : World} {l : List Oper}
    (hC : C w.drew) (hm : P.follows .mixedOrders = true) (hB : Region.lexB .any l.toArray = true)
    (h : ∀ (T : Type) [Nonempty T] (V : T → World), (∀ i, C (V i)) → (∀ w', C w' → ∃ i, w' = V i) → wpQuiet P l.toArray (fun w' => ∃ i, w' = V i) (fun a' => ∀ w', (∃ i, w' = V i) → Q .normal a' w') l a) :
    (Code.region id l.toArray true).wp P Q a w := by
  haveI : Nonempty {w' // C w'} := ⟨⟨_, hC⟩⟩
  have h1 := h {w' // C w'} Subtype.val (fun i => i.2) (fun w' hw => ⟨⟨w', hw⟩, rfl⟩)
  exact wp_region_quiet (C := fun w' => ∃ i : {w' // C w'}, w' = i.val) hm hB ⟨⟨_, hC⟩, rfl⟩ (by simpa using h1)
/-- a call whose contract asks for a world of the class, and leaves one -/
theorem cls_call {C : World → Prop} {T : Type} {V : T → World} (hV : ∀ i, C (V i)) (hE : ∀ w', C w' → ∃ i, w' = V i) {P : Program} {f : FuncId} {args : Array Value} {v : Value}
    (h : ∀ w, C w → Calls P f args w fun e w' => e = .returned v ∧ C w') (i : T) : Calls P f args (V i) fun e w' => e = .returned v ∧ ∃ j, w' = V j :=
  (h _ (hV i)).mono fun _ _ h => ⟨h.1, hE _ h.2⟩
end Go.Proofs.YtjngkifoaljmaaaGreatDoor
namespace Go.Proofs.YtjngkifoaljmaaaGreatDoor
set_option maxRecDepth 100000
open Go.RowKit
set_option linter.unusedVariables false
/-- what the reference asks of a Sym beside its name's being new -/
def symR (d : ObjD) (i : Nat) : Bool := nameB (sB (symAt d i).1) && ((symAt d i).2.2.1.tmod (unitI (symAt d i).2.1) == 0 && inB (symAt d i).2.2.1 (unitI (symAt d i).2.1 * (if (symAt d i).2.1 then d.data.length else d.text.length : Nat)))
theorem symOk_split (d : ObjD) (i : Nat) : symOkB d i = (symR d i && (List.range i).all fun j => !decide ((symAt d j).1 = (symAt d i).1)) := by
  unfold symOkB symR
  cases nameB (sB (symAt d i).1) <;> cases ((List.range i).all fun j => !decide ((symAt d j).1 = (symAt d i).1)) <;> simp
theorem symR_of {d : ObjD} {i : Nat} {s : ByteArray} {b : Bool} {o : Int} {p : Bool} (h : symAt d i = (s, b, o, p)) : symR d i = (nameB (sB s) && (o.tmod (unitI b) == 0 && inB o (unitI b * (if b then d.data.length else d.text.length : Nat)))) := by
  unfold symR; rw [h]
theorem symR_text {d : ObjD} {i n : Nat} {s : ByteArray} {o : Int} {p : Bool} (h : symAt d i = (s, false, o, p)) (hn : d.text.length = n) : symR d i = (nameB (sB s) && (o.tmod 4 == 0 && (decide (0 ≤ o) && decide (o ≤ 4 * n)))) := by
  rw [symR_of h]; subst hn; rfl
theorem symR_data {d : ObjD} {i n : Nat} {s : ByteArray} {o : Int} {p : Bool} (h : symAt d i = (s, true, o, p)) (hn : d.data.length = n) : symR d i = (nameB (sB s) && (o.tmod 8 == 0 && (decide (0 ≤ o) && decide (o ≤ 8 * n)))) := by
  rw [symR_of h]; subst hn; rfl
theorem syms_no {d : ObjD} {i : Nat} (hi : i < d.syms.length) (h : symR d i = false) : symsB d = false := range_all_no hi (by rw [symOk_split, h]; rfl)
theorem syms_twice {d : ObjD} {i j : Nat} (hi : i < d.syms.length) (hj : j < i) (h : (symAt d j).1 = (symAt d i).1) : symsB d = false := range_all_no hi (by rw [symOk_split, range_all_no hj (by simp [h])]; simp)
theorem sym_yes {d : ObjD} {i : Nat} (h : symR d i = true) (hn : ∀ j, j < i → (symAt d j).1 ≠ (symAt d i).1) : symOkB d i = true := by
  rw [symOk_split, h, range_all_yes (fun j hj => by simp [hn j hj])]; rfl
set_option maxHeartbeats 4000000 in
theorem rsyms_any (d : ObjD) (hW : ObjW d) (v : Value) (lo hi : Nat) (w : World) (hO : ObjAt w lo hi d v) (hh : hi ≤ w.heap.size) (ht : d.text.length ≤ 4096) (hd : d.data.length ≤ 1024) (hs : d.syms.length ≤ 256) :
    Calls Tryz.prog 79 #[v] w fun e w' => e = .returned (.bool (symsB d)) ∧ Below w.heap.size w w' := by
  obtain ⟨A1, c1, A2, c2, A3, c3, A4, c4, A5, c5, es, rfl, p1, p2, p3, p4, p5, p6⟩ := hO
  obtain ⟨n1, f1⟩ : ∃ n, d.text.length = n := ⟨_, rfl⟩
  obtain ⟨n2, f2⟩ : ∃ n, d.data.length = n := ⟨_, rfl⟩
  obtain ⟨n3, f3⟩ : ∃ n, d.syms.length = n := ⟨_, rfl⟩
  obtain ⟨n4, f4⟩ : ∃ n, d.rels.length = n := ⟨_, rfl⟩
  obtain ⟨n5, f5⟩ : ∃ n, d.ents.length = n := ⟨_, rfl⟩
  rw [f1, f2, f3, f4, f5]
  have b1 : n1 ≤ 4096 := by omega
  have b2 : n2 ≤ 1024 := by omega
  have b3 : n3 ≤ 256 := by omega
  have hX0 := heap_alloc_new w (.cells #[.slice A1 n1 c1, .slice A2 n2 c2, .slice A3 n3 c3, .slice A4 n4 c4, .slice A5 n5 c5] 59)
  have HB0 := Lib.hid ((Below.refl w.heap.size w).alloc (Nat.le_refl _) (.cells #[.slice A1 n1 c1, .slice A2 n2 c2, .slice A3 n3 c3, .slice A4 n4 c4, .slice A5 n5 c5] 59))
  have HX0 := Lib.hid hX0
  have HWd := Lib.hid hW
  have P3 := Lib.hid p3
  have HN := Lib.hid f3
  have F1 := Lib.hid f1
  have F2 := Lib.hid f2
  have HH := Lib.hid hh
  clear p1 p2 p3 p4 p5 p6 f1 f2 f3 f4 f5 hh hX0 hW ht hd hs
  go_enter Tryz.func79, Tryz.ntmps79
  go_wp2
  go_loopw [3] (fun i wr => ∃ (k : Nat), k ≤ n3 ∧ i = .int .i64 k ∧ Hid (Below w.heap.size w wr) ∧ Hid (wr.heap[w.heap.size]? = some (.cells #[.slice A1 n1 c1, .slice A2 n2 c2, .slice A3 n3 c3, .slice A4 n4 c4, .slice A5 n5 c5] 59 (0, 0))) ∧ Hid (∀ j, j < k → symOkB d j = true)) (fun i _ => n3 - (intOf i).toNat)
  case atStart => exact ⟨0, by omega, rfl, HB0, HX0, Lib.hid (fun j hj => by omega)⟩
  case round =>
    clear HB0 HX0
    obtain ⟨k, hk, rfl, HW, HX, HS⟩ := hrel
    obtain ⟨⟨x0, x1, x2, x3, x4⟩, _⟩ := row_cells5 HX.out
    by_cases hlt : k < n3
    · have k0 : (0 : Int) ≤ k := by omega
      have k1 : (k : Int) < n3 := by omega
      have hle : k < d.syms.length := by rw [HN.out]; exact hlt
      obtain ⟨b3, o3, eA, _, hb3, hc⟩ := P3.out.at_ (sz := 4) (fun x => rfl) (by omega) (by omega)
      subst eA
      have hx := fun i v h => (HW.out.cell (p := ⟨b3, o3 + (k * 4 + i), none⟩) (by have := HH.out; show b3 < _; omega)).trans (hc k hle i v h)
      have hsym : d.syms[k] = symAt d k := by unfold symAt; rw [List.getD_eq_getElem?_getD, List.getElem?_eq_getElem hle]; rfl
      obtain ⟨⟨s, b, o, p⟩, hq⟩ : ∃ x, symAt d k = x := ⟨_, rfl⟩
      have hmem := HWd.out.syms _ (List.getElem_mem hle)
      rw [hsym, hq] at hmem
      rw [hsym, hq] at hx
      have y0 := hx 0 _ rfl
      have y1 := hx 1 _ rfl
      have y2 := hx 2 _ rfl
      have y3 := hx 3 _ rfl
      rw [show o3 + (k * 4 + 0) = o3 + k * 4 by omega] at y0
      rw [← Nat.add_assoc] at y1 y2 y3
      have HR := Lib.hid (symR_of hq)
      have HQ := Lib.hid hq
      have HLe := Lib.hid hle
      obtain ⟨hms, hmo1, hmo2⟩ := hmem
      have hbx := (Array.getElem?_eq_some_iff.1 HX.out).1
      have HHc := Lib.hid hc
      clear hx hsym hq hc
      go_wp2_with fail
      refine (rname_any s _).mono ?_
      rintro e w' ⟨rfl, rfl⟩
      have HX2 := Lib.hid ((heap_alloc_old wr (.cells #[.string s, .bool b, .int .i64 o, .bool p] 52) hbx).trans HX.out)
      have HY2 := Lib.hid (heap_alloc_new wr (.cells #[.string s, .bool b, .int .i64 o, .bool p] 52))
      have HB2 := Lib.hid (HW.out.trans (((Below.refl wr.heap.size wr).alloc (Nat.le_refl _) (.cells #[.string s, .bool b, .int .i64 o, .bool p] 52)).mono HW.out.size))
      have HB3 := Lib.hid hb3
      clear x0 x1 x2 x3 x4 y0 y1 y2 y3 HX hbx hb3
      generalize (wr.alloc (.cells #[.string s, .bool b, .int .i64 o, .bool p] 52)) = wq at *
      generalize wr.heap.size = hq at *
      clear HW
      obtain ⟨⟨x0, x1, x2, x3, x4⟩, _⟩ := row_cells5 HX2.out
      have y0 := cell_of_row wq hq 0 _ _ _ HY2.out
      have y1 := cell_of_row wq hq 1 _ _ _ HY2.out
      have y2 := cell_of_row wq hq 2 _ _ _ HY2.out
      have y3 := cell_of_row wq hq 3 _ _ _ HY2.out
      simp only [List.getElem?_toArray, List.getElem?_cons_zero, List.getElem?_cons_succ] at y0 y1 y2 y3
      have n1I : (n1 : Int) ≤ 4096 := by omega
      have n2I : (n2 : Int) ≤ 1024 := by omega
      cases hnb : nameB (sB s)
      case false =>
        have HF := Lib.hid (syms_no HLe.out (by rw [HR.out, hnb]; rfl))
        clear hnb
        go_wp2
        go_ret
        exact ⟨ret_bool HF.out.symm, HB2.out⟩
      have HNb := Lib.hid hnb
      clear hnb HR
      cases b
      case false =>
        have HR := Lib.hid (symR_text HQ.out F1.out)
        by_cases ho0 : o < 0
        · have HF := Lib.hid (syms_no HLe.out (by rw [HR.out, HNb.out, decide_eq_false (by omega : ¬ 0 ≤ o)]; simp))
          go_wp2
          go_ret
          exact ⟨ret_bool HF.out.symm, HB2.out⟩
        have hop : 0 ≤ o := by omega
        have htm : o.tmod 4 = o % 4 := Int.tmod_eq_emod_of_nonneg hop
        rw [htm] at HR
        clear htm
        by_cases hm : o % 4 = 0
        case neg =>
          have HF := Lib.hid (syms_no HLe.out (by rw [HR.out, (beq_eq_false_iff_ne).2 hm]; simp))
          clear ho0
          go_wp2
          go_ret
          exact ⟨ret_bool HF.out.symm, HB2.out⟩
        have HM := Lib.hid hm
        clear ho0
        by_cases hg : 4 * (n1 : Int) < o
        · have HF := Lib.hid (syms_no HLe.out (by rw [HR.out, decide_eq_false (by omega : ¬ o ≤ 4 * (n1 : Int))]; simp))
          go_wp2
          go_ret
          exact ⟨ret_bool HF.out.symm, HB2.out⟩
        have HY := Lib.hid (show symR d k = true by rw [HR.out, HNb.out, HM.out, decide_eq_true hop, decide_eq_true (by omega : o ≤ 4 * (n1 : Int))]; rfl)
        have hg2 : o ≤ 4 * (n1 : Int) := by omega
        clear hg
        go_wp2
        go_loopw [5] (fun i wr => ∃ (kk q : Nat), kk ≤ k ∧ i = .int .i64 kk ∧ wr = wq.drewN q ∧ Hid (∀ j, j < kk → (symAt d j).1 ≠ (symAt d k).1)) (fun i _ => k - (intOf i).toNat)
        case atStart => exact ⟨0, 0, by omega, rfl, rfl, Lib.hid (fun j hj => by omega)⟩
        case round =>
          obtain ⟨kk, q, hkk, rfl, rfl, HD⟩ := hrel
          by_cases hlk : kk < k
          · have kk0 : (0 : Int) ≤ kk := by omega
            have kk1 : (kk : Int) < n3 := by omega
            have kk2 : (kk : Int) < k := by omega
            have hlj : kk < d.syms.length := by have := HLe.out; omega
            have z0 := (HB2.out.cell (p := ⟨b3, o3 + (kk * 4 + 0), none⟩) (by have := HH.out; have := HB3.out; show b3 < _; omega)).trans (HHc.out kk hlj 0 _ rfl)
            rw [show o3 + (kk * 4 + 0) = o3 + kk * 4 by omega] at z0
            have hsj : d.syms[kk] = symAt d kk := by unfold symAt; rw [List.getD_eq_getElem?_getD, List.getElem?_eq_getElem hlj]; rfl
            rw [hsj] at z0
            obtain ⟨sj, hsj2⟩ : ∃ x, (symAt d kk).1 = x := ⟨_, rfl⟩
            rw [hsj2] at z0
            have HSj := Lib.hid hsj2
            clear hsj hsj2 hlj
            by_cases he : sj = s
            · have HF := Lib.hid (syms_twice HLe.out hlk (by rw [HSj.out, HQ.out, he]))
              have hb : (sj.toList == s.toList) = true := by rw [beq_str, decide_eq_true he]
              clear he
              go_wp2
              go_quiet (fail)
              go_wp2
              go_ret
              exact ⟨ret_bool HF.out.symm, belq (belq HB2.out _) _⟩
            · have HD2 := Lib.hid (fun j (hj : j < kk + 1) => show (symAt d j).1 ≠ (symAt d k).1 from by
                by_cases e : j = kk
                · subst e; rw [HSj.out, HQ.out]; exact he
                · exact HD.out j (by omega))
              have hb : (sj.toList == s.toList) = false := by rw [beq_str, decide_eq_false he]
              clear he
              go_wp2
              go_quiet (fail)
              go_wp2
              go_roundw
              case rel => exact ⟨kk + 1, _, by omega, by go_num, rfl, HD2⟩
              case measure => simp [intOf]; omega
          · obtain rfl : kk = k := by omega
            have HS2 := Lib.hid (fun j (hj : j < kk + 1) => show symOkB d j = true from by
              by_cases e : j = kk
              · subst e; exact sym_yes HY.out HD.out
              · exact HS.out j (by omega))
            have HBq := Lib.hid (belq HB2.out q)
            have HXq := Lib.hid (show (wq.drewN q).heap[w.heap.size]? = some (.cells #[.slice A1 n1 c1, .slice A2 n2 c2, .slice (some ⟨b3, o3, none⟩) n3 c3, .slice A4 n4 c4, .slice A5 n5 c5] 59 (0, 0)) from HX2.out)
            clear hlk
            go_wp2
            go_roundw
            case rel => exact ⟨kk + 1, by omega, by go_num, HBq, HXq, HS2⟩
            case measure => simp [intOf]; omega
      case true =>
        have HR := Lib.hid (symR_data HQ.out F2.out)
        by_cases ho0 : o < 0
        · have HF := Lib.hid (syms_no HLe.out (by rw [HR.out, HNb.out, decide_eq_false (by omega : ¬ 0 ≤ o)]; simp))
          go_wp2
          go_ret
          exact ⟨ret_bool HF.out.symm, HB2.out⟩
        have hop : 0 ≤ o := by omega
        have htm : o.tmod 8 = o % 8 := Int.tmod_eq_emod_of_nonneg hop
        rw [htm] at HR
        clear htm
        by_cases hm : o % 8 = 0
        case neg =>
          have HF := Lib.hid (syms_no HLe.out (by rw [HR.out, (beq_eq_false_iff_ne).2 hm]; simp))
          clear ho0
          go_wp2
          go_ret
          exact ⟨ret_bool HF.out.symm, HB2.out⟩
        have HM := Lib.hid hm
        clear ho0
        by_cases hg : 8 * (n2 : Int) < o
        · have HF := Lib.hid (syms_no HLe.out (by rw [HR.out, decide_eq_false (by omega : ¬ o ≤ 8 * (n2 : Int))]; simp))
          go_wp2
          go_ret
          exact ⟨ret_bool HF.out.symm, HB2.out⟩
        have HY := Lib.hid (show symR d k = true by rw [HR.out, HNb.out, HM.out, decide_eq_true hop, decide_eq_true (by omega : o ≤ 8 * (n2 : Int))]; rfl)
        have hg2 : o ≤ 8 * (n2 : Int) := by omega
        clear hg
        go_wp2
        go_loopw [5] (fun i wr => ∃ (kk q : Nat), kk ≤ k ∧ i = .int .i64 kk ∧ wr = wq.drewN q ∧ Hid (∀ j, j < kk → (symAt d j).1 ≠ (symAt d k).1)) (fun i _ => k - (intOf i).toNat)
        case atStart => exact ⟨0, 0, by omega, rfl, rfl, Lib.hid (fun j hj => by omega)⟩
        case round =>
          obtain ⟨kk, q, hkk, rfl, rfl, HD⟩ := hrel
          by_cases hlk : kk < k
          · have kk0 : (0 : Int) ≤ kk := by omega
            have kk1 : (kk : Int) < n3 := by omega
            have kk2 : (kk : Int) < k := by omega
            have hlj : kk < d.syms.length := by have := HLe.out; omega
            have z0 := (HB2.out.cell (p := ⟨b3, o3 + (kk * 4 + 0), none⟩) (by have := HH.out; have := HB3.out; show b3 < _; omega)).trans (HHc.out kk hlj 0 _ rfl)
            rw [show o3 + (kk * 4 + 0) = o3 + kk * 4 by omega] at z0
            have hsj : d.syms[kk] = symAt d kk := by unfold symAt; rw [List.getD_eq_getElem?_getD, List.getElem?_eq_getElem hlj]; rfl
            rw [hsj] at z0
            obtain ⟨sj, hsj2⟩ : ∃ x, (symAt d kk).1 = x := ⟨_, rfl⟩
            rw [hsj2] at z0
            have HSj := Lib.hid hsj2
            clear hsj hsj2 hlj
            by_cases he : sj = s
            · have HF := Lib.hid (syms_twice HLe.out hlk (by rw [HSj.out, HQ.out, he]))
              have hb : (sj.toList == s.toList) = true := by rw [beq_str, decide_eq_true he]
              clear he
              go_wp2
              go_quiet (fail)
              go_wp2
              go_ret
              exact ⟨ret_bool HF.out.symm, belq (belq HB2.out _) _⟩
            · have HD2 := Lib.hid (fun j (hj : j < kk + 1) => show (symAt d j).1 ≠ (symAt d k).1 from by
                by_cases e : j = kk
                · subst e; rw [HSj.out, HQ.out]; exact he
                · exact HD.out j (by omega))
              have hb : (sj.toList == s.toList) = false := by rw [beq_str, decide_eq_false he]
              clear he
              go_wp2
              go_quiet (fail)
              go_wp2
              go_roundw
              case rel => exact ⟨kk + 1, _, by omega, by go_num, rfl, HD2⟩
              case measure => simp [intOf]; omega
          · obtain rfl : kk = k := by omega
            have HS2 := Lib.hid (fun j (hj : j < kk + 1) => show symOkB d j = true from by
              by_cases e : j = kk
              · subst e; exact sym_yes HY.out HD.out
              · exact HS.out j (by omega))
            have HBq := Lib.hid (belq HB2.out q)
            have HXq := Lib.hid (show (wq.drewN q).heap[w.heap.size]? = some (.cells #[.slice A1 n1 c1, .slice A2 n2 c2, .slice (some ⟨b3, o3, none⟩) n3 c3, .slice A4 n4 c4, .slice A5 n5 c5] 59 (0, 0)) from HX2.out)
            clear hlk
            go_wp2
            go_roundw
            case rel => exact ⟨kk + 1, by omega, by go_num, HBq, HXq, HS2⟩
            case measure => simp [intOf]; omega
    · obtain rfl : k = n3 := by omega
      have HE := Lib.hid (show symsB d = true from range_all_yes (fun j hj => HS.out j (by rw [HN.out] at hj; exact hj)))
      clear hlt
      go_wp2
      go_ret
      exact ⟨ret_bool HE.out.symm, HW.out⟩
end Go.Proofs.YtjngkifoaljmaaaGreatDoor
namespace Go.Proofs.YtjngkifoaljmaaaGreatDoor
set_option maxRecDepth 100000
open Go.RowKit
set_option linter.unusedVariables false
theorem letB_tell {n : Nat} (hn : n < 43) : decide (letS (opS n) = ⟨#[66]⟩) = (opS n == 4) := all43 (p := fun n => decide (letS (opS n) = ⟨#[66]⟩) = (opS n == 4)) (by decide +kernel) hn
theorem nat_beq (n : Nat) : ((n : Int) == 38) = (n == 38) ∧ ((n : Int) == 16) = (n == 16) ∧ ((n : Int) == 26) = (n == 26) ∧ ((n : Int) == 28) = (n == 28) ∧ ((n : Int) == 29) = (n == 29) ∧ ((n : Int) == 31) = (n == 31) ∧ ((n : Int) == 40) = (n == 40) := by
  refine ⟨?_, ?_, ?_, ?_, ?_, ?_, ?_⟩ <;> (rw [Bool.eq_iff_iff]; simp only [beq_iff_eq]; omega)
set_option maxHeartbeats 2000000 in
theorem rsuit_yes (k v : Int) (n : Nat) (w : World) (hv : IsW v) (hn : n < 43) (hM : Match v n) :
    Calls Tryz.prog 97 #[.int .i64 k, .int .u32 v] w fun e w' => e = .returned (.bool (suitB k n)) ∧ Below w.heap.size w w' := by
  have HD := Lib.hid (rdecode_yes v n w hv hn hM)
  have HF := Lib.hid (fun w => rform_in n w hn)
  have hl := letB_tell hn
  rw [← beq_str] at hl
  generalize letS (opS n) = s at *
  generalize regI v 7 (lRd (opS n)) = q1 at *
  generalize regI v 15 (lR1 (opS n)) = q2 at *
  generalize regI v 20 (lR2 (opS n)) = q3 at *
  generalize numberI v (opS n) = q4 at *
  have hS : suitB k n = if k = 0 then n == 38 else if k = 1 then n == 16 || n == 26 || n == 28 || n == 29 || n == 31 else if k = 2 then n == 40 else if k = 3 then opS n == 4 else false := rfl
  generalize suitB k n = r at *
  generalize (opS n == 4) = o4 at *
  have HS := Lib.hid hS
  have HLt := Lib.hid hl
  clear hv hM hS hl
  go_enter Tryz.func97, Tryz.ntmps97
  go_wp2_with fail
  refine HD.out.mono ?_
  rintro e w1 ⟨rfl, hb⟩
  have HB1 := Lib.hid (fun (m : Int) => hb.trans (((Below.refl w1.heap.size w1).alloc (Nat.le_refl _) (.cells #[.int .i64 m, .int .i64 q1, .int .i64 q2, .int .i64 q3, .int .i64 q4] 49)).mono hb.size))
  clear hb HD
  go_wp2_with fail
  refine (HF.out _).mono ?_
  rintro e w' ⟨rfl, rfl⟩
  have hl := HLt.out
  cases o4
  all_goals
    go_wp2
    all_goals
      go_ret
      refine ⟨ret_bool ?_, HB1.out _⟩
      rw [HS.out]
      have e := nat_beq n
      simp_all
  all_goals try omega
end Go.Proofs.YtjngkifoaljmaaaGreatDoor
namespace Go.Proofs.YtjngkifoaljmaaaGreatDoor
set_option maxRecDepth 100000
open Go.RowKit
set_option linter.unusedVariables false
/-- what is asked of a relocation beside its place's being new -/
def relR (d : ObjD) (i : Nat) : Bool := nameB (sB (relAt d i).2.2.1) && ((relAt d i).1.tmod 4 == 0 && (inB (relAt d i).1 (4 * (d.text.length : Int) - 1) && (decide (-65536 ≤ (relAt d i).2.2.2) && (decide ((relAt d i).2.2.2 ≤ 65536) && suitB (relAt d i).2.1 (nth (opsL d.text) ((relAt d i).1 / 4).toNat).toNat))))
theorem relOk_split (d : ObjD) (i : Nat) : relOkB d i = (relR d i && (List.range i).all fun j => !decide ((relAt d j).1 = (relAt d i).1)) := by
  unfold relOkB relR
  generalize ((List.range i).all fun j => !decide ((relAt d j).1 = (relAt d i).1)) = a
  generalize suitB (relAt d i).2.1 (nth (opsL d.text) ((relAt d i).1 / 4).toNat).toNat = b
  generalize nameB (sB (relAt d i).2.2.1) = c
  generalize inB (relAt d i).1 (4 * (d.text.length : Int) - 1) = e
  generalize decide (-65536 ≤ (relAt d i).2.2.2) = f
  generalize decide ((relAt d i).2.2.2 ≤ 65536) = g
  generalize ((relAt d i).1.tmod 4 == 0) = h
  cases a <;> cases b <;> cases c <;> cases e <;> cases f <;> cases g <;> cases h <;> rfl
theorem relR_of {d : ObjD} {i n : Nat} {at_ kd ad : Int} {s : ByteArray} (h : relAt d i = (at_, kd, s, ad)) (hn : d.text.length = n) : relR d i = (nameB (sB s) && (at_.tmod 4 == 0 && ((decide (0 ≤ at_) && decide (at_ ≤ 4 * (n : Int) - 1)) && (decide (-65536 ≤ ad) && (decide (ad ≤ 65536) && suitB kd (nth (opsL d.text) (at_ / 4).toNat).toNat))))) := by
  unfold relR inB; rw [h, hn]
theorem rels_no {d : ObjD} {i : Nat} (hi : i < d.rels.length) (h : relR d i = false) : relsB d = false := range_all_no hi (by rw [relOk_split, h]; rfl)
theorem rels_twice {d : ObjD} {i j : Nat} (hi : i < d.rels.length) (hj : j < i) (h : (relAt d j).1 = (relAt d i).1) : relsB d = false := range_all_no hi (by rw [relOk_split, range_all_no hj (by simp [h])]; simp)
theorem rel_yes {d : ObjD} {i : Nat} (h : relR d i = true) (hn : ∀ j, j < i → (relAt d j).1 ≠ (relAt d i).1) : relOkB d i = true := by
  rw [relOk_split, h, range_all_yes (fun j hj => by simp [hn j hj])]; rfl
/-- what the region asks of each world in it -/
abbrev RlS (w0 : World) (hq : Nat) (v0 v1 v2 v3 v4 : Value) (at_ kd : Int) (s : ByteArray) (ad : Int) (w : World) : Prop :=
  ((w.cell? ⟨w0.heap.size, 0, none⟩ = some v0 ∧ w.cell? ⟨w0.heap.size, 3, none⟩ = some v3) ∧ w.cell? ⟨hq, 0, none⟩ = some (.int .i64 at_) ∧ w.cell? ⟨hq, 1, none⟩ = some (.int .i64 kd) ∧ w.cell? ⟨hq, 2, none⟩ = some (.string s) ∧ w.cell? ⟨hq, 3, none⟩ = some (.int .i64 ad)) ∧
  w.heap[w0.heap.size]? = some (.cells #[v0, v1, v2, v3, v4] 59 (0, 0)) ∧ w.heap[hq]? = some (.cells #[.int .i64 at_, .int .i64 kd, .string s, .int .i64 ad] 55 (0, 0)) ∧ Below w0.heap.size w0 w
section
variable {w0 w w' : World} {hq : Nat} {v0 v1 v2 v3 v4 : Value} {at_ kd : Int} {s : ByteArray} {ad : Int}
theorem rlS_of (h1 : w.heap[w0.heap.size]? = some (.cells #[v0, v1, v2, v3, v4] 59 (0, 0))) (h2 : w.heap[hq]? = some (.cells #[.int .i64 at_, .int .i64 kd, .string s, .int .i64 ad] 55 (0, 0))) (h3 : Below w0.heap.size w0 w) : RlS w0 hq v0 v1 v2 v3 v4 at_ kd s ad w := by
  obtain ⟨⟨x0, x1, x2, x3, x4⟩, _⟩ := row_cells5 h1
  have y0 := cell_of_row w hq 0 _ _ _ h2
  have y1 := cell_of_row w hq 1 _ _ _ h2
  have y2 := cell_of_row w hq 2 _ _ _ h2
  have y3 := cell_of_row w hq 3 _ _ _ h2
  simp only [List.getElem?_toArray, List.getElem?_cons_zero, List.getElem?_cons_succ] at y0 y1 y2 y3
  exact ⟨⟨⟨x0, x3⟩, y0, y1, y2, y3⟩, h1, h2, h3⟩
theorem rlS_below (h : RlS w0 hq v0 v1 v2 v3 v4 at_ kd s ad w) (hb : Below w.heap.size w w') : RlS w0 hq v0 v1 v2 v3 v4 at_ kd s ad w' := by
  obtain ⟨_, h1, h2, h3⟩ := h
  exact rlS_of ((hb.block _ (Array.getElem?_eq_some_iff.1 h1).1).trans h1) ((hb.block _ (Array.getElem?_eq_some_iff.1 h2).1).trans h2) (h3.trans (hb.mono h3.size))
theorem rlS_drew (h : RlS w0 hq v0 v1 v2 v3 v4 at_ kd s ad w) : RlS w0 hq v0 v1 v2 v3 v4 at_ kd s ad w.drew := rlS_below h (Below.drew (Below.refl _ _))
theorem rlS_drewN (h : RlS w0 hq v0 v1 v2 v3 v4 at_ kd s ad w) (n : Nat) : RlS w0 hq v0 v1 v2 v3 v4 at_ kd s ad (w.drewN n) := rlS_below h (belq (Below.refl _ _) n)
/-- the same, and a word of the text -/
abbrev RlT (w0 : World) (hq : Nat) (v0 v1 v2 v3 v4 : Value) (at_ kd : Int) (s : ByteArray) (ad : Int) (b1 p1 : Nat) (x : Int) (w : World) : Prop :=
  w.cell? ⟨b1, p1, none⟩ = some (.int .u32 x) ∧ RlS w0 hq v0 v1 v2 v3 v4 at_ kd s ad w
variable {b1 p1 : Nat} {x : Int}
theorem rlT_below (h : RlT w0 hq v0 v1 v2 v3 v4 at_ kd s ad b1 p1 x w) (hb : Below w.heap.size w w') : RlT w0 hq v0 v1 v2 v3 v4 at_ kd s ad b1 p1 x w' :=
  ⟨by rw [hb.cell (p := ⟨b1, p1, none⟩) (block_lt h.1)]; exact h.1, rlS_below h.2 hb⟩
theorem rlT_drew (h : RlT w0 hq v0 v1 v2 v3 v4 at_ kd s ad b1 p1 x w) : RlT w0 hq v0 v1 v2 v3 v4 at_ kd s ad b1 p1 x w.drew := rlT_below h (Below.drew (Below.refl _ _))
theorem rlT_drewN (h : RlT w0 hq v0 v1 v2 v3 v4 at_ kd s ad b1 p1 x w) (n : Nat) : RlT w0 hq v0 v1 v2 v3 v4 at_ kd s ad b1 p1 x (w.drewN n) := rlT_below h (belq (Below.refl _ _) n)
end
theorem opsL_nth {l : List Int} {j n : Nat} (hj : j < l.length) (h : opOf l[j] = some n) : (nth (opsL l) j).toNat = n := by
  rw [nth_get (by rw [opsL_len]; exact hj)]
  simp [opsL, h]
set_option maxHeartbeats 8000000 in
theorem rrels_any (d : ObjD) (hW : ObjW d) (v : Value) (lo hi : Nat) (w : World) (hO : ObjAt w lo hi d v) (hh : hi ≤ w.heap.size) (ht : d.text.length ≤ 4096) (hd : d.rels.length ≤ 1024) (hT : textB d.text = true) :
    Calls Tryz.prog 80 #[v] w fun e w' => e = .returned (.bool (relsB d)) ∧ Below w.heap.size w w' := by
  obtain ⟨A1, c1, A2, c2, A3, c3, A4, c4, A5, c5, es, rfl, p1, p2, p3, p4, p5, p6⟩ := hO
  obtain ⟨n1, f1⟩ : ∃ n, d.text.length = n := ⟨_, rfl⟩
  obtain ⟨n2, f2⟩ : ∃ n, d.data.length = n := ⟨_, rfl⟩
  obtain ⟨n3, f3⟩ : ∃ n, d.syms.length = n := ⟨_, rfl⟩
  obtain ⟨n4, f4⟩ : ∃ n, d.rels.length = n := ⟨_, rfl⟩
  obtain ⟨n5, f5⟩ : ∃ n, d.ents.length = n := ⟨_, rfl⟩
  rw [f1, f2, f3, f4, f5]
  have b1 : n1 ≤ 4096 := by omega
  have b4 : n4 ≤ 1024 := by omega
  have hX0 := heap_alloc_new w (.cells #[.slice A1 n1 c1, .slice A2 n2 c2, .slice A3 n3 c3, .slice A4 n4 c4, .slice A5 n5 c5] 59)
  have HB0 := Lib.hid ((Below.refl w.heap.size w).alloc (Nat.le_refl _) (.cells #[.slice A1 n1 c1, .slice A2 n2 c2, .slice A3 n3 c3, .slice A4 n4 c4, .slice A5 n5 c5] 59))
  have HX0 := Lib.hid hX0
  have HWd := Lib.hid hW
  have HTx := Lib.hid hT
  have P1 := Lib.hid p1
  have P4 := Lib.hid p4
  have HN := Lib.hid f4
  have F1 := Lib.hid f1
  have HH := Lib.hid hh
  clear p1 p2 p3 p4 p5 p6 f1 f2 f3 f4 f5 hh hX0 hW ht hd hT
  go_enter Tryz.func80, Tryz.ntmps80
  go_wp2
  go_loopw [3] (fun i wr => ∃ (k : Nat), k ≤ n4 ∧ i = .int .i64 k ∧ Hid (Below w.heap.size w wr) ∧ Hid (wr.heap[w.heap.size]? = some (.cells #[.slice A1 n1 c1, .slice A2 n2 c2, .slice A3 n3 c3, .slice A4 n4 c4, .slice A5 n5 c5] 59 (0, 0))) ∧ Hid (∀ j, j < k → relOkB d j = true)) (fun i _ => n4 - (intOf i).toNat)
  case atStart => exact ⟨0, by omega, rfl, HB0, HX0, Lib.hid (fun j hj => by omega)⟩
  case round =>
    clear HB0 HX0
    obtain ⟨k, hk, rfl, HW, HX, HS⟩ := hrel
    obtain ⟨⟨x0, x1, x2, x3, x4⟩, _⟩ := row_cells5 HX.out
    by_cases hlt : k < n4
    · have k0 : (0 : Int) ≤ k := by omega
      have k1 : (k : Int) < n4 := by omega
      have hle : k < d.rels.length := by rw [HN.out]; exact hlt
      obtain ⟨b4, o4, eA, _, hb4, hc⟩ := P4.out.at_ (sz := 4) (fun x => rfl) (by omega) (by omega)
      subst eA
      have hx := fun i v h => (HW.out.cell (p := ⟨b4, o4 + (k * 4 + i), none⟩) (by have := HH.out; show b4 < _; omega)).trans (hc k hle i v h)
      have hrl : d.rels[k] = relAt d k := by unfold relAt; rw [List.getD_eq_getElem?_getD, List.getElem?_eq_getElem hle]; rfl
      obtain ⟨⟨a, kd, s, ad⟩, hq⟩ : ∃ x, relAt d k = x := ⟨_, rfl⟩
      have hmem := HWd.out.rels _ (List.getElem_mem hle)
      rw [hrl, hq] at hmem
      rw [hrl, hq] at hx
      have y0 := hx 0 _ rfl
      have y1 := hx 1 _ rfl
      have y2 := hx 2 _ rfl
      have y3 := hx 3 _ rfl
      rw [show o4 + (k * 4 + 0) = o4 + k * 4 by omega] at y0
      rw [← Nat.add_assoc] at y1 y2 y3
      have HR := Lib.hid (relR_of hq F1.out)
      have HQ := Lib.hid hq
      have HLe := Lib.hid hle
      obtain ⟨⟨ha1, ha2⟩, hmk, hms, hm1, hm2⟩ := hmem
      have hbx := (Array.getElem?_eq_some_iff.1 HX.out).1
      have HHc := Lib.hid hc
      clear hx hrl hq hc hmk hms
      go_wp2_with fail
      have HX2 := Lib.hid ((heap_alloc_old wr (.cells #[.int .i64 a, .int .i64 kd, .string s, .int .i64 ad] 55) hbx).trans HX.out)
      have HY2 := Lib.hid (heap_alloc_new wr (.cells #[.int .i64 a, .int .i64 kd, .string s, .int .i64 ad] 55))
      have HB2 := Lib.hid (HW.out.trans (((Below.refl wr.heap.size wr).alloc (Nat.le_refl _) (.cells #[.int .i64 a, .int .i64 kd, .string s, .int .i64 ad] 55)).mono HW.out.size))
      have HB4 := Lib.hid hb4
      clear x0 x1 x2 x3 x4 y0 y1 y2 y3 HX hbx hb4
      generalize (wr.alloc (.cells #[.int .i64 a, .int .i64 kd, .string s, .int .i64 ad] 55)) = wq at *
      generalize wr.heap.size = hq at *
      clear HW
      have HSq := Lib.hid (rlS_of HX2.out HY2.out HB2.out)
      have n1I : (n1 : Int) ≤ 4096 := by omega
      cases hnb : nameB (sB s)
      case false =>
        have HF := Lib.hid (rels_no HLe.out (by rw [HR.out, hnb]; rfl))
        have HC := Lib.hid (rlS_drew HSq.out)
        refine wp_region_cls (fun w' => RlS w hq (.slice A1 n1 c1) (.slice A2 n2 c2) (.slice A3 n3 c3) (.slice (some ⟨b4, o4, none⟩) n4 c4) (.slice A5 n5 c5) a kd s ad w') HC.out (by kernel_rfl) (by kernel_rfl) ?_
        intro T hT0 V hV hE
        have HV := Lib.hid hV
        have HE := Lib.hid hE
        have z0 := fun i => (hV i).1.1.1
        have z3 := fun i => (hV i).1.1.2
        have u0 := fun i => (hV i).1.2.1
        have u1 := fun i => (hV i).1.2.2.1
        have u2 := fun i => (hV i).1.2.2.2.1
        have u3 := fun i => (hV i).1.2.2.2.2
        have HNm := Lib.hid (fun i => cls_call HV.out HE.out (fun w0 h0 => (rname_any s w0).mono (fun e w' h => ⟨h.1, (by rw [← h.2]; exact h0)⟩)) i)
        rw [hnb] at HNm
        clear hV hE hnb
        repeat (go_big_quiet_step ((go_at_call 96; exact HNm.out _)))
        refine wpQuiet_nil ?_
        rintro _ ⟨i, rfl⟩
        clear z0 z3 u0 u1 u2 u3
        go_wp2
        go_ret
        exact ⟨ret_bool HF.out.symm, (HV.out i).2.2.2⟩
      have HNb := Lib.hid hnb
      by_cases hcc : a < 0
      · have HF := Lib.hid (rels_no HLe.out (by rw [HR.out, HNb.out, decide_eq_false (by omega : ¬ 0 ≤ a)]; simp))
        have HC := Lib.hid (rlS_drew HSq.out)
        refine wp_region_cls (fun w' => RlS w hq (.slice A1 n1 c1) (.slice A2 n2 c2) (.slice A3 n3 c3) (.slice (some ⟨b4, o4, none⟩) n4 c4) (.slice A5 n5 c5) a kd s ad w') HC.out (by kernel_rfl) (by kernel_rfl) ?_
        intro T hT0 V hV hE
        have HV := Lib.hid hV
        have HE := Lib.hid hE
        have z0 := fun i => (hV i).1.1.1
        have z3 := fun i => (hV i).1.1.2
        have u0 := fun i => (hV i).1.2.1
        have u1 := fun i => (hV i).1.2.2.1
        have u2 := fun i => (hV i).1.2.2.2.1
        have u3 := fun i => (hV i).1.2.2.2.2
        have HNm := Lib.hid (fun i => cls_call HV.out HE.out (fun w0 h0 => (rname_any s w0).mono (fun e w' h => ⟨h.1, (by rw [← h.2]; exact h0)⟩)) i)
        rw [hnb] at HNm
        clear hV hE hnb
        repeat (go_big_quiet_step ((go_at_call 96; exact HNm.out _)))
        refine wpQuiet_nil ?_
        rintro _ ⟨i, rfl⟩
        clear z0 z3 u0 u1 u2 u3
        go_wp2
        go_ret
        exact ⟨ret_bool HF.out.symm, (HV.out i).2.2.2⟩
      have ha0 : 0 ≤ a := by omega
      have na0 := hcc
      have nb0 : decide (a < 0) = false := decide_eq_false hcc
      have htm : a.tmod 4 = a % 4 := Int.tmod_eq_emod_of_nonneg ha0
      rw [htm] at HR
      clear hcc
      by_cases hcc : ¬ a % 4 = 0
      · have nc4 : (a % 4 != 0) = true := bne_iff_ne.2 hcc
        have HF := Lib.hid (rels_no HLe.out (by rw [HR.out, HNb.out, (beq_eq_false_iff_ne).2 hcc]; simp))
        have HC := Lib.hid (rlS_drew HSq.out)
        refine wp_region_cls (fun w' => RlS w hq (.slice A1 n1 c1) (.slice A2 n2 c2) (.slice A3 n3 c3) (.slice (some ⟨b4, o4, none⟩) n4 c4) (.slice A5 n5 c5) a kd s ad w') HC.out (by kernel_rfl) (by kernel_rfl) ?_
        intro T hT0 V hV hE
        have HV := Lib.hid hV
        have HE := Lib.hid hE
        have z0 := fun i => (hV i).1.1.1
        have z3 := fun i => (hV i).1.1.2
        have u0 := fun i => (hV i).1.2.1
        have u1 := fun i => (hV i).1.2.2.1
        have u2 := fun i => (hV i).1.2.2.2.1
        have u3 := fun i => (hV i).1.2.2.2.2
        have HNm := Lib.hid (fun i => cls_call HV.out HE.out (fun w0 h0 => (rname_any s w0).mono (fun e w' h => ⟨h.1, (by rw [← h.2]; exact h0)⟩)) i)
        rw [hnb] at HNm
        clear hV hE hnb
        repeat (go_big_quiet_step ((go_at_call 96; exact HNm.out _)))
        refine wpQuiet_nil ?_
        rintro _ ⟨i, rfl⟩
        clear z0 z3 u0 u1 u2 u3
        go_wp2
        go_ret
        exact ⟨ret_bool HF.out.symm, (HV.out i).2.2.2⟩
      have ha4 : a % 4 = 0 := by omega
      have HM := Lib.hid ha4
      have nc4 : (a % 4 != 0) = false := by rw [ha4]; rfl
      clear hcc
      by_cases hcc : 4 * (n1 : Int) ≤ a
      · have HF := Lib.hid (rels_no HLe.out (by rw [HR.out, HNb.out, HM.out, decide_eq_false (by omega : ¬ a ≤ 4 * (n1 : Int) - 1)]; simp))
        have HC := Lib.hid (rlS_drew HSq.out)
        refine wp_region_cls (fun w' => RlS w hq (.slice A1 n1 c1) (.slice A2 n2 c2) (.slice A3 n3 c3) (.slice (some ⟨b4, o4, none⟩) n4 c4) (.slice A5 n5 c5) a kd s ad w') HC.out (by kernel_rfl) (by kernel_rfl) ?_
        intro T hT0 V hV hE
        have HV := Lib.hid hV
        have HE := Lib.hid hE
        have z0 := fun i => (hV i).1.1.1
        have z3 := fun i => (hV i).1.1.2
        have u0 := fun i => (hV i).1.2.1
        have u1 := fun i => (hV i).1.2.2.1
        have u2 := fun i => (hV i).1.2.2.2.1
        have u3 := fun i => (hV i).1.2.2.2.2
        have HNm := Lib.hid (fun i => cls_call HV.out HE.out (fun w0 h0 => (rname_any s w0).mono (fun e w' h => ⟨h.1, (by rw [← h.2]; exact h0)⟩)) i)
        rw [hnb] at HNm
        clear hV hE hnb
        repeat (go_big_quiet_step ((go_at_call 96; exact HNm.out _)))
        refine wpQuiet_nil ?_
        rintro _ ⟨i, rfl⟩
        clear z0 z3 u0 u1 u2 u3
        go_wp2
        go_ret
        exact ⟨ret_bool HF.out.symm, (HV.out i).2.2.2⟩
      have ha5 : a < 4 * (n1 : Int) := by omega
      have na5 := hcc
      have nb5 : decide (4 * (n1 : Int) ≤ a) = false := decide_eq_false hcc
      clear hcc
      by_cases hcc : ad < -65536
      · have HF := Lib.hid (rels_no HLe.out (by rw [HR.out, HNb.out, decide_eq_false (by omega : ¬ -65536 ≤ ad)]; simp))
        have HC := Lib.hid (rlS_drew HSq.out)
        refine wp_region_cls (fun w' => RlS w hq (.slice A1 n1 c1) (.slice A2 n2 c2) (.slice A3 n3 c3) (.slice (some ⟨b4, o4, none⟩) n4 c4) (.slice A5 n5 c5) a kd s ad w') HC.out (by kernel_rfl) (by kernel_rfl) ?_
        intro T hT0 V hV hE
        have HV := Lib.hid hV
        have HE := Lib.hid hE
        have z0 := fun i => (hV i).1.1.1
        have z3 := fun i => (hV i).1.1.2
        have u0 := fun i => (hV i).1.2.1
        have u1 := fun i => (hV i).1.2.2.1
        have u2 := fun i => (hV i).1.2.2.2.1
        have u3 := fun i => (hV i).1.2.2.2.2
        have HNm := Lib.hid (fun i => cls_call HV.out HE.out (fun w0 h0 => (rname_any s w0).mono (fun e w' h => ⟨h.1, (by rw [← h.2]; exact h0)⟩)) i)
        rw [hnb] at HNm
        clear hV hE hnb
        repeat (go_big_quiet_step ((go_at_call 96; exact HNm.out _)))
        refine wpQuiet_nil ?_
        rintro _ ⟨i, rfl⟩
        clear z0 z3 u0 u1 u2 u3
        go_wp2
        go_ret
        exact ⟨ret_bool HF.out.symm, (HV.out i).2.2.2⟩
      have ha6 : -65536 ≤ ad := by omega
      have na6 := hcc
      have nb6 : decide (ad < -65536) = false := decide_eq_false hcc
      clear hcc
      by_cases hcc : ad > 65536
      · have HF := Lib.hid (rels_no HLe.out (by rw [HR.out, HNb.out, decide_eq_false (by omega : ¬ ad ≤ 65536)]; simp))
        have HC := Lib.hid (rlS_drew HSq.out)
        refine wp_region_cls (fun w' => RlS w hq (.slice A1 n1 c1) (.slice A2 n2 c2) (.slice A3 n3 c3) (.slice (some ⟨b4, o4, none⟩) n4 c4) (.slice A5 n5 c5) a kd s ad w') HC.out (by kernel_rfl) (by kernel_rfl) ?_
        intro T hT0 V hV hE
        have HV := Lib.hid hV
        have HE := Lib.hid hE
        have z0 := fun i => (hV i).1.1.1
        have z3 := fun i => (hV i).1.1.2
        have u0 := fun i => (hV i).1.2.1
        have u1 := fun i => (hV i).1.2.2.1
        have u2 := fun i => (hV i).1.2.2.2.1
        have u3 := fun i => (hV i).1.2.2.2.2
        have HNm := Lib.hid (fun i => cls_call HV.out HE.out (fun w0 h0 => (rname_any s w0).mono (fun e w' h => ⟨h.1, (by rw [← h.2]; exact h0)⟩)) i)
        rw [hnb] at HNm
        clear hV hE hnb
        repeat (go_big_quiet_step ((go_at_call 96; exact HNm.out _)))
        refine wpQuiet_nil ?_
        rintro _ ⟨i, rfl⟩
        clear z0 z3 u0 u1 u2 u3
        go_wp2
        go_ret
        exact ⟨ret_bool HF.out.symm, (HV.out i).2.2.2⟩
      have ha7 : ad ≤ 65536 := by omega
      have na7 := hcc
      have nb7 : decide (65536 < ad) = false := decide_eq_false hcc
      clear hcc
      obtain ⟨j, rfl⟩ : ∃ j : Nat, a = 4 * (j : Int) := ⟨(a / 4).toNat, by omega⟩
      have hj : j < n1 := by omega
      have hjl : j < d.text.length := by rw [F1.out]; exact hj
      obtain ⟨b1', o1, eA1, _, hb1, hc1⟩ := P1.out.at_ (sz := 1) (fun x => rfl) (by omega) (by rw [F1.out]; omega)
      subst eA1
      have ht0 := (HB2.out.cell (p := ⟨b1', o1 + (j * 1 + 0), none⟩) (by have := HH.out; show b1' < _; omega)).trans (hc1 j hjl 0 _ rfl)
      rw [show o1 + (j * 1 + 0) = o1 + j by omega] at ht0
      have hop : (opOf d.text[j]).isSome = true := by
        have h := HTx.out
        unfold textB at h
        exact List.all_eq_true.1 h _ (List.getElem_mem hjl)
      obtain ⟨m, hm⟩ := Option.isSome_iff_exists.1 hop
      obtain ⟨hm43, hmat⟩ := opOf_some hm
      have hsu := opsL_nth hjl hm
      have hxw := HWd.out.text _ (List.getElem_mem hjl)
      generalize d.text[j] = x at *
      have HFc := Lib.hid (fun w0 => rsuit_yes kd x m w0 hxw hm43 hmat)
      have HRr := Lib.hid (show relR d k = suitB kd m by
        rw [HR.out, HNb.out, show 4 * (j : Int) % 4 = 0 by omega, decide_eq_true (by omega : 0 ≤ 4 * (j : Int)), decide_eq_true (by omega : 4 * (j : Int) ≤ 4 * (n1 : Int) - 1), decide_eq_true ha6, decide_eq_true ha7, show (4 * (j : Int) / 4).toNat = j by omega, hsu]; rfl)
      generalize suitB kd m = r at *
      have nd5 : ¬ n1 ≤ j := by omega
      have ne5 : decide (n1 ≤ j) = false := decide_eq_false nd5
      have e1 := tmod4 j
      have e2 := tdiv4 j
      have e3 : 0 ≤ 4 * (j : Int) := by omega
      have e5 : (j : Int) < n1 := by omega
      have e6 : 0 ≤ (j : Int) := by omega
      have e7 : IntKind.i64.wrap (j : Int) = j := IntWalk.i64_in _ (by omega)
      have HC := Lib.hid (rlT_drew (And.intro ht0 HSq.out))
      clear hm hop hsu hm43 hmat hxw ht0 hjl hb1 hc1 ha4 htm
      refine wp_region_cls (fun w' => RlT w hq (.slice (some ⟨b1', o1, none⟩) n1 c1) (.slice A2 n2 c2) (.slice A3 n3 c3) (.slice (some ⟨b4, o4, none⟩) n4 c4) (.slice A5 n5 c5) (4 * (j : Int)) kd s ad b1' (o1 + j) x w') HC.out (by kernel_rfl) (by kernel_rfl) ?_
      intro T hT0 V hV hE
      have HV := Lib.hid hV
      have HE := Lib.hid hE
      have z0 := fun i => (hV i).2.1.1.1
      have z3 := fun i => (hV i).2.1.1.2
      have u0 := fun i => (hV i).2.1.2.1
      have u1 := fun i => (hV i).2.1.2.2.1
      have u2 := fun i => (hV i).2.1.2.2.2.1
      have u3 := fun i => (hV i).2.1.2.2.2.2
      have t0 := fun i => (hV i).1
      have HNm := Lib.hid (fun i => cls_call HV.out HE.out (fun w0 h0 => (rname_any s w0).mono (fun e w' h => ⟨h.1, (by rw [← h.2]; exact h0)⟩)) i)
      have HFt := Lib.hid (fun i => cls_call HV.out HE.out (fun w0 h0 => (HFc.out w0).mono (fun e w' h => ⟨h.1, rlT_below h0 h.2⟩)) i)
      rw [hnb] at HNm
      clear hV hE hnb HFc
      cases r
      case false =>
        have HF := Lib.hid (rels_no HLe.out HRr.out)
        repeat (go_big_quiet_step ((first | (go_at_call 96; exact HNm.out _) | (go_at_call 97; exact HFt.out _))))
        refine wpQuiet_nil ?_
        rintro _ ⟨i, rfl⟩
        clear z0 z3 u0 u1 u2 u3 t0
        go_wp2
        go_ret
        exact ⟨ret_bool HF.out.symm, (HV.out i).2.2.2.2⟩
      case true =>
        repeat (go_big_quiet_step ((first | (go_at_call 96; exact HNm.out _) | (go_at_call 97; exact HFt.out _))))
        refine wpQuiet_nil ?_
        rintro _ ⟨i, rfl⟩
        clear z0 z3 u0 u1 u2 u3 t0 HNm HFt e1 e2
        obtain ⟨_, ⟨⟨x0, x3⟩, y0, _, _, _⟩, g1, g2, g3⟩ := HV.out i
        have HB3 := Lib.hid g3
        have HX3 := Lib.hid g1
        clear HV HE HX2 HY2 HB2 HSq HC g1 g2 g3
        generalize V i = wz at *
        go_wp2
        go_loopw [5] (fun i wr => ∃ (kk q : Nat), kk ≤ k ∧ i = .int .i64 kk ∧ wr = wz.drewN q ∧ Hid (∀ j, j < kk → (relAt d j).1 ≠ (relAt d k).1)) (fun i _ => k - (intOf i).toNat)
        case atStart => exact ⟨0, 0, by omega, rfl, rfl, Lib.hid (fun j hj => by omega)⟩
        case round =>
          obtain ⟨kk, q, hkk, rfl, rfl, HD⟩ := hrel
          by_cases hlk : kk < k
          · have kk0 : (0 : Int) ≤ kk := by omega
            have kk1 : (kk : Int) < n4 := by omega
            have kk2 : (kk : Int) < k := by omega
            have hlj : kk < d.rels.length := by have := HLe.out; omega
            have z0 := (HB3.out.cell (p := ⟨b4, o4 + (kk * 4 + 0), none⟩) (by have := HH.out; have := HB4.out; show b4 < _; omega)).trans (HHc.out kk hlj 0 _ rfl)
            rw [show o4 + (kk * 4 + 0) = o4 + kk * 4 by omega] at z0
            have hsj : d.rels[kk] = relAt d kk := by unfold relAt; rw [List.getD_eq_getElem?_getD, List.getElem?_eq_getElem hlj]; rfl
            rw [hsj] at z0
            obtain ⟨sj, hsj2⟩ : ∃ x, (relAt d kk).1 = x := ⟨_, rfl⟩
            rw [hsj2] at z0
            have HSj := Lib.hid hsj2
            clear hsj hsj2 hlj
            by_cases he : sj = 4 * (j : Int)
            · have HF := Lib.hid (rels_twice HLe.out hlk (by rw [HSj.out, HQ.out, he]))
              go_wp2
              go_quiet (fail)
              go_wp2
              go_ret
              exact ⟨ret_bool HF.out.symm, belq (belq HB3.out _) _⟩
            · have HD2 := Lib.hid (fun j' (hj : j' < kk + 1) => show (relAt d j').1 ≠ (relAt d k).1 from by
                by_cases e : j' = kk
                · subst e; rw [HSj.out, HQ.out]; exact he
                · exact HD.out j' (by omega))
              go_wp2
              go_quiet (fail)
              go_wp2
              go_roundw
              case rel => exact ⟨kk + 1, _, by omega, by go_num, rfl, HD2⟩
              case measure => simp [intOf]; omega
          · obtain rfl : kk = k := by omega
            have HS2 := Lib.hid (fun j' (hj : j' < kk + 1) => show relOkB d j' = true from by
              by_cases e : j' = kk
              · subst e; exact rel_yes HRr.out HD.out
              · exact HS.out j' (by omega))
            have HBq := Lib.hid (belq HB3.out q)
            have HXq := Lib.hid (show (wz.drewN q).heap[w.heap.size]? = some (.cells #[.slice (some ⟨b1', o1, none⟩) n1 c1, .slice A2 n2 c2, .slice A3 n3 c3, .slice (some ⟨b4, o4, none⟩) n4 c4, .slice A5 n5 c5] 59 (0, 0)) from HX3.out)
            clear hlk
            go_wp2
            go_roundw
            case rel => exact ⟨kk + 1, by omega, by go_num, HBq, HXq, HS2⟩
            case measure => simp [intOf]; omega
    · obtain rfl : k = n4 := by omega
      have HE := Lib.hid (show relsB d = true from range_all_yes (fun j hj => HS.out j (by rw [HN.out] at hj; exact hj)))
      clear hlt
      go_wp2
      go_ret
      exact ⟨ret_bool HE.out.symm, HW.out⟩
end Go.Proofs.YtjngkifoaljmaaaGreatDoor
