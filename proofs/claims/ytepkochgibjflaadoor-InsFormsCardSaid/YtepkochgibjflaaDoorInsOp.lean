/- Layer 2: what alike and operation of package ins answer. Conditions: the two tables read as they should. -/
import Derived.Test.YtepkochgibjflaaDoorInsMap
namespace Go.Proofs.YtepkochgibjflaaDoor
open Go.RowKit Go.Maps
set_option linter.unusedVariables false

theorem mapD_yes {f : Int} {k : Nat} (h : (opF k : Int) = f) : mapD f (k + 1) = (mapD f k).put (rowKey k) (.lit (.int .i64 k)) := by rw [mapD, if_pos h]
theorem mapD_no {f : Int} {k : Nat} (h : ¬ (opF k : Int) = f) : mapD f (k + 1) = mapD f k := by rw [mapD, if_neg h]
abbrev OwnD (w : World) (b k : Nat) (D : DataW Unit) : Prop := w.ownsMap Tryd.prog 42 (plainElem Tryd.prog 3) b k D
set_option maxHeartbeats 1000000 in
theorem alike_any (f : Int) (w : World) (hT : Tabs w) :
    Calls Tryd.prog 20 #[.int .u32 f] w fun e w' => e = .returned (.map (some w.heap.size)) ∧ OwnD w' w.heap.size 43 (mapD f 43) ∧ Below w.heap.size w w' := by
  have HT := Lib.hid hT
  have hmm := @run_makeMap Tryd.prog
  clear hT
  go_enter Tryd.func20, Tryd.ntmps20
  go_wp2
  go_loopw [6] (fun i wr => ∃ k : Nat, k ≤ 43 ∧ i = .int .i64 k ∧ OwnD wr w.heap.size k (mapD f k) ∧ Below w.heap.size w wr) (fun i _ => 43 - (intOf i).toNat)
  case atStart => exact ⟨0, by omega, rfl, World.ownsMap_made _ _ _ _, (Below.refl _ _).alloc (Nat.le_refl _) _⟩
  case round =>
    obtain ⟨k, hk, rfl, hown, hb⟩ := hrel
    have T := HT.out.below hb
    have Hb := Lib.hid hb
    clear hb hmm
    by_cases hlt : k < 43
    · have h0 : (0 : Int) ≤ k := by omega
      have h1 : (k : Int) < 43 := by omega
      have c0 := T.1 k hlt 0 (by omega)
      have c1 := T.1 k hlt 1 (by omega)
      have c2 := T.1 k hlt 2 (by omega)
      have c3 := T.1 k hlt 3 (by omega)
      simp only [nthV, opCells, Nat.add_zero, List.getD_cons_zero, List.getD_cons_succ] at c0 c1 c2 c3
      have hkey := rowKey_of hlt
      clear T
      by_cases hf : (opF k : Int) = f
      · have ht : ((opF k : Int) == f) = true := by rw [beq_iff_eq]; exact hf
        have HD := Lib.hid (mapD_yes hf)
        have wf : (Lit.int .i64 (k : Int)).wf = true := WalkArith.wf_i64 ⟨by omega, by omega⟩
        clear hf
        go_wp2_with (at_mapUpdate; refine wpList_mapUpdate_own _ rfl _ _ _ 58 rfl 42 3 lawTold Tryd.underlying58 _ w.heap.size k _ rfl hown (by unfold maxLen; omega) _ _ _ rfl rfl hkey _ [] (plainElem_int Tryd.underlying3 wf) ?_; intro w1 hown1 hgrow1)
        go_roundw
        case rel => exact ⟨k + 1, by omega, by go_num, by rw [HD.out]; exact hown1, Hb.out.grown hgrow1 Hb.out.size (fun j hj => by cases hj; exact Nat.le_refl _)⟩
        case measure => simp [intOf]; omega
      · have ht : ((opF k : Int) == f) = false := by rw [beq_eq_false_iff_ne]; exact hf
        have HD := Lib.hid (mapD_no hf)
        have hown2 := Lib.hid (hown.mono (show k ≤ k + 1 by omega))
        clear hf hown
        go_wp2
        go_roundw
        case rel => exact ⟨k + 1, by omega, by go_num, by rw [HD.out]; exact hown2.out, Hb.out⟩
        case measure => simp [intOf]; omega
    · obtain rfl : k = 43 := by omega
      have HO := Lib.hid hown
      clear hown T
      go_wp2
      go_ret
      exact ⟨rfl, HO.out, Hb.out⟩

/-- operation n is the word's -/
def Match (v : Int) (n : Nat) : Prop := (opF n : Int) = fld v 0 7 ∧ (opK n : Int) = tK v (opS n) ∧ (opR n : Int) = tR v (opS n)
theorem apart {m n : Nat} (hm : m < 43) (hn : n < 43) : m = n ∨ opF m ≠ opF n ∨ (lKd (opS m) = true ∧ lKd (opS n) = true ∧ opK m ≠ opK n) ∨ (opS m = opS n ∧ opR m ≠ opR n) :=
  all43 (p := fun m => ∀ n, n < 43 → m = n ∨ opF m ≠ opF n ∨ (lKd (opS m) = true ∧ lKd (opS n) = true ∧ opK m ≠ opK n) ∨ (opS m = opS n ∧ opR m ≠ opR n)) (by decide +kernel) hm n hn
theorem Match.one {v : Int} {m n : Nat} (hm : m < 43) (hn : n < 43) (h : Match v m) (h' : Match v n) : m = n := by
  rcases apart hm hn with e | e | ⟨e1, e2, e3⟩ | ⟨e1, e2⟩
  · exact e
  · have := h.1; have := h'.1; omega
  · have a := h.2.1
    have b := h'.2.1
    unfold tK at a b
    rw [e1] at a
    rw [e2] at b
    simp at a b
    omega
  · have a := h.2.2
    have b := h'.2.2
    rw [e1] at a
    omega
theorem isT_fld {v : Int} (f n : Int) (hv : IsW v) : IsT (fld v f n) := isW_fld f n hv
theorem isT_tK {v : Int} (s : Nat) (hv : IsW v) : IsT (tK v s) := by
  unfold tK
  split
  · exact isT_fld _ _ hv
  · exact ⟨by omega, by omega⟩
theorem isT_tR {v : Int} (s : Nat) (hv : IsW v) : IsT (tR v s) := isT_fld _ _ hv
/-- what the look-up at shape s finds -/
theorem found_iff {v : Int} (hv : IsW v) {s : Nat} (hs : s < 8) : Maps.has (mapD (fld v 0 7) 43) (tKey s (fld v 0 7) (tK v s) (tR v s)) = true ↔ ∃ n, n < 43 ∧ opS n = s ∧ Match v n := by
  rw [mapD_has]
  constructor
  · rintro ⟨n, hn, hf, hk⟩
    obtain ⟨b0, b1, b2, b3⟩ := op_bd hn
    have := tKey_inj ⟨by omega, by omega⟩ ⟨by omega, by omega⟩ ⟨by omega, by omega⟩ ⟨by omega, by omega⟩ ⟨by omega, by omega⟩ (isT_fld _ _ hv) (isT_tK s hv) (isT_tR s hv) hk
    obtain ⟨e0, e1, e2, e3⟩ := this
    have e : opS n = s := by omega
    exact ⟨n, hn, e, e1, by rw [e]; exact e2, by rw [e]; exact e3⟩
  · rintro ⟨n, hn, hs, h⟩
    refine ⟨n, hn, h.1, ?_⟩
    unfold rowKey
    rw [hs, h.1, h.2.1, h.2.2, hs]
theorem found_not {v : Int} (hv : IsW v) {s : Nat} (hs : s < 8) (h : ∀ n, n < 43 → opS n = s → ¬ Match v n) : Maps.has (mapD (fld v 0 7) 43) (tKey s (fld v 0 7) (tK v s) (tR v s)) = false := by
  cases e : Maps.has (mapD (fld v 0 7) 43) (tKey s (fld v 0 7) (tK v s) (tR v s)) with
  | false => rfl
  | true =>
    obtain ⟨n, hn, h1, h2⟩ := (found_iff hv hs).1 e
    exact absurd h2 (h n hn h1)
theorem found_at {v : Int} {n : Nat} (hn : n < 43) (h : Match v n) (z : DataW Unit) : (mapD (fld v 0 7) 43).atKey (tKey (opS n) (fld v 0 7) (tK v (opS n)) (tR v (opS n))) z = .lit (.int .i64 n) := by
  have := mapD_at (fld v 0 7) z hn h.1 43 hn (Nat.le_refl _)
  rw [← this]
  unfold rowKey
  rw [h.1, h.2.1, h.2.2]
/-- a map that the call owns, behind whatever leaves all that was there -/
theorem OwnD.below {w w' : World} {b k : Nat} {D : DataW Unit} (h : OwnD w b k D) (hb : Below w.heap.size w w') : OwnD w' b k D := by
  obtain ⟨es, clock, h1, h2⟩ := h
  have lt : b < w.heap.size := (Array.getElem?_eq_some_iff.1 h1).1
  exact ⟨es, clock, by rw [hb.block b lt]; exact h1, h2⟩
theorem lit_int {a b : Int} (h : (DataW.lit (.int .i64 a) : DataW Unit) = .lit (.int .i64 b)) : a = b := by simpa using h
theorem ret_ib {a b : Int} {c : Bool} (h : a = b) : Ending.returned (.tuple #[.int .i64 a, .bool c]) = Ending.returned (.tuple #[.int .i64 b, .bool c]) := by rw [h]
def OpS (w w' : World) (b : Nat) (f : Int) : Prop := Tabs w' ∧ OwnD w' b 43 (mapD f 43) ∧ Below w.heap.size w w'
theorem OpS.below {w w1 w2 : World} {b : Nat} {f : Int} (h : OpS w w1 b f) (hb : Below w1.heap.size w1 w2) : OpS w w2 b f := ⟨h.1.below hb, h.2.1.below hb, h.2.2.trans (hb.mono h.2.2.size)⟩
theorem OpS.tabs {w w1 : World} {b : Nat} {f : Int} (h : OpS w w1 b f) : Tabs w1 := h.1
theorem OpS.own {w w1 : World} {b : Nat} {f : Int} (h : OpS w w1 b f) : OwnD w1 b 43 (mapD f 43) := h.2.1
theorem OpS.bel {w w1 : World} {b : Nat} {f : Int} (h : OpS w w1 b f) : Below w.heap.size w w1 := h.2.2
/-- a round in which nothing is found -/
theorem look_no {v : Int} (hv : IsW v) {s : Nat} (hs : s < 8) : keyOf Tryd.prog 42 (.agg #[.int .i64 s, .int .u32 (fld v 0 7), .int .u32 (tK v s), .int .u32 (tR v s)]) = some (tKey s (fld v 0 7) (tK v s) (tR v s)) :=
  tKey_of _ _ _ _ ⟨by omega, by omega⟩ (isT_fld _ _ hv) (isT_tK s hv) (isT_tR s hv)
set_option maxHeartbeats 1000000 in
theorem operation_no (v : Int) (w : World) (hv : IsW v) (hT : Tabs w) (hn : ∀ n, n < 43 → ¬ Match v n) :
    Calls Tryd.prog 13 #[.int .u32 v] w fun e w' => e = .returned (.tuple #[.int .i64 0, .bool false]) ∧ Below w.heap.size w w' := by
  have HT := Lib.hid hT
  have HN := Lib.hid hn
  clear hT hn
  go_enter Tryd.func13, Tryd.ntmps13
  go_wp2_with fail
  refine (wfield_drew v 0 7 hv (by omega) (by omega) (by omega) _).mono ?_
  rintro e w' ⟨rfl, rfl⟩
  go_wp2_with fail
  refine (alike_any (fld v 0 7) _ (HT.out.drewN 1)).mono ?_
  rintro e w1 ⟨rfl, hown, hb⟩
  have HS := Lib.hid (show OpS w w1 w.heap.size (fld v 0 7) from ⟨(HT.out.drewN 1).below hb, hown, (Below.drew (Below.refl _ _)).trans hb⟩)
  clear hown hb HT
  go_wp2_with fail
  go_loopw [11] (fun i wr => ∃ s : Nat, s ≤ 8 ∧ i = .int .i64 s ∧ OpS w wr w.heap.size (fld v 0 7)) (fun i _ => 8 - (intOf i).toNat)
  case atStart => exact ⟨0, by omega, rfl, HS.out⟩
  case round =>
    obtain ⟨s, hk, rfl, hS⟩ := hrel
    have HS1 := Lib.hid hS
    clear hS
    by_cases hlt : s < 8
    · have h0 : (0 : Int) ≤ s := by omega
      have h1 : (s : Int) < 8 := by omega
      have hh := found_not hv hlt (fun n hn _ => HN.out n hn)
      have hkey := look_no hv hlt
      go_wp2_with (first | (go_at_call 21; (with_reducible refine (readTold_any v s _ hv hlt HS1.out.tabs).mono ?_); rintro e w2 ⟨rfl, hb2⟩; have HS2 := Lib.hid (HS1.out.below hb2); clear hb2) | (at_lookup; refine wpList_lookup_own_ok_int _ rfl _ _ 58 rfl 42 3 .i64 lawTold Tryd.underlying58 Tryd.underlying3 (zeroInt _) w.heap.size 43 (mapD (fld v 0 7) 43) rfl HS2.out.own _ _ rfl hkey ?_; intro c hat hwc; clear hat hwc))
      go_roundw
      case rel => exact ⟨s + 1, by omega, by go_num, HS2.out⟩
      case measure => simp [intOf]; omega
    · obtain rfl : s = 8 := by omega
      go_wp2
      go_ret2
      exact ⟨rfl, HS1.out.bel⟩
set_option maxHeartbeats 1000000 in
theorem operation_yes (v : Int) (n : Nat) (w : World) (hv : IsW v) (hT : Tabs w) (hn : n < 43) (hM : Match v n) :
    Calls Tryd.prog 13 #[.int .u32 v] w fun e w' => e = .returned (.tuple #[.int .i64 n, .bool true]) ∧ Below w.heap.size w w' := by
  have HT := Lib.hid hT
  have HM := Lib.hid hM
  have hsn := opS_lt hn
  clear hT hM
  go_enter Tryd.func13, Tryd.ntmps13
  go_wp2_with fail
  refine (wfield_drew v 0 7 hv (by omega) (by omega) (by omega) _).mono ?_
  rintro e w' ⟨rfl, rfl⟩
  go_wp2_with fail
  refine (alike_any (fld v 0 7) _ (HT.out.drewN 1)).mono ?_
  rintro e w1 ⟨rfl, hown, hb⟩
  have HS := Lib.hid (show OpS w w1 w.heap.size (fld v 0 7) from ⟨(HT.out.drewN 1).below hb, hown, (Below.drew (Below.refl _ _)).trans hb⟩)
  clear hown hb HT
  go_wp2_with fail
  go_loopw [11] (fun i wr => ∃ s : Nat, s ≤ opS n ∧ i = .int .i64 s ∧ OpS w wr w.heap.size (fld v 0 7)) (fun i _ => 8 - (intOf i).toNat)
  case atStart => exact ⟨0, by omega, rfl, HS.out⟩
  case round =>
    obtain ⟨s, hk, rfl, hS⟩ := hrel
    have HS1 := Lib.hid hS
    clear hS
    have hlt : s < 8 := by omega
    have h0 : (0 : Int) ≤ s := by omega
    have h1 : (s : Int) < 8 := by omega
    have hkey := look_no hv hlt
    by_cases hs : s < opS n
    · have hh := found_not hv hlt (fun m hm he h => by
        have := Match.one hm hn h HM.out
        subst this
        omega)
      go_wp2_with (first | (go_at_call 21; (with_reducible refine (readTold_any v s _ hv hlt HS1.out.tabs).mono ?_); rintro e w2 ⟨rfl, hb2⟩; have HS2 := Lib.hid (HS1.out.below hb2); clear hb2) | (at_lookup; refine wpList_lookup_own_ok_int _ rfl _ _ 58 rfl 42 3 .i64 lawTold Tryd.underlying58 Tryd.underlying3 (zeroInt _) w.heap.size 43 (mapD (fld v 0 7) 43) rfl HS2.out.own _ _ rfl hkey ?_; intro c hat hwc; clear hat hwc))
      go_roundw
      case rel => exact ⟨s + 1, by omega, by go_num, HS2.out⟩
      case measure => simp [intOf]; omega
    · have he : opS n = s := by omega
      have hh : Maps.has (mapD (fld v 0 7) 43) (tKey s (fld v 0 7) (tK v s) (tR v s)) = true := (found_iff hv hlt).2 ⟨n, hn, he, HM.out⟩
      have Hat := Lib.hid (found_at (z := .lit (.int .i64 0)) hn HM.out)
      rw [he] at Hat
      clear he hk hs
      go_wp2_with (first | (go_at_call 21; (with_reducible refine (readTold_any v s _ hv hlt HS1.out.tabs).mono ?_); rintro e w2 ⟨rfl, hb2⟩; have HS2 := Lib.hid (HS1.out.below hb2); clear hb2) | (at_lookup; refine wpList_lookup_own_ok_int _ rfl _ _ 58 rfl 42 3 .i64 lawTold Tryd.underlying58 Tryd.underlying3 (zeroInt _) w.heap.size 43 (mapD (fld v 0 7) 43) rfl HS2.out.own _ _ rfl hkey ?_; intro c hat hwc; have Hc := Lib.hid (lit_int (hat.symm.trans Hat.out)); clear hat hwc))
      go_ret2
      exact ⟨ret_ib Hc.out, HS2.out.bel⟩
end Go.Proofs.YtepkochgibjflaaDoor
