/- The walk of the statement ObjNames. Condition: the tables of package ins read as they should. -/
import Derived.Test.YtfdpbogbnfkilaaDoorObjAwk
import Derived.Test.YtfdpbogbnfkilaaDoorInsLays
namespace Go.Proofs.YtfdpbogbnfkilaaDoor.ObjNamesWalk
set_option maxRecDepth 100000
open Go.RowKit
set_option linter.unusedVariables false
/-- the first n letters -/
def abL (n : Nat) : List Int := (List.range n).map fun (i : Nat) => (97 : Int) + i
theorem abL_len (n : Nat) : (abL n).length = n := by simp [abL]
theorem abL_nth {n i : Nat} (h : i < n) : nth (abL n) i = 97 + i := by simp [abL, nth, h]
theorem abL_all {n : Nat} (h : n ≤ 24) : AllB (abL n) := by
  intro x hx
  simp only [abL, List.mem_map, List.mem_range] at hx
  obtain ⟨i, hi, rfl⟩ := hx
  omega
def abRow (n k : Nat) : List Value := (List.range n).map fun (i : Nat) => Value.int .u8 (if i < k then 97 + i else 0)
theorem abRow_zero (n : Nat) : abRow n 0 = (madeCells (Value.int .u8 0).cells (n * 1)).toList := by
  unfold abRow madeCells
  simp [Value.cells, Nat.mod_one]
theorem abRow_set (n k : Nat) (h : k < n) : (abRow n k).set k (.int .u8 (97 + (k : Int))) = abRow n (k + 1) := by
  refine List.ext_getElem (by simp [abRow]) fun i h1 h2 => ?_
  simp only [List.getElem_set, abRow, List.getElem_map, List.getElem_range]
  by_cases e : k = i
  · subst e; simp
  · rw [if_neg e]
    by_cases h3 : i < k
    · rw [if_pos h3, if_pos (by omega)]
    · rw [if_neg h3, if_neg (by omega)]
theorem abRow_end (n : Nat) : abRow n n = (abL n).map (Value.int .u8) := by
  unfold abRow abL
  rw [List.map_map]
  apply List.map_congr_left
  intro i hi
  simp at hi
  simp [hi]
theorem sl_of_own {w : World} {base g n c : Nat} {e : TypeId} {l : List Int} (h : w.ownsRow base e 1 (.slice (some ⟨g, 0, none⟩) n c) n (l.map (Value.int .u8))) : Sl w (some ⟨g, 0, none⟩) l := by
  refine .inr ⟨g, 0, rfl, fun k hk => ?_⟩
  have hl : l.length = n := by have := h.1; rw [List.length_map] at this; omega
  rw [Nat.zero_add, h.cellAt k (by omega), List.getElem?_map, List.getElem?_eq_getElem hk, nth_get hk]; rfl
theorem ab_name {n : Nat} (h1 : 1 ≤ n) (h2 : n ≤ 24) : nameB (abL n) = true := by
  have h : (List.range 25).all (fun n => n == 0 || nameB (abL n)) = true := by decide +kernel
  have := List.all_eq_true.1 h n (List.mem_range.2 (by omega))
  simp only [Bool.or_eq_true, beq_iff_eq] at this
  rcases this with e | e
  · omega
  · exact e
theorem ab_set {n j : Nat} {c : Int} (h1 : 1 ≤ n) (h2 : n ≤ 24) (hj : j < n) : nameB ((abL n).set j c) = (letB c || (digB c && decide (0 < j))) := by
  have hl : ((abL n).set j c).length = n := by rw [List.length_set, abL_len]
  have h0 : nth ((abL n).set j c) 0 = if j = 0 then c else 97 := by
    unfold nth
    rw [List.getD_eq_getElem?_getD, List.getElem?_set]
    by_cases e : j = 0
    · subst e; simp [abL_len, show 0 < n by omega]
    · rw [if_neg e, if_neg e]
      have := abL_nth (n := n) (i := 0) (by omega)
      unfold nth at this
      rw [List.getD_eq_getElem?_getD] at this
      rw [this]; rfl
  have hall : ((abL n).set j c).all chrB = chrB c := by
    rw [Bool.eq_iff_iff, List.all_eq_true]
    constructor
    · intro h
      exact h c (List.mem_iff_getElem.2 ⟨j, by rw [hl]; exact hj, by simp⟩)
    · intro h x hx
      obtain ⟨i, hi, rfl⟩ := List.mem_iff_getElem.1 hx
      rw [List.getElem_set]
      by_cases e : j = i
      · rw [if_pos e]; exact h
      · rw [if_neg e]
        have hi' : i < n := by rw [hl] at hi; exact hi
        simp only [abL, List.getElem_map, List.getElem_range]
        unfold chrB letB
        have e1 : decide ((97 : Int) ≤ 97 + i) = true := decide_eq_true (by omega)
        have e2 : decide ((97 : Int) + i ≤ 122) = true := decide_eq_true (by omega)
        rw [e1, e2]; simp
  unfold nameB
  rw [hl, h0, hall, decide_eq_true h1, decide_eq_true h2]
  by_cases e : j = 0
  · subst e
    simp only [if_true, Nat.lt_irrefl, decide_false, Bool.and_false, Bool.or_false, Bool.true_and]
    unfold chrB
    cases hd : digB c with
    | false => simp
    | true =>
      have : letB c = false := by
        unfold digB at hd
        simp only [Bool.and_eq_true, decide_eq_true_eq] at hd
        unfold letB
        rw [decide_eq_false (by omega : ¬ (97 : Int) ≤ c), (beq_eq_false_iff_ne).2 (by omega : c ≠ 95)]; rfl
      rw [this]; rfl
  · rw [if_neg e, decide_eq_true (by omega : 0 < j)]
    unfold chrB
    rw [show digB 97 = false from rfl]
    simp [Bool.or_comm]
theorem classes (c : Int) : (c ≥ 97 ∧ c ≤ 122 ∧ c ≥ 48 ∧ decide (c ≤ 57) = false ∧ letB c = true ∧ digB c = false) ∨ (c ≥ 97 ∧ decide (c ≤ 122) = false ∧ (c == 95) = false ∧ c ≥ 48 ∧ decide (c ≤ 57) = false ∧ letB c = false ∧ digB c = false) ∨
    (decide (c ≥ 97) = false ∧ (c == 95) = true ∧ c ≥ 48 ∧ decide (c ≤ 57) = false ∧ letB c = true ∧ digB c = false) ∨ (decide (c ≥ 97) = false ∧ (c == 95) = false ∧ c ≥ 48 ∧ decide (c ≤ 57) = false ∧ letB c = false ∧ digB c = false) ∨
    (decide (c ≥ 97) = false ∧ (c == 95) = false ∧ c ≥ 48 ∧ c ≤ 57 ∧ letB c = false ∧ digB c = true) ∨ (decide (c ≥ 97) = false ∧ (c == 95) = false ∧ decide (c ≥ 48) = false ∧ letB c = false ∧ digB c = false) := by
  unfold letB digB
  simp only [decide_eq_false_iff_not, beq_iff_eq, beq_eq_false_iff_ne, Bool.and_eq_true, Bool.or_eq_true, decide_eq_true_eq, Bool.and_eq_false_iff, Bool.or_eq_false_iff, Bool.or_eq_true]
  omega
set_option maxHeartbeats 4000000 in
theorem walk (a0 a1 a2 : Int) (w : World) (w0 : (Lit.int .u8 a0).wf = true) (w1 : (Lit.int .u8 a1).wf = true) (w2 : (Lit.int .u8 a2).wf = true) (hT : Tabs w) :
    Calls Tryd.prog 6 #[.int .u8 a0, .int .u8 a1, .int .u8 a2] w fun e w' => e = .returned (.bool true) ∧ Below w.heap.size w w' := by
  obtain ⟨b0, b0'⟩ := bounds_u8 w0
  obtain ⟨b1, b1'⟩ := bounds_u8 w1
  obtain ⟨b2, b2'⟩ := bounds_u8 w2
  obtain ⟨k, hk⟩ : ∃ k : Nat, 1 + a0 % 24 = (k : Int) := ⟨(1 + a0 % 24).toNat, by omega⟩
  have k1 : 1 ≤ k := by omega
  have k24 : k ≤ 24 := by omega
  have HK := Lib.hid hk
  have HT := Lib.hid hT
  obtain ⟨i0, hi, hz0, hz1, hz2⟩ := info_parts info5
  clear w0 w1 w2 hT
  go_enter Tryd.func6, Tryd.ntmps6
  go_wp2_with fail
  refine (awake_any _ HT.out).mono ?_
  rintro e wa ⟨rfl, hba⟩
  have HBa := Lib.hid hba
  clear hba
  go_wp2_with (refine wpList_make_full _ rfl _ _ 35 rfl wa.heap.size 5 i0 (.int .u8 0) 1 Tryd.underlying35 hi hz0 hz1 .i64 .i64 _ _ k rfl rfl rfl rfl (by rw [hz2]; omega) (by unfold maxLen; omega) (Nat.le_refl _) ?_; intro w1 hown hgrow)
  rw [← abRow_zero k] at hown
  have hbel := HBa.out.trans (((Below.refl wa.heap.size wa).grown hgrow (Nat.le_refl _) (by simp)).mono HBa.out.size)
  clear hk
  go_loopw [9] (fun i wr => ∃ q : Nat, q ≤ k ∧ i = .int .i64 q ∧ wr.ownsRow wa.heap.size 5 1 (.slice (some ⟨wa.heap.size, 0, none⟩) k k) k (abRow k q) ∧ Below w.heap.size w wr) (fun i _ => k - (intOf i).toNat)
  case atStart => exact ⟨0, by omega, rfl, hown, hbel⟩
  case round =>
    clear hown hbel hgrow
    obtain ⟨q, hq, rfl, hown, hbel⟩ := hrel
    by_cases hlt : q < k
    · have i0 : (0 : Int) ≤ q := by omega
      have i1 : (q : Int) < k := by omega
      have hc : wr.cell? ⟨wa.heap.size, q, none⟩ = some (.int .u8 0) := by
        rw [hown.cellAt q (by omega)]; simp [abRow, hlt]
      have hf := hown.frozenAt q
      have Hown := Lib.hid (hown.stored q (.int .u8 (97 + (q : Int))))
      have Hbel := Lib.hid (hbel.setCell (p := ⟨wa.heap.size, q, none⟩) (HBa.out.size) (.int .u8 (97 + (q : Int))))
      clear hown hbel
      go_wp2
      go_roundw
      case rel =>
        refine ⟨q + 1, by omega, by go_num, ?_⟩
        rw [← abRow_set k q hlt]
        exact ⟨Hown.out.1, Hbel.out⟩
      case measure => simp [intOf]; omega
    · have i1 : ¬ (q : Int) < k := by omega
      have hqk : q = k := by omega
      have hown2 : wr.ownsRow wa.heap.size 5 1 (.slice (some ⟨wa.heap.size, 0, none⟩) k k) k ((abL k).map (Value.int .u8)) := by rw [← abRow_end, ← hqk]; rw [hqk]; rw [hqk] at hown; exact hown
      have HOwn := Lib.hid hown2
      have HB := Lib.hid hbel
      have hcv := str_sl (c := k) (sl_of_own hown2) (abL_len k) (abL_all k24)
      have HNm1 := Lib.hid (show nameB (sB (toBA (abL k))) = true by rw [sB_toBA (abL_all k24)]; exact ab_name k1 k24)
      clear hown hown2 hbel hqk hlt
      obtain ⟨j, hj⟩ : ∃ j : Nat, a2 % (k : Int) = (j : Int) := ⟨(a2 % (k : Int)).toNat, by have := Int.emod_nonneg a2 (show (k : Int) ≠ 0 by omega); omega⟩
      have hjk : j < k := by have := Int.emod_lt_of_pos a2 (show (0 : Int) < k by omega); omega
      have hjk2 : (j : Int) < k := by omega
      have hj0 : (0 : Int) ≤ j := by omega
      have hkz : ¬ (k : Int) = 0 := by omega
      have hkp : (0 : Int) < k := by omega
      have hcell := HOwn.out.cellAt j (by omega)
      rw [List.getElem?_map, List.getElem?_eq_getElem (by rw [abL_len]; exact hjk)] at hcell
      have hfr := HOwn.out.frozenAt j
      have HSt := Lib.hid (HOwn.out.stored j (.int .u8 a1))
      have HB3 := Lib.hid (HB.out.setCell (p := ⟨wa.heap.size, j, none⟩) HBa.out.size (.int .u8 a1))
      have hls : ((abL k).set j a1).length = k := by rw [List.length_set, abL_len]
      have hsa : AllB ((abL k).set j a1) := fun x hx => by
        rcases List.mem_or_eq_of_mem_set hx with h | h
        · exact abL_all k24 x h
        · subst h; omega
      have HOw2 := Lib.hid (show (wr.setCell ⟨wa.heap.size, j, none⟩ (.int .u8 a1)).ownsRow wa.heap.size 5 1 (.slice (some ⟨wa.heap.size, 0, none⟩) k k) k (((abL k).set j a1).map (Value.int .u8)) by (have h := HSt.out.1; rw [List.map_set]; exact h))
      have hcv2 := str_sl (c := k) (sl_of_own HOw2.out) hls hsa
      have HNm2 := Lib.hid (show nameB (sB (toBA ((abL k).set j a1))) = (letB a1 || (digB a1 && decide (0 < j))) by rw [sB_toBA hsa]; exact ab_set k1 k24 hjk)
      clear hls hsa
      have HB4 := HB3
      by_cases h24 : k = 24
      · have hkt : ((k : Int) == 24) = true := by rw [beq_iff_eq]; omega
        have HCat := Lib.hid (show nameB (sB (toBA (abL k) ++ ⟨#[97]⟩)) = false from nameB_long (by rw [sB_len, ByteArray.size_append, toBA_size, abL_len, h24]; decide))
        have hsz : (toBA (abL k)).size ≤ 9223372036854775806 := by rw [toBA_size, abL_len]; omega
        have hcat : ∀ w : World, (binOp .add 9 (.string (toBA (abL k))) (.string ⟨#[97]⟩)).run Tryd.prog w = .ok (.string (toBA (abL k) ++ ⟨#[97]⟩)) w := fun w => by simp [go_sem, hsz]
        clear h24
        go_wp2_with fail
        refine (name_any _ _).mono ?_
        rw [HNm1.out]
        rintro e w' ⟨rfl, rfl⟩
        go_wp2_with fail
        refine (name_any _ _).mono ?_
        rw [HCat.out]
        rintro e w' ⟨rfl, rfl⟩
        clear hkt hcat hcv hsz
        rcases classes a1 with ⟨e1, e2, e3, e4, l1, l2⟩ | ⟨e1, e2, e5, e3, e4, l1, l2⟩ | ⟨e1, e2, e3, e4, l1, l2⟩ | ⟨e1, e2, e3, e4, l1, l2⟩ | ⟨e1, e2, e3, e4, l1, l2⟩ | ⟨e1, e2, e3, l1, l2⟩
        all_goals
          rw [l1, l2] at HNm2
          clear l1 l2
          by_cases hj1 : 0 < j
          all_goals
            first | (have hj2 : (j : Int) > 0 := by omega) | (obtain rfl : j = 0 := by omega)
            try rw [show ((0 : Nat) : Int) = 0 from rfl] at hj hjk2 hj0
            have HNm := HNm2
            simp only [hj1, decide_true, decide_false, Bool.and_true, Bool.and_false, Bool.or_true, Bool.or_false] at HNm
            clear hj1
            go_wp2_with fail
            refine (name_any _ _).mono ?_
            rw [HNm.out]
            rintro e w' ⟨rfl, rfl⟩
            go_wp2_with fail
            refine (name_any ⟨#[]⟩ _).mono ?_
            rw [show nameB (sB ⟨#[]⟩) = false by decide +kernel]
            rintro e w' ⟨rfl, rfl⟩
            go_wp2
            go_ret
            exact ⟨rfl, HB4.out⟩
      · have hkt : ((k : Int) == 24) = false := by rw [beq_eq_false_iff_ne]; omega
        have hkn : ¬ (k : Int) = 24 := by omega
        clear h24
        go_wp2_with fail
        refine (name_any _ _).mono ?_
        rw [HNm1.out]
        rintro e w' ⟨rfl, rfl⟩
        clear hkt hcv
        rcases classes a1 with ⟨e1, e2, e3, e4, l1, l2⟩ | ⟨e1, e2, e5, e3, e4, l1, l2⟩ | ⟨e1, e2, e3, e4, l1, l2⟩ | ⟨e1, e2, e3, e4, l1, l2⟩ | ⟨e1, e2, e3, e4, l1, l2⟩ | ⟨e1, e2, e3, l1, l2⟩
        all_goals
          rw [l1, l2] at HNm2
          clear l1 l2
          by_cases hj1 : 0 < j
          all_goals
            first | (have hj2 : (j : Int) > 0 := by omega) | (obtain rfl : j = 0 := by omega)
            try rw [show ((0 : Nat) : Int) = 0 from rfl] at hj hjk2 hj0
            have HNm := HNm2
            simp only [hj1, decide_true, decide_false, Bool.and_true, Bool.and_false, Bool.or_true, Bool.or_false] at HNm
            clear hj1
            go_wp2_with fail
            refine (name_any _ _).mono ?_
            rw [HNm.out]
            rintro e w' ⟨rfl, rfl⟩
            go_wp2_with fail
            refine (name_any ⟨#[]⟩ _).mono ?_
            rw [show nameB (sB ⟨#[]⟩) = false by decide +kernel]
            rintro e w' ⟨rfl, rfl⟩
            go_wp2
            go_ret
            exact ⟨rfl, HB4.out⟩
end Go.Proofs.YtfdpbogbnfkilaaDoor.ObjNamesWalk
