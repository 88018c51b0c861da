/- Layer 6: names: what Name of package obj and of the reference answer. -/
import Derived.Test.YtfdpbogbnfkilaaDoorBitA
import Derived.Laws.Strings
import Derived.Deep.QuietTactic
namespace Go.Proofs.YtfdpbogbnfkilaaDoor
set_option maxRecDepth 100000
open Go.RowKit
set_option linter.unusedVariables false
/-- a string's bytes, as numbers -/
def sB (s : ByteArray) : List Int := s.data.toList.map (fun b => (b.toNat : Int))
theorem sB_len (s : ByteArray) : (sB s).length = s.size := by unfold sB; simp
theorem sB_nth (s : ByteArray) (i : Nat) (h : i < s.size) : nth (sB s) i = (s[i]'h).toNat := by
  rw [nth_get (by rw [sB_len]; exact h)]
  unfold sB
  simp
  rfl
theorem sB_all (s : ByteArray) : AllB (sB s) := by
  intro x hx
  unfold sB at hx
  obtain ⟨b, _, rfl⟩ := List.mem_map.1 hx
  have := b.toNat_lt
  omega
theorem run_ix {P : Program} (w : World) (t : TypeId) (s : ByteArray) (i : Int) (h : P.underlying t = some .string) (h0 : 0 ≤ i) (h1 : i < s.size) : (Instr.index t (.string s) (.int .i64 i)).run P w = .ok (.int .u8 (nth (sB s) i.toNat)) w := by
  rw [run_index_string w t s .i64 i h, dif_pos ⟨h0, h1⟩, sB_nth s i.toNat (by omega)]
def digB (c : Int) : Bool := decide (48 ≤ c) && decide (c ≤ 57)
def letB (c : Int) : Bool := (decide (97 ≤ c) && decide (c ≤ 122)) || c == 95
def chrB (c : Int) : Bool := digB c || letB c
def nameB (l : List Int) : Bool := decide (1 ≤ l.length) && decide (l.length ≤ 24) && !digB (nth l 0) && l.all chrB
theorem isDigit_any (c : Int) (w : World) : Calls Tryd.prog 39 #[.int .u8 c] w fun e w' => e = .returned (.bool (digB c)) ∧ w = w' := by
  by_cases h1 : c ≥ 48
  · go_enter Tryd.func39, Tryd.ntmps39
    go_wp2
    go_ret
    exact ⟨by unfold digB; simp [h1], rfl⟩
  · have d1 : decide (c ≥ 48) = false := by rw [decide_eq_false_iff_not]; exact h1
    go_enter Tryd.func39, Tryd.ntmps39
    go_wp2
    go_ret
    exact ⟨by unfold digB; simp; omega, rfl⟩
theorem isLetter_any (c : Int) (w : World) : Calls Tryd.prog 40 #[.int .u8 c] w fun e w' => e = .returned (.bool (letB c)) ∧ w = w' := by
  by_cases h1 : c ≥ 97
  · by_cases h2 : c ≤ 122
    · go_enter Tryd.func40, Tryd.ntmps40
      go_wp2
      go_ret
      exact ⟨by unfold letB; simp [h1, h2], rfl⟩
    · have d2 : decide (c ≤ 122) = false := by rw [decide_eq_false_iff_not]; exact h2
      go_enter Tryd.func40, Tryd.ntmps40
      go_wp2
      go_ret
      exact ⟨by unfold letB; simp [h1, d2], rfl⟩
  · have d1 : decide (c ≥ 97) = false := by rw [decide_eq_false_iff_not]; exact h1
    go_enter Tryd.func40, Tryd.ntmps40
    go_wp2
    go_ret
    exact ⟨by unfold letB; rw [show decide (97 ≤ c) = false from d1]; simp, rfl⟩
theorem all_to {l : List Int} (h : ∀ i, i < l.length → chrB (nth l i) = true) : l.all chrB = true := by
  rw [List.all_eq_true]
  intro x hx
  obtain ⟨i, hi, rfl⟩ := List.getElem_of_mem hx
  rw [← nth_get hi]
  exact h i hi
theorem all_no {l : List Int} {i : Nat} (hi : i < l.length) (h : chrB (nth l i) = false) : l.all chrB = false := by
  rw [← Bool.not_eq_true, List.all_eq_true]
  intro h'
  have := h' _ (List.getElem_mem hi)
  rw [nth_get hi] at h
  rw [h] at this
  cases this
theorem nameB_short {l : List Int} (h : l.length < 1) : nameB l = false := by
  unfold nameB
  rw [show decide (1 ≤ l.length) = false by rw [decide_eq_false_iff_not]; omega]; rfl
theorem nameB_long {l : List Int} (h : 24 < l.length) : nameB l = false := by
  unfold nameB
  rw [show decide (l.length ≤ 24) = false by rw [decide_eq_false_iff_not]; omega]; simp
theorem nameB_dig {l : List Int} (h : digB (nth l 0) = true) : nameB l = false := by unfold nameB; rw [h]; simp
theorem nameB_mid {l : List Int} (h1 : 1 ≤ l.length) (h2 : l.length ≤ 24) (h : digB (nth l 0) = false) : nameB l = l.all chrB := by
  unfold nameB
  rw [h, show decide (1 ≤ l.length) = true by rw [decide_eq_true_iff]; exact h1, show decide (l.length ≤ 24) = true by rw [decide_eq_true_iff]; exact h2]; rfl
set_option maxHeartbeats 1000000 in
theorem name_any (s : ByteArray) (w : World) : Calls Tryd.prog 16 #[.string s] w fun e w' => e = .returned (.bool (nameB (sB s))) ∧ w = w' := by
  have hl := sB_len s
  have hix := fun (w : World) (i : Int) (h0 : 0 ≤ i) (h1 : i < s.size) => run_ix (P := Tryd.prog) w 9 s i Tryd.underlying9 h0 h1
  by_cases c1 : (s.size : Int) < 1
  · have HR := Lib.hid (nameB_short (l := sB s) (by omega))
    clear hl hix
    go_enter Tryd.func16, Tryd.ntmps16
    go_wp2
    go_ret
    exact ⟨ret_bool HR.out.symm, rfl⟩
  by_cases c2 : (s.size : Int) > 24
  · have HR := Lib.hid (nameB_long (l := sB s) (by omega))
    clear hl hix
    go_enter Tryd.func16, Tryd.ntmps16
    go_wp2
    go_ret
    exact ⟨ret_bool HR.out.symm, rfl⟩
  have hx0 := fun w => hix w 0 (by omega) (by omega)
  rw [show (0 : Int).toNat = 0 from rfl] at hx0
  have HL := Lib.hid hl
  have HC := Lib.hid (And.intro c1 c2)
  cases hd : digB (nth (sB s) 0) with
  | true =>
    have HR := Lib.hid (nameB_dig hd)
    have HD := Lib.hid hd
    clear hl hix hd
    go_enter Tryd.func16, Tryd.ntmps16
    go_wp2_with fail
    refine (isDigit_any _ _).mono ?_
    rw [HD.out]
    rintro e w' ⟨rfl, rfl⟩
    go_wp2
    go_ret
    exact ⟨ret_bool HR.out.symm, rfl⟩
  | false =>
    have HR := Lib.hid (nameB_mid (l := sB s) (by omega) (by omega) hd)
    have HD := Lib.hid hd
    have HI := Lib.hid hix
    clear hl hix hd
    obtain ⟨n, hn⟩ : ∃ n : Nat, s.size = n := ⟨_, rfl⟩
    go_enter Tryd.func16, Tryd.ntmps16
    go_wp2_with fail
    refine (isDigit_any _ _).mono ?_
    rw [HD.out]
    rintro e w' ⟨rfl, rfl⟩
    clear hx0
    go_wp2
    go_loop [19] (fun i => ∃ k : Nat, k ≤ n ∧ i = .int .i64 k ∧ Hid (∀ j, j < k → chrB (nth (sB s) j) = true)) (fun i => n - (intOf i).toNat)
    case atStart => exact ⟨0, by omega, rfl, Lib.hid (fun j hj => by omega)⟩
    case round =>
      obtain ⟨k, hk, rfl, HK⟩ := hrel
      by_cases hlt : k < n
      · have k0 : (0 : Int) ≤ k := by omega
        have k1 : (k : Int) < n := by omega
        have hx := fun w => HI.out w k k0 (by omega)
        rw [show ((k : Int)).toNat = k by omega] at hx
        have HX := Lib.hid (show k < (sB s).length by rw [HL.out]; omega)
        have HKn := Lib.hid (fun (h : chrB (nth (sB s) k) = true) j (hj : j < k + 1) => show chrB (nth (sB s) j) = true from by
          by_cases e : j = k
          · subst e; exact h
          · exact HK.out j (by omega))
        obtain ⟨c, hc⟩ : ∃ c, nth (sB s) k = c := ⟨_, rfl⟩
        rw [hc] at hx HKn
        have HCc := Lib.hid hc
        clear hc HK
        cases h1 : digB c with
        | true =>
          have H1 := Lib.hid h1
          clear h1
          go_wp2_with fail
          refine (isDigit_any _ _).mono ?_
          rw [H1.out]
          rintro e w' ⟨rfl, rfl⟩
          have HN := Lib.hid (HKn.out (by unfold chrB; rw [H1.out]; rfl))
          clear hx HKn
          go_wp2
          go_round
          case rel => exact ⟨k + 1, by omega, by go_num, HN⟩
          case measure => simp [intOf]; omega
        | false =>
          have H1 := Lib.hid h1
          clear h1
          cases h2 : letB c with
          | true =>
            have H2 := Lib.hid h2
            clear h2
            go_wp2_with fail
            refine (isDigit_any _ _).mono ?_
            rw [H1.out]
            rintro e w' ⟨rfl, rfl⟩
            go_wp2_with fail
            refine (isLetter_any _ _).mono ?_
            rw [H2.out]
            rintro e w' ⟨rfl, rfl⟩
            have HN := Lib.hid (HKn.out (by unfold chrB; rw [H1.out, H2.out]; rfl))
            clear hx HKn
            go_wp2
            go_round
            case rel => exact ⟨k + 1, by omega, by go_num, HN⟩
            case measure => simp [intOf]; omega
          | false =>
            have H2 := Lib.hid h2
            clear h2
            go_wp2_with fail
            refine (isDigit_any _ _).mono ?_
            rw [H1.out]
            rintro e w' ⟨rfl, rfl⟩
            go_wp2_with fail
            refine (isLetter_any _ _).mono ?_
            rw [H2.out]
            rintro e w' ⟨rfl, rfl⟩
            have HZ := Lib.hid (show nameB (sB s) = false from by rw [HR.out]; exact all_no HX.out (by rw [HCc.out]; unfold chrB; rw [H1.out, H2.out]; rfl))
            clear hx HKn
            go_wp2
            go_ret
            exact ⟨ret_bool HZ.out.symm, rfl⟩
      · obtain rfl : k = n := by omega
        have HZ := Lib.hid (show nameB (sB s) = true from by rw [HR.out]; exact all_to (fun i hi => HK.out i (by rw [HL.out] at hi; omega)))
        clear HK
        go_wp2
        go_ret
        exact ⟨ret_bool HZ.out.symm, rfl⟩
set_option maxHeartbeats 2000000 in
theorem rname_any (s : ByteArray) (w : World) : Calls Tryd.prog 17 #[.string s] w fun e w' => e = .returned (.bool (nameB (sB s))) ∧ w = w' := by
  have hl := sB_len s
  have hix := fun (w : World) (i : Int) (h0 : 0 ≤ i) (h1 : i < s.size) => run_ix (P := Tryd.prog) w 9 s i Tryd.underlying9 h0 h1
  by_cases c1 : (s.size : Int) < 1
  · have HR := Lib.hid (nameB_short (l := sB s) (by omega))
    clear hl hix
    go_enter Tryd.func17, Tryd.ntmps17
    go_wp2
    go_ret
    exact ⟨ret_bool HR.out.symm, rfl⟩
  by_cases c2 : (s.size : Int) > 24
  · have HR := Lib.hid (nameB_long (l := sB s) (by omega))
    clear hl hix
    go_enter Tryd.func17, Tryd.ntmps17
    go_wp2
    go_ret
    exact ⟨ret_bool HR.out.symm, rfl⟩
  have hx0 := fun w => hix w 0 (by omega) (by omega)
  rw [show (0 : Int).toNat = 0 from rfl] at hx0
  have HL := Lib.hid hl
  cases hd : digB (nth (sB s) 0) with
  | true =>
    have HR := Lib.hid (nameB_dig hd)
    obtain ⟨c, hc⟩ : ∃ c, nth (sB s) 0 = c := ⟨_, rfl⟩
    rw [hc] at hd hx0
    have d1 : c ≥ 48 := by unfold digB at hd; simp at hd; omega
    have d2 : c ≤ 57 := by unfold digB at hd; simp at hd; omega
    clear hl hix hd hc
    go_enter Tryd.func17, Tryd.ntmps17
    go_wp2
    go_ret
    exact ⟨ret_bool HR.out.symm, rfl⟩
  | false =>
    have HR := Lib.hid (nameB_mid (l := sB s) (by omega) (by omega) hd)
    have HI := Lib.hid hix
    obtain ⟨n, hn⟩ : ∃ n : Nat, s.size = n := ⟨_, rfl⟩
    have hs0 : (∃ c, nth (sB s) 0 = c ∧ decide (c ≥ 48) = false) ∨ ∃ c, nth (sB s) 0 = c ∧ c ≥ 48 ∧ decide (c ≤ 57) = false := by
      unfold digB at hd
      by_cases h : nth (sB s) 0 ≥ 48
      · exact .inr ⟨_, rfl, h, by rw [decide_eq_false_iff_not]; intro h2; simp at hd; omega⟩
      · exact .inl ⟨_, rfl, by rw [decide_eq_false_iff_not]; exact h⟩
    clear hl hix hd
    rcases hs0 with ⟨c, hc, d1⟩ | ⟨c, hc, d0, d1⟩
    all_goals
      rw [hc] at hx0
      clear hc
      go_enter Tryd.func17, Tryd.ntmps17
      go_wp2
      clear hx0
      try clear d0
      clear d1
      go_loop [3] (fun i => ∃ k : Nat, k ≤ n ∧ i = .int .i64 k ∧ Hid (∀ j, j < k → chrB (nth (sB s) j) = true)) (fun i => n - (intOf i).toNat)
      case atStart => exact ⟨0, by omega, rfl, Lib.hid (fun j hj => by omega)⟩
      case round =>
        obtain ⟨k, hk, rfl, HK⟩ := hrel
        by_cases hlt : k < n
        · have k0 : (0 : Int) ≤ k := by omega
          have k1 : (k : Int) < n := by omega
          have hx := fun w => HI.out w k k0 (by omega)
          rw [show ((k : Int)).toNat = k by omega] at hx
          have HX := Lib.hid (show k < (sB s).length by rw [HL.out]; omega)
          have HKn := Lib.hid (fun (h : chrB (nth (sB s) k) = true) j (hj : j < k + 1) => show chrB (nth (sB s) j) = true from by
            by_cases e : j = k
            · subst e; exact h
            · exact HK.out j (by omega))
          obtain ⟨c, hc⟩ : ∃ c, nth (sB s) k = c := ⟨_, rfl⟩
          rw [hc] at hx HKn
          have HCc := Lib.hid hc
          clear hc HK
          have cases6 : (chrB c = true ∧ ((c ≥ 97 ∧ c ≤ 122) ∨ (c ≥ 97 ∧ decide (c ≤ 122) = false ∧ c ≥ 48 ∧ c ≤ 57 ) ∨ (decide (c ≥ 97) = false ∧ c ≥ 48 ∧ c ≤ 57) ∨ (decide (c ≥ 97) = false ∧ c ≥ 48 ∧ decide (c ≤ 57) = false ∧ (c == 95) = true))) ∨ (chrB c = false ∧ ((c ≥ 97 ∧ decide (c ≤ 122) = false ∧ c ≥ 48 ∧ decide (c ≤ 57) = false ∧ (c == 95) = false) ∨ (decide (c ≥ 97) = false ∧ decide (c ≥ 48) = false ∧ (c == 95) = false) ∨ (decide (c ≥ 97) = false ∧ c ≥ 48 ∧ decide (c ≤ 57) = false ∧ (c == 95) = false))) := by
            simp only [decide_eq_false_iff_not, beq_iff_eq, beq_eq_false_iff_ne]
            cases hcb : chrB c with
            | true =>
              unfold chrB digB letB at hcb
              simp at hcb
              exact .inl ⟨rfl, by omega⟩
            | false =>
              unfold chrB digB letB at hcb
              simp at hcb
              exact .inr ⟨rfl, by omega⟩
          rcases cases6 with ⟨hcb, ⟨e1, e2⟩ | ⟨e1, e2, e3, e4⟩ | ⟨e1, e2, e3⟩ | ⟨e1, e2, e3, e4⟩⟩ | ⟨hcb, ⟨e1, e2, e3, e4, e5⟩ | ⟨e1, e2, e3⟩ | ⟨e1, e2, e3, e4⟩⟩
          all_goals
            have HCb := Lib.hid hcb
            clear hcb
            first
            | (have HN := Lib.hid (HKn.out HCb.out)
               clear HKn
               go_wp2
               go_round
               case rel => exact ⟨k + 1, by omega, by go_num, HN⟩
               case measure => simp [intOf]; omega)
            | (have HZ := Lib.hid (show nameB (sB s) = false from by rw [HR.out]; exact all_no HX.out (by rw [HCc.out]; exact HCb.out))
               clear HKn
               go_wp2
               go_ret
               exact ⟨ret_bool HZ.out.symm, rfl⟩)
        · obtain rfl : k = n := by omega
          have HZ := Lib.hid (show nameB (sB s) = true from by rw [HR.out]; exact all_to (fun i hi => HK.out i (by rw [HL.out] at hi; omega)))
          clear HK
          go_wp2
          go_ret
          exact ⟨ret_bool HZ.out.symm, rfl⟩
end Go.Proofs.YtfdpbogbnfkilaaDoor
