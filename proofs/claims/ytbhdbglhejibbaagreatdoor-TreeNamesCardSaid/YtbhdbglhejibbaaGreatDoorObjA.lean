/- Layer 6: names: what Name of package obj and of the reference answer.
   Layer 6: a string appended to a row of the call's own.
   Layer 6: the map of what was seen: keys that are things (a kind, a name, a place), values that are numbers.
   Layer 6: the writer of package obj: numbers and names, put behind what is there.
   Layer 6: the writer of package obj: a Rel, a Sym, an Entry, put behind what is there.
   Layer 6: the parts of package obj's looking that ask for nothing: within, fewEnough, paramsMay.
   Layer 6: which relocation suits which operation. Condition: the tables of package ins read as they should.
   Layer 6: the looker's first: a thing is put down where it was not seen.
   Layer 6: the looker's sym.
   Layer 6: look: a looker with nothing seen.
   Layer 6: the looker's rel. Condition: the tables of package ins read as they should. -/
import Derived.Test.YtbhdbglhejibbaaGreatDoorBitA
import Derived.Laws.Strings
import Derived.Deep.QuietTactic
import Derived.Laws.AppendOwn
import Derived.Maps.AppendAt
import Derived.Maps.OwnSet
import Derived.Maps.OwnOps
import Derived.Maps.Views
import Derived.DeepKeys4
import Derived.Deep.RegionLaw
import Derived.Deep.RegionHeld3
import Derived.BigQuiet
import Derived.BigRegion
import Derived.RegionTactic
import Derived.StillTailTactics
import Derived.WalkSpells
import Derived.IntWalk
import Derived.Test.YtbhdbglhejibbaaGreatDoorInsA
namespace Go.Proofs.YtbhdbglhejibbaaGreatDoor
set_option maxRecDepth 100000
open Go.RowKit
set_option linter.unusedVariables false
/-- a string's bytes, as numbers -/
def sB (s : ByteArray) : List Int := s.data.toList.map (fun b => (b.toNat : Int))
theorem sB_len (s : ByteArray) : (sB s).length = s.size := by unfold sB; simp
theorem sB_nth (s : ByteArray) (i : Nat) (h : i < s.size) : nth (sB s) i = (s[i]'h).toNat := by
  rw [nth_get (by rw [sB_len]; exact h)]
  unfold sB
  simp
  rfl
theorem sB_all (s : ByteArray) : AllB (sB s) := by
  intro x hx
  unfold sB at hx
  obtain ⟨b, _, rfl⟩ := List.mem_map.1 hx
  have := b.toNat_lt
  omega
theorem run_ix {P : Program} (w : World) (t : TypeId) (s : ByteArray) (i : Int) (h : P.underlying t = some .string) (h0 : 0 ≤ i) (h1 : i < s.size) : (Instr.index t (.string s) (.int .i64 i)).run P w = .ok (.int .u8 (nth (sB s) i.toNat)) w := by
  rw [run_index_string w t s .i64 i h, dif_pos ⟨h0, h1⟩, sB_nth s i.toNat (by omega)]
def digB (c : Int) : Bool := decide (48 ≤ c) && decide (c ≤ 57)
def letB (c : Int) : Bool := (decide (97 ≤ c) && decide (c ≤ 122)) || c == 95
def chrB (c : Int) : Bool := digB c || letB c
def nameB (l : List Int) : Bool := decide (1 ≤ l.length) && decide (l.length ≤ 24) && !digB (nth l 0) && l.all chrB
theorem isDigit_any (c : Int) (w : World) : Calls Tryz.prog 113 #[.int .u8 c] w fun e w' => e = .returned (.bool (digB c)) ∧ w = w' := by
  by_cases h1 : c ≥ 48
  · go_enter Tryz.func113, Tryz.ntmps113
    go_wp2
    go_ret
    exact ⟨by unfold digB; simp [h1], rfl⟩
  · have d1 : decide (c ≥ 48) = false := by rw [decide_eq_false_iff_not]; exact h1
    go_enter Tryz.func113, Tryz.ntmps113
    go_wp2
    go_ret
    exact ⟨by unfold digB; simp; omega, rfl⟩
theorem isLetter_any (c : Int) (w : World) : Calls Tryz.prog 114 #[.int .u8 c] w fun e w' => e = .returned (.bool (letB c)) ∧ w = w' := by
  by_cases h1 : c ≥ 97
  · by_cases h2 : c ≤ 122
    · go_enter Tryz.func114, Tryz.ntmps114
      go_wp2
      go_ret
      exact ⟨by unfold letB; simp [h1, h2], rfl⟩
    · have d2 : decide (c ≤ 122) = false := by rw [decide_eq_false_iff_not]; exact h2
      go_enter Tryz.func114, Tryz.ntmps114
      go_wp2
      go_ret
      exact ⟨by unfold letB; simp [h1, d2], rfl⟩
  · have d1 : decide (c ≥ 97) = false := by rw [decide_eq_false_iff_not]; exact h1
    go_enter Tryz.func114, Tryz.ntmps114
    go_wp2
    go_ret
    exact ⟨by unfold letB; rw [show decide (97 ≤ c) = false from d1]; simp, rfl⟩
theorem all_to {l : List Int} (h : ∀ i, i < l.length → chrB (nth l i) = true) : l.all chrB = true := by
  rw [List.all_eq_true]
  intro x hx
  obtain ⟨i, hi, rfl⟩ := List.getElem_of_mem hx
  rw [← nth_get hi]
  exact h i hi
theorem all_no {l : List Int} {i : Nat} (hi : i < l.length) (h : chrB (nth l i) = false) : l.all chrB = false := by
  rw [← Bool.not_eq_true, List.all_eq_true]
  intro h'
  have := h' _ (List.getElem_mem hi)
  rw [nth_get hi] at h
  rw [h] at this
  cases this
theorem nameB_short {l : List Int} (h : l.length < 1) : nameB l = false := by
  unfold nameB
  rw [show decide (1 ≤ l.length) = false by rw [decide_eq_false_iff_not]; omega]; rfl
theorem nameB_long {l : List Int} (h : 24 < l.length) : nameB l = false := by
  unfold nameB
  rw [show decide (l.length ≤ 24) = false by rw [decide_eq_false_iff_not]; omega]; simp
theorem nameB_dig {l : List Int} (h : digB (nth l 0) = true) : nameB l = false := by unfold nameB; rw [h]; simp
theorem nameB_mid {l : List Int} (h1 : 1 ≤ l.length) (h2 : l.length ≤ 24) (h : digB (nth l 0) = false) : nameB l = l.all chrB := by
  unfold nameB
  rw [h, show decide (1 ≤ l.length) = true by rw [decide_eq_true_iff]; exact h1, show decide (l.length ≤ 24) = true by rw [decide_eq_true_iff]; exact h2]; rfl
set_option maxHeartbeats 1000000 in
theorem name_any (s : ByteArray) (w : World) : Calls Tryz.prog 95 #[.string s] w fun e w' => e = .returned (.bool (nameB (sB s))) ∧ w = w' := by
  have hl := sB_len s
  have hix := fun (w : World) (i : Int) (h0 : 0 ≤ i) (h1 : i < s.size) => run_ix (P := Tryz.prog) w 9 s i Tryz.underlying9 h0 h1
  by_cases c1 : (s.size : Int) < 1
  · have HR := Lib.hid (nameB_short (l := sB s) (by omega))
    clear hl hix
    go_enter Tryz.func95, Tryz.ntmps95
    go_wp2
    go_ret
    exact ⟨ret_bool HR.out.symm, rfl⟩
  by_cases c2 : (s.size : Int) > 24
  · have HR := Lib.hid (nameB_long (l := sB s) (by omega))
    clear hl hix
    go_enter Tryz.func95, Tryz.ntmps95
    go_wp2
    go_ret
    exact ⟨ret_bool HR.out.symm, rfl⟩
  have hx0 := fun w => hix w 0 (by omega) (by omega)
  rw [show (0 : Int).toNat = 0 from rfl] at hx0
  have HL := Lib.hid hl
  have HC := Lib.hid (And.intro c1 c2)
  cases hd : digB (nth (sB s) 0) with
  | true =>
    have HR := Lib.hid (nameB_dig hd)
    have HD := Lib.hid hd
    clear hl hix hd
    go_enter Tryz.func95, Tryz.ntmps95
    go_wp2_with fail
    refine (isDigit_any _ _).mono ?_
    rw [HD.out]
    rintro e w' ⟨rfl, rfl⟩
    go_wp2
    go_ret
    exact ⟨ret_bool HR.out.symm, rfl⟩
  | false =>
    have HR := Lib.hid (nameB_mid (l := sB s) (by omega) (by omega) hd)
    have HD := Lib.hid hd
    have HI := Lib.hid hix
    clear hl hix hd
    obtain ⟨n, hn⟩ : ∃ n : Nat, s.size = n := ⟨_, rfl⟩
    go_enter Tryz.func95, Tryz.ntmps95
    go_wp2_with fail
    refine (isDigit_any _ _).mono ?_
    rw [HD.out]
    rintro e w' ⟨rfl, rfl⟩
    clear hx0
    go_wp2
    go_loop [19] (fun i => ∃ k : Nat, k ≤ n ∧ i = .int .i64 k ∧ Hid (∀ j, j < k → chrB (nth (sB s) j) = true)) (fun i => n - (intOf i).toNat)
    case atStart => exact ⟨0, by omega, rfl, Lib.hid (fun j hj => by omega)⟩
    case round =>
      obtain ⟨k, hk, rfl, HK⟩ := hrel
      by_cases hlt : k < n
      · have k0 : (0 : Int) ≤ k := by omega
        have k1 : (k : Int) < n := by omega
        have hx := fun w => HI.out w k k0 (by omega)
        rw [show ((k : Int)).toNat = k by omega] at hx
        have HX := Lib.hid (show k < (sB s).length by rw [HL.out]; omega)
        have HKn := Lib.hid (fun (h : chrB (nth (sB s) k) = true) j (hj : j < k + 1) => show chrB (nth (sB s) j) = true from by
          by_cases e : j = k
          · subst e; exact h
          · exact HK.out j (by omega))
        obtain ⟨c, hc⟩ : ∃ c, nth (sB s) k = c := ⟨_, rfl⟩
        rw [hc] at hx HKn
        have HCc := Lib.hid hc
        clear hc HK
        cases h1 : digB c with
        | true =>
          have H1 := Lib.hid h1
          clear h1
          go_wp2_with fail
          refine (isDigit_any _ _).mono ?_
          rw [H1.out]
          rintro e w' ⟨rfl, rfl⟩
          have HN := Lib.hid (HKn.out (by unfold chrB; rw [H1.out]; rfl))
          clear hx HKn
          go_wp2
          go_round
          case rel => exact ⟨k + 1, by omega, by go_num, HN⟩
          case measure => simp [intOf]; omega
        | false =>
          have H1 := Lib.hid h1
          clear h1
          cases h2 : letB c with
          | true =>
            have H2 := Lib.hid h2
            clear h2
            go_wp2_with fail
            refine (isDigit_any _ _).mono ?_
            rw [H1.out]
            rintro e w' ⟨rfl, rfl⟩
            go_wp2_with fail
            refine (isLetter_any _ _).mono ?_
            rw [H2.out]
            rintro e w' ⟨rfl, rfl⟩
            have HN := Lib.hid (HKn.out (by unfold chrB; rw [H1.out, H2.out]; rfl))
            clear hx HKn
            go_wp2
            go_round
            case rel => exact ⟨k + 1, by omega, by go_num, HN⟩
            case measure => simp [intOf]; omega
          | false =>
            have H2 := Lib.hid h2
            clear h2
            go_wp2_with fail
            refine (isDigit_any _ _).mono ?_
            rw [H1.out]
            rintro e w' ⟨rfl, rfl⟩
            go_wp2_with fail
            refine (isLetter_any _ _).mono ?_
            rw [H2.out]
            rintro e w' ⟨rfl, rfl⟩
            have HZ := Lib.hid (show nameB (sB s) = false from by rw [HR.out]; exact all_no HX.out (by rw [HCc.out]; unfold chrB; rw [H1.out, H2.out]; rfl))
            clear hx HKn
            go_wp2
            go_ret
            exact ⟨ret_bool HZ.out.symm, rfl⟩
      · obtain rfl : k = n := by omega
        have HZ := Lib.hid (show nameB (sB s) = true from by rw [HR.out]; exact all_to (fun i hi => HK.out i (by rw [HL.out] at hi; omega)))
        clear HK
        go_wp2
        go_ret
        exact ⟨ret_bool HZ.out.symm, rfl⟩
set_option maxHeartbeats 2000000 in
theorem rname_any (s : ByteArray) (w : World) : Calls Tryz.prog 19 #[.string s] w fun e w' => e = .returned (.bool (nameB (sB s))) ∧ w = w' := by
  have hl := sB_len s
  have hix := fun (w : World) (i : Int) (h0 : 0 ≤ i) (h1 : i < s.size) => run_ix (P := Tryz.prog) w 9 s i Tryz.underlying9 h0 h1
  by_cases c1 : (s.size : Int) < 1
  · have HR := Lib.hid (nameB_short (l := sB s) (by omega))
    clear hl hix
    go_enter Tryz.func19, Tryz.ntmps19
    go_wp2
    go_ret
    exact ⟨ret_bool HR.out.symm, rfl⟩
  by_cases c2 : (s.size : Int) > 24
  · have HR := Lib.hid (nameB_long (l := sB s) (by omega))
    clear hl hix
    go_enter Tryz.func19, Tryz.ntmps19
    go_wp2
    go_ret
    exact ⟨ret_bool HR.out.symm, rfl⟩
  have hx0 := fun w => hix w 0 (by omega) (by omega)
  rw [show (0 : Int).toNat = 0 from rfl] at hx0
  have HL := Lib.hid hl
  cases hd : digB (nth (sB s) 0) with
  | true =>
    have HR := Lib.hid (nameB_dig hd)
    obtain ⟨c, hc⟩ : ∃ c, nth (sB s) 0 = c := ⟨_, rfl⟩
    rw [hc] at hd hx0
    have d1 : c ≥ 48 := by unfold digB at hd; simp at hd; omega
    have d2 : c ≤ 57 := by unfold digB at hd; simp at hd; omega
    clear hl hix hd hc
    go_enter Tryz.func19, Tryz.ntmps19
    go_wp2
    go_ret
    exact ⟨ret_bool HR.out.symm, rfl⟩
  | false =>
    have HR := Lib.hid (nameB_mid (l := sB s) (by omega) (by omega) hd)
    have HI := Lib.hid hix
    obtain ⟨n, hn⟩ : ∃ n : Nat, s.size = n := ⟨_, rfl⟩
    have hs0 : (∃ c, nth (sB s) 0 = c ∧ decide (c ≥ 48) = false) ∨ ∃ c, nth (sB s) 0 = c ∧ c ≥ 48 ∧ decide (c ≤ 57) = false := by
      unfold digB at hd
      by_cases h : nth (sB s) 0 ≥ 48
      · exact .inr ⟨_, rfl, h, by rw [decide_eq_false_iff_not]; intro h2; simp at hd; omega⟩
      · exact .inl ⟨_, rfl, by rw [decide_eq_false_iff_not]; exact h⟩
    clear hl hix hd
    rcases hs0 with ⟨c, hc, d1⟩ | ⟨c, hc, d0, d1⟩
    all_goals
      rw [hc] at hx0
      clear hc
      go_enter Tryz.func19, Tryz.ntmps19
      go_wp2
      clear hx0
      try clear d0
      clear d1
      go_loop [3] (fun i => ∃ k : Nat, k ≤ n ∧ i = .int .i64 k ∧ Hid (∀ j, j < k → chrB (nth (sB s) j) = true)) (fun i => n - (intOf i).toNat)
      case atStart => exact ⟨0, by omega, rfl, Lib.hid (fun j hj => by omega)⟩
      case round =>
        obtain ⟨k, hk, rfl, HK⟩ := hrel
        by_cases hlt : k < n
        · have k0 : (0 : Int) ≤ k := by omega
          have k1 : (k : Int) < n := by omega
          have hx := fun w => HI.out w k k0 (by omega)
          rw [show ((k : Int)).toNat = k by omega] at hx
          have HX := Lib.hid (show k < (sB s).length by rw [HL.out]; omega)
          have HKn := Lib.hid (fun (h : chrB (nth (sB s) k) = true) j (hj : j < k + 1) => show chrB (nth (sB s) j) = true from by
            by_cases e : j = k
            · subst e; exact h
            · exact HK.out j (by omega))
          obtain ⟨c, hc⟩ : ∃ c, nth (sB s) k = c := ⟨_, rfl⟩
          rw [hc] at hx HKn
          have HCc := Lib.hid hc
          clear hc HK
          have cases6 : (chrB c = true ∧ ((c ≥ 97 ∧ c ≤ 122) ∨ (c ≥ 97 ∧ decide (c ≤ 122) = false ∧ c ≥ 48 ∧ c ≤ 57 ) ∨ (decide (c ≥ 97) = false ∧ c ≥ 48 ∧ c ≤ 57) ∨ (decide (c ≥ 97) = false ∧ c ≥ 48 ∧ decide (c ≤ 57) = false ∧ (c == 95) = true))) ∨ (chrB c = false ∧ ((c ≥ 97 ∧ decide (c ≤ 122) = false ∧ c ≥ 48 ∧ decide (c ≤ 57) = false ∧ (c == 95) = false) ∨ (decide (c ≥ 97) = false ∧ decide (c ≥ 48) = false ∧ (c == 95) = false) ∨ (decide (c ≥ 97) = false ∧ c ≥ 48 ∧ decide (c ≤ 57) = false ∧ (c == 95) = false))) := by
            simp only [decide_eq_false_iff_not, beq_iff_eq, beq_eq_false_iff_ne]
            cases hcb : chrB c with
            | true =>
              unfold chrB digB letB at hcb
              simp at hcb
              exact .inl ⟨rfl, by omega⟩
            | false =>
              unfold chrB digB letB at hcb
              simp at hcb
              exact .inr ⟨rfl, by omega⟩
          rcases cases6 with ⟨hcb, ⟨e1, e2⟩ | ⟨e1, e2, e3, e4⟩ | ⟨e1, e2, e3⟩ | ⟨e1, e2, e3, e4⟩⟩ | ⟨hcb, ⟨e1, e2, e3, e4, e5⟩ | ⟨e1, e2, e3⟩ | ⟨e1, e2, e3, e4⟩⟩
          all_goals
            have HCb := Lib.hid hcb
            clear hcb
            first
            | (have HN := Lib.hid (HKn.out HCb.out)
               clear HKn
               go_wp2
               go_round
               case rel => exact ⟨k + 1, by omega, by go_num, HN⟩
               case measure => simp [intOf]; omega)
            | (have HZ := Lib.hid (show nameB (sB s) = false from by rw [HR.out]; exact all_no HX.out (by rw [HCc.out]; exact HCb.out))
               clear HKn
               go_wp2
               go_ret
               exact ⟨ret_bool HZ.out.symm, rfl⟩)
        · obtain rfl : k = n := by omega
          have HZ := Lib.hid (show nameB (sB s) = true from by rw [HR.out]; exact all_to (fun i hi => HK.out i (by rw [HL.out] at hi; omega)))
          clear HK
          go_wp2
          go_ret
          exact ⟨ret_bool HZ.out.symm, rfl⟩
end Go.Proofs.YtbhdbglhejibbaaGreatDoor
namespace Go.Proofs.YtbhdbglhejibbaaGreatDoor
set_option maxRecDepth 100000
open Go.RowKit
set_option linter.unusedVariables false
/-- a string's bytes, as cells -/
def sC (s : ByteArray) : List Value := (sB s).map (Value.int .u8)
theorem sC_len (s : ByteArray) : (sC s).length = s.size := by unfold sC; rw [List.length_map, sB_len]
theorem sC_data (s : ByteArray) : (s.data.map (fun b => Value.int .u8 b.toNat)) = (sC s).toArray := by
  apply Array.ext'
  simp [sC, sB]
section
variable {P : Program} (w : World)
theorem first_str (size n : Nat) (s : ByteArray) (h : n = s.size) : (Builtin.firstCells size n (.string s)).run P w = .ok (sC s).toArray w := by
  subst h
  have hx : (s.extract 0 s.size).data = s.data := by
    have : s.extract 0 s.size = s := by simp
    rw [this]
  simp only [Builtin.firstCells, hx, Sem.run_pure]
  rw [sC_data]
theorem run_append_str (base : Nat) (t u ty e : TypeId) (i : TypeInfo) (z : Value) (bytes : Nat) (ht : P.underlying t = some (.slice e)) (hu : P.underlying u = some .string) (hi : P.info? e = some i) (hz : i.zero = some z)
    (hsize : i.size = 1) (hby : i.bytes = bytes) (hzs : z.cells.size = 1)
    (v : Value) (n : Nat) (xs : List Value) (hown : w.ownsRow base e 1 v n xs) (s : ByteArray)
    (h63 : n + s.size ≤ maxLen) (hbytes : (n + s.size) * bytes ≤ 140737488355328) (hbase : base ≤ w.heap.size) :
    ∃ v' w', (Builtin.append_ #[t, u] ty #[v, .string s]).run P w = .ok v' w' ∧ w'.ownsRow base e 1 v' (n + s.size) (xs ++ sC s) ∧ w.grownBy w' v.ownBlock ∧ (v'.ownBlock = v.ownBlock ∨ v'.ownBlock = some w.heap.size) := by
  subst hby
  have hl := sC_len s
  have hsmall : n + s.size ≤ 9223372036854775807 := by simp only [maxLen] at h63; omega
  have hlen : (xs ++ sC s).length = (n + s.size) * 1 := by rw [List.length_append, hown.1, hl, Nat.add_mul]; omega
  have h1 : ∀ u ∈ sC s, u.oneCell' = true := by intro u hu; obtain ⟨x, _, rfl⟩ := List.mem_map.1 hu; rfl
  have hm : (if 0 < s.size then (0 : Nat) else 0) = 0 := by split <;> rfl
  have grown : ∀ (old : Nat), old < n + s.size → ∀ (row : Option Nat),
      (w.drew.alloc (.cells (xs.toArray ++ (sC s).toArray ++ Builtin.zeroCells z.cells (grownCap w (n + s.size) old e - (n + s.size))) e)).ownsRow base e 1
        (.slice (some ⟨w.heap.size, 0, none⟩) (n + s.size) (grownCap w (n + s.size) old e)) (n + s.size) (xs ++ sC s) ∧
      w.grownBy (w.drew.alloc (.cells (xs.toArray ++ (sC s).toArray ++ Builtin.zeroCells z.cells (grownCap w (n + s.size) old e - (n + s.size))) e)) row := by
    intro old ho row
    have hge := grownCap_ge w (n + s.size) old e
    have hcm : grownCap w (n + s.size) old e ≤ maxLen := grownCap_le_maxLen w (n + s.size) old e h63
    refine ⟨⟨hlen, .inr ⟨w.heap.size, _, _, rfl, hbase, heap_alloc_new w.drew _, hge, hcm, ?_, ?_⟩⟩, ⟨rfl, rfl, rfl, by simp, fun k hk _ => heap_alloc_old (w := w.drew) _ hk⟩⟩
    · simp only [Array.size_append, List.size_toArray, size_zeroCells, hzs, hown.1, hl]
      omega
    · simp only [Array.toList_append, List.append_assoc]
      rw [← List.append_assoc, ← hlen]
      exact List.take_left
  rcases hown.2 with ⟨rfl, rfl⟩ | ⟨g, cap, cur, rfl, hbg, hg, hnc, hcm, hcs, htake⟩
  · have hx : xs = [] := List.eq_nil_of_length_eq_zero (by simpa using hown.1)
    subst hx
    by_cases hm0 : s.size = 0
    · have hn : sC s = [] := List.eq_nil_of_length_eq_zero (by rw [hl]; exact hm0)
      refine ⟨.slice none 0 0, w, ?_, by rw [hm0, hn]; exact World.ownsRow_nil w base e 1, ⟨rfl, rfl, rfl, Nat.le_refl _, fun _ _ _ => rfl⟩, Or.inl rfl⟩
      have hf := first_str (P := P) w 1 s.size s rfl
      rw [hn] at hf
      rw [hm0] at hf
      simp [Builtin.append_, run_underlying ht, run_underlying hu, sizeOf, typeInfo, hi, hsize, Builtin.lenOf, hm0, hf]
    · have hr := run_append_nil_string (P := P) w t u ty e i z ht hu hi hz s (by omega) (by omega) (by have hb := hbytes; simp only [Nat.zero_add] at hb; omega)
      have hgr := grown 0 (by omega) (Value.ownBlock (.slice none 0 0))
      rw [sC_data] at hr
      simp only [Nat.zero_add, List.nil_append, Array.empty_append] at hgr ⊢
      exact ⟨_, _, hr, hgr.1, hgr.2, Or.inr rfl⟩
  · by_cases hroom : n + s.size ≤ cap
    · have hfit : n + (sC s).length ≤ cur.size := by rw [hl, hcs]; omega
      have hf := first_str (P := P) w 1 s.size s rfl
      have hst := run_storeCells_at P g n e (sC s) 0 cur w hg (by simpa using hfit) h1
      simp only [Nat.add_zero] at hst
      have hr : (Builtin.append_ #[t, u] ty #[.slice (some ⟨g, 0, none⟩) n cap, .string s]).run P w = .ok (.slice (some ⟨g, 0, none⟩) (n + s.size) cap) (w.setRow g (cur.toList.take n ++ sC s ++ cur.toList.drop (n + (sC s).length)).toArray) := by
        simp [Builtin.append_, run_underlying ht, run_underlying hu, sizeOf, typeInfo, hi, hsize, Builtin.lenOf, hroom, hf, Addr.add_lit, hst]
      refine ⟨_, _, hr, ⟨hlen, .inr ⟨g, cap, _, rfl, hbg, setRow_heap w g cur _ e _ hg, hroom, hcm, ?_, ?_⟩⟩, ⟨rfl, rfl, rfl, by simp, fun k _ hk => setRow_other w g k _ (fun e => hk (by simp [Value.ownBlock, e]))⟩, Or.inl rfl⟩
      · simp only [List.size_toArray, List.length_append, List.length_take, List.length_drop, Array.length_toList]
        omega
      · have ht' : cur.toList.take n = xs := by rw [← htake, Nat.mul_one]
        rw [ht', ← hlen]
        exact List.take_left
    · have holds : ∀ j u, xs[j]? = some u → w.cell? ((⟨g, 0, none⟩ : Addr).add j) = some u := hown.cells (g := g) rfl
      have hn : ¬ (n + s.size ≤ cap) := hroom
      have h63' : ¬ (9223372036854775807 < ((n : Int) + (s.size : Int))) := by omega
      have h48' : ¬ (281474976710656 < Builtin.nextslicecap (n + s.size) cap * i.bytes) := by have := growslice_fits (show cap < n + s.size by omega) hbytes; omega
      have hf := first_str (P := P) w.drew 1 s.size s rfl
      have hfo := run_firstCells_some (P := P) w.drew 1 n ⟨g, 0, none⟩ n cap xs hown.1 (by simpa using holds)
      have hr : (Builtin.append_ #[t, u] ty #[.slice (some ⟨g, 0, none⟩) n cap, .string s]).run P w =
          .ok (.slice (some ⟨w.heap.size, 0, none⟩) (n + s.size) (grownCap w (n + s.size) cap e))
            (w.drew.alloc (.cells (xs.toArray ++ (sC s).toArray ++ Builtin.zeroCells z.cells (grownCap w (n + s.size) cap e - (n + s.size))) e)) := by
        simp [Builtin.append_, run_underlying ht, run_underlying hu, sizeOf, typeInfo, zeroValue, hi, hz, hsize, Builtin.lenOf, hn, h63', h48', Question.forced, hf, hfo, newRow, grownCap]
        congr 2
        apply Array.ext'
        simp [List.append_assoc]
      have hgr := grown cap (by omega) (Value.ownBlock (.slice (some ⟨g, 0, none⟩) n cap))
      exact ⟨_, _, hr, hgr.1, hgr.2, Or.inr rfl⟩
end
end Go.Proofs.YtbhdbglhejibbaaGreatDoor
namespace Go.Proofs.YtbhdbglhejibbaaGreatDoor
set_option maxRecDepth 100000
open Go.RowKit Go.Maps
set_option linter.unusedVariables false
theorem laidAllO : laidOutB Tryz.prog = true := by kernel_rfl
theorem zeroIntO (w : World) : (zeroValue 3).run Tryz.prog w = .ok (.int .i64 0) w := by kernel_rfl
/-- a thing: its kind, its name, its place -/
abbrev Th := Int × ByteArray × Int
def ThW (t : Th) : Prop := (-9223372036854775808 ≤ t.1 ∧ t.1 ≤ 9223372036854775807) ∧ t.2.1.size ≤ maxLen ∧ (-9223372036854775808 ≤ t.2.2 ∧ t.2.2 ≤ 9223372036854775807)
def thV (t : Th) : Value := .agg #[.int .i64 t.1, .string t.2.1, .int .i64 t.2.2]
def oKey (t : Th) : Lit := .string (keyBytes [.int .i64 t.1, .string t.2.1.data.toList, .int .i64 t.2.2])
theorem isKey_t (t : Th) : WideAt.IsKeyLit (oKey t) := trivial
/-- what a look-up answers -/
def seenV (M : Th → Option Int) (t : Th) : Value := .tuple #[.int .i64 ((M t).getD 0), .bool (M t).isSome]
end Go.Proofs.YtbhdbglhejibbaaGreatDoor
namespace Go.Proofs.YtbhdbglhejibbaaGreatDoor
set_option maxRecDepth 100000
open Go.RowKit
set_option linter.unusedVariables false
/-- nothing outside F has turned -/
structure OutO (F : Nat → Prop) (w w' : World) : Prop where
  os : w'.os = w.os
  tape : w'.tape = w.tape
  output : w'.output = w.output
  size : w.heap.size ≤ w'.heap.size
  block : ∀ k, k < w.heap.size → ¬ F k → w'.heap[k]? = w.heap[k]?
section
variable {F : Nat → Prop} {w w1 w2 w' : World}
theorem OutO.refl (F : Nat → Prop) (w : World) : OutO F w w := ⟨rfl, rfl, rfl, Nat.le_refl _, fun _ _ _ => rfl⟩
theorem OutO.trans (h : OutO F w w1) (k : OutO F w1 w2) : OutO F w w2 :=
  ⟨k.os.trans h.os, k.tape.trans h.tape, k.output.trans h.output, Nat.le_trans h.size k.size, fun i hi hn => (k.block i (Nat.lt_of_lt_of_le hi h.size) hn).trans (h.block i hi hn)⟩
theorem OutO.of_below (h : Below w.heap.size w w') : OutO F w w' := ⟨h.os, h.tape, h.output, h.size, fun k hk _ => h.block k hk⟩
theorem OutO.of_grown {row : Option Nat} (h : w.grownBy w' row) (hF : ∀ g, row = some g → F g) : OutO F w w' :=
  ⟨h.os, h.tape, h.output, h.size, fun k hk hn => h.block k hk (fun e => hn (hF k e.symm))⟩
theorem OutO.to_below {B : Nat} (h : OutO (fun b => B ≤ b) w w') (hB : B ≤ w.heap.size) : Below B w w' :=
  ⟨h.os, h.tape, h.output, h.size, fun k hk => h.block k (Nat.lt_of_lt_of_le hk hB) (by omega)⟩
theorem grown_setO (w : World) (b o : Nat) (v : Value) : w.grownBy (w.setCell ⟨b, o, none⟩ v) (some b) :=
  ⟨rfl, rfl, rfl, by simp [World.setCell], fun k _ hne => heap_setCell_other w _ k v (fun e => hne (by rw [e]))⟩
theorem ownO_lt {base n s : Nat} {e : TypeId} {v : Value} {xs : List Value} (h : w.ownsRow base e s v n xs) {b : Nat} (hb : v.ownBlock = some b) : b < w.heap.size ∧ base ≤ b ∧ ∃ cur, w.heap[b]? = some (.cells cur e (0, 0)) := by
  rcases h.2 with ⟨rfl, _⟩ | ⟨g, cap, cur, rfl, hg, hc, _⟩
  · cases hb
  · cases hb; exact ⟨(Array.getElem?_eq_some_iff.1 hc).1, hg, cur, hc⟩
theorem rowO_kept {base n s : Nat} {e : TypeId} {v : Value} {xs : List Value} {row : Option Nat} (h : w.ownsRow base e s v n xs) (hg : w.grownBy w' row) (hne : ∀ b, v.ownBlock = some b → some b ≠ row) : w'.ownsRow base e s v n xs := by
  refine ⟨h.1, ?_⟩
  rcases h.2 with h | ⟨g, cap, cur, rfl, h1, h2, h3⟩
  · exact .inl h
  · exact .inr ⟨g, cap, cur, rfl, h1, by rw [hg.block g (Array.getElem?_eq_some_iff.1 h2).1 (hne g rfl)]; exact h2, h3⟩
theorem rowO_below {base n s : Nat} {e : TypeId} {v : Value} {xs : List Value} (h : w.ownsRow base e s v n xs) (hb : Below w.heap.size w w') : w'.ownsRow base e s v n xs :=
  rowO_kept (row := none) h ⟨hb.os, hb.tape, hb.output, hb.size, fun k hk _ => hb.block k hk⟩ (by simp)
end
section
variable {w w1 w2 w' : World} {p : Nat} {F : Nat → Prop} {l : List Int} {v v' : Value}
end
theorem ownO_slice {w : World} {base n s : Nat} {e : TypeId} {v : Value} {xs : List Value} (h : w.ownsRow base e s v n xs) : ∃ A c, v = .slice A n c := by
  rcases h.2 with ⟨rfl, rfl⟩ | ⟨g, cap, _, rfl, _⟩
  · exact ⟨none, 0, rfl⟩
  · exact ⟨_, _, rfl⟩
theorem addO (b o j : Nat) : (⟨b, o, none⟩ : Addr).add j = ⟨b, o + j, none⟩ := by simp [Addr.add]
theorem wr_news {w : World} {b : Nat} {l : List Int} (h : Sl w (some ⟨b, 0, none⟩) l) : ∀ j u, (l.map (Value.int .u8))[j]? = some u → w.cell? ((⟨b, 0, none⟩ : Addr).add j) = some u := by
  intro j u hu
  have hj : j < l.length := by have := (List.getElem?_eq_some_iff.1 hu).1; simpa using this
  rcases h with h | ⟨b', off, e, hc⟩
  · rw [h] at hj; simp at hj
  · cases e
    rw [addO, hc j hj]
    rw [List.getElem?_map, List.getElem?_eq_getElem hj] at hu
    rw [nth_get hj]
    simpa using hu
theorem infoU8 : (Tryz.prog.info? 5).map (fun i => (i.zero, i.size, i.bytes)) = some (some (.int .u8 0), 1, 1) := by kernel_rfl
/-- one row more, as an operation of a walk -/
theorem wpList_append_at6 {P : Program} {ops : Array Oper} {rest : List Oper} {o : Oper} {a : Act} {Q : Exit → Act → World → Prop} {w : World} (hgd : o.guard = none) (s x : Operand) (t : TypeId)
    (ho : o.op = .call { callee := .builtin .append, args := #[s, x], argTypes := #[t, t] })
    (base : Nat) (e : TypeId) (i : TypeInfo) (z : Value) (size bytes : Nat) (ht : P.underlying t = some (.slice e)) (hi : P.info? e = some i) (hz : i.zero = some z)
    (hsize : i.size = size) (hby : i.bytes = bytes) (hzs : z.cells.size = size) (hsz : 0 < size)
    (v : Value) (n : Nat) (xs : List Value) (hs : a.eval s = v) (hown : w.ownsRow base e size v n xs)
    (ad : Addr) (m c : Nat) (news : List Value) (hx : a.eval x = .slice (some ad) m c) (hl : news.length = m * size) (hnews : ∀ j u, news[j]? = some u → w.cell? (ad.add j) = some u) (h1 : ∀ u ∈ news, u.oneCell' = true)
    (h63 : n + m ≤ maxLen) (hbytes : (n + m) * bytes ≤ 140737488355328) (hbase : base ≤ w.heap.size)
    (h : ∀ v' w', w'.ownsRow base e size v' (n + m) (xs ++ news) → w.grownBy w' v.ownBlock → (v'.ownBlock = v.ownBlock ∨ v'.ownBlock = some w.heap.size) → wpList P ops Q rest (a.put o.dst v') w') : wpList P ops Q (o :: rest) a w := by
  refine wpList_plain hgd fun K' hK' => ?_
  obtain ⟨v', w', hr, h2, h3, h4, h5⟩ := run_append_own_at (P := P) w base t o.type e i z size bytes ht hi hz hsize hby hzs hsz v n xs hown ad m c news hl hnews h1 h63 hbytes hbase
  unfold Oper.wp execOp
  simp only [ho, resolve, invoke, builtin, Sem.run_bind, Sem.run_pure, Result.andThen_ok, List.map_toArray, List.map_cons, List.map_nil, hs, hx, hr]
  exact hK' _ _ (h v' w' h2 h3 h5)
/-- a string put behind, as an operation of a walk -/
theorem wpList_append_str {P : Program} {ops : Array Oper} {rest : List Oper} {o : Oper} {a : Act} {Q : Exit → Act → World → Prop} {w : World} (hgd : o.guard = none) (s x : Operand) (t u : TypeId)
    (ho : o.op = .call { callee := .builtin .append, args := #[s, x], argTypes := #[t, u] })
    (base : Nat) (e : TypeId) (i : TypeInfo) (z : Value) (bytes : Nat) (ht : P.underlying t = some (.slice e)) (hu : P.underlying u = some .string) (hi : P.info? e = some i) (hz : i.zero = some z)
    (hsize : i.size = 1) (hby : i.bytes = bytes) (hzs : z.cells.size = 1)
    (v : Value) (n : Nat) (xs : List Value) (hs : a.eval s = v) (hown : w.ownsRow base e 1 v n xs) (str : ByteArray) (hx : a.eval x = .string str)
    (h63 : n + str.size ≤ maxLen) (hbytes : (n + str.size) * bytes ≤ 140737488355328) (hbase : base ≤ w.heap.size)
    (h : ∀ v' w', w'.ownsRow base e 1 v' (n + str.size) (xs ++ sC str) → w.grownBy w' v.ownBlock → (v'.ownBlock = v.ownBlock ∨ v'.ownBlock = some w.heap.size) → wpList P ops Q rest (a.put o.dst v') w') : wpList P ops Q (o :: rest) a w := by
  refine wpList_plain hgd fun K' hK' => ?_
  obtain ⟨v', w', hr, h2, h3, h5⟩ := run_append_str (P := P) w base t u o.type e i z bytes ht hu hi hz hsize hby hzs v n xs hown str h63 hbytes hbase
  unfold Oper.wp execOp
  simp only [ho, resolve, invoke, builtin, Sem.run_bind, Sem.run_pure, Result.andThen_ok, List.map_toArray, List.map_cons, List.map_nil, hs, hx, hr]
  exact hK' _ _ (h v' w' h2 h3 h5)
/-- a call by its contract, as a step of a region that draws -/
theorem step_call6 {P : Program} {ops : Array Oper} {o : Oper} {a : Act} {w : World} {K : Act → World → Prop} {Q : Exit → Act → World → Prop} {E : Prop} (hgd : o.guard = none) (f : FuncId) (args : Array Operand) (tys : Array TypeId)
    (ho : o.op = .call { callee := .value (.func f), args := args, argTypes := tys }) (vals : Array Value) (hv : args.map a.eval = vals) (hf : ∀ (args : Array Value) (w : World), (callFunc f args).run P w = .ok (.enter f args) w) {post : Ending → World → Prop} (hc : Calls P f vals w post)
    (h : ∀ e w', post e w' → ∃ v, e = .returned v ∧ K (a.put o.dst v) w') : if Region.wanted o (yielded ops a.tmps) = true then Oper.wp P o a w K Q else E := by
  have hw : Region.wanted o (yielded ops a.tmps) = true := by simp [Region.wanted, hgd]
  rw [if_pos hw]
  subst hv
  unfold Oper.wp
  have hr : (execOp a.eval o).run P w = .ok (.enter f (args.map a.eval)) w := by
    simp [execOp, ho, resolve, Act.eval, Deferred.ofValue, invoke, hf]
  rw [hr, Oper.upon_enter]
  refine hc.mono ?_
  intro e w' hp
  obtain ⟨v, rfl, hk⟩ := h e w' hp
  exact hk
theorem step_append_at6 {P : Program} {ops : Array Oper} {o : Oper} {a : Act} {w : World} {K : Act → World → Prop} {Q : Exit → Act → World → Prop} {E : Prop} (hgd : o.guard = none) (s x : Operand) (t : TypeId)
    (ho : o.op = .call { callee := .builtin .append, args := #[s, x], argTypes := #[t, t] })
    (base : Nat) (e : TypeId) (i : TypeInfo) (z : Value) (size bytes : Nat) (ht : P.underlying t = some (.slice e)) (hi : P.info? e = some i) (hz : i.zero = some z)
    (hsize : i.size = size) (hby : i.bytes = bytes) (hzs : z.cells.size = size) (hsz : 0 < size)
    (v : Value) (n : Nat) (xs : List Value) (hs : a.eval s = v) (hown : w.ownsRow base e size v n xs)
    (ad : Addr) (m c : Nat) (news : List Value) (hx : a.eval x = .slice (some ad) m c) (hl : news.length = m * size) (hnews : ∀ j u, news[j]? = some u → w.cell? (ad.add j) = some u) (h1 : ∀ u ∈ news, u.oneCell' = true)
    (h63 : n + m ≤ maxLen) (hbytes : (n + m) * bytes ≤ 140737488355328) (hbase : base ≤ w.heap.size)
    (h : ∀ v' w', w'.ownsRow base e size v' (n + m) (xs ++ news) → w.grownBy w' v.ownBlock → (v'.ownBlock = v.ownBlock ∨ v'.ownBlock = some w.heap.size) → K (a.put o.dst v') w') :
    if Region.wanted o (yielded ops a.tmps) = true then Oper.wp P o a w K Q else E := by
  have hw : Region.wanted o (yielded ops a.tmps) = true := by simp [Region.wanted, hgd]
  rw [if_pos hw]
  obtain ⟨v', w', hr, h2, h3, h4, h5⟩ := run_append_own_at (P := P) w base t o.type e i z size bytes ht hi hz hsize hby hzs hsz v n xs hown ad m c news hl hnews h1 h63 hbytes hbase
  unfold Oper.wp execOp
  simp only [ho, resolve, invoke, builtin, Sem.run_bind, Sem.run_pure, Result.andThen_ok, List.map_toArray, List.map_cons, List.map_nil, hs, hx, hr]
  exact h v' w' h2 h3 h5
end Go.Proofs.YtbhdbglhejibbaaGreatDoor
namespace Go.Proofs.YtbhdbglhejibbaaGreatDoor
set_option maxRecDepth 100000
open Go.RowKit
set_option linter.unusedVariables false
/-- a block taken out of what may be written -/
def NBo (F : Nat → Prop) (g : Nat) (b : Nat) : Prop := F b ∧ b ≠ g
theorem OutO.unbox {F : Nat → Prop} {g : Nat} {w w' : World} (h : OutO (NBo F g) w w') : OutO F w w' :=
  ⟨h.os, h.tape, h.output, h.size, fun k hk hn => h.block k hk (fun e => hn e.1)⟩
theorem OutO.cellAt {F : Nat → Prop} {g o : Nat} {w w' : World} (h : OutO (NBo F g) w w') (hg : g < w.heap.size) : w'.cell? ⟨g, o, none⟩ = w.cell? ⟨g, o, none⟩ :=
  World.cell?_of_block (h.block g hg (fun e => e.2 rfl))
theorem OutO.ofAlloc {F : Nat → Prop} {g : Nat} {w w' : World} {o : Obj} (h : OutO (NBo F g) (w.alloc o) w') : OutO F w w' :=
  (OutO.of_below ((Below.refl w.heap.size w).alloc (Nat.le_refl _) o)).trans h.unbox
theorem wrU (x : Int) : IsU (IntKind.u64.wrap x) := by
  rw [IntKind.wrap_u64]
  exact ⟨by omega, by omega⟩
def nameW (s : ByteArray) : List Int := bytesL s.size 1 ++ sB s
def relW (at_ kind : Int) (s : ByteArray) (add : Int) : List Int := bytesL (IntKind.u64.wrap at_) 4 ++ (bytesL (IntKind.u64.wrap kind) 1 ++ (nameW s ++ bytesL (IntKind.u64.wrap add) 8))
theorem nameW_len (s : ByteArray) : (nameW s).length = s.size + 1 := by unfold nameW; rw [List.length_append, bytesL_length, sB_len]; omega
theorem relW_len (a k : Int) (s : ByteArray) (d : Int) : (relW a k s d).length = s.size + 14 := by unfold relW; simp only [List.length_append, bytesL_length, nameW_len]; omega
def marksW (i o : Bool) : Int := (if i then 1 else 0) + (if o then 2 else 0)
theorem marksU (i o : Bool) : IsU (marksW i o) := by cases i <;> cases o <;> exact ⟨by decide, by decide⟩
def symW (s : ByteArray) (i : Bool) (off : Int) (o : Bool) : List Int := nameW s ++ (bytesL (marksW i o) 1 ++ bytesL (IntKind.u64.wrap off) 4)
theorem symW_len (s : ByteArray) (i : Bool) (off : Int) (o : Bool) : (symW s i off o).length = s.size + 6 := by unfold symW; simp only [List.length_append, bytesL_length, nameW_len]
def paramW (zs : List Int) : List Int := zs.flatMap (fun z => bytesL (IntKind.u64.wrap z) 1)
def entryW (s : ByteArray) (zs : List Int) : List Int := nameW s ++ (bytesL zs.length 1 ++ paramW zs)
theorem paramW_len (zs : List Int) : (paramW zs).length = zs.length := by
  induction zs with
  | nil => rfl
  | cons z zs ih => simp only [paramW, List.flatMap_cons, List.length_append, bytesL_length] at ih ⊢; simp only [List.length_cons]; omega
theorem paramW_more {zs : List Int} {k : Nat} (h : k < zs.length) : paramW (zs.take (k + 1)) = paramW (zs.take k) ++ bytesL (IntKind.u64.wrap (nth zs k)) 1 := by
  unfold paramW
  rw [List.take_succ_eq_append_getElem h, List.flatMap_append, nth_get h]
  simp only [List.flatMap_cons, List.flatMap_nil, List.append_nil]
/-- the entry's parameters, as they lie -/
def ParR (w : World) (F : Nat → Prop) (A : Option Addr) (zs : List Int) : Prop :=
  zs = [] ∨ ∃ b o, A = some ⟨b, o, none⟩ ∧ b < w.heap.size ∧ ¬ F b ∧ ∀ j, j < zs.length → w.cell? ⟨b, o + j, none⟩ = some (.int .i64 (nth zs j))
end Go.Proofs.YtbhdbglhejibbaaGreatDoor
namespace Go.Proofs.YtbhdbglhejibbaaGreatDoor
set_option maxRecDepth 100000
open Go.RowKit
set_option linter.unusedVariables false
def inB (x m : Int) : Bool := decide (0 ≤ x) && decide (x ≤ m)
theorem inB_neg {x m : Int} (h : x < 0) : inB x m = false := by unfold inB; rw [decide_eq_false (by omega)]; rfl
theorem inB_pos {x m : Int} (h : 0 ≤ x) : inB x m = decide (x ≤ m) := by unfold inB; rw [decide_eq_true h]; rfl
def parB (zs : List Int) : Bool := decide (zs.length ≤ 6) && zs.all (fun z => inB z 64)
theorem parB_long {zs : List Int} (h : ¬ zs.length ≤ 6) : parB zs = false := by unfold parB; rw [decide_eq_false h]; rfl
theorem parB_bad {zs : List Int} {k : Nat} (hk : k < zs.length) (h : inB (nth zs k) 64 = false) : parB zs = false := by
  have : zs.all (fun z => inB z 64) = false := List.all_eq_false.2 ⟨nth zs k, by rw [nth_get hk]; exact List.getElem_mem hk, by rw [h]; exact Bool.false_ne_true⟩
  unfold parB; rw [this, Bool.and_false]
theorem parB_good {zs : List Int} (hl : zs.length ≤ 6) (h : ∀ k, k < zs.length → inB (nth zs k) 64 = true) : parB zs = true := by
  have : zs.all (fun z => inB z 64) = true := List.all_eq_true.2 fun z hz => by
    obtain ⟨k, hk, e⟩ := List.mem_iff_getElem.1 hz
    have := h k hk
    rw [nth_get hk, e] at this
    exact this
  unfold parB; rw [this, decide_eq_true hl]; rfl
def fewB (n1 n2 n3 n4 n5 : Nat) : Bool := decide (n1 ≤ 4096) && decide (n2 ≤ 1024) && decide (n3 ≤ 256) && decide (n4 ≤ 1024) && decide (n5 ≤ 64)
end Go.Proofs.YtbhdbglhejibbaaGreatDoor
namespace Go.Proofs.YtbhdbglhejibbaaGreatDoor
set_option maxRecDepth 100000
open Go.RowKit
set_option linter.unusedVariables false
def suitB (k : Int) (n : Nat) : Bool :=
  if k = 0 then n == 38 else if k = 1 then n == 16 || n == 26 || n == 28 || n == 29 || n == 31 else if k = 2 then n == 40 else if k = 3 then opS n == 4 else false
theorem suit_tell : ∀ n, n < 43 → (opS n == 4) = (decide (32 ≤ n) && decide (n ≤ 37)) := fun n hn => all43 (p := fun n => (opS n == 4) = (decide (32 ≤ n) && decide (n ≤ 37))) (by decide +kernel) hn
end Go.Proofs.YtbhdbglhejibbaaGreatDoor
namespace Go.Proofs.YtbhdbglhejibbaaGreatDoor
set_option maxRecDepth 100000
open Go.RowKit Go.Maps
set_option linter.unusedVariables false
/-- what lay there is as it was, the map aside -/
def MapOut (b : Nat) (w w' : World) : Prop := OutO (fun k => k = b) w w'
theorem mapOut_boxes {w w' : World} {b : Nat} (o1 o2 : Obj) (hg : ((w.alloc o1).alloc o2).grownBy w' (some b)) : MapOut b w w' :=
  (OutO.of_below (((Below.refl w.heap.size w).alloc (Nat.le_refl _) o1).alloc (by simp) o2)).trans (OutO.of_grown hg (fun g e => by cases e; rfl))
end Go.Proofs.YtbhdbglhejibbaaGreatDoor
namespace Go.Proofs.YtbhdbglhejibbaaGreatDoor
set_option maxRecDepth 100000
open Go.RowKit Go.Maps
set_option linter.unusedVariables false
/-- whether a Sym may be, where M was seen -/
def unitI (d : Bool) : Int := if d then 8 else 4
def symB (M : Th → Option Int) (n1 n2 : Nat) (s : ByteArray) (d : Bool) (off : Int) : Bool :=
  nameB (sB s) && (M (0, s, 0)).isNone && off.tmod (unitI d) == 0 && inB off (unitI d * (if d then n2 else n1 : Nat))
theorem belq {B : Nat} {a w : World} (h : Below B a w) (n : Nat) : Below B a (w.drewN n) := ⟨h.os, h.tape, h.output, h.size, h.block⟩
end Go.Proofs.YtbhdbglhejibbaaGreatDoor
namespace Go.Proofs.YtbhdbglhejibbaaGreatDoor
set_option maxRecDepth 100000
open Go.RowKit Go.Maps
set_option linter.unusedVariables false
end Go.Proofs.YtbhdbglhejibbaaGreatDoor
namespace Go.Proofs.YtbhdbglhejibbaaGreatDoor
set_option maxRecDepth 100000
open Go.RowKit Go.Maps
set_option linter.unusedVariables false
end Go.Proofs.YtbhdbglhejibbaaGreatDoor
