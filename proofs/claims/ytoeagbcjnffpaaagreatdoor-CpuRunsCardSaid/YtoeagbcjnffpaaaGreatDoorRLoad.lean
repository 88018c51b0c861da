/- The reference's memory: Load and Fetch. -/
import Derived.Test.YtoeagbcjnffpaaaGreatDoorRAllow
namespace Go.Proofs.YtoeagbcjnffpaaaGreatDoor
set_option maxRecDepth 100000
open Go.RowKit Go.Maps
set_option linter.unusedVariables false
/-- where a byte lies among all -/
def placeT (T : List Rg) (p : Int) (i : Nat) : Nat := offT T i + (p - rlo (nthR T i)).toNat
theorem place_bd {T : List Rg} (hm : MayT T) {p q : Int} {i n : Nat} (hn : T.length = n) (hF : FindYes T p q i) : ((placeT T p i : Nat) : Int) + q ≤ offT T n := by
  obtain ⟨h1, h2, h3, _⟩ := hF
  have h := hitB_iff.1 h3
  have h4 : offT T (i + 1) ≤ offT T n := offT_mono (by omega)
  have h5 : offT T (i + 1) = offT T i + lenR (nthR T i) := rfl
  unfold placeT
  unfold lenR at h5
  omega
theorem rload_no (r tb to tc bb bc n : Nat) (T : List Rg) (L : List Int) (p q : Int) (own : Bool) (hp : IsU p) (hq : q = 1 ∨ q = 4 ∨ q = 8) (w : World) (hM : RMem w r tb to tc bb bc n T L) (hA : AllNo T p q own 1) :
    Calls Tryz.prog 144 #[.pointer (some ⟨r, 0, none⟩), .int .u64 p, .int .i64 q, .bool own] w fun e w' => e = .returned (.tuple #[.int .u64 0, .int .i64 13]) ∧ w = w' := by
  have HC := Lib.hid (rallowed_no r tb to tc bb bc n T L p q own 1 hp hq (.inl rfl) w hM hA)
  clear hM hA
  go_enter Tryz.func144, Tryz.ntmps144
  go_wp2_with fail
  refine HC.out.mono ?_
  rintro e w' ⟨rfl, rfl⟩
  go_wp2
  go_ret2
  exact ⟨rfl, rfl⟩
set_option maxHeartbeats 2000000 in
theorem rload_yes (r tb to tc bb bc n : Nat) (T : List Rg) (L : List Int) (p q : Int) (own : Bool) (i : Nat) (hp : IsU p) (hq : q = 1 ∨ q = 4 ∨ q = 8) (w : World) (hM : RMem w r tb to tc bb bc n T L) (hA : AllYes T p q own 1 i) :
    Calls Tryz.prog 144 #[.pointer (some ⟨r, 0, none⟩), .int .u64 p, .int .i64 q, .bool own] w fun e w' => e = .returned (.tuple #[.int .u64 (wordI ((L.drop (placeT T p i)).take q.toNat)), .int .i64 0]) ∧ Below w.heap.size w w' := by
  have hF := hA.2.1
  have HC := Lib.hid (rallowed_yes r tb to tc bb bc n T L p q own 1 i hp hq (.inl rfl) w hM hA)
  have HPl := Lib.hid (rplace_yes r tb to tc bb bc n T L p i hp w hM (by rw [← hM.len]; exact hF.2.1) (by have := hitB_iff.1 hF.2.2.1; exact ⟨this.1, this.2.1⟩))
  have hpb := place_bd hM.may hM.len hF
  have hll := hM.llen
  have hcap := hM.cap
  have hL2 : L.length ≤ 1048576 := by rw [hll]; have := offT_le hM.may (show n ≤ T.length by rw [hM.len]; omega); have := hM.may.2.1; rw [hM.len] at this; omega
  have HM := Lib.hid hM
  obtain ⟨P, hP⟩ : ∃ P, placeT T p i = P := ⟨_, rfl⟩
  rw [hP] at hpb ⊢
  have HPl2 := Lib.hid (show Calls Tryz.prog 46 #[.pointer (some ⟨r, 0, none⟩), .int .u64 p] w fun e w' => e = .returned (.int .i64 (P : Int)) ∧ Below w.heap.size w w' from by rw [← hP]; exact HPl.out)
  have P0 : (0 : Int) ≤ P := by omega
  have P1 : (P : Int) + q ≤ L.length := by omega
  have P2 : (P : Int) + q ≤ bc := by omega
  have P3 : (P : Int) ≤ 1048576 := by omega
  clear hM hA hF HPl hP hpb hll hcap
  rcases hq with rfl | rfl | rfl
  all_goals
    go_enter Tryz.func144, Tryz.ntmps144
    go_wp2_with fail
    refine HC.out.mono ?_
    rintro e w' ⟨rfl, rfl⟩
    go_wp2_with fail
    refine HPl2.out.mono ?_
    rintro e w1 ⟨rfl, hb1⟩
    have h1 := (HM.out.below hb1).c1
    have HR := Lib.hid ((HM.out.below hb1).row)
    have HB := Lib.hid hb1
    clear hb1
    go_wp2_with fail
  · refine (rword_yes _ ((L.drop P).take 1) 1 (bc - P) w1 (HR.out.sl P 1 (by omega)) (by rw [List.length_take, List.length_drop]; omega) (((HM.out.all.drop _).take _)) (by omega)).mono ?_
    rintro e w2 ⟨rfl, rfl⟩
    go_wp2
    go_ret2
    exact ⟨rfl, HB.out⟩
  · refine (rword_yes _ ((L.drop P).take 4) 4 (bc - P) w1 (HR.out.sl P 4 (by omega)) (by rw [List.length_take, List.length_drop]; omega) (((HM.out.all.drop _).take _)) (by omega)).mono ?_
    rintro e w2 ⟨rfl, rfl⟩
    go_wp2
    go_ret2
    exact ⟨rfl, HB.out⟩
  · refine (rword_yes _ ((L.drop P).take 8) 8 (bc - P) w1 (HR.out.sl P 8 (by omega)) (by rw [List.length_take, List.length_drop]; omega) (((HM.out.all.drop _).take _)) (by omega)).mono ?_
    rintro e w2 ⟨rfl, rfl⟩
    go_wp2
    go_ret2
    exact ⟨rfl, HB.out⟩
theorem rfetch_no (r tb to tc bb bc n : Nat) (T : List Rg) (L : List Int) (p : Int) (own : Bool) (hp : IsU p) (w : World) (hM : RMem w r tb to tc bb bc n T L) (hA : AllNo T p 4 own 4) :
    Calls Tryz.prog 136 #[.pointer (some ⟨r, 0, none⟩), .int .u64 p, .bool own] w fun e w' => e = .returned (.tuple #[.int .u32 0, .int .i64 13]) ∧ w = w' := by
  have HC := Lib.hid (rallowed_no r tb to tc bb bc n T L p 4 own 4 hp (by omega) (by omega) w hM hA)
  clear hM hA
  go_enter Tryz.func136, Tryz.ntmps136
  go_wp2_with fail
  refine HC.out.mono ?_
  rintro e w' ⟨rfl, rfl⟩
  go_wp2
  go_ret2
  exact ⟨rfl, rfl⟩
set_option maxHeartbeats 2000000 in
theorem rfetch_yes (r tb to tc bb bc n : Nat) (T : List Rg) (L : List Int) (p : Int) (own : Bool) (i : Nat) (hp : IsU p) (w : World) (hM : RMem w r tb to tc bb bc n T L) (hA : AllYes T p 4 own 4 i) :
    Calls Tryz.prog 136 #[.pointer (some ⟨r, 0, none⟩), .int .u64 p, .bool own] w fun e w' => e = .returned (.tuple #[.int .u32 (wordI ((L.drop (placeT T p i)).take 4)), .int .i64 0]) ∧ Below w.heap.size w w' := by
  have hF := hA.2.1
  have HC := Lib.hid (rallowed_yes r tb to tc bb bc n T L p 4 own 4 i hp (by omega) (by omega) w hM hA)
  have HPl := Lib.hid (rplace_yes r tb to tc bb bc n T L p i hp w hM (by rw [← hM.len]; exact hF.2.1) (by have := hitB_iff.1 hF.2.2.1; exact ⟨this.1, this.2.1⟩))
  have hpb := place_bd hM.may hM.len hF
  have hll := hM.llen
  have hcap := hM.cap
  have hL2 : L.length ≤ 1048576 := by rw [hll]; have := offT_le hM.may (show n ≤ T.length by rw [hM.len]; omega); have := hM.may.2.1; rw [hM.len] at this; omega
  have HM := Lib.hid hM
  obtain ⟨P, hP⟩ : ∃ P, placeT T p i = P := ⟨_, rfl⟩
  rw [hP] at hpb ⊢
  have HPl2 := Lib.hid (show Calls Tryz.prog 46 #[.pointer (some ⟨r, 0, none⟩), .int .u64 p] w fun e w' => e = .returned (.int .i64 (P : Int)) ∧ Below w.heap.size w w' from by rw [← hP]; exact HPl.out)
  have P0 : (0 : Int) ≤ P := by omega
  have P1 : (P : Int) + 4 ≤ L.length := by omega
  have P2 : (P : Int) + 4 ≤ bc := by omega
  have P3 : (P : Int) ≤ 1048576 := by omega
  clear hM hA hF HPl hP hpb hll hcap
  go_enter Tryz.func136, Tryz.ntmps136
  go_wp2_with fail
  refine HC.out.mono ?_
  rintro e w' ⟨rfl, rfl⟩
  go_wp2_with fail
  refine HPl2.out.mono ?_
  rintro e w1 ⟨rfl, hb1⟩
  have h1 := (HM.out.below hb1).c1
  have HR := Lib.hid ((HM.out.below hb1).row)
  have HB := Lib.hid hb1
  clear hb1
  go_wp2_with fail
  have hl4 : ((L.drop P).take 4).length = 4 := by rw [List.length_take, List.length_drop]; omega
  obtain ⟨v0, v1⟩ := word4_bd (((HM.out.all.drop P).take 4)) hl4
  refine (rword_yes _ ((L.drop P).take 4) 4 (bc - P) w1 (HR.out.sl P 4 (by omega)) hl4 (((HM.out.all.drop _).take _)) (by omega)).mono ?_
  rintro e w2 ⟨rfl, rfl⟩
  have hcv : IntKind.u32.wrap (wordI ((L.drop P).take 4)) = wordI ((L.drop P).take 4) := by simp [IntKind.wrap, IntKind.bits, IntKind.signed]; omega
  have HV := Lib.hid hcv
  clear hl4 hcv
  go_wp2
  go_ret2
  first
  | exact ⟨rfl, HB.out⟩
  | exact ⟨ret_w32 HV.out, HB.out⟩
  | exact ⟨ret_w32 (by have := HV.out; omega), HB.out⟩
end Go.Proofs.YtoeagbcjnffpaaaGreatDoor
