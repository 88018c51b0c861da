/- Layer 3: what Two, One, Taken and Varies of package alu answer, whatever the operation. Condition for One: the table ofTwo reads as it should. -/
import Derived.Test.YtndaphdfhlefoaaDoorAluClo
import Derived.OpenShut
import Derived.Deep.WholeRow
namespace Go.Proofs.YtndaphdfhlefoaaDoor
open Go.RowKit
set_option linter.unusedVariables false

theorem wpList_store_all {P : Program} {ops : Array Oper} {rest : List Oper} {o : Oper} {a : Act} {Q : Exit → Act → World → Prop} (hgd : o.guard = none) (ty : TypeId) (x y : Operand) (ho : o.op = .store ty x y)
    (w0 : World) (c c' : Array Value) (g : Nat) (hx : a.eval x = .pointer (some ⟨g, 0, none⟩)) (hy : a.eval y = .agg c') (hi : (P.info? ty).map (·.size) = some c'.size) (hs : c.size = c'.size) (h1 : c'.all (·.oneCell') = true)
    (hd : o.dst = none) (hg : w0.heap.size = g) (h : wpList P ops Q rest a (w0.alloc (.cells c' ty))) : wpList P ops Q (o :: rest) a (w0.alloc (.cells c ty)) :=
  wpList_plain hgd fun K hK => by
    subst hg
    unfold Oper.wp execOp
    simp only [ho, hx, hy, run_storeAt_new w0 ty c c' hi hs h1, Sem.run_bind, Result.andThen_ok, Sem.run_pure]
    have e : a.put o.dst undef = a := by rw [hd]; rfl
    rw [← e] at h
    exact hK _ _ h
def fv (k : Nat) : Value := .func (.func k) #[] #[]
theorem recInfo : (Tryd.prog.info? 39).map (·.size) = some 16 := by kernel_rfl
theorem conInfo : (Tryd.prog.info? 46).map (·.size) = some 6 := by kernel_rfl
def recs : Value := .agg #[fv 26, fv 27, fv 28, fv 29, fv 32, fv 33, fv 34, fv 35, fv 36, fv 37, fv 38, fv 39, fv 41, fv 43, fv 45, fv 47]
def conds : Value := .agg #[fv 51, fv 52, fv 53, fv 54, fv 55, fv 56]
theorem recs_any (w : World) : Calls Tryd.prog 19 #[] w fun e w' => e = .returned recs ∧ Below w.heap.size w w' := by
  go_enter Tryd.func19, Tryd.ntmps19
  go_wp2_with (refine wpList_store_all rfl 39 _ _ rfl _ _ _ _ rfl rfl ?hi ?hs ?h1 rfl ?hg ?_; (case hi => exact recInfo); (case hs => exact rfl); (case h1 => simp [Value.oneCell']); (case hg => exact rfl))
  refine bodyPost_ret (v := .agg #[fv 26, fv 27, fv 28, fv 29, fv 32, fv 33, fv 34, fv 35, fv 36, fv 37, fv 38, fv 39, fv 41, fv 43, fv 45, fv 47]) ?_ rfl ⟨rfl, (Below.refl _ _).alloc (Nat.le_refl _) _⟩
  simp [results, Tryd.results19, go_sem, fv]
theorem conds_any (w : World) : Calls Tryd.prog 25 #[] w fun e w' => e = .returned conds ∧ Below w.heap.size w w' := by
  go_enter Tryd.func25, Tryd.ntmps25
  go_wp2_with (refine wpList_store_all rfl 46 _ _ rfl _ _ _ _ rfl rfl ?hi ?hs ?h1 rfl ?hg ?_; (case hi => exact conInfo); (case hs => exact rfl); (case h1 => simp [Value.oneCell']); (case hg => exact rfl))
  refine bodyPost_ret (v := .agg #[fv 51, fv 52, fv 53, fv 54, fv 55, fv 56]) ?_ rfl ⟨rfl, (Below.refl _ _).alloc (Nat.le_refl _) _⟩
  simp [results, Tryd.results25, go_sem, fv]
theorem two0 (a b : Int) (ha : IsU a) (hb : IsU b) (w : World) :
    Calls Tryd.prog 12 #[.int .i64 0, .int .u64 a, .int .u64 b] w fun e w' => e = .returned (.tuple #[.int .u64 (twoI 0 a b), .bool true]) ∧ Below w.heap.size w w' := by
  have hi : ∀ w, (Instr.index 39 recs (.int .i64 0)).run Tryd.prog w = .ok (.func (.func 26) #[] #[]) w := fun _ => by kernel_rfl
  go_enter Tryd.func12, Tryd.ntmps12
  go_wp2_with (first | (go_at_call 19; refine (recs_any _).mono ?_; rintro e w1 ⟨rfl, hb1⟩) | (go_at_call 26; refine (rec1_any _ _ ha hb _).mono ?_; rintro e w' ⟨rfl, rfl⟩))
  go_ret2
  exact ⟨rfl, hb1⟩
theorem two1 (a b : Int) (ha : IsU a) (hb : IsU b) (w : World) :
    Calls Tryd.prog 12 #[.int .i64 1, .int .u64 a, .int .u64 b] w fun e w' => e = .returned (.tuple #[.int .u64 (twoI 1 a b), .bool true]) ∧ Below w.heap.size w w' := by
  have hi : ∀ w, (Instr.index 39 recs (.int .i64 1)).run Tryd.prog w = .ok (.func (.func 27) #[] #[]) w := fun _ => by kernel_rfl
  go_enter Tryd.func12, Tryd.ntmps12
  go_wp2_with (first | (go_at_call 19; refine (recs_any _).mono ?_; rintro e w1 ⟨rfl, hb1⟩) | (go_at_call 27; refine (rec2_any _ _ ha hb _).mono ?_; rintro e w' ⟨rfl, rfl⟩))
  go_ret2
  exact ⟨rfl, hb1⟩
theorem two2 (a b : Int) (ha : IsU a) (hb : IsU b) (w : World) :
    Calls Tryd.prog 12 #[.int .i64 2, .int .u64 a, .int .u64 b] w fun e w' => e = .returned (.tuple #[.int .u64 (twoI 2 a b), .bool true]) ∧ Below w.heap.size w w' := by
  have hi : ∀ w, (Instr.index 39 recs (.int .i64 2)).run Tryd.prog w = .ok (.func (.func 28) #[] #[]) w := fun _ => by kernel_rfl
  go_enter Tryd.func12, Tryd.ntmps12
  go_wp2_with (first | (go_at_call 19; refine (recs_any _).mono ?_; rintro e w1 ⟨rfl, hb1⟩) | (go_at_call 28; refine (rec3_any _ _ ha hb _).mono ?_; rintro e w' ⟨rfl, rfl⟩))
  go_ret2
  exact ⟨rfl, hb1⟩
theorem two3 (a b : Int) (ha : IsU a) (hb : IsU b) (w : World) :
    Calls Tryd.prog 12 #[.int .i64 3, .int .u64 a, .int .u64 b] w fun e w' => e = .returned (.tuple #[.int .u64 (twoI 3 a b), .bool true]) ∧ Below w.heap.size w w' := by
  have hi : ∀ w, (Instr.index 39 recs (.int .i64 3)).run Tryd.prog w = .ok (.func (.func 29) #[] #[]) w := fun _ => by kernel_rfl
  go_enter Tryd.func12, Tryd.ntmps12
  go_wp2_with (first | (go_at_call 19; refine (recs_any _).mono ?_; rintro e w1 ⟨rfl, hb1⟩) | (go_at_call 29; refine (rec4_any _ _ ha hb _).mono ?_; rintro e w' ⟨rfl, rfl⟩))
  go_ret2
  exact ⟨rfl, hb1⟩
theorem two4 (a b : Int) (ha : IsU a) (hb : IsU b) (w : World) :
    Calls Tryd.prog 12 #[.int .i64 4, .int .u64 a, .int .u64 b] w fun e w' => e = .returned (.tuple #[.int .u64 (twoI 4 a b), .bool true]) ∧ Below w.heap.size w w' := by
  have hi : ∀ w, (Instr.index 39 recs (.int .i64 4)).run Tryd.prog w = .ok (.func (.func 32) #[] #[]) w := fun _ => by kernel_rfl
  go_enter Tryd.func12, Tryd.ntmps12
  go_wp2_with (first | (go_at_call 19; refine (recs_any _).mono ?_; rintro e w1 ⟨rfl, hb1⟩) | (go_at_call 32; refine (rec5_any _ _ ha hb _).mono ?_; rintro e w' ⟨rfl, rfl⟩))
  go_ret2
  exact ⟨rfl, hb1⟩
theorem two5 (a b : Int) (ha : IsU a) (hb : IsU b) (w : World) :
    Calls Tryd.prog 12 #[.int .i64 5, .int .u64 a, .int .u64 b] w fun e w' => e = .returned (.tuple #[.int .u64 (twoI 5 a b), .bool true]) ∧ Below w.heap.size w w' := by
  have hi : ∀ w, (Instr.index 39 recs (.int .i64 5)).run Tryd.prog w = .ok (.func (.func 33) #[] #[]) w := fun _ => by kernel_rfl
  go_enter Tryd.func12, Tryd.ntmps12
  go_wp2_with (first | (go_at_call 19; refine (recs_any _).mono ?_; rintro e w1 ⟨rfl, hb1⟩) | (go_at_call 33; refine (rec6_any _ _ ha hb _).mono ?_; rintro e w' ⟨rfl, rfl⟩))
  go_ret2
  exact ⟨rfl, hb1⟩
theorem two6 (a b : Int) (ha : IsU a) (hb : IsU b) (w : World) :
    Calls Tryd.prog 12 #[.int .i64 6, .int .u64 a, .int .u64 b] w fun e w' => e = .returned (.tuple #[.int .u64 (twoI 6 a b), .bool true]) ∧ Below w.heap.size w w' := by
  have hi : ∀ w, (Instr.index 39 recs (.int .i64 6)).run Tryd.prog w = .ok (.func (.func 34) #[] #[]) w := fun _ => by kernel_rfl
  go_enter Tryd.func12, Tryd.ntmps12
  go_wp2_with (first | (go_at_call 19; refine (recs_any _).mono ?_; rintro e w1 ⟨rfl, hb1⟩) | (go_at_call 34; refine (rec7_any _ _ ha hb _).mono ?_; rintro e w' ⟨rfl, rfl⟩))
  go_ret2
  exact ⟨rfl, hb1⟩
theorem two7 (a b : Int) (ha : IsU a) (hb : IsU b) (w : World) :
    Calls Tryd.prog 12 #[.int .i64 7, .int .u64 a, .int .u64 b] w fun e w' => e = .returned (.tuple #[.int .u64 (twoI 7 a b), .bool true]) ∧ Below w.heap.size w w' := by
  have hi : ∀ w, (Instr.index 39 recs (.int .i64 7)).run Tryd.prog w = .ok (.func (.func 35) #[] #[]) w := fun _ => by kernel_rfl
  go_enter Tryd.func12, Tryd.ntmps12
  go_wp2_with (first | (go_at_call 19; refine (recs_any _).mono ?_; rintro e w1 ⟨rfl, hb1⟩) | (go_at_call 35; refine (rec8_any _ _ ha hb _).mono ?_; rintro e w' ⟨rfl, rfl⟩))
  go_ret2
  exact ⟨rfl, hb1⟩
theorem two8 (a b : Int) (ha : IsU a) (hb : IsU b) (w : World) :
    Calls Tryd.prog 12 #[.int .i64 8, .int .u64 a, .int .u64 b] w fun e w' => e = .returned (.tuple #[.int .u64 (twoI 8 a b), .bool true]) ∧ Below w.heap.size w w' := by
  have hi : ∀ w, (Instr.index 39 recs (.int .i64 8)).run Tryd.prog w = .ok (.func (.func 36) #[] #[]) w := fun _ => by kernel_rfl
  go_enter Tryd.func12, Tryd.ntmps12
  go_wp2_with (first | (go_at_call 19; refine (recs_any _).mono ?_; rintro e w1 ⟨rfl, hb1⟩) | (go_at_call 36; refine (rec9_any _ _ ha hb _).mono ?_; rintro e w' ⟨rfl, rfl⟩))
  go_ret2
  exact ⟨rfl, hb1⟩
theorem two9 (a b : Int) (ha : IsU a) (hb : IsU b) (w : World) :
    Calls Tryd.prog 12 #[.int .i64 9, .int .u64 a, .int .u64 b] w fun e w' => e = .returned (.tuple #[.int .u64 (twoI 9 a b), .bool true]) ∧ Below w.heap.size w w' := by
  have hi : ∀ w, (Instr.index 39 recs (.int .i64 9)).run Tryd.prog w = .ok (.func (.func 37) #[] #[]) w := fun _ => by kernel_rfl
  go_enter Tryd.func12, Tryd.ntmps12
  go_wp2_with (first | (go_at_call 19; refine (recs_any _).mono ?_; rintro e w1 ⟨rfl, hb1⟩) | (go_at_call 37; refine (rec10_any _ _ ha hb _).mono ?_; rintro e w' ⟨rfl, rfl⟩))
  go_ret2
  exact ⟨rfl, hb1⟩
theorem two10 (a b : Int) (ha : IsU a) (hb : IsU b) (w : World) :
    Calls Tryd.prog 12 #[.int .i64 10, .int .u64 a, .int .u64 b] w fun e w' => e = .returned (.tuple #[.int .u64 (twoI 10 a b), .bool true]) ∧ Below w.heap.size w w' := by
  have hi : ∀ w, (Instr.index 39 recs (.int .i64 10)).run Tryd.prog w = .ok (.func (.func 38) #[] #[]) w := fun _ => by kernel_rfl
  go_enter Tryd.func12, Tryd.ntmps12
  go_wp2_with (first | (go_at_call 19; refine (recs_any _).mono ?_; rintro e w1 ⟨rfl, hb1⟩) | (go_at_call 38; refine (rec11_any _ _ ha hb _).mono ?_; rintro e w' ⟨rfl, rfl⟩))
  go_ret2
  exact ⟨rfl, hb1⟩
theorem two11 (a b : Int) (ha : IsU a) (hb : IsU b) (w : World) :
    Calls Tryd.prog 12 #[.int .i64 11, .int .u64 a, .int .u64 b] w fun e w' => e = .returned (.tuple #[.int .u64 (twoI 11 a b), .bool true]) ∧ Below w.heap.size w w' := by
  have hi : ∀ w, (Instr.index 39 recs (.int .i64 11)).run Tryd.prog w = .ok (.func (.func 39) #[] #[]) w := fun _ => by kernel_rfl
  go_enter Tryd.func12, Tryd.ntmps12
  go_wp2_with (first | (go_at_call 19; refine (recs_any _).mono ?_; rintro e w1 ⟨rfl, hb1⟩) | (go_at_call 39; refine (rec12_any _ _ ha hb _).mono ?_; rintro e w' ⟨rfl, rfl⟩))
  go_ret2
  exact ⟨rfl, hb1⟩
theorem two12 (a b : Int) (ha : IsU a) (hb : IsU b) (w : World) :
    Calls Tryd.prog 12 #[.int .i64 12, .int .u64 a, .int .u64 b] w fun e w' => e = .returned (.tuple #[.int .u64 (twoI 12 a b), .bool true]) ∧ Below w.heap.size w w' := by
  have hi : ∀ w, (Instr.index 39 recs (.int .i64 12)).run Tryd.prog w = .ok (.func (.func 41) #[] #[]) w := fun _ => by kernel_rfl
  go_enter Tryd.func12, Tryd.ntmps12
  go_wp2_with (first | (go_at_call 19; refine (recs_any _).mono ?_; rintro e w1 ⟨rfl, hb1⟩) | (go_at_call 41; refine (rec13_any _ _ ha hb _).mono ?_; rintro e w' ⟨rfl, rfl⟩))
  go_ret2
  exact ⟨rfl, hb1⟩
theorem two13 (a b : Int) (ha : IsU a) (hb : IsU b) (w : World) :
    Calls Tryd.prog 12 #[.int .i64 13, .int .u64 a, .int .u64 b] w fun e w' => e = .returned (.tuple #[.int .u64 (twoI 13 a b), .bool true]) ∧ Below w.heap.size w w' := by
  have hi : ∀ w, (Instr.index 39 recs (.int .i64 13)).run Tryd.prog w = .ok (.func (.func 43) #[] #[]) w := fun _ => by kernel_rfl
  go_enter Tryd.func12, Tryd.ntmps12
  go_wp2_with (first | (go_at_call 19; refine (recs_any _).mono ?_; rintro e w1 ⟨rfl, hb1⟩) | (go_at_call 43; refine (rec14_any _ _ ha hb _).mono ?_; rintro e w' ⟨rfl, rfl⟩))
  go_ret2
  exact ⟨rfl, hb1⟩
theorem two14 (a b : Int) (ha : IsU a) (hb : IsU b) (w : World) :
    Calls Tryd.prog 12 #[.int .i64 14, .int .u64 a, .int .u64 b] w fun e w' => e = .returned (.tuple #[.int .u64 (twoI 14 a b), .bool true]) ∧ Below w.heap.size w w' := by
  have hi : ∀ w, (Instr.index 39 recs (.int .i64 14)).run Tryd.prog w = .ok (.func (.func 45) #[] #[]) w := fun _ => by kernel_rfl
  go_enter Tryd.func12, Tryd.ntmps12
  go_wp2_with (first | (go_at_call 19; refine (recs_any _).mono ?_; rintro e w1 ⟨rfl, hb1⟩) | (go_at_call 45; refine (rec15_any _ _ ha hb _).mono ?_; rintro e w' ⟨rfl, rfl⟩))
  go_ret2
  exact ⟨rfl, hb1⟩
theorem two15 (a b : Int) (ha : IsU a) (hb : IsU b) (w : World) :
    Calls Tryd.prog 12 #[.int .i64 15, .int .u64 a, .int .u64 b] w fun e w' => e = .returned (.tuple #[.int .u64 (twoI 15 a b), .bool true]) ∧ Below w.heap.size w w' := by
  have hi : ∀ w, (Instr.index 39 recs (.int .i64 15)).run Tryd.prog w = .ok (.func (.func 47) #[] #[]) w := fun _ => by kernel_rfl
  go_enter Tryd.func12, Tryd.ntmps12
  go_wp2_with (first | (go_at_call 19; refine (recs_any _).mono ?_; rintro e w1 ⟨rfl, hb1⟩) | (go_at_call 47; refine (rec16_any _ _ ha hb _).mono ?_; rintro e w' ⟨rfl, rfl⟩))
  go_ret2
  exact ⟨rfl, hb1⟩
theorem two_yes (n : Nat) (h : n < 16) (a b : Int) (ha : IsU a) (hb : IsU b) (w : World) :
    Calls Tryd.prog 12 #[.int .i64 n, .int .u64 a, .int .u64 b] w fun e w' => e = .returned (.tuple #[.int .u64 (twoI n a b), .bool true]) ∧ Below w.heap.size w w' := by
  match n, h with
  | 0, _ => exact two0 a b ha hb w
  | 1, _ => exact two1 a b ha hb w
  | 2, _ => exact two2 a b ha hb w
  | 3, _ => exact two3 a b ha hb w
  | 4, _ => exact two4 a b ha hb w
  | 5, _ => exact two5 a b ha hb w
  | 6, _ => exact two6 a b ha hb w
  | 7, _ => exact two7 a b ha hb w
  | 8, _ => exact two8 a b ha hb w
  | 9, _ => exact two9 a b ha hb w
  | 10, _ => exact two10 a b ha hb w
  | 11, _ => exact two11 a b ha hb w
  | 12, _ => exact two12 a b ha hb w
  | 13, _ => exact two13 a b ha hb w
  | 14, _ => exact two14 a b ha hb w
  | 15, _ => exact two15 a b ha hb w
  | n + 16, h => exact absurd h (by omega)
theorem two_out (op a b : Int) (h : op < 0 ∨ 16 ≤ op) (w : World) :
    Calls Tryd.prog 12 #[.int .i64 op, .int .u64 a, .int .u64 b] w fun e w' => e = .returned (.tuple #[.int .u64 0, .bool false]) ∧ w = w' := by
  rcases h with h | h
  · go_enter Tryd.func12, Tryd.ntmps12
    go_wp2
    go_ret2
    exact ⟨rfl, rfl⟩
  · have h' : op > 15 := by omega
    have h'' : ¬ op < 0 := by omega
    go_enter Tryd.func12, Tryd.ntmps12
    go_wp2
    go_ret2
    exact ⟨rfl, rfl⟩
theorem two_any (op a b : Int) (ha : IsU a) (hb : IsU b) (w : World) :
    Calls Tryd.prog 12 #[.int .i64 op, .int .u64 a, .int .u64 b] w fun e w' => e = .returned (.tuple #[.int .u64 (twoV op a b), .bool (twoB op)]) ∧ Below w.heap.size w w' := by
  by_cases h : 0 ≤ op ∧ op < 16
  · obtain ⟨n, rfl⟩ := Int.eq_ofNat_of_zero_le h.1
    rw [twoV_at (by omega), twoB_at (by omega)]
    exact two_yes n (by omega) a b ha hb w
  · rw [twoV_out (by omega), twoB_out (by omega)]
    exact (two_out op a b (by omega) w).mono fun e w' ⟨h1, h2⟩ => ⟨h1, by rw [h2]; exact Below.refl _ _⟩
/-- the world's table of operations of one and a number is this -/
def TabA (w : World) : Prop := ∀ n, n < 9 → w.cell? ⟨0, n, none⟩ = some (.int .i64 (ofTwoN n))
theorem TabA.below {w w' : World} (h : TabA w) (hb : Below w.heap.size w w') : TabA w' := by
  have lt (b o : Nat) (v : Value) (hc : w.cell? ⟨b, o, none⟩ = some v) : b < w.heap.size := by
    rcases Nat.lt_or_ge b w.heap.size with h1 | h1
    · exact h1
    · simp [World.cell?, Array.getElem?_eq_none h1] at hc
  intro n hn
  have h1 := h n hn
  rw [hb.cell (p := ⟨_, _, none⟩) (lt _ _ _ h1)]; exact h1
theorem ofTwoN_lt {n : Nat} (h : n < 9) : ofTwoN n < 16 := by
  match n, h with
  | 0, _ | 1, _ | 2, _ | 3, _ | 4, _ | 5, _ | 6, _ | 7, _ | 8, _ => decide
  | n + 9, h => exact absurd h (by omega)
theorem twoI_of {n : Nat} {v : Int} {c : Int} (e : v = c) : v = c := e
theorem one_at (n : Nat) (h : n < 9) (a i : Int) (ha : IsU a) (w : World) (hT : TabA w) :
    Calls Tryd.prog 14 #[.int .i64 (16 + n), .int .u64 a, .int .i64 i] w fun e w' => e = .returned (.tuple #[.int .u64 (twoI (ofTwoN n) a (modU i)), .bool true]) ∧ Below w.heap.size w w' := by
  have hc := hT n h
  have h1 : (16 : Int) + n ≥ 16 := by omega
  have h2 : ¬ (16 : Int) + n < 16 := by omega
  have h3 : ¬ (16 : Int) + n > 24 := by omega
  have h4 : (16 : Int) + n - 16 = n := by omega
  have hu : IsU (IntKind.u64.wrap i) := by rw [wrapU]; exact isU_modU i
  have Hk := two_yes (ofTwoN n) (ofTwoN_lt h) a (modU i) ha (isU_modU i)
  rw [← wrapU] at Hk
  have Hw := Lib.hid (wrapU i)
  go_enter Tryd.func14, Tryd.ntmps14
  go_wp2_with (go_at_call 12; refine (Hk _).mono ?_; rintro e w1 ⟨rfl, hb1⟩)
  go_ret2
  rw [Hw.out]
  exact ⟨rfl, hb1⟩
theorem one_out (op a i : Int) (h : op < 16 ∨ 25 ≤ op) (w : World) :
    Calls Tryd.prog 14 #[.int .i64 op, .int .u64 a, .int .i64 i] w fun e w' => e = .returned (.tuple #[.int .u64 0, .bool false]) ∧ w = w' := by
  rcases h with h | h
  · go_enter Tryd.func14, Tryd.ntmps14
    go_wp2
    go_ret2
    exact ⟨rfl, rfl⟩
  · have h' : op > 24 := by omega
    have h'' : ¬ op < 16 := by omega
    go_enter Tryd.func14, Tryd.ntmps14
    go_wp2
    go_ret2
    exact ⟨rfl, rfl⟩
theorem one_any (op a i : Int) (ha : IsU a) (w : World) (hT : TabA w) :
    Calls Tryd.prog 14 #[.int .i64 op, .int .u64 a, .int .i64 i] w fun e w' => e = .returned (.tuple #[.int .u64 (oneV op a i), .bool (oneB op)]) ∧ Below w.heap.size w w' := by
  by_cases h : 16 ≤ op ∧ op < 25
  · obtain ⟨n, hn⟩ := Int.eq_ofNat_of_zero_le (show 0 ≤ op - 16 by omega)
    obtain rfl : op = 16 + n := by omega
    rw [oneV_at (by omega), oneB_at (by omega)]
    exact one_at n (by omega) a i ha w hT
  · rw [oneV_out (by omega), oneB_out (by omega)]
    exact (one_out op a i (by omega) w).mono fun e w' ⟨h1, h2⟩ => ⟨h1, by rw [h2]; exact Below.refl _ _⟩
theorem tak0 (a b : Int) (w : World) :
    Calls Tryd.prog 16 #[.int .i64 32, .int .u64 a, .int .u64 b] w fun e w' => e = .returned (.tuple #[.bool (takI 0 a b), .bool true]) ∧ Below w.heap.size w w' := by
  have hi : ∀ w, (Instr.index 46 conds (.int .i64 0)).run Tryd.prog w = .ok (.func (.func 51) #[] #[]) w := fun _ => by kernel_rfl
  go_enter Tryd.func16, Tryd.ntmps16
  go_wp2_with (first | (go_at_call 25; refine (conds_any _).mono ?_; rintro e w1 ⟨rfl, hb1⟩) | (go_at_call 51; refine (con1_any _ _ _).mono ?_; rintro e w' ⟨rfl, rfl⟩))
  go_ret2
  exact ⟨rfl, hb1⟩
theorem tak1 (a b : Int) (w : World) :
    Calls Tryd.prog 16 #[.int .i64 33, .int .u64 a, .int .u64 b] w fun e w' => e = .returned (.tuple #[.bool (takI 1 a b), .bool true]) ∧ Below w.heap.size w w' := by
  have hi : ∀ w, (Instr.index 46 conds (.int .i64 1)).run Tryd.prog w = .ok (.func (.func 52) #[] #[]) w := fun _ => by kernel_rfl
  go_enter Tryd.func16, Tryd.ntmps16
  go_wp2_with (first | (go_at_call 25; refine (conds_any _).mono ?_; rintro e w1 ⟨rfl, hb1⟩) | (go_at_call 52; refine (con2_any _ _ _).mono ?_; rintro e w' ⟨rfl, rfl⟩))
  go_ret2
  exact ⟨rfl, hb1⟩
theorem tak2 (a b : Int) (w : World) :
    Calls Tryd.prog 16 #[.int .i64 34, .int .u64 a, .int .u64 b] w fun e w' => e = .returned (.tuple #[.bool (takI 2 a b), .bool true]) ∧ Below w.heap.size w w' := by
  have hi : ∀ w, (Instr.index 46 conds (.int .i64 2)).run Tryd.prog w = .ok (.func (.func 53) #[] #[]) w := fun _ => by kernel_rfl
  go_enter Tryd.func16, Tryd.ntmps16
  go_wp2_with (first | (go_at_call 25; refine (conds_any _).mono ?_; rintro e w1 ⟨rfl, hb1⟩) | (go_at_call 53; refine (con3_any _ _ _).mono ?_; rintro e w' ⟨rfl, rfl⟩))
  go_ret2
  exact ⟨rfl, hb1⟩
theorem tak3 (a b : Int) (w : World) :
    Calls Tryd.prog 16 #[.int .i64 35, .int .u64 a, .int .u64 b] w fun e w' => e = .returned (.tuple #[.bool (takI 3 a b), .bool true]) ∧ Below w.heap.size w w' := by
  have hi : ∀ w, (Instr.index 46 conds (.int .i64 3)).run Tryd.prog w = .ok (.func (.func 54) #[] #[]) w := fun _ => by kernel_rfl
  go_enter Tryd.func16, Tryd.ntmps16
  go_wp2_with (first | (go_at_call 25; refine (conds_any _).mono ?_; rintro e w1 ⟨rfl, hb1⟩) | (go_at_call 54; refine (con4_any _ _ _).mono ?_; rintro e w' ⟨rfl, rfl⟩))
  go_ret2
  exact ⟨rfl, hb1⟩
theorem tak4 (a b : Int) (w : World) :
    Calls Tryd.prog 16 #[.int .i64 36, .int .u64 a, .int .u64 b] w fun e w' => e = .returned (.tuple #[.bool (takI 4 a b), .bool true]) ∧ Below w.heap.size w w' := by
  have hi : ∀ w, (Instr.index 46 conds (.int .i64 4)).run Tryd.prog w = .ok (.func (.func 55) #[] #[]) w := fun _ => by kernel_rfl
  go_enter Tryd.func16, Tryd.ntmps16
  go_wp2_with (first | (go_at_call 25; refine (conds_any _).mono ?_; rintro e w1 ⟨rfl, hb1⟩) | (go_at_call 55; refine (con5_any _ _ _).mono ?_; rintro e w' ⟨rfl, rfl⟩))
  go_ret2
  exact ⟨rfl, hb1⟩
theorem tak5 (a b : Int) (w : World) :
    Calls Tryd.prog 16 #[.int .i64 37, .int .u64 a, .int .u64 b] w fun e w' => e = .returned (.tuple #[.bool (takI 5 a b), .bool true]) ∧ Below w.heap.size w w' := by
  have hi : ∀ w, (Instr.index 46 conds (.int .i64 5)).run Tryd.prog w = .ok (.func (.func 56) #[] #[]) w := fun _ => by kernel_rfl
  go_enter Tryd.func16, Tryd.ntmps16
  go_wp2_with (first | (go_at_call 25; refine (conds_any _).mono ?_; rintro e w1 ⟨rfl, hb1⟩) | (go_at_call 56; refine (con6_any _ _ _).mono ?_; rintro e w' ⟨rfl, rfl⟩))
  go_ret2
  exact ⟨rfl, hb1⟩
theorem tak_at (n : Nat) (h : n < 6) (a b : Int) (w : World) :
    Calls Tryd.prog 16 #[.int .i64 (32 + n), .int .u64 a, .int .u64 b] w fun e w' => e = .returned (.tuple #[.bool (takI n a b), .bool true]) ∧ Below w.heap.size w w' := by
  match n, h with
  | 0, _ => exact tak0 a b w
  | 1, _ => exact tak1 a b w
  | 2, _ => exact tak2 a b w
  | 3, _ => exact tak3 a b w
  | 4, _ => exact tak4 a b w
  | 5, _ => exact tak5 a b w
  | n + 6, h => exact absurd h (by omega)
theorem tak_out (op a b : Int) (h : op < 32 ∨ 38 ≤ op) (w : World) :
    Calls Tryd.prog 16 #[.int .i64 op, .int .u64 a, .int .u64 b] w fun e w' => e = .returned (.tuple #[.bool false, .bool false]) ∧ w = w' := by
  rcases h with h | h
  · go_enter Tryd.func16, Tryd.ntmps16
    go_wp2
    go_ret2
    exact ⟨rfl, rfl⟩
  · have h' : op > 37 := by omega
    have h'' : ¬ op < 32 := by omega
    go_enter Tryd.func16, Tryd.ntmps16
    go_wp2
    go_ret2
    exact ⟨rfl, rfl⟩
theorem tak_any (op a b : Int) (w : World) :
    Calls Tryd.prog 16 #[.int .i64 op, .int .u64 a, .int .u64 b] w fun e w' => e = .returned (.tuple #[.bool (takV op a b), .bool (takB op)]) ∧ Below w.heap.size w w' := by
  by_cases h : 32 ≤ op ∧ op < 38
  · obtain ⟨n, hn⟩ := Int.eq_ofNat_of_zero_le (show 0 ≤ op - 32 by omega)
    obtain rfl : op = 32 + n := by omega
    rw [takV_at (by omega), takB_at (by omega)]
    exact tak_at n (by omega) a b w
  · rw [takV_out (by omega), takB_out (by omega)]
    exact (tak_out op a b (by omega) w).mono fun e w' ⟨h1, h2⟩ => ⟨h1, by rw [h2]; exact Below.refl _ _⟩
theorem var_any (op : Int) (w : World) :
    Calls Tryd.prog 18 #[.int .i64 op] w fun e w' => e = .returned (.bool (varB op)) ∧ w = w' := by
  by_cases h : 12 ≤ op ∧ op < 16
  · obtain rfl | rfl | rfl | rfl : op = 12 ∨ op = 13 ∨ op = 14 ∨ op = 15 := by omega
    all_goals
      go_enter Tryd.func18, Tryd.ntmps18
      go_wp2
      go_ret
      exact ⟨rfl, rfl⟩
  · have e : varB op = false := by unfold varB; simp; omega
    have h1 : (op == 12) = false := by simp; omega
    have h2 : (op == 13) = false := by simp; omega
    have h3 : (op == 14) = false := by simp; omega
    have h4 : (op == 15) = false := by simp; omega
    rw [e]
    clear h e
    go_enter Tryd.func18, Tryd.ntmps18
    go_wp2
    go_ret
    exact ⟨rfl, rfl⟩
end Go.Proofs.YtndaphdfhlefoaaDoor
