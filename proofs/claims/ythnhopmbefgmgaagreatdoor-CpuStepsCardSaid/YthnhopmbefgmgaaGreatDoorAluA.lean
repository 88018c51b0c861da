/- Layer 3: what the closures of package alu's tables answer, each of two words.
   Layer 3: what Two, One, Taken and Varies of package alu answer, whatever the operation. Condition for One: the table ofTwo reads as it should. -/
import Derived.Test.YthnhopmbefgmgaaGreatDoorChecked
import Derived.Test.YthnhopmbefgmgaaGreatDoorAluM
import Derived.WalkKit
import Derived.Lib.Hide
import Derived.Deep.QuietTactic
import Derived.BigQuiet
import Derived.Shelf.Bits.Mul64
import Derived.OpenShut
import Derived.Deep.WholeRow
namespace Go.Proofs.YthnhopmbefgmgaaGreatDoor
set_option maxRecDepth 100000
open Go.RowKit
set_option linter.unusedVariables false
theorem reu {a b : Int} (h : a = b) : Ending.returned (.int .u64 a) = Ending.returned (.int .u64 b) := by rw [h]
theorem rei {a b : Int} (h : a = b) : Ending.returned (.int .i64 a) = Ending.returned (.int .i64 b) := by rw [h]
theorem reb {a b : Bool} (h : a = b) : Ending.returned (.bool a) = Ending.returned (.bool b) := by rw [h]
theorem wrapU (a : Int) : IntKind.u64.wrap a = modU a := IntKind.wrap_u64 a
theorem aless_any (a b : Int) (w : World) :
    Calls Tryz.prog 137 #[.int .u64 a, .int .u64 b] w fun e w' => e = .returned (.bool (sltB a b)) ∧ w = w' := by
  go_enter Tryz.func137, Tryz.ntmps137
  go_wp2
  go_ret
  exact ⟨rfl, rfl⟩
theorem aoneIf_any (c : Bool) (w : World) :
    Calls Tryz.prog 136 #[.bool c] w fun e w' => e = .returned (.int .u64 (oneI c)) ∧ w = w' := by
  cases c
  all_goals
    go_enter Tryz.func136, Tryz.ntmps136
    go_wp2
    go_ret
    exact ⟨rfl, rfl⟩
theorem quo_any (a b : Int) (w : World) :
    Calls Tryz.prog 148 #[.int .i64 a, .int .i64 b] w fun e w' => e = .returned (.int .i64 (quoI a b)) ∧ w = w' := by
  by_cases h : b = 0
  · subst h
    go_enter Tryz.func148, Tryz.ntmps148
    go_wp2
    go_ret
    exact ⟨rfl, rfl⟩
  · go_enter Tryz.func148, Tryz.ntmps148
    go_wp2
    go_ret
    exact ⟨rei (by unfold quoI; rw [if_neg h]), rfl⟩
theorem rest_any (a b : Int) (w : World) :
    Calls Tryz.prog 152 #[.int .i64 a, .int .i64 b] w fun e w' => e = .returned (.int .i64 (modI a b)) ∧ w = w' := by
  by_cases h : b = 0
  · subst h
    go_enter Tryz.func152, Tryz.ntmps152
    go_wp2
    go_ret
    exact ⟨rfl, rfl⟩
  · go_enter Tryz.func152, Tryz.ntmps152
    go_wp2
    go_ret
    refine ⟨rei ?_, rfl⟩
    show a.tmod b = _
    unfold modI
    rw [if_neg h]
theorem quoU_any (a b : Int) (ha : IsU a) (hb : IsU b) (w : World) :
    Calls Tryz.prog 150 #[.int .u64 a, .int .u64 b] w fun e w' => e = .returned (.int .u64 (divuI a b)) ∧ w = w' := by
  obtain ⟨a0, a1⟩ := ha
  obtain ⟨b0, b1⟩ := hb
  by_cases h : b = 0
  · subst h
    go_enter Tryz.func150, Tryz.ntmps150
    go_wp2
    go_ret
    exact ⟨rfl, rfl⟩
  · go_enter Tryz.func150, Tryz.ntmps150
    go_wp2
    go_ret
    refine ⟨reu ?_, rfl⟩
    unfold divuI
    rw [if_neg h]
theorem restU_any (a b : Int) (ha : IsU a) (hb : IsU b) (w : World) :
    Calls Tryz.prog 154 #[.int .u64 a, .int .u64 b] w fun e w' => e = .returned (.int .u64 (remuI a b)) ∧ w = w' := by
  obtain ⟨a0, a1⟩ := ha
  obtain ⟨b0, b1⟩ := hb
  by_cases h : b = 0
  · subst h
    go_enter Tryz.func154, Tryz.ntmps154
    go_wp2
    go_ret
    exact ⟨rfl, rfl⟩
  · go_enter Tryz.func154, Tryz.ntmps154
    go_wp2
    go_ret
    refine ⟨reu ?_, rfl⟩
    unfold remuI
    rw [if_neg h]
set_option maxHeartbeats 1000000 in
theorem mul64_any (a b : Int) (ha : IsU a) (hb : IsU b) (w : World) :
    Calls Tryz.prog 165 #[.int .u64 a, .int .u64 b] w fun e w' => e = .returned (.tuple #[.int .u64 (mulhuI a b), .int .u64 (mulI a b)]) ∧ w' = w := by
  obtain ⟨a0, a1⟩ := ha
  obtain ⟨b0, b1⟩ := hb
  obtain ⟨x, rfl⟩ := Int.eq_ofNat_of_zero_le a0
  obtain ⟨y, rfl⟩ := Int.eq_ofNat_of_zero_le b0
  have hx : x < 18446744073709551616 := by omega
  have hy : y < 18446744073709551616 := by omega
  obtain ⟨bd, bt, bw, hhi⟩ := Lib.mul64_hi x y hx hy
  have ba := Lib.half_mul_le (a := x / 4294967296) (b := y / 4294967296) (by omega) (by omega)
  have bb := Lib.half_mul_le (a := x / 4294967296) (b := y % 4294967296) (by omega) (by omega)
  have bc := Lib.half_mul_le (a := x % 4294967296) (b := y / 4294967296) (by omega) (by omega)
  have ba' : x / 4294967296 * (y / 4294967296) < 18446744073709551616 := by omega
  have bb' : x / 4294967296 * (y % 4294967296) < 18446744073709551616 := by omega
  have bc' : x % 4294967296 * (y / 4294967296) < 18446744073709551616 := by omega
  have bh1 : x / 4294967296 * (y / 4294967296) + (x / 4294967296 * (y % 4294967296) + x % 4294967296 * (y % 4294967296) / 4294967296) / 4294967296 < 18446744073709551616 := by omega
  have bh : x / 4294967296 * (y / 4294967296) + (x / 4294967296 * (y % 4294967296) + x % 4294967296 * (y % 4294967296) / 4294967296) / 4294967296 + ((x / 4294967296 * (y % 4294967296) + x % 4294967296 * (y % 4294967296) / 4294967296) % 4294967296 + x % 4294967296 * (y / 4294967296)) / 4294967296 < 18446744073709551616 := by omega
  have HH := Lib.hid hhi
  clear hhi
  go_enter Tryz.func165, Tryz.ntmps165
  go_wp2
  simp only [Mul64.maskN x hx, Mul64.maskN y hy, Mul64.divN, Mul64.mulN, Mul64.addN, Mul64.wrapN _ bd, Mul64.wrapN _ bb', Mul64.wrapN _ bt, Mul64.maskN _ bt, Mul64.wrapN _ bc', Mul64.wrapN _ bw, Mul64.wrapN _ ba', Mul64.wrapN _ bh1, Mul64.wrapN _ bh, Mul64.wrapM (x * y)]
  go_ret2
  refine ⟨?_, rfl⟩
  have e1 : mulhuI x y = ((x * y / 18446744073709551616 : Nat) : Int) := by unfold mulhuI; rw [← Int.natCast_mul]; omega
  have e2 : mulI x y = ((x * y % 18446744073709551616 : Nat) : Int) := by unfold mulI modU; rw [← Int.natCast_mul]; omega
  rw [e1, e2, ← HH.out]
  rfl
theorem rec1_any (a b : Int) (ha : IsU a) (hb : IsU b) (w : World) :
    Calls Tryz.prog 132 #[.int .u64 a, .int .u64 b] w fun e w' => e = .returned (.int .u64 (addI a b)) ∧ w = w' := by
  go_enter Tryz.func132, Tryz.ntmps132
  go_wp2
  go_ret
  exact ⟨reu (wrapU _), rfl⟩
theorem rec2_any (a b : Int) (ha : IsU a) (hb : IsU b) (w : World) :
    Calls Tryz.prog 133 #[.int .u64 a, .int .u64 b] w fun e w' => e = .returned (.int .u64 (subI a b)) ∧ w = w' := by
  go_enter Tryz.func133, Tryz.ntmps133
  go_wp2
  go_ret
  exact ⟨reu (wrapU _), rfl⟩
theorem rec3_any (a b : Int) (ha : IsU a) (hb : IsU b) (w : World) :
    Calls Tryz.prog 134 #[.int .u64 a, .int .u64 b] w fun e w' => e = .returned (.int .u64 (sllI a b)) ∧ w = w' := by
  obtain ⟨a0, a1⟩ := ha
  obtain ⟨b0, b1⟩ := hb
  go_enter Tryz.func134, Tryz.ntmps134
  go_wp2
  go_ret
  exact ⟨reu (wrapU _), rfl⟩
theorem rec4_any (a b : Int) (ha : IsU a) (hb : IsU b) (w : World) :
    Calls Tryz.prog 135 #[.int .u64 a, .int .u64 b] w fun e w' => e = .returned (.int .u64 (oneI (sltB a b))) ∧ w = w' := by
  go_enter Tryz.func135, Tryz.ntmps135
  go_wp2_with (first | (go_at_call 137; refine (aless_any _ _ _).mono ?_; rintro e w' ⟨rfl, rfl⟩) | (go_at_call 136; refine (aoneIf_any _ _).mono ?_; rintro e w' ⟨rfl, rfl⟩))
  go_ret
  exact ⟨rfl, rfl⟩
theorem rec5_any (a b : Int) (ha : IsU a) (hb : IsU b) (w : World) :
    Calls Tryz.prog 138 #[.int .u64 a, .int .u64 b] w fun e w' => e = .returned (.int .u64 (oneI (sltuB a b))) ∧ w = w' := by
  go_enter Tryz.func138, Tryz.ntmps138
  go_wp2_with (first | (go_at_call 136; refine (aoneIf_any _ _).mono ?_; rintro e w' ⟨rfl, rfl⟩))
  go_ret
  exact ⟨rfl, rfl⟩
theorem rec6_any (a b : Int) (ha : IsU a) (hb : IsU b) (w : World) :
    Calls Tryz.prog 139 #[.int .u64 a, .int .u64 b] w fun e w' => e = .returned (.int .u64 (xorI a b)) ∧ w = w' := by
  go_enter Tryz.func139, Tryz.ntmps139
  go_wp2
  go_ret
  exact ⟨rfl, rfl⟩
theorem rec7_any (a b : Int) (ha : IsU a) (hb : IsU b) (w : World) :
    Calls Tryz.prog 140 #[.int .u64 a, .int .u64 b] w fun e w' => e = .returned (.int .u64 (srlI a b)) ∧ w = w' := by
  obtain ⟨a0, a1⟩ := ha
  obtain ⟨b0, b1⟩ := hb
  go_enter Tryz.func140, Tryz.ntmps140
  go_wp2
  go_ret
  exact ⟨rfl, rfl⟩
theorem rec8_any (a b : Int) (ha : IsU a) (hb : IsU b) (w : World) :
    Calls Tryz.prog 141 #[.int .u64 a, .int .u64 b] w fun e w' => e = .returned (.int .u64 (sraI a b)) ∧ w = w' := by
  obtain ⟨a0, a1⟩ := ha
  obtain ⟨b0, b1⟩ := hb
  go_enter Tryz.func141, Tryz.ntmps141
  go_wp2
  go_ret
  exact ⟨reu (wrapU _), rfl⟩
theorem rec9_any (a b : Int) (ha : IsU a) (hb : IsU b) (w : World) :
    Calls Tryz.prog 142 #[.int .u64 a, .int .u64 b] w fun e w' => e = .returned (.int .u64 (orI a b)) ∧ w = w' := by
  go_enter Tryz.func142, Tryz.ntmps142
  go_wp2
  go_ret
  exact ⟨rfl, rfl⟩
theorem rec10_any (a b : Int) (ha : IsU a) (hb : IsU b) (w : World) :
    Calls Tryz.prog 143 #[.int .u64 a, .int .u64 b] w fun e w' => e = .returned (.int .u64 (andI a b)) ∧ w = w' := by
  go_enter Tryz.func143, Tryz.ntmps143
  go_wp2
  go_ret
  exact ⟨rfl, rfl⟩
theorem rec11_any (a b : Int) (ha : IsU a) (hb : IsU b) (w : World) :
    Calls Tryz.prog 144 #[.int .u64 a, .int .u64 b] w fun e w' => e = .returned (.int .u64 (mulI a b)) ∧ w = w' := by
  go_enter Tryz.func144, Tryz.ntmps144
  go_wp2
  go_ret
  exact ⟨reu (wrapU _), rfl⟩
theorem upper_any (a b : Int) (ha : IsU a) (hb : IsU b) (w : World) :
    Calls Tryz.prog 146 #[.int .u64 a, .int .u64 b] w fun e w' => e = .returned (.int .u64 (mulhuI a b)) ∧ w = w' := by
  go_enter Tryz.func146, Tryz.ntmps146
  go_wp2_with (go_at_call 165; refine (mul64_any _ _ ha hb _).mono ?_; rintro e w' ⟨rfl, rfl⟩)
  go_ret
  exact ⟨rfl, rfl⟩
theorem rec12_any (a b : Int) (ha : IsU a) (hb : IsU b) (w : World) :
    Calls Tryz.prog 145 #[.int .u64 a, .int .u64 b] w fun e w' => e = .returned (.int .u64 (mulhuI a b)) ∧ w = w' := by
  go_enter Tryz.func145, Tryz.ntmps145
  go_wp2_with (first | (go_at_call 146; refine (upper_any _ _ ha hb _).mono ?_; rintro e w' ⟨rfl, rfl⟩))
  go_ret
  exact ⟨rfl, rfl⟩
theorem rec13_any (a b : Int) (ha : IsU a) (hb : IsU b) (w : World) :
    Calls Tryz.prog 147 #[.int .u64 a, .int .u64 b] w fun e w' => e = .returned (.int .u64 (divI a b)) ∧ w = w' := by
  go_enter Tryz.func147, Tryz.ntmps147
  go_wp2_with (first | (go_at_call 148; refine (quo_any _ _ _).mono ?_; rintro e w' ⟨rfl, rfl⟩))
  go_ret
  exact ⟨reu (wrapU _), rfl⟩
theorem rec14_any (a b : Int) (ha : IsU a) (hb : IsU b) (w : World) :
    Calls Tryz.prog 149 #[.int .u64 a, .int .u64 b] w fun e w' => e = .returned (.int .u64 (divuI a b)) ∧ w = w' := by
  go_enter Tryz.func149, Tryz.ntmps149
  go_wp2_with (first | (go_at_call 150; refine (quoU_any _ _ ha hb _).mono ?_; rintro e w' ⟨rfl, rfl⟩))
  go_ret
  exact ⟨rfl, rfl⟩
theorem rec15_any (a b : Int) (ha : IsU a) (hb : IsU b) (w : World) :
    Calls Tryz.prog 151 #[.int .u64 a, .int .u64 b] w fun e w' => e = .returned (.int .u64 (remI a b)) ∧ w = w' := by
  go_enter Tryz.func151, Tryz.ntmps151
  go_wp2_with (first | (go_at_call 152; refine (rest_any _ _ _).mono ?_; rintro e w' ⟨rfl, rfl⟩))
  go_ret
  exact ⟨reu (wrapU _), rfl⟩
theorem rec16_any (a b : Int) (ha : IsU a) (hb : IsU b) (w : World) :
    Calls Tryz.prog 153 #[.int .u64 a, .int .u64 b] w fun e w' => e = .returned (.int .u64 (remuI a b)) ∧ w = w' := by
  go_enter Tryz.func153, Tryz.ntmps153
  go_wp2_with (first | (go_at_call 154; refine (restU_any _ _ ha hb _).mono ?_; rintro e w' ⟨rfl, rfl⟩))
  go_ret
  exact ⟨rfl, rfl⟩
theorem con1_any (a b : Int) (w : World) :
    Calls Tryz.prog 155 #[.int .u64 a, .int .u64 b] w fun e w' => e = .returned (.bool (a == b)) ∧ w = w' := by
  go_enter Tryz.func155, Tryz.ntmps155
  go_wp2
  go_ret
  exact ⟨rfl, rfl⟩
theorem con2_any (a b : Int) (w : World) :
    Calls Tryz.prog 156 #[.int .u64 a, .int .u64 b] w fun e w' => e = .returned (.bool (!(a == b))) ∧ w = w' := by
  go_enter Tryz.func156, Tryz.ntmps156
  go_wp2
  go_ret
  exact ⟨rfl, rfl⟩
theorem con3_any (a b : Int) (w : World) :
    Calls Tryz.prog 157 #[.int .u64 a, .int .u64 b] w fun e w' => e = .returned (.bool (sltB a b)) ∧ w = w' := by
  go_enter Tryz.func157, Tryz.ntmps157
  go_wp2_with (go_at_call 137; refine (aless_any _ _ _).mono ?_; rintro e w' ⟨rfl, rfl⟩)
  go_ret
  exact ⟨rfl, rfl⟩
theorem con4_any (a b : Int) (w : World) :
    Calls Tryz.prog 158 #[.int .u64 a, .int .u64 b] w fun e w' => e = .returned (.bool (!sltB a b)) ∧ w = w' := by
  go_enter Tryz.func158, Tryz.ntmps158
  go_wp2_with (go_at_call 137; refine (aless_any _ _ _).mono ?_; rintro e w' ⟨rfl, rfl⟩)
  go_ret
  exact ⟨rfl, rfl⟩
theorem con5_any (a b : Int) (w : World) :
    Calls Tryz.prog 159 #[.int .u64 a, .int .u64 b] w fun e w' => e = .returned (.bool (sltuB a b)) ∧ w = w' := by
  go_enter Tryz.func159, Tryz.ntmps159
  go_wp2
  go_ret
  exact ⟨rfl, rfl⟩
theorem con6_any (a b : Int) (w : World) :
    Calls Tryz.prog 160 #[.int .u64 a, .int .u64 b] w fun e w' => e = .returned (.bool (!sltuB a b)) ∧ w = w' := by
  go_enter Tryz.func160, Tryz.ntmps160
  go_wp2
  go_ret
  refine ⟨reb ?_, rfl⟩
  show decide (b ≤ a) = !decide (a < b)
  by_cases h : a < b <;> simp [h] <;> omega
end Go.Proofs.YthnhopmbefgmgaaGreatDoor
namespace Go.Proofs.YthnhopmbefgmgaaGreatDoor
set_option maxRecDepth 100000
open Go.RowKit
set_option linter.unusedVariables false

theorem wpList_store_all {P : Program} {ops : Array Oper} {rest : List Oper} {o : Oper} {a : Act} {Q : Exit → Act → World → Prop} (hgd : o.guard = none) (ty : TypeId) (x y : Operand) (ho : o.op = .store ty x y)
    (w0 : World) (c c' : Array Value) (g : Nat) (hx : a.eval x = .pointer (some ⟨g, 0, none⟩)) (hy : a.eval y = .agg c') (hi : (P.info? ty).map (·.size) = some c'.size) (hs : c.size = c'.size) (h1 : c'.all (·.oneCell') = true)
    (hd : o.dst = none) (hg : w0.heap.size = g) (h : wpList P ops Q rest a (w0.alloc (.cells c' ty))) : wpList P ops Q (o :: rest) a (w0.alloc (.cells c ty)) :=
  wpList_plain hgd fun K hK => by
    subst hg
    unfold Oper.wp execOp
    simp only [ho, hx, hy, run_storeAt_new w0 ty c c' hi hs h1, Sem.run_bind, Result.andThen_ok, Sem.run_pure]
    have e : a.put o.dst undef = a := by rw [hd]; rfl
    rw [← e] at h
    exact hK _ _ h
def fv (k : Nat) : Value := .func (.func k) #[] #[]
theorem recInfo : (Tryz.prog.info? 160).map (·.size) = some 16 := by kernel_rfl
theorem conInfo : (Tryz.prog.info? 164).map (·.size) = some 6 := by kernel_rfl
def recs : Value := .agg #[fv 132, fv 133, fv 134, fv 135, fv 138, fv 139, fv 140, fv 141, fv 142, fv 143, fv 144, fv 145, fv 147, fv 149, fv 151, fv 153]
def conds : Value := .agg #[fv 155, fv 156, fv 157, fv 158, fv 159, fv 160]
theorem recs_any (w : World) : Calls Tryz.prog 116 #[] w fun e w' => e = .returned recs ∧ Below w.heap.size w w' := by
  go_enter Tryz.func116, Tryz.ntmps116
  go_wp2_with (refine wpList_store_all rfl 160 _ _ rfl _ _ _ _ rfl rfl ?hi ?hs ?h1 rfl ?hg ?_; (case hi => exact recInfo); (case hs => exact rfl); (case h1 => simp [Value.oneCell']); (case hg => exact rfl))
  refine bodyPost_ret (v := .agg #[fv 132, fv 133, fv 134, fv 135, fv 138, fv 139, fv 140, fv 141, fv 142, fv 143, fv 144, fv 145, fv 147, fv 149, fv 151, fv 153]) ?_ rfl ⟨rfl, (Below.refl _ _).alloc (Nat.le_refl _) _⟩
  simp [results, Tryz.results116, go_sem, fv]
theorem conds_any (w : World) : Calls Tryz.prog 117 #[] w fun e w' => e = .returned conds ∧ Below w.heap.size w w' := by
  go_enter Tryz.func117, Tryz.ntmps117
  go_wp2_with (refine wpList_store_all rfl 164 _ _ rfl _ _ _ _ rfl rfl ?hi ?hs ?h1 rfl ?hg ?_; (case hi => exact conInfo); (case hs => exact rfl); (case h1 => simp [Value.oneCell']); (case hg => exact rfl))
  refine bodyPost_ret (v := .agg #[fv 155, fv 156, fv 157, fv 158, fv 159, fv 160]) ?_ rfl ⟨rfl, (Below.refl _ _).alloc (Nat.le_refl _) _⟩
  simp [results, Tryz.results117, go_sem, fv]
theorem two0 (a b : Int) (ha : IsU a) (hb : IsU b) (w : World) :
    Calls Tryz.prog 89 #[.int .i64 0, .int .u64 a, .int .u64 b] w fun e w' => e = .returned (.tuple #[.int .u64 (twoI 0 a b), .bool true]) ∧ Below w.heap.size w w' := by
  have hi : ∀ w, (Instr.index 160 recs (.int .i64 0)).run Tryz.prog w = .ok (.func (.func 132) #[] #[]) w := fun _ => by kernel_rfl
  go_enter Tryz.func89, Tryz.ntmps89
  go_wp2_with (first | (go_at_call 116; refine (recs_any _).mono ?_; rintro e w1 ⟨rfl, hb1⟩) | (go_at_call 132; refine (rec1_any _ _ ha hb _).mono ?_; rintro e w' ⟨rfl, rfl⟩))
  go_ret2
  exact ⟨rfl, hb1⟩
theorem two1 (a b : Int) (ha : IsU a) (hb : IsU b) (w : World) :
    Calls Tryz.prog 89 #[.int .i64 1, .int .u64 a, .int .u64 b] w fun e w' => e = .returned (.tuple #[.int .u64 (twoI 1 a b), .bool true]) ∧ Below w.heap.size w w' := by
  have hi : ∀ w, (Instr.index 160 recs (.int .i64 1)).run Tryz.prog w = .ok (.func (.func 133) #[] #[]) w := fun _ => by kernel_rfl
  go_enter Tryz.func89, Tryz.ntmps89
  go_wp2_with (first | (go_at_call 116; refine (recs_any _).mono ?_; rintro e w1 ⟨rfl, hb1⟩) | (go_at_call 133; refine (rec2_any _ _ ha hb _).mono ?_; rintro e w' ⟨rfl, rfl⟩))
  go_ret2
  exact ⟨rfl, hb1⟩
theorem two2 (a b : Int) (ha : IsU a) (hb : IsU b) (w : World) :
    Calls Tryz.prog 89 #[.int .i64 2, .int .u64 a, .int .u64 b] w fun e w' => e = .returned (.tuple #[.int .u64 (twoI 2 a b), .bool true]) ∧ Below w.heap.size w w' := by
  have hi : ∀ w, (Instr.index 160 recs (.int .i64 2)).run Tryz.prog w = .ok (.func (.func 134) #[] #[]) w := fun _ => by kernel_rfl
  go_enter Tryz.func89, Tryz.ntmps89
  go_wp2_with (first | (go_at_call 116; refine (recs_any _).mono ?_; rintro e w1 ⟨rfl, hb1⟩) | (go_at_call 134; refine (rec3_any _ _ ha hb _).mono ?_; rintro e w' ⟨rfl, rfl⟩))
  go_ret2
  exact ⟨rfl, hb1⟩
theorem two3 (a b : Int) (ha : IsU a) (hb : IsU b) (w : World) :
    Calls Tryz.prog 89 #[.int .i64 3, .int .u64 a, .int .u64 b] w fun e w' => e = .returned (.tuple #[.int .u64 (twoI 3 a b), .bool true]) ∧ Below w.heap.size w w' := by
  have hi : ∀ w, (Instr.index 160 recs (.int .i64 3)).run Tryz.prog w = .ok (.func (.func 135) #[] #[]) w := fun _ => by kernel_rfl
  go_enter Tryz.func89, Tryz.ntmps89
  go_wp2_with (first | (go_at_call 116; refine (recs_any _).mono ?_; rintro e w1 ⟨rfl, hb1⟩) | (go_at_call 135; refine (rec4_any _ _ ha hb _).mono ?_; rintro e w' ⟨rfl, rfl⟩))
  go_ret2
  exact ⟨rfl, hb1⟩
theorem two4 (a b : Int) (ha : IsU a) (hb : IsU b) (w : World) :
    Calls Tryz.prog 89 #[.int .i64 4, .int .u64 a, .int .u64 b] w fun e w' => e = .returned (.tuple #[.int .u64 (twoI 4 a b), .bool true]) ∧ Below w.heap.size w w' := by
  have hi : ∀ w, (Instr.index 160 recs (.int .i64 4)).run Tryz.prog w = .ok (.func (.func 138) #[] #[]) w := fun _ => by kernel_rfl
  go_enter Tryz.func89, Tryz.ntmps89
  go_wp2_with (first | (go_at_call 116; refine (recs_any _).mono ?_; rintro e w1 ⟨rfl, hb1⟩) | (go_at_call 138; refine (rec5_any _ _ ha hb _).mono ?_; rintro e w' ⟨rfl, rfl⟩))
  go_ret2
  exact ⟨rfl, hb1⟩
theorem two5 (a b : Int) (ha : IsU a) (hb : IsU b) (w : World) :
    Calls Tryz.prog 89 #[.int .i64 5, .int .u64 a, .int .u64 b] w fun e w' => e = .returned (.tuple #[.int .u64 (twoI 5 a b), .bool true]) ∧ Below w.heap.size w w' := by
  have hi : ∀ w, (Instr.index 160 recs (.int .i64 5)).run Tryz.prog w = .ok (.func (.func 139) #[] #[]) w := fun _ => by kernel_rfl
  go_enter Tryz.func89, Tryz.ntmps89
  go_wp2_with (first | (go_at_call 116; refine (recs_any _).mono ?_; rintro e w1 ⟨rfl, hb1⟩) | (go_at_call 139; refine (rec6_any _ _ ha hb _).mono ?_; rintro e w' ⟨rfl, rfl⟩))
  go_ret2
  exact ⟨rfl, hb1⟩
theorem two6 (a b : Int) (ha : IsU a) (hb : IsU b) (w : World) :
    Calls Tryz.prog 89 #[.int .i64 6, .int .u64 a, .int .u64 b] w fun e w' => e = .returned (.tuple #[.int .u64 (twoI 6 a b), .bool true]) ∧ Below w.heap.size w w' := by
  have hi : ∀ w, (Instr.index 160 recs (.int .i64 6)).run Tryz.prog w = .ok (.func (.func 140) #[] #[]) w := fun _ => by kernel_rfl
  go_enter Tryz.func89, Tryz.ntmps89
  go_wp2_with (first | (go_at_call 116; refine (recs_any _).mono ?_; rintro e w1 ⟨rfl, hb1⟩) | (go_at_call 140; refine (rec7_any _ _ ha hb _).mono ?_; rintro e w' ⟨rfl, rfl⟩))
  go_ret2
  exact ⟨rfl, hb1⟩
theorem two7 (a b : Int) (ha : IsU a) (hb : IsU b) (w : World) :
    Calls Tryz.prog 89 #[.int .i64 7, .int .u64 a, .int .u64 b] w fun e w' => e = .returned (.tuple #[.int .u64 (twoI 7 a b), .bool true]) ∧ Below w.heap.size w w' := by
  have hi : ∀ w, (Instr.index 160 recs (.int .i64 7)).run Tryz.prog w = .ok (.func (.func 141) #[] #[]) w := fun _ => by kernel_rfl
  go_enter Tryz.func89, Tryz.ntmps89
  go_wp2_with (first | (go_at_call 116; refine (recs_any _).mono ?_; rintro e w1 ⟨rfl, hb1⟩) | (go_at_call 141; refine (rec8_any _ _ ha hb _).mono ?_; rintro e w' ⟨rfl, rfl⟩))
  go_ret2
  exact ⟨rfl, hb1⟩
theorem two8 (a b : Int) (ha : IsU a) (hb : IsU b) (w : World) :
    Calls Tryz.prog 89 #[.int .i64 8, .int .u64 a, .int .u64 b] w fun e w' => e = .returned (.tuple #[.int .u64 (twoI 8 a b), .bool true]) ∧ Below w.heap.size w w' := by
  have hi : ∀ w, (Instr.index 160 recs (.int .i64 8)).run Tryz.prog w = .ok (.func (.func 142) #[] #[]) w := fun _ => by kernel_rfl
  go_enter Tryz.func89, Tryz.ntmps89
  go_wp2_with (first | (go_at_call 116; refine (recs_any _).mono ?_; rintro e w1 ⟨rfl, hb1⟩) | (go_at_call 142; refine (rec9_any _ _ ha hb _).mono ?_; rintro e w' ⟨rfl, rfl⟩))
  go_ret2
  exact ⟨rfl, hb1⟩
theorem two9 (a b : Int) (ha : IsU a) (hb : IsU b) (w : World) :
    Calls Tryz.prog 89 #[.int .i64 9, .int .u64 a, .int .u64 b] w fun e w' => e = .returned (.tuple #[.int .u64 (twoI 9 a b), .bool true]) ∧ Below w.heap.size w w' := by
  have hi : ∀ w, (Instr.index 160 recs (.int .i64 9)).run Tryz.prog w = .ok (.func (.func 143) #[] #[]) w := fun _ => by kernel_rfl
  go_enter Tryz.func89, Tryz.ntmps89
  go_wp2_with (first | (go_at_call 116; refine (recs_any _).mono ?_; rintro e w1 ⟨rfl, hb1⟩) | (go_at_call 143; refine (rec10_any _ _ ha hb _).mono ?_; rintro e w' ⟨rfl, rfl⟩))
  go_ret2
  exact ⟨rfl, hb1⟩
theorem two10 (a b : Int) (ha : IsU a) (hb : IsU b) (w : World) :
    Calls Tryz.prog 89 #[.int .i64 10, .int .u64 a, .int .u64 b] w fun e w' => e = .returned (.tuple #[.int .u64 (twoI 10 a b), .bool true]) ∧ Below w.heap.size w w' := by
  have hi : ∀ w, (Instr.index 160 recs (.int .i64 10)).run Tryz.prog w = .ok (.func (.func 144) #[] #[]) w := fun _ => by kernel_rfl
  go_enter Tryz.func89, Tryz.ntmps89
  go_wp2_with (first | (go_at_call 116; refine (recs_any _).mono ?_; rintro e w1 ⟨rfl, hb1⟩) | (go_at_call 144; refine (rec11_any _ _ ha hb _).mono ?_; rintro e w' ⟨rfl, rfl⟩))
  go_ret2
  exact ⟨rfl, hb1⟩
theorem two11 (a b : Int) (ha : IsU a) (hb : IsU b) (w : World) :
    Calls Tryz.prog 89 #[.int .i64 11, .int .u64 a, .int .u64 b] w fun e w' => e = .returned (.tuple #[.int .u64 (twoI 11 a b), .bool true]) ∧ Below w.heap.size w w' := by
  have hi : ∀ w, (Instr.index 160 recs (.int .i64 11)).run Tryz.prog w = .ok (.func (.func 145) #[] #[]) w := fun _ => by kernel_rfl
  go_enter Tryz.func89, Tryz.ntmps89
  go_wp2_with (first | (go_at_call 116; refine (recs_any _).mono ?_; rintro e w1 ⟨rfl, hb1⟩) | (go_at_call 145; refine (rec12_any _ _ ha hb _).mono ?_; rintro e w' ⟨rfl, rfl⟩))
  go_ret2
  exact ⟨rfl, hb1⟩
theorem two12 (a b : Int) (ha : IsU a) (hb : IsU b) (w : World) :
    Calls Tryz.prog 89 #[.int .i64 12, .int .u64 a, .int .u64 b] w fun e w' => e = .returned (.tuple #[.int .u64 (twoI 12 a b), .bool true]) ∧ Below w.heap.size w w' := by
  have hi : ∀ w, (Instr.index 160 recs (.int .i64 12)).run Tryz.prog w = .ok (.func (.func 147) #[] #[]) w := fun _ => by kernel_rfl
  go_enter Tryz.func89, Tryz.ntmps89
  go_wp2_with (first | (go_at_call 116; refine (recs_any _).mono ?_; rintro e w1 ⟨rfl, hb1⟩) | (go_at_call 147; refine (rec13_any _ _ ha hb _).mono ?_; rintro e w' ⟨rfl, rfl⟩))
  go_ret2
  exact ⟨rfl, hb1⟩
theorem two13 (a b : Int) (ha : IsU a) (hb : IsU b) (w : World) :
    Calls Tryz.prog 89 #[.int .i64 13, .int .u64 a, .int .u64 b] w fun e w' => e = .returned (.tuple #[.int .u64 (twoI 13 a b), .bool true]) ∧ Below w.heap.size w w' := by
  have hi : ∀ w, (Instr.index 160 recs (.int .i64 13)).run Tryz.prog w = .ok (.func (.func 149) #[] #[]) w := fun _ => by kernel_rfl
  go_enter Tryz.func89, Tryz.ntmps89
  go_wp2_with (first | (go_at_call 116; refine (recs_any _).mono ?_; rintro e w1 ⟨rfl, hb1⟩) | (go_at_call 149; refine (rec14_any _ _ ha hb _).mono ?_; rintro e w' ⟨rfl, rfl⟩))
  go_ret2
  exact ⟨rfl, hb1⟩
theorem two14 (a b : Int) (ha : IsU a) (hb : IsU b) (w : World) :
    Calls Tryz.prog 89 #[.int .i64 14, .int .u64 a, .int .u64 b] w fun e w' => e = .returned (.tuple #[.int .u64 (twoI 14 a b), .bool true]) ∧ Below w.heap.size w w' := by
  have hi : ∀ w, (Instr.index 160 recs (.int .i64 14)).run Tryz.prog w = .ok (.func (.func 151) #[] #[]) w := fun _ => by kernel_rfl
  go_enter Tryz.func89, Tryz.ntmps89
  go_wp2_with (first | (go_at_call 116; refine (recs_any _).mono ?_; rintro e w1 ⟨rfl, hb1⟩) | (go_at_call 151; refine (rec15_any _ _ ha hb _).mono ?_; rintro e w' ⟨rfl, rfl⟩))
  go_ret2
  exact ⟨rfl, hb1⟩
theorem two15 (a b : Int) (ha : IsU a) (hb : IsU b) (w : World) :
    Calls Tryz.prog 89 #[.int .i64 15, .int .u64 a, .int .u64 b] w fun e w' => e = .returned (.tuple #[.int .u64 (twoI 15 a b), .bool true]) ∧ Below w.heap.size w w' := by
  have hi : ∀ w, (Instr.index 160 recs (.int .i64 15)).run Tryz.prog w = .ok (.func (.func 153) #[] #[]) w := fun _ => by kernel_rfl
  go_enter Tryz.func89, Tryz.ntmps89
  go_wp2_with (first | (go_at_call 116; refine (recs_any _).mono ?_; rintro e w1 ⟨rfl, hb1⟩) | (go_at_call 153; refine (rec16_any _ _ ha hb _).mono ?_; rintro e w' ⟨rfl, rfl⟩))
  go_ret2
  exact ⟨rfl, hb1⟩
theorem two_yes (n : Nat) (h : n < 16) (a b : Int) (ha : IsU a) (hb : IsU b) (w : World) :
    Calls Tryz.prog 89 #[.int .i64 n, .int .u64 a, .int .u64 b] w fun e w' => e = .returned (.tuple #[.int .u64 (twoI n a b), .bool true]) ∧ Below w.heap.size w w' := by
  match n, h with
  | 0, _ => exact two0 a b ha hb w
  | 1, _ => exact two1 a b ha hb w
  | 2, _ => exact two2 a b ha hb w
  | 3, _ => exact two3 a b ha hb w
  | 4, _ => exact two4 a b ha hb w
  | 5, _ => exact two5 a b ha hb w
  | 6, _ => exact two6 a b ha hb w
  | 7, _ => exact two7 a b ha hb w
  | 8, _ => exact two8 a b ha hb w
  | 9, _ => exact two9 a b ha hb w
  | 10, _ => exact two10 a b ha hb w
  | 11, _ => exact two11 a b ha hb w
  | 12, _ => exact two12 a b ha hb w
  | 13, _ => exact two13 a b ha hb w
  | 14, _ => exact two14 a b ha hb w
  | 15, _ => exact two15 a b ha hb w
  | n + 16, h => exact absurd h (by omega)
theorem two_out (op a b : Int) (h : op < 0 ∨ 16 ≤ op) (w : World) :
    Calls Tryz.prog 89 #[.int .i64 op, .int .u64 a, .int .u64 b] w fun e w' => e = .returned (.tuple #[.int .u64 0, .bool false]) ∧ w = w' := by
  rcases h with h | h
  · go_enter Tryz.func89, Tryz.ntmps89
    go_wp2
    go_ret2
    exact ⟨rfl, rfl⟩
  · have h' : op > 15 := by omega
    have h'' : ¬ op < 0 := by omega
    go_enter Tryz.func89, Tryz.ntmps89
    go_wp2
    go_ret2
    exact ⟨rfl, rfl⟩
theorem two_any (op a b : Int) (ha : IsU a) (hb : IsU b) (w : World) :
    Calls Tryz.prog 89 #[.int .i64 op, .int .u64 a, .int .u64 b] w fun e w' => e = .returned (.tuple #[.int .u64 (twoV op a b), .bool (twoB op)]) ∧ Below w.heap.size w w' := by
  by_cases h : 0 ≤ op ∧ op < 16
  · obtain ⟨n, rfl⟩ := Int.eq_ofNat_of_zero_le h.1
    rw [twoV_at (by omega), twoB_at (by omega)]
    exact two_yes n (by omega) a b ha hb w
  · rw [twoV_out (by omega), twoB_out (by omega)]
    exact (two_out op a b (by omega) w).mono fun e w' ⟨h1, h2⟩ => ⟨h1, by rw [h2]; exact Below.refl _ _⟩
/-- the world's table of operations of one and a number is this -/
def TabA (w : World) : Prop := ∀ n, n < 9 → w.cell? ⟨2, n, none⟩ = some (.int .i64 (ofTwoN n))
theorem TabA.below {w w' : World} (h : TabA w) (hb : Below w.heap.size w w') : TabA w' := by
  have lt (b o : Nat) (v : Value) (hc : w.cell? ⟨b, o, none⟩ = some v) : b < w.heap.size := by
    rcases Nat.lt_or_ge b w.heap.size with h1 | h1
    · exact h1
    · simp [World.cell?, Array.getElem?_eq_none h1] at hc
  intro n hn
  have h1 := h n hn
  rw [hb.cell (p := ⟨_, _, none⟩) (lt _ _ _ h1)]; exact h1
theorem ofTwoN_lt {n : Nat} (h : n < 9) : ofTwoN n < 16 := by
  match n, h with
  | 0, _ | 1, _ | 2, _ | 3, _ | 4, _ | 5, _ | 6, _ | 7, _ | 8, _ => decide
  | n + 9, h => exact absurd h (by omega)
theorem twoI_of {n : Nat} {v : Int} {c : Int} (e : v = c) : v = c := e
theorem aone_at (n : Nat) (h : n < 9) (a i : Int) (ha : IsU a) (w : World) (hT : TabA w) :
    Calls Tryz.prog 90 #[.int .i64 (16 + n), .int .u64 a, .int .i64 i] w fun e w' => e = .returned (.tuple #[.int .u64 (twoI (ofTwoN n) a (modU i)), .bool true]) ∧ Below w.heap.size w w' := by
  have hc := hT n h
  have h1 : (16 : Int) + n ≥ 16 := by omega
  have h2 : ¬ (16 : Int) + n < 16 := by omega
  have h3 : ¬ (16 : Int) + n > 24 := by omega
  have h4 : (16 : Int) + n - 16 = n := by omega
  have hu : IsU (IntKind.u64.wrap i) := by rw [wrapU]; exact isU_modU i
  have Hk := two_yes (ofTwoN n) (ofTwoN_lt h) a (modU i) ha (isU_modU i)
  rw [← wrapU] at Hk
  have Hw := Lib.hid (wrapU i)
  go_enter Tryz.func90, Tryz.ntmps90
  go_wp2_with (go_at_call 89; refine (Hk _).mono ?_; rintro e w1 ⟨rfl, hb1⟩)
  go_ret2
  rw [Hw.out]
  exact ⟨rfl, hb1⟩
theorem one_out (op a i : Int) (h : op < 16 ∨ 25 ≤ op) (w : World) :
    Calls Tryz.prog 90 #[.int .i64 op, .int .u64 a, .int .i64 i] w fun e w' => e = .returned (.tuple #[.int .u64 0, .bool false]) ∧ w = w' := by
  rcases h with h | h
  · go_enter Tryz.func90, Tryz.ntmps90
    go_wp2
    go_ret2
    exact ⟨rfl, rfl⟩
  · have h' : op > 24 := by omega
    have h'' : ¬ op < 16 := by omega
    go_enter Tryz.func90, Tryz.ntmps90
    go_wp2
    go_ret2
    exact ⟨rfl, rfl⟩
theorem one_any (op a i : Int) (ha : IsU a) (w : World) (hT : TabA w) :
    Calls Tryz.prog 90 #[.int .i64 op, .int .u64 a, .int .i64 i] w fun e w' => e = .returned (.tuple #[.int .u64 (oneV op a i), .bool (oneB op)]) ∧ Below w.heap.size w w' := by
  by_cases h : 16 ≤ op ∧ op < 25
  · obtain ⟨n, hn⟩ := Int.eq_ofNat_of_zero_le (show 0 ≤ op - 16 by omega)
    obtain rfl : op = 16 + n := by omega
    rw [oneV_at (by omega), oneB_at (by omega)]
    exact aone_at n (by omega) a i ha w hT
  · rw [oneV_out (by omega), oneB_out (by omega)]
    exact (one_out op a i (by omega) w).mono fun e w' ⟨h1, h2⟩ => ⟨h1, by rw [h2]; exact Below.refl _ _⟩
theorem tak0 (a b : Int) (w : World) :
    Calls Tryz.prog 91 #[.int .i64 32, .int .u64 a, .int .u64 b] w fun e w' => e = .returned (.tuple #[.bool (takI 0 a b), .bool true]) ∧ Below w.heap.size w w' := by
  have hi : ∀ w, (Instr.index 164 conds (.int .i64 0)).run Tryz.prog w = .ok (.func (.func 155) #[] #[]) w := fun _ => by kernel_rfl
  go_enter Tryz.func91, Tryz.ntmps91
  go_wp2_with (first | (go_at_call 117; refine (conds_any _).mono ?_; rintro e w1 ⟨rfl, hb1⟩) | (go_at_call 155; refine (con1_any _ _ _).mono ?_; rintro e w' ⟨rfl, rfl⟩))
  go_ret2
  exact ⟨rfl, hb1⟩
theorem tak1 (a b : Int) (w : World) :
    Calls Tryz.prog 91 #[.int .i64 33, .int .u64 a, .int .u64 b] w fun e w' => e = .returned (.tuple #[.bool (takI 1 a b), .bool true]) ∧ Below w.heap.size w w' := by
  have hi : ∀ w, (Instr.index 164 conds (.int .i64 1)).run Tryz.prog w = .ok (.func (.func 156) #[] #[]) w := fun _ => by kernel_rfl
  go_enter Tryz.func91, Tryz.ntmps91
  go_wp2_with (first | (go_at_call 117; refine (conds_any _).mono ?_; rintro e w1 ⟨rfl, hb1⟩) | (go_at_call 156; refine (con2_any _ _ _).mono ?_; rintro e w' ⟨rfl, rfl⟩))
  go_ret2
  exact ⟨rfl, hb1⟩
theorem tak2 (a b : Int) (w : World) :
    Calls Tryz.prog 91 #[.int .i64 34, .int .u64 a, .int .u64 b] w fun e w' => e = .returned (.tuple #[.bool (takI 2 a b), .bool true]) ∧ Below w.heap.size w w' := by
  have hi : ∀ w, (Instr.index 164 conds (.int .i64 2)).run Tryz.prog w = .ok (.func (.func 157) #[] #[]) w := fun _ => by kernel_rfl
  go_enter Tryz.func91, Tryz.ntmps91
  go_wp2_with (first | (go_at_call 117; refine (conds_any _).mono ?_; rintro e w1 ⟨rfl, hb1⟩) | (go_at_call 157; refine (con3_any _ _ _).mono ?_; rintro e w' ⟨rfl, rfl⟩))
  go_ret2
  exact ⟨rfl, hb1⟩
theorem tak3 (a b : Int) (w : World) :
    Calls Tryz.prog 91 #[.int .i64 35, .int .u64 a, .int .u64 b] w fun e w' => e = .returned (.tuple #[.bool (takI 3 a b), .bool true]) ∧ Below w.heap.size w w' := by
  have hi : ∀ w, (Instr.index 164 conds (.int .i64 3)).run Tryz.prog w = .ok (.func (.func 158) #[] #[]) w := fun _ => by kernel_rfl
  go_enter Tryz.func91, Tryz.ntmps91
  go_wp2_with (first | (go_at_call 117; refine (conds_any _).mono ?_; rintro e w1 ⟨rfl, hb1⟩) | (go_at_call 158; refine (con4_any _ _ _).mono ?_; rintro e w' ⟨rfl, rfl⟩))
  go_ret2
  exact ⟨rfl, hb1⟩
theorem tak4 (a b : Int) (w : World) :
    Calls Tryz.prog 91 #[.int .i64 36, .int .u64 a, .int .u64 b] w fun e w' => e = .returned (.tuple #[.bool (takI 4 a b), .bool true]) ∧ Below w.heap.size w w' := by
  have hi : ∀ w, (Instr.index 164 conds (.int .i64 4)).run Tryz.prog w = .ok (.func (.func 159) #[] #[]) w := fun _ => by kernel_rfl
  go_enter Tryz.func91, Tryz.ntmps91
  go_wp2_with (first | (go_at_call 117; refine (conds_any _).mono ?_; rintro e w1 ⟨rfl, hb1⟩) | (go_at_call 159; refine (con5_any _ _ _).mono ?_; rintro e w' ⟨rfl, rfl⟩))
  go_ret2
  exact ⟨rfl, hb1⟩
theorem tak5 (a b : Int) (w : World) :
    Calls Tryz.prog 91 #[.int .i64 37, .int .u64 a, .int .u64 b] w fun e w' => e = .returned (.tuple #[.bool (takI 5 a b), .bool true]) ∧ Below w.heap.size w w' := by
  have hi : ∀ w, (Instr.index 164 conds (.int .i64 5)).run Tryz.prog w = .ok (.func (.func 160) #[] #[]) w := fun _ => by kernel_rfl
  go_enter Tryz.func91, Tryz.ntmps91
  go_wp2_with (first | (go_at_call 117; refine (conds_any _).mono ?_; rintro e w1 ⟨rfl, hb1⟩) | (go_at_call 160; refine (con6_any _ _ _).mono ?_; rintro e w' ⟨rfl, rfl⟩))
  go_ret2
  exact ⟨rfl, hb1⟩
theorem tak_at (n : Nat) (h : n < 6) (a b : Int) (w : World) :
    Calls Tryz.prog 91 #[.int .i64 (32 + n), .int .u64 a, .int .u64 b] w fun e w' => e = .returned (.tuple #[.bool (takI n a b), .bool true]) ∧ Below w.heap.size w w' := by
  match n, h with
  | 0, _ => exact tak0 a b w
  | 1, _ => exact tak1 a b w
  | 2, _ => exact tak2 a b w
  | 3, _ => exact tak3 a b w
  | 4, _ => exact tak4 a b w
  | 5, _ => exact tak5 a b w
  | n + 6, h => exact absurd h (by omega)
theorem tak_out (op a b : Int) (h : op < 32 ∨ 38 ≤ op) (w : World) :
    Calls Tryz.prog 91 #[.int .i64 op, .int .u64 a, .int .u64 b] w fun e w' => e = .returned (.tuple #[.bool false, .bool false]) ∧ w = w' := by
  rcases h with h | h
  · go_enter Tryz.func91, Tryz.ntmps91
    go_wp2
    go_ret2
    exact ⟨rfl, rfl⟩
  · have h' : op > 37 := by omega
    have h'' : ¬ op < 32 := by omega
    go_enter Tryz.func91, Tryz.ntmps91
    go_wp2
    go_ret2
    exact ⟨rfl, rfl⟩
theorem tak_any (op a b : Int) (w : World) :
    Calls Tryz.prog 91 #[.int .i64 op, .int .u64 a, .int .u64 b] w fun e w' => e = .returned (.tuple #[.bool (takV op a b), .bool (takB op)]) ∧ Below w.heap.size w w' := by
  by_cases h : 32 ≤ op ∧ op < 38
  · obtain ⟨n, hn⟩ := Int.eq_ofNat_of_zero_le (show 0 ≤ op - 32 by omega)
    obtain rfl : op = 32 + n := by omega
    rw [takV_at (by omega), takB_at (by omega)]
    exact tak_at n (by omega) a b w
  · rw [takV_out (by omega), takB_out (by omega)]
    exact (tak_out op a b (by omega) w).mono fun e w' ⟨h1, h2⟩ => ⟨h1, by rw [h2]; exact Below.refl _ _⟩
theorem var_any (op : Int) (w : World) :
    Calls Tryz.prog 88 #[.int .i64 op] w fun e w' => e = .returned (.bool (varB op)) ∧ w = w' := by
  by_cases h : 12 ≤ op ∧ op < 16
  · obtain rfl | rfl | rfl | rfl : op = 12 ∨ op = 13 ∨ op = 14 ∨ op = 15 := by omega
    all_goals
      go_enter Tryz.func88, Tryz.ntmps88
      go_wp2
      go_ret
      exact ⟨rfl, rfl⟩
  · have e : varB op = false := by unfold varB; simp; omega
    have h1 : (op == 12) = false := by simp; omega
    have h2 : (op == 13) = false := by simp; omega
    have h3 : (op == 14) = false := by simp; omega
    have h4 : (op == 15) = false := by simp; omega
    rw [e]
    clear h e
    go_enter Tryz.func88, Tryz.ntmps88
    go_wp2
    go_ret
    exact ⟨rfl, rfl⟩
end Go.Proofs.YthnhopmbefgmgaaGreatDoor
