/- Layer 3: what the closures of package alu's tables answer, each of two words.
   Layer 3: what Two, One, Taken and Varies of package alu answer, whatever the operation. Condition for One: the table ofTwo reads as it should. -/
import Derived.Test.YtoeagbcjnffpaaaGreatDoorChecked
import Derived.Test.YtoeagbcjnffpaaaGreatDoorAluM
import Derived.WalkKit
import Derived.Lib.Hide
import Derived.Deep.QuietTactic
import Derived.BigQuiet
import Derived.Shelf.Bits.Mul64
import Derived.OpenShut
import Derived.Deep.WholeRow
namespace Go.Proofs.YtoeagbcjnffpaaaGreatDoor
set_option maxRecDepth 100000
open Go.RowKit
set_option linter.unusedVariables false
theorem reu {a b : Int} (h : a = b) : Ending.returned (.int .u64 a) = Ending.returned (.int .u64 b) := by rw [h]
theorem rei {a b : Int} (h : a = b) : Ending.returned (.int .i64 a) = Ending.returned (.int .i64 b) := by rw [h]
theorem reb {a b : Bool} (h : a = b) : Ending.returned (.bool a) = Ending.returned (.bool b) := by rw [h]
theorem wrapU (a : Int) : IntKind.u64.wrap a = modU a := IntKind.wrap_u64 a
theorem aless_any (a b : Int) (w : World) :
    Calls Tryz.prog 202 #[.int .u64 a, .int .u64 b] w fun e w' => e = .returned (.bool (sltB a b)) ∧ w = w' := by
  go_enter Tryz.func202, Tryz.ntmps202
  go_wp2
  go_ret
  exact ⟨rfl, rfl⟩
theorem aoneIf_any (c : Bool) (w : World) :
    Calls Tryz.prog 201 #[.bool c] w fun e w' => e = .returned (.int .u64 (oneI c)) ∧ w = w' := by
  cases c
  all_goals
    go_enter Tryz.func201, Tryz.ntmps201
    go_wp2
    go_ret
    exact ⟨rfl, rfl⟩
theorem quo_any (a b : Int) (w : World) :
    Calls Tryz.prog 213 #[.int .i64 a, .int .i64 b] w fun e w' => e = .returned (.int .i64 (quoI a b)) ∧ w = w' := by
  by_cases h : b = 0
  · subst h
    go_enter Tryz.func213, Tryz.ntmps213
    go_wp2
    go_ret
    exact ⟨rfl, rfl⟩
  · go_enter Tryz.func213, Tryz.ntmps213
    go_wp2
    go_ret
    exact ⟨rei (by unfold quoI; rw [if_neg h]), rfl⟩
theorem rest_any (a b : Int) (w : World) :
    Calls Tryz.prog 217 #[.int .i64 a, .int .i64 b] w fun e w' => e = .returned (.int .i64 (modI a b)) ∧ w = w' := by
  by_cases h : b = 0
  · subst h
    go_enter Tryz.func217, Tryz.ntmps217
    go_wp2
    go_ret
    exact ⟨rfl, rfl⟩
  · go_enter Tryz.func217, Tryz.ntmps217
    go_wp2
    go_ret
    refine ⟨rei ?_, rfl⟩
    show a.tmod b = _
    unfold modI
    rw [if_neg h]
theorem quoU_any (a b : Int) (ha : IsU a) (hb : IsU b) (w : World) :
    Calls Tryz.prog 215 #[.int .u64 a, .int .u64 b] w fun e w' => e = .returned (.int .u64 (divuI a b)) ∧ w = w' := by
  obtain ⟨a0, a1⟩ := ha
  obtain ⟨b0, b1⟩ := hb
  by_cases h : b = 0
  · subst h
    go_enter Tryz.func215, Tryz.ntmps215
    go_wp2
    go_ret
    exact ⟨rfl, rfl⟩
  · go_enter Tryz.func215, Tryz.ntmps215
    go_wp2
    go_ret
    refine ⟨reu ?_, rfl⟩
    unfold divuI
    rw [if_neg h]
theorem restU_any (a b : Int) (ha : IsU a) (hb : IsU b) (w : World) :
    Calls Tryz.prog 219 #[.int .u64 a, .int .u64 b] w fun e w' => e = .returned (.int .u64 (remuI a b)) ∧ w = w' := by
  obtain ⟨a0, a1⟩ := ha
  obtain ⟨b0, b1⟩ := hb
  by_cases h : b = 0
  · subst h
    go_enter Tryz.func219, Tryz.ntmps219
    go_wp2
    go_ret
    exact ⟨rfl, rfl⟩
  · go_enter Tryz.func219, Tryz.ntmps219
    go_wp2
    go_ret
    refine ⟨reu ?_, rfl⟩
    unfold remuI
    rw [if_neg h]
set_option maxHeartbeats 1000000 in
theorem mul64_any (a b : Int) (ha : IsU a) (hb : IsU b) (w : World) :
    Calls Tryz.prog 231 #[.int .u64 a, .int .u64 b] w fun e w' => e = .returned (.tuple #[.int .u64 (mulhuI a b), .int .u64 (mulI a b)]) ∧ w' = w := by
  obtain ⟨a0, a1⟩ := ha
  obtain ⟨b0, b1⟩ := hb
  obtain ⟨x, rfl⟩ := Int.eq_ofNat_of_zero_le a0
  obtain ⟨y, rfl⟩ := Int.eq_ofNat_of_zero_le b0
  have hx : x < 18446744073709551616 := by omega
  have hy : y < 18446744073709551616 := by omega
  obtain ⟨bd, bt, bw, hhi⟩ := Lib.mul64_hi x y hx hy
  have ba := Lib.half_mul_le (a := x / 4294967296) (b := y / 4294967296) (by omega) (by omega)
  have bb := Lib.half_mul_le (a := x / 4294967296) (b := y % 4294967296) (by omega) (by omega)
  have bc := Lib.half_mul_le (a := x % 4294967296) (b := y / 4294967296) (by omega) (by omega)
  have ba' : x / 4294967296 * (y / 4294967296) < 18446744073709551616 := by omega
  have bb' : x / 4294967296 * (y % 4294967296) < 18446744073709551616 := by omega
  have bc' : x % 4294967296 * (y / 4294967296) < 18446744073709551616 := by omega
  have bh1 : x / 4294967296 * (y / 4294967296) + (x / 4294967296 * (y % 4294967296) + x % 4294967296 * (y % 4294967296) / 4294967296) / 4294967296 < 18446744073709551616 := by omega
  have bh : x / 4294967296 * (y / 4294967296) + (x / 4294967296 * (y % 4294967296) + x % 4294967296 * (y % 4294967296) / 4294967296) / 4294967296 + ((x / 4294967296 * (y % 4294967296) + x % 4294967296 * (y % 4294967296) / 4294967296) % 4294967296 + x % 4294967296 * (y / 4294967296)) / 4294967296 < 18446744073709551616 := by omega
  have HH := Lib.hid hhi
  clear hhi
  go_enter Tryz.func231, Tryz.ntmps231
  go_wp2
  simp only [Mul64.maskN x hx, Mul64.maskN y hy, Mul64.divN, Mul64.mulN, Mul64.addN, Mul64.wrapN _ bd, Mul64.wrapN _ bb', Mul64.wrapN _ bt, Mul64.maskN _ bt, Mul64.wrapN _ bc', Mul64.wrapN _ bw, Mul64.wrapN _ ba', Mul64.wrapN _ bh1, Mul64.wrapN _ bh, Mul64.wrapM (x * y)]
  go_ret2
  refine ⟨?_, rfl⟩
  have e1 : mulhuI x y = ((x * y / 18446744073709551616 : Nat) : Int) := by unfold mulhuI; rw [← Int.natCast_mul]; omega
  have e2 : mulI x y = ((x * y % 18446744073709551616 : Nat) : Int) := by unfold mulI modU; rw [← Int.natCast_mul]; omega
  rw [e1, e2, ← HH.out]
  rfl
theorem rec1_any (a b : Int) (ha : IsU a) (hb : IsU b) (w : World) :
    Calls Tryz.prog 197 #[.int .u64 a, .int .u64 b] w fun e w' => e = .returned (.int .u64 (addI a b)) ∧ w = w' := by
  go_enter Tryz.func197, Tryz.ntmps197
  go_wp2
  go_ret
  exact ⟨reu (wrapU _), rfl⟩
theorem rec2_any (a b : Int) (ha : IsU a) (hb : IsU b) (w : World) :
    Calls Tryz.prog 198 #[.int .u64 a, .int .u64 b] w fun e w' => e = .returned (.int .u64 (subI a b)) ∧ w = w' := by
  go_enter Tryz.func198, Tryz.ntmps198
  go_wp2
  go_ret
  exact ⟨reu (wrapU _), rfl⟩
theorem rec3_any (a b : Int) (ha : IsU a) (hb : IsU b) (w : World) :
    Calls Tryz.prog 199 #[.int .u64 a, .int .u64 b] w fun e w' => e = .returned (.int .u64 (sllI a b)) ∧ w = w' := by
  obtain ⟨a0, a1⟩ := ha
  obtain ⟨b0, b1⟩ := hb
  go_enter Tryz.func199, Tryz.ntmps199
  go_wp2
  go_ret
  exact ⟨reu (wrapU _), rfl⟩
theorem rec4_any (a b : Int) (ha : IsU a) (hb : IsU b) (w : World) :
    Calls Tryz.prog 200 #[.int .u64 a, .int .u64 b] w fun e w' => e = .returned (.int .u64 (oneI (sltB a b))) ∧ w = w' := by
  go_enter Tryz.func200, Tryz.ntmps200
  go_wp2_with (first | (go_at_call 202; refine (aless_any _ _ _).mono ?_; rintro e w' ⟨rfl, rfl⟩) | (go_at_call 201; refine (aoneIf_any _ _).mono ?_; rintro e w' ⟨rfl, rfl⟩))
  go_ret
  exact ⟨rfl, rfl⟩
theorem rec5_any (a b : Int) (ha : IsU a) (hb : IsU b) (w : World) :
    Calls Tryz.prog 203 #[.int .u64 a, .int .u64 b] w fun e w' => e = .returned (.int .u64 (oneI (sltuB a b))) ∧ w = w' := by
  go_enter Tryz.func203, Tryz.ntmps203
  go_wp2_with (first | (go_at_call 201; refine (aoneIf_any _ _).mono ?_; rintro e w' ⟨rfl, rfl⟩))
  go_ret
  exact ⟨rfl, rfl⟩
theorem rec6_any (a b : Int) (ha : IsU a) (hb : IsU b) (w : World) :
    Calls Tryz.prog 204 #[.int .u64 a, .int .u64 b] w fun e w' => e = .returned (.int .u64 (xorI a b)) ∧ w = w' := by
  go_enter Tryz.func204, Tryz.ntmps204
  go_wp2
  go_ret
  exact ⟨rfl, rfl⟩
theorem rec7_any (a b : Int) (ha : IsU a) (hb : IsU b) (w : World) :
    Calls Tryz.prog 205 #[.int .u64 a, .int .u64 b] w fun e w' => e = .returned (.int .u64 (srlI a b)) ∧ w = w' := by
  obtain ⟨a0, a1⟩ := ha
  obtain ⟨b0, b1⟩ := hb
  go_enter Tryz.func205, Tryz.ntmps205
  go_wp2
  go_ret
  exact ⟨rfl, rfl⟩
theorem rec8_any (a b : Int) (ha : IsU a) (hb : IsU b) (w : World) :
    Calls Tryz.prog 206 #[.int .u64 a, .int .u64 b] w fun e w' => e = .returned (.int .u64 (sraI a b)) ∧ w = w' := by
  obtain ⟨a0, a1⟩ := ha
  obtain ⟨b0, b1⟩ := hb
  go_enter Tryz.func206, Tryz.ntmps206
  go_wp2
  go_ret
  exact ⟨reu (wrapU _), rfl⟩
theorem rec9_any (a b : Int) (ha : IsU a) (hb : IsU b) (w : World) :
    Calls Tryz.prog 207 #[.int .u64 a, .int .u64 b] w fun e w' => e = .returned (.int .u64 (orI a b)) ∧ w = w' := by
  go_enter Tryz.func207, Tryz.ntmps207
  go_wp2
  go_ret
  exact ⟨rfl, rfl⟩
theorem rec10_any (a b : Int) (ha : IsU a) (hb : IsU b) (w : World) :
    Calls Tryz.prog 208 #[.int .u64 a, .int .u64 b] w fun e w' => e = .returned (.int .u64 (andI a b)) ∧ w = w' := by
  go_enter Tryz.func208, Tryz.ntmps208
  go_wp2
  go_ret
  exact ⟨rfl, rfl⟩
theorem rec11_any (a b : Int) (ha : IsU a) (hb : IsU b) (w : World) :
    Calls Tryz.prog 209 #[.int .u64 a, .int .u64 b] w fun e w' => e = .returned (.int .u64 (mulI a b)) ∧ w = w' := by
  go_enter Tryz.func209, Tryz.ntmps209
  go_wp2
  go_ret
  exact ⟨reu (wrapU _), rfl⟩
theorem upper_any (a b : Int) (ha : IsU a) (hb : IsU b) (w : World) :
    Calls Tryz.prog 211 #[.int .u64 a, .int .u64 b] w fun e w' => e = .returned (.int .u64 (mulhuI a b)) ∧ w = w' := by
  go_enter Tryz.func211, Tryz.ntmps211
  go_wp2_with (go_at_call 231; refine (mul64_any _ _ ha hb _).mono ?_; rintro e w' ⟨rfl, rfl⟩)
  go_ret
  exact ⟨rfl, rfl⟩
theorem rec12_any (a b : Int) (ha : IsU a) (hb : IsU b) (w : World) :
    Calls Tryz.prog 210 #[.int .u64 a, .int .u64 b] w fun e w' => e = .returned (.int .u64 (mulhuI a b)) ∧ w = w' := by
  go_enter Tryz.func210, Tryz.ntmps210
  go_wp2_with (first | (go_at_call 211; refine (upper_any _ _ ha hb _).mono ?_; rintro e w' ⟨rfl, rfl⟩))
  go_ret
  exact ⟨rfl, rfl⟩
theorem rec13_any (a b : Int) (ha : IsU a) (hb : IsU b) (w : World) :
    Calls Tryz.prog 212 #[.int .u64 a, .int .u64 b] w fun e w' => e = .returned (.int .u64 (divI a b)) ∧ w = w' := by
  go_enter Tryz.func212, Tryz.ntmps212
  go_wp2_with (first | (go_at_call 213; refine (quo_any _ _ _).mono ?_; rintro e w' ⟨rfl, rfl⟩))
  go_ret
  exact ⟨reu (wrapU _), rfl⟩
theorem rec14_any (a b : Int) (ha : IsU a) (hb : IsU b) (w : World) :
    Calls Tryz.prog 214 #[.int .u64 a, .int .u64 b] w fun e w' => e = .returned (.int .u64 (divuI a b)) ∧ w = w' := by
  go_enter Tryz.func214, Tryz.ntmps214
  go_wp2_with (first | (go_at_call 215; refine (quoU_any _ _ ha hb _).mono ?_; rintro e w' ⟨rfl, rfl⟩))
  go_ret
  exact ⟨rfl, rfl⟩
theorem rec15_any (a b : Int) (ha : IsU a) (hb : IsU b) (w : World) :
    Calls Tryz.prog 216 #[.int .u64 a, .int .u64 b] w fun e w' => e = .returned (.int .u64 (remI a b)) ∧ w = w' := by
  go_enter Tryz.func216, Tryz.ntmps216
  go_wp2_with (first | (go_at_call 217; refine (rest_any _ _ _).mono ?_; rintro e w' ⟨rfl, rfl⟩))
  go_ret
  exact ⟨reu (wrapU _), rfl⟩
theorem rec16_any (a b : Int) (ha : IsU a) (hb : IsU b) (w : World) :
    Calls Tryz.prog 218 #[.int .u64 a, .int .u64 b] w fun e w' => e = .returned (.int .u64 (remuI a b)) ∧ w = w' := by
  go_enter Tryz.func218, Tryz.ntmps218
  go_wp2_with (first | (go_at_call 219; refine (restU_any _ _ ha hb _).mono ?_; rintro e w' ⟨rfl, rfl⟩))
  go_ret
  exact ⟨rfl, rfl⟩
theorem con1_any (a b : Int) (w : World) :
    Calls Tryz.prog 220 #[.int .u64 a, .int .u64 b] w fun e w' => e = .returned (.bool (a == b)) ∧ w = w' := by
  go_enter Tryz.func220, Tryz.ntmps220
  go_wp2
  go_ret
  exact ⟨rfl, rfl⟩
theorem con2_any (a b : Int) (w : World) :
    Calls Tryz.prog 221 #[.int .u64 a, .int .u64 b] w fun e w' => e = .returned (.bool (!(a == b))) ∧ w = w' := by
  go_enter Tryz.func221, Tryz.ntmps221
  go_wp2
  go_ret
  exact ⟨rfl, rfl⟩
theorem con3_any (a b : Int) (w : World) :
    Calls Tryz.prog 222 #[.int .u64 a, .int .u64 b] w fun e w' => e = .returned (.bool (sltB a b)) ∧ w = w' := by
  go_enter Tryz.func222, Tryz.ntmps222
  go_wp2_with (go_at_call 202; refine (aless_any _ _ _).mono ?_; rintro e w' ⟨rfl, rfl⟩)
  go_ret
  exact ⟨rfl, rfl⟩
theorem con4_any (a b : Int) (w : World) :
    Calls Tryz.prog 223 #[.int .u64 a, .int .u64 b] w fun e w' => e = .returned (.bool (!sltB a b)) ∧ w = w' := by
  go_enter Tryz.func223, Tryz.ntmps223
  go_wp2_with (go_at_call 202; refine (aless_any _ _ _).mono ?_; rintro e w' ⟨rfl, rfl⟩)
  go_ret
  exact ⟨rfl, rfl⟩
theorem con5_any (a b : Int) (w : World) :
    Calls Tryz.prog 224 #[.int .u64 a, .int .u64 b] w fun e w' => e = .returned (.bool (sltuB a b)) ∧ w = w' := by
  go_enter Tryz.func224, Tryz.ntmps224
  go_wp2
  go_ret
  exact ⟨rfl, rfl⟩
theorem con6_any (a b : Int) (w : World) :
    Calls Tryz.prog 225 #[.int .u64 a, .int .u64 b] w fun e w' => e = .returned (.bool (!sltuB a b)) ∧ w = w' := by
  go_enter Tryz.func225, Tryz.ntmps225
  go_wp2
  go_ret
  refine ⟨reb ?_, rfl⟩
  show decide (b ≤ a) = !decide (a < b)
  by_cases h : a < b <;> simp [h] <;> omega
end Go.Proofs.YtoeagbcjnffpaaaGreatDoor
namespace Go.Proofs.YtoeagbcjnffpaaaGreatDoor
set_option maxRecDepth 100000
open Go.RowKit
set_option linter.unusedVariables false

theorem wpList_store_all {P : Program} {ops : Array Oper} {rest : List Oper} {o : Oper} {a : Act} {Q : Exit → Act → World → Prop} (hgd : o.guard = none) (ty : TypeId) (x y : Operand) (ho : o.op = .store ty x y)
    (w0 : World) (c c' : Array Value) (g : Nat) (hx : a.eval x = .pointer (some ⟨g, 0, none⟩)) (hy : a.eval y = .agg c') (hi : (P.info? ty).map (·.size) = some c'.size) (hs : c.size = c'.size) (h1 : c'.all (·.oneCell') = true)
    (hd : o.dst = none) (hg : w0.heap.size = g) (h : wpList P ops Q rest a (w0.alloc (.cells c' ty))) : wpList P ops Q (o :: rest) a (w0.alloc (.cells c ty)) :=
  wpList_plain hgd fun K hK => by
    subst hg
    unfold Oper.wp execOp
    simp only [ho, hx, hy, run_storeAt_new w0 ty c c' hi hs h1, Sem.run_bind, Result.andThen_ok, Sem.run_pure]
    have e : a.put o.dst undef = a := by rw [hd]; rfl
    rw [← e] at h
    exact hK _ _ h
def fv (k : Nat) : Value := .func (.func k) #[] #[]
theorem recInfo : (Tryz.prog.info? 231).map (·.size) = some 16 := by kernel_rfl
theorem conInfo : (Tryz.prog.info? 235).map (·.size) = some 6 := by kernel_rfl
def recs : Value := .agg #[fv 197, fv 198, fv 199, fv 200, fv 203, fv 204, fv 205, fv 206, fv 207, fv 208, fv 209, fv 210, fv 212, fv 214, fv 216, fv 218]
def conds : Value := .agg #[fv 220, fv 221, fv 222, fv 223, fv 224, fv 225]
theorem recs_any (w : World) : Calls Tryz.prog 176 #[] w fun e w' => e = .returned recs ∧ Below w.heap.size w w' := by
  go_enter Tryz.func176, Tryz.ntmps176
  go_wp2_with (refine wpList_store_all rfl 231 _ _ rfl _ _ _ _ rfl rfl ?hi ?hs ?h1 rfl ?hg ?_; (case hi => exact recInfo); (case hs => exact rfl); (case h1 => simp [Value.oneCell']); (case hg => exact rfl))
  refine bodyPost_ret (v := .agg #[fv 197, fv 198, fv 199, fv 200, fv 203, fv 204, fv 205, fv 206, fv 207, fv 208, fv 209, fv 210, fv 212, fv 214, fv 216, fv 218]) ?_ rfl ⟨rfl, (Below.refl _ _).alloc (Nat.le_refl _) _⟩
  simp [results, Tryz.results176, go_sem, fv]
theorem conds_any (w : World) : Calls Tryz.prog 177 #[] w fun e w' => e = .returned conds ∧ Below w.heap.size w w' := by
  go_enter Tryz.func177, Tryz.ntmps177
  go_wp2_with (refine wpList_store_all rfl 235 _ _ rfl _ _ _ _ rfl rfl ?hi ?hs ?h1 rfl ?hg ?_; (case hi => exact conInfo); (case hs => exact rfl); (case h1 => simp [Value.oneCell']); (case hg => exact rfl))
  refine bodyPost_ret (v := .agg #[fv 220, fv 221, fv 222, fv 223, fv 224, fv 225]) ?_ rfl ⟨rfl, (Below.refl _ _).alloc (Nat.le_refl _) _⟩
  simp [results, Tryz.results177, go_sem, fv]
theorem two0 (a b : Int) (ha : IsU a) (hb : IsU b) (w : World) :
    Calls Tryz.prog 132 #[.int .i64 0, .int .u64 a, .int .u64 b] w fun e w' => e = .returned (.tuple #[.int .u64 (twoI 0 a b), .bool true]) ∧ Below w.heap.size w w' := by
  have hi : ∀ w, (Instr.index 231 recs (.int .i64 0)).run Tryz.prog w = .ok (.func (.func 197) #[] #[]) w := fun _ => by kernel_rfl
  go_enter Tryz.func132, Tryz.ntmps132
  go_wp2_with (first | (go_at_call 176; refine (recs_any _).mono ?_; rintro e w1 ⟨rfl, hb1⟩) | (go_at_call 197; refine (rec1_any _ _ ha hb _).mono ?_; rintro e w' ⟨rfl, rfl⟩))
  go_ret2
  exact ⟨rfl, hb1⟩
theorem two1 (a b : Int) (ha : IsU a) (hb : IsU b) (w : World) :
    Calls Tryz.prog 132 #[.int .i64 1, .int .u64 a, .int .u64 b] w fun e w' => e = .returned (.tuple #[.int .u64 (twoI 1 a b), .bool true]) ∧ Below w.heap.size w w' := by
  have hi : ∀ w, (Instr.index 231 recs (.int .i64 1)).run Tryz.prog w = .ok (.func (.func 198) #[] #[]) w := fun _ => by kernel_rfl
  go_enter Tryz.func132, Tryz.ntmps132
  go_wp2_with (first | (go_at_call 176; refine (recs_any _).mono ?_; rintro e w1 ⟨rfl, hb1⟩) | (go_at_call 198; refine (rec2_any _ _ ha hb _).mono ?_; rintro e w' ⟨rfl, rfl⟩))
  go_ret2
  exact ⟨rfl, hb1⟩
theorem two2 (a b : Int) (ha : IsU a) (hb : IsU b) (w : World) :
    Calls Tryz.prog 132 #[.int .i64 2, .int .u64 a, .int .u64 b] w fun e w' => e = .returned (.tuple #[.int .u64 (twoI 2 a b), .bool true]) ∧ Below w.heap.size w w' := by
  have hi : ∀ w, (Instr.index 231 recs (.int .i64 2)).run Tryz.prog w = .ok (.func (.func 199) #[] #[]) w := fun _ => by kernel_rfl
  go_enter Tryz.func132, Tryz.ntmps132
  go_wp2_with (first | (go_at_call 176; refine (recs_any _).mono ?_; rintro e w1 ⟨rfl, hb1⟩) | (go_at_call 199; refine (rec3_any _ _ ha hb _).mono ?_; rintro e w' ⟨rfl, rfl⟩))
  go_ret2
  exact ⟨rfl, hb1⟩
theorem two3 (a b : Int) (ha : IsU a) (hb : IsU b) (w : World) :
    Calls Tryz.prog 132 #[.int .i64 3, .int .u64 a, .int .u64 b] w fun e w' => e = .returned (.tuple #[.int .u64 (twoI 3 a b), .bool true]) ∧ Below w.heap.size w w' := by
  have hi : ∀ w, (Instr.index 231 recs (.int .i64 3)).run Tryz.prog w = .ok (.func (.func 200) #[] #[]) w := fun _ => by kernel_rfl
  go_enter Tryz.func132, Tryz.ntmps132
  go_wp2_with (first | (go_at_call 176; refine (recs_any _).mono ?_; rintro e w1 ⟨rfl, hb1⟩) | (go_at_call 200; refine (rec4_any _ _ ha hb _).mono ?_; rintro e w' ⟨rfl, rfl⟩))
  go_ret2
  exact ⟨rfl, hb1⟩
theorem two4 (a b : Int) (ha : IsU a) (hb : IsU b) (w : World) :
    Calls Tryz.prog 132 #[.int .i64 4, .int .u64 a, .int .u64 b] w fun e w' => e = .returned (.tuple #[.int .u64 (twoI 4 a b), .bool true]) ∧ Below w.heap.size w w' := by
  have hi : ∀ w, (Instr.index 231 recs (.int .i64 4)).run Tryz.prog w = .ok (.func (.func 203) #[] #[]) w := fun _ => by kernel_rfl
  go_enter Tryz.func132, Tryz.ntmps132
  go_wp2_with (first | (go_at_call 176; refine (recs_any _).mono ?_; rintro e w1 ⟨rfl, hb1⟩) | (go_at_call 203; refine (rec5_any _ _ ha hb _).mono ?_; rintro e w' ⟨rfl, rfl⟩))
  go_ret2
  exact ⟨rfl, hb1⟩
theorem two5 (a b : Int) (ha : IsU a) (hb : IsU b) (w : World) :
    Calls Tryz.prog 132 #[.int .i64 5, .int .u64 a, .int .u64 b] w fun e w' => e = .returned (.tuple #[.int .u64 (twoI 5 a b), .bool true]) ∧ Below w.heap.size w w' := by
  have hi : ∀ w, (Instr.index 231 recs (.int .i64 5)).run Tryz.prog w = .ok (.func (.func 204) #[] #[]) w := fun _ => by kernel_rfl
  go_enter Tryz.func132, Tryz.ntmps132
  go_wp2_with (first | (go_at_call 176; refine (recs_any _).mono ?_; rintro e w1 ⟨rfl, hb1⟩) | (go_at_call 204; refine (rec6_any _ _ ha hb _).mono ?_; rintro e w' ⟨rfl, rfl⟩))
  go_ret2
  exact ⟨rfl, hb1⟩
theorem two6 (a b : Int) (ha : IsU a) (hb : IsU b) (w : World) :
    Calls Tryz.prog 132 #[.int .i64 6, .int .u64 a, .int .u64 b] w fun e w' => e = .returned (.tuple #[.int .u64 (twoI 6 a b), .bool true]) ∧ Below w.heap.size w w' := by
  have hi : ∀ w, (Instr.index 231 recs (.int .i64 6)).run Tryz.prog w = .ok (.func (.func 205) #[] #[]) w := fun _ => by kernel_rfl
  go_enter Tryz.func132, Tryz.ntmps132
  go_wp2_with (first | (go_at_call 176; refine (recs_any _).mono ?_; rintro e w1 ⟨rfl, hb1⟩) | (go_at_call 205; refine (rec7_any _ _ ha hb _).mono ?_; rintro e w' ⟨rfl, rfl⟩))
  go_ret2
  exact ⟨rfl, hb1⟩
theorem two7 (a b : Int) (ha : IsU a) (hb : IsU b) (w : World) :
    Calls Tryz.prog 132 #[.int .i64 7, .int .u64 a, .int .u64 b] w fun e w' => e = .returned (.tuple #[.int .u64 (twoI 7 a b), .bool true]) ∧ Below w.heap.size w w' := by
  have hi : ∀ w, (Instr.index 231 recs (.int .i64 7)).run Tryz.prog w = .ok (.func (.func 206) #[] #[]) w := fun _ => by kernel_rfl
  go_enter Tryz.func132, Tryz.ntmps132
  go_wp2_with (first | (go_at_call 176; refine (recs_any _).mono ?_; rintro e w1 ⟨rfl, hb1⟩) | (go_at_call 206; refine (rec8_any _ _ ha hb _).mono ?_; rintro e w' ⟨rfl, rfl⟩))
  go_ret2
  exact ⟨rfl, hb1⟩
theorem two8 (a b : Int) (ha : IsU a) (hb : IsU b) (w : World) :
    Calls Tryz.prog 132 #[.int .i64 8, .int .u64 a, .int .u64 b] w fun e w' => e = .returned (.tuple #[.int .u64 (twoI 8 a b), .bool true]) ∧ Below w.heap.size w w' := by
  have hi : ∀ w, (Instr.index 231 recs (.int .i64 8)).run Tryz.prog w = .ok (.func (.func 207) #[] #[]) w := fun _ => by kernel_rfl
  go_enter Tryz.func132, Tryz.ntmps132
  go_wp2_with (first | (go_at_call 176; refine (recs_any _).mono ?_; rintro e w1 ⟨rfl, hb1⟩) | (go_at_call 207; refine (rec9_any _ _ ha hb _).mono ?_; rintro e w' ⟨rfl, rfl⟩))
  go_ret2
  exact ⟨rfl, hb1⟩
theorem two9 (a b : Int) (ha : IsU a) (hb : IsU b) (w : World) :
    Calls Tryz.prog 132 #[.int .i64 9, .int .u64 a, .int .u64 b] w fun e w' => e = .returned (.tuple #[.int .u64 (twoI 9 a b), .bool true]) ∧ Below w.heap.size w w' := by
  have hi : ∀ w, (Instr.index 231 recs (.int .i64 9)).run Tryz.prog w = .ok (.func (.func 208) #[] #[]) w := fun _ => by kernel_rfl
  go_enter Tryz.func132, Tryz.ntmps132
  go_wp2_with (first | (go_at_call 176; refine (recs_any _).mono ?_; rintro e w1 ⟨rfl, hb1⟩) | (go_at_call 208; refine (rec10_any _ _ ha hb _).mono ?_; rintro e w' ⟨rfl, rfl⟩))
  go_ret2
  exact ⟨rfl, hb1⟩
theorem two10 (a b : Int) (ha : IsU a) (hb : IsU b) (w : World) :
    Calls Tryz.prog 132 #[.int .i64 10, .int .u64 a, .int .u64 b] w fun e w' => e = .returned (.tuple #[.int .u64 (twoI 10 a b), .bool true]) ∧ Below w.heap.size w w' := by
  have hi : ∀ w, (Instr.index 231 recs (.int .i64 10)).run Tryz.prog w = .ok (.func (.func 209) #[] #[]) w := fun _ => by kernel_rfl
  go_enter Tryz.func132, Tryz.ntmps132
  go_wp2_with (first | (go_at_call 176; refine (recs_any _).mono ?_; rintro e w1 ⟨rfl, hb1⟩) | (go_at_call 209; refine (rec11_any _ _ ha hb _).mono ?_; rintro e w' ⟨rfl, rfl⟩))
  go_ret2
  exact ⟨rfl, hb1⟩
theorem two11 (a b : Int) (ha : IsU a) (hb : IsU b) (w : World) :
    Calls Tryz.prog 132 #[.int .i64 11, .int .u64 a, .int .u64 b] w fun e w' => e = .returned (.tuple #[.int .u64 (twoI 11 a b), .bool true]) ∧ Below w.heap.size w w' := by
  have hi : ∀ w, (Instr.index 231 recs (.int .i64 11)).run Tryz.prog w = .ok (.func (.func 210) #[] #[]) w := fun _ => by kernel_rfl
  go_enter Tryz.func132, Tryz.ntmps132
  go_wp2_with (first | (go_at_call 176; refine (recs_any _).mono ?_; rintro e w1 ⟨rfl, hb1⟩) | (go_at_call 210; refine (rec12_any _ _ ha hb _).mono ?_; rintro e w' ⟨rfl, rfl⟩))
  go_ret2
  exact ⟨rfl, hb1⟩
theorem two12 (a b : Int) (ha : IsU a) (hb : IsU b) (w : World) :
    Calls Tryz.prog 132 #[.int .i64 12, .int .u64 a, .int .u64 b] w fun e w' => e = .returned (.tuple #[.int .u64 (twoI 12 a b), .bool true]) ∧ Below w.heap.size w w' := by
  have hi : ∀ w, (Instr.index 231 recs (.int .i64 12)).run Tryz.prog w = .ok (.func (.func 212) #[] #[]) w := fun _ => by kernel_rfl
  go_enter Tryz.func132, Tryz.ntmps132
  go_wp2_with (first | (go_at_call 176; refine (recs_any _).mono ?_; rintro e w1 ⟨rfl, hb1⟩) | (go_at_call 212; refine (rec13_any _ _ ha hb _).mono ?_; rintro e w' ⟨rfl, rfl⟩))
  go_ret2
  exact ⟨rfl, hb1⟩
theorem two13 (a b : Int) (ha : IsU a) (hb : IsU b) (w : World) :
    Calls Tryz.prog 132 #[.int .i64 13, .int .u64 a, .int .u64 b] w fun e w' => e = .returned (.tuple #[.int .u64 (twoI 13 a b), .bool true]) ∧ Below w.heap.size w w' := by
  have hi : ∀ w, (Instr.index 231 recs (.int .i64 13)).run Tryz.prog w = .ok (.func (.func 214) #[] #[]) w := fun _ => by kernel_rfl
  go_enter Tryz.func132, Tryz.ntmps132
  go_wp2_with (first | (go_at_call 176; refine (recs_any _).mono ?_; rintro e w1 ⟨rfl, hb1⟩) | (go_at_call 214; refine (rec14_any _ _ ha hb _).mono ?_; rintro e w' ⟨rfl, rfl⟩))
  go_ret2
  exact ⟨rfl, hb1⟩
theorem two14 (a b : Int) (ha : IsU a) (hb : IsU b) (w : World) :
    Calls Tryz.prog 132 #[.int .i64 14, .int .u64 a, .int .u64 b] w fun e w' => e = .returned (.tuple #[.int .u64 (twoI 14 a b), .bool true]) ∧ Below w.heap.size w w' := by
  have hi : ∀ w, (Instr.index 231 recs (.int .i64 14)).run Tryz.prog w = .ok (.func (.func 216) #[] #[]) w := fun _ => by kernel_rfl
  go_enter Tryz.func132, Tryz.ntmps132
  go_wp2_with (first | (go_at_call 176; refine (recs_any _).mono ?_; rintro e w1 ⟨rfl, hb1⟩) | (go_at_call 216; refine (rec15_any _ _ ha hb _).mono ?_; rintro e w' ⟨rfl, rfl⟩))
  go_ret2
  exact ⟨rfl, hb1⟩
theorem two15 (a b : Int) (ha : IsU a) (hb : IsU b) (w : World) :
    Calls Tryz.prog 132 #[.int .i64 15, .int .u64 a, .int .u64 b] w fun e w' => e = .returned (.tuple #[.int .u64 (twoI 15 a b), .bool true]) ∧ Below w.heap.size w w' := by
  have hi : ∀ w, (Instr.index 231 recs (.int .i64 15)).run Tryz.prog w = .ok (.func (.func 218) #[] #[]) w := fun _ => by kernel_rfl
  go_enter Tryz.func132, Tryz.ntmps132
  go_wp2_with (first | (go_at_call 176; refine (recs_any _).mono ?_; rintro e w1 ⟨rfl, hb1⟩) | (go_at_call 218; refine (rec16_any _ _ ha hb _).mono ?_; rintro e w' ⟨rfl, rfl⟩))
  go_ret2
  exact ⟨rfl, hb1⟩
theorem two_yes (n : Nat) (h : n < 16) (a b : Int) (ha : IsU a) (hb : IsU b) (w : World) :
    Calls Tryz.prog 132 #[.int .i64 n, .int .u64 a, .int .u64 b] w fun e w' => e = .returned (.tuple #[.int .u64 (twoI n a b), .bool true]) ∧ Below w.heap.size w w' := by
  match n, h with
  | 0, _ => exact two0 a b ha hb w
  | 1, _ => exact two1 a b ha hb w
  | 2, _ => exact two2 a b ha hb w
  | 3, _ => exact two3 a b ha hb w
  | 4, _ => exact two4 a b ha hb w
  | 5, _ => exact two5 a b ha hb w
  | 6, _ => exact two6 a b ha hb w
  | 7, _ => exact two7 a b ha hb w
  | 8, _ => exact two8 a b ha hb w
  | 9, _ => exact two9 a b ha hb w
  | 10, _ => exact two10 a b ha hb w
  | 11, _ => exact two11 a b ha hb w
  | 12, _ => exact two12 a b ha hb w
  | 13, _ => exact two13 a b ha hb w
  | 14, _ => exact two14 a b ha hb w
  | 15, _ => exact two15 a b ha hb w
  | n + 16, h => exact absurd h (by omega)
theorem two_out (op a b : Int) (h : op < 0 ∨ 16 ≤ op) (w : World) :
    Calls Tryz.prog 132 #[.int .i64 op, .int .u64 a, .int .u64 b] w fun e w' => e = .returned (.tuple #[.int .u64 0, .bool false]) ∧ w = w' := by
  rcases h with h | h
  · go_enter Tryz.func132, Tryz.ntmps132
    go_wp2
    go_ret2
    exact ⟨rfl, rfl⟩
  · have h' : op > 15 := by omega
    have h'' : ¬ op < 0 := by omega
    go_enter Tryz.func132, Tryz.ntmps132
    go_wp2
    go_ret2
    exact ⟨rfl, rfl⟩
theorem two_any (op a b : Int) (ha : IsU a) (hb : IsU b) (w : World) :
    Calls Tryz.prog 132 #[.int .i64 op, .int .u64 a, .int .u64 b] w fun e w' => e = .returned (.tuple #[.int .u64 (twoV op a b), .bool (twoB op)]) ∧ Below w.heap.size w w' := by
  by_cases h : 0 ≤ op ∧ op < 16
  · obtain ⟨n, rfl⟩ := Int.eq_ofNat_of_zero_le h.1
    rw [twoV_at (by omega), twoB_at (by omega)]
    exact two_yes n (by omega) a b ha hb w
  · rw [twoV_out (by omega), twoB_out (by omega)]
    exact (two_out op a b (by omega) w).mono fun e w' ⟨h1, h2⟩ => ⟨h1, by rw [h2]; exact Below.refl _ _⟩
/-- the world's table of operations of one and a number is this -/
def TabA (w : World) : Prop := ∀ n, n < 9 → w.cell? ⟨2, n, none⟩ = some (.int .i64 (ofTwoN n))
theorem TabA.below {w w' : World} (h : TabA w) (hb : Below w.heap.size w w') : TabA w' := by
  have lt (b o : Nat) (v : Value) (hc : w.cell? ⟨b, o, none⟩ = some v) : b < w.heap.size := by
    rcases Nat.lt_or_ge b w.heap.size with h1 | h1
    · exact h1
    · simp [World.cell?, Array.getElem?_eq_none h1] at hc
  intro n hn
  have h1 := h n hn
  rw [hb.cell (p := ⟨_, _, none⟩) (lt _ _ _ h1)]; exact h1
theorem ofTwoN_lt {n : Nat} (h : n < 9) : ofTwoN n < 16 := by
  match n, h with
  | 0, _ | 1, _ | 2, _ | 3, _ | 4, _ | 5, _ | 6, _ | 7, _ | 8, _ => decide
  | n + 9, h => exact absurd h (by omega)
theorem twoI_of {n : Nat} {v : Int} {c : Int} (e : v = c) : v = c := e
theorem aone_at (n : Nat) (h : n < 9) (a i : Int) (ha : IsU a) (w : World) (hT : TabA w) :
    Calls Tryz.prog 133 #[.int .i64 (16 + n), .int .u64 a, .int .i64 i] w fun e w' => e = .returned (.tuple #[.int .u64 (twoI (ofTwoN n) a (modU i)), .bool true]) ∧ Below w.heap.size w w' := by
  have hc := hT n h
  have h1 : (16 : Int) + n ≥ 16 := by omega
  have h2 : ¬ (16 : Int) + n < 16 := by omega
  have h3 : ¬ (16 : Int) + n > 24 := by omega
  have h4 : (16 : Int) + n - 16 = n := by omega
  have hu : IsU (IntKind.u64.wrap i) := by rw [wrapU]; exact isU_modU i
  have Hk := two_yes (ofTwoN n) (ofTwoN_lt h) a (modU i) ha (isU_modU i)
  rw [← wrapU] at Hk
  have Hw := Lib.hid (wrapU i)
  go_enter Tryz.func133, Tryz.ntmps133
  go_wp2_with (go_at_call 132; refine (Hk _).mono ?_; rintro e w1 ⟨rfl, hb1⟩)
  go_ret2
  rw [Hw.out]
  exact ⟨rfl, hb1⟩
theorem one_out (op a i : Int) (h : op < 16 ∨ 25 ≤ op) (w : World) :
    Calls Tryz.prog 133 #[.int .i64 op, .int .u64 a, .int .i64 i] w fun e w' => e = .returned (.tuple #[.int .u64 0, .bool false]) ∧ w = w' := by
  rcases h with h | h
  · go_enter Tryz.func133, Tryz.ntmps133
    go_wp2
    go_ret2
    exact ⟨rfl, rfl⟩
  · have h' : op > 24 := by omega
    have h'' : ¬ op < 16 := by omega
    go_enter Tryz.func133, Tryz.ntmps133
    go_wp2
    go_ret2
    exact ⟨rfl, rfl⟩
theorem one_any (op a i : Int) (ha : IsU a) (w : World) (hT : TabA w) :
    Calls Tryz.prog 133 #[.int .i64 op, .int .u64 a, .int .i64 i] w fun e w' => e = .returned (.tuple #[.int .u64 (oneV op a i), .bool (oneB op)]) ∧ Below w.heap.size w w' := by
  by_cases h : 16 ≤ op ∧ op < 25
  · obtain ⟨n, hn⟩ := Int.eq_ofNat_of_zero_le (show 0 ≤ op - 16 by omega)
    obtain rfl : op = 16 + n := by omega
    rw [oneV_at (by omega), oneB_at (by omega)]
    exact aone_at n (by omega) a i ha w hT
  · rw [oneV_out (by omega), oneB_out (by omega)]
    exact (one_out op a i (by omega) w).mono fun e w' ⟨h1, h2⟩ => ⟨h1, by rw [h2]; exact Below.refl _ _⟩
theorem tak0 (a b : Int) (w : World) :
    Calls Tryz.prog 134 #[.int .i64 32, .int .u64 a, .int .u64 b] w fun e w' => e = .returned (.tuple #[.bool (takI 0 a b), .bool true]) ∧ Below w.heap.size w w' := by
  have hi : ∀ w, (Instr.index 235 conds (.int .i64 0)).run Tryz.prog w = .ok (.func (.func 220) #[] #[]) w := fun _ => by kernel_rfl
  go_enter Tryz.func134, Tryz.ntmps134
  go_wp2_with (first | (go_at_call 177; refine (conds_any _).mono ?_; rintro e w1 ⟨rfl, hb1⟩) | (go_at_call 220; refine (con1_any _ _ _).mono ?_; rintro e w' ⟨rfl, rfl⟩))
  go_ret2
  exact ⟨rfl, hb1⟩
theorem tak1 (a b : Int) (w : World) :
    Calls Tryz.prog 134 #[.int .i64 33, .int .u64 a, .int .u64 b] w fun e w' => e = .returned (.tuple #[.bool (takI 1 a b), .bool true]) ∧ Below w.heap.size w w' := by
  have hi : ∀ w, (Instr.index 235 conds (.int .i64 1)).run Tryz.prog w = .ok (.func (.func 221) #[] #[]) w := fun _ => by kernel_rfl
  go_enter Tryz.func134, Tryz.ntmps134
  go_wp2_with (first | (go_at_call 177; refine (conds_any _).mono ?_; rintro e w1 ⟨rfl, hb1⟩) | (go_at_call 221; refine (con2_any _ _ _).mono ?_; rintro e w' ⟨rfl, rfl⟩))
  go_ret2
  exact ⟨rfl, hb1⟩
theorem tak2 (a b : Int) (w : World) :
    Calls Tryz.prog 134 #[.int .i64 34, .int .u64 a, .int .u64 b] w fun e w' => e = .returned (.tuple #[.bool (takI 2 a b), .bool true]) ∧ Below w.heap.size w w' := by
  have hi : ∀ w, (Instr.index 235 conds (.int .i64 2)).run Tryz.prog w = .ok (.func (.func 222) #[] #[]) w := fun _ => by kernel_rfl
  go_enter Tryz.func134, Tryz.ntmps134
  go_wp2_with (first | (go_at_call 177; refine (conds_any _).mono ?_; rintro e w1 ⟨rfl, hb1⟩) | (go_at_call 222; refine (con3_any _ _ _).mono ?_; rintro e w' ⟨rfl, rfl⟩))
  go_ret2
  exact ⟨rfl, hb1⟩
theorem tak3 (a b : Int) (w : World) :
    Calls Tryz.prog 134 #[.int .i64 35, .int .u64 a, .int .u64 b] w fun e w' => e = .returned (.tuple #[.bool (takI 3 a b), .bool true]) ∧ Below w.heap.size w w' := by
  have hi : ∀ w, (Instr.index 235 conds (.int .i64 3)).run Tryz.prog w = .ok (.func (.func 223) #[] #[]) w := fun _ => by kernel_rfl
  go_enter Tryz.func134, Tryz.ntmps134
  go_wp2_with (first | (go_at_call 177; refine (conds_any _).mono ?_; rintro e w1 ⟨rfl, hb1⟩) | (go_at_call 223; refine (con4_any _ _ _).mono ?_; rintro e w' ⟨rfl, rfl⟩))
  go_ret2
  exact ⟨rfl, hb1⟩
theorem tak4 (a b : Int) (w : World) :
    Calls Tryz.prog 134 #[.int .i64 36, .int .u64 a, .int .u64 b] w fun e w' => e = .returned (.tuple #[.bool (takI 4 a b), .bool true]) ∧ Below w.heap.size w w' := by
  have hi : ∀ w, (Instr.index 235 conds (.int .i64 4)).run Tryz.prog w = .ok (.func (.func 224) #[] #[]) w := fun _ => by kernel_rfl
  go_enter Tryz.func134, Tryz.ntmps134
  go_wp2_with (first | (go_at_call 177; refine (conds_any _).mono ?_; rintro e w1 ⟨rfl, hb1⟩) | (go_at_call 224; refine (con5_any _ _ _).mono ?_; rintro e w' ⟨rfl, rfl⟩))
  go_ret2
  exact ⟨rfl, hb1⟩
theorem tak5 (a b : Int) (w : World) :
    Calls Tryz.prog 134 #[.int .i64 37, .int .u64 a, .int .u64 b] w fun e w' => e = .returned (.tuple #[.bool (takI 5 a b), .bool true]) ∧ Below w.heap.size w w' := by
  have hi : ∀ w, (Instr.index 235 conds (.int .i64 5)).run Tryz.prog w = .ok (.func (.func 225) #[] #[]) w := fun _ => by kernel_rfl
  go_enter Tryz.func134, Tryz.ntmps134
  go_wp2_with (first | (go_at_call 177; refine (conds_any _).mono ?_; rintro e w1 ⟨rfl, hb1⟩) | (go_at_call 225; refine (con6_any _ _ _).mono ?_; rintro e w' ⟨rfl, rfl⟩))
  go_ret2
  exact ⟨rfl, hb1⟩
theorem tak_at (n : Nat) (h : n < 6) (a b : Int) (w : World) :
    Calls Tryz.prog 134 #[.int .i64 (32 + n), .int .u64 a, .int .u64 b] w fun e w' => e = .returned (.tuple #[.bool (takI n a b), .bool true]) ∧ Below w.heap.size w w' := by
  match n, h with
  | 0, _ => exact tak0 a b w
  | 1, _ => exact tak1 a b w
  | 2, _ => exact tak2 a b w
  | 3, _ => exact tak3 a b w
  | 4, _ => exact tak4 a b w
  | 5, _ => exact tak5 a b w
  | n + 6, h => exact absurd h (by omega)
theorem tak_out (op a b : Int) (h : op < 32 ∨ 38 ≤ op) (w : World) :
    Calls Tryz.prog 134 #[.int .i64 op, .int .u64 a, .int .u64 b] w fun e w' => e = .returned (.tuple #[.bool false, .bool false]) ∧ w = w' := by
  rcases h with h | h
  · go_enter Tryz.func134, Tryz.ntmps134
    go_wp2
    go_ret2
    exact ⟨rfl, rfl⟩
  · have h' : op > 37 := by omega
    have h'' : ¬ op < 32 := by omega
    go_enter Tryz.func134, Tryz.ntmps134
    go_wp2
    go_ret2
    exact ⟨rfl, rfl⟩
theorem tak_any (op a b : Int) (w : World) :
    Calls Tryz.prog 134 #[.int .i64 op, .int .u64 a, .int .u64 b] w fun e w' => e = .returned (.tuple #[.bool (takV op a b), .bool (takB op)]) ∧ Below w.heap.size w w' := by
  by_cases h : 32 ≤ op ∧ op < 38
  · obtain ⟨n, hn⟩ := Int.eq_ofNat_of_zero_le (show 0 ≤ op - 32 by omega)
    obtain rfl : op = 32 + n := by omega
    rw [takV_at (by omega), takB_at (by omega)]
    exact tak_at n (by omega) a b w
  · rw [takV_out (by omega), takB_out (by omega)]
    exact (tak_out op a b (by omega) w).mono fun e w' ⟨h1, h2⟩ => ⟨h1, by rw [h2]; exact Below.refl _ _⟩
theorem var_any (op : Int) (w : World) :
    Calls Tryz.prog 131 #[.int .i64 op] w fun e w' => e = .returned (.bool (varB op)) ∧ w = w' := by
  by_cases h : 12 ≤ op ∧ op < 16
  · obtain rfl | rfl | rfl | rfl : op = 12 ∨ op = 13 ∨ op = 14 ∨ op = 15 := by omega
    all_goals
      go_enter Tryz.func131, Tryz.ntmps131
      go_wp2
      go_ret
      exact ⟨rfl, rfl⟩
  · have e : varB op = false := by unfold varB; simp; omega
    have h1 : (op == 12) = false := by simp; omega
    have h2 : (op == 13) = false := by simp; omega
    have h3 : (op == 14) = false := by simp; omega
    have h4 : (op == 15) = false := by simp; omega
    rw [e]
    clear h e
    go_enter Tryz.func131, Tryz.ntmps131
    go_wp2
    go_ret
    exact ⟨rfl, rfl⟩
end Go.Proofs.YtoeagbcjnffpaaaGreatDoor
