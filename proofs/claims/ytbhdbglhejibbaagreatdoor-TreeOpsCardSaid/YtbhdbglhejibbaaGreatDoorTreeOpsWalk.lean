/- The walk of the statement TreeOps: it returns true, and writes nothing that was there. -/
import Derived.Test.YtbhdbglhejibbaaGreatDoorTuaP
namespace Go.Proofs.YtbhdbglhejibbaaGreatDoor.TreeOpsWalk
set_option maxRecDepth 100000
open Go.RowKit
set_option linter.unusedVariables false
def opP (v : Int) : ProD := ([], [(⟨#[102]⟩, false, [], [.mk 4 ⟨#[]⟩ 0 [.mk 3 v ⟨#[]⟩ [.mk 0 1 ⟨#[]⟩ [], .mk 0 2 ⟨#[]⟩ []]] [] []])])
def opT (k : Nat) : ByteArray := ⟨#[40, 102, 117, 110, 32, 102, 32, 40, 41, 32, 40, 114, 101, 116, 32, 40]⟩ ++ opsW k ++ ⟨#[32, 49, 32, 50, 41, 41, 41, 10]⟩
theorem prt_op : ∀ k, k < 13 → prtE (opP (opsR k).2) = (opT k, 0) := by
  intro k hk
  match k, hk with
  | 0, _ => show _ = _; kernel_rfl
  | 1, _ => show _ = _; kernel_rfl
  | 2, _ => show _ = _; kernel_rfl
  | 3, _ => show _ = _; kernel_rfl
  | 4, _ => show _ = _; kernel_rfl
  | 5, _ => show _ = _; kernel_rfl
  | 6, _ => show _ = _; kernel_rfl
  | 7, _ => show _ = _; kernel_rfl
  | 8, _ => show _ = _; kernel_rfl
  | 9, _ => show _ = _; kernel_rfl
  | 10, _ => show _ = _; kernel_rfl
  | 11, _ => show _ = _; kernel_rfl
  | 12, _ => show _ = _; kernel_rfl
theorem ops_size2 : ∀ k, k < 13 → (opsW k).size ≤ 4 := by decide +kernel
theorem ops_fits : ∀ k, k < 13 → fitsU (opsR k).2 := by unfold fitsU; decide +kernel
/-- the source that the statement builds, as it lies: five blocks in a row -/
def w5 (w : World) (v : Int) : World := ((((w.alloc (.cells #[.int .i64 0, .int .u64 1, .string ⟨#[]⟩, .slice none 0 0, .int .i64 0, .int .u64 2, .string ⟨#[]⟩, .slice none 0 0] 42)).alloc (.cells #[.int .i64 3, .int .u64 v, .string ⟨#[]⟩, .slice (some ⟨w.heap.size, 0, none⟩) 2 2] 42)).alloc (.cells #[.int .i64 4, .string ⟨#[]⟩, .int .i64 0, .slice (some ⟨w.heap.size + 1, 0, none⟩) 1 1, .slice none 0 0, .slice none 0 0] 45)).alloc (.cells #[.string ⟨#[102]⟩, .bool false, .slice none 0 0, .slice (some ⟨w.heap.size + 1 + 1, 0, none⟩) 1 1] 48)).alloc (.cells #[.slice none 0 0, .slice (some ⟨w.heap.size + 1 + 1 + 1, 0, none⟩) 1 1] 25)
theorem w5_lies (w : World) (v : Int) : Below w.heap.size w (w5 w v) ∧ ∃ S : Nat → Prop, (∀ b, S b → PlB (w5 w v) b) ∧ ProV (w5 w v) S (opP v) none 0 (some ⟨w.heap.size + 1 + 1 + 1, 0, none⟩) 1 ∧ (w5 w v).heap[w.heap.size + 1 + 1 + 1 + 1]? = some (.cells #[.slice none 0 0, .slice (some ⟨w.heap.size + 1 + 1 + 1, 0, none⟩) 1 1] 25 (0, 0)) := by
  have s1 : (w.alloc (.cells #[.int .i64 0, .int .u64 1, .string ⟨#[]⟩, .slice none 0 0, .int .i64 0, .int .u64 2, .string ⟨#[]⟩, .slice none 0 0] 42)).heap.size = w.heap.size + 1 := by simp
  have b1 := (Below.refl w.heap.size w).alloc (Nat.le_refl _) (.cells #[.int .i64 0, .int .u64 1, .string ⟨#[]⟩, .slice none 0 0, .int .i64 0, .int .u64 2, .string ⟨#[]⟩, .slice none 0 0] 42)
  have x1 := heap_alloc_new w (.cells #[.int .i64 0, .int .u64 1, .string ⟨#[]⟩, .slice none 0 0, .int .i64 0, .int .u64 2, .string ⟨#[]⟩, .slice none 0 0] 42)
  unfold w5
  generalize w.alloc (.cells #[.int .i64 0, .int .u64 1, .string ⟨#[]⟩, .slice none 0 0, .int .i64 0, .int .u64 2, .string ⟨#[]⟩, .slice none 0 0] 42) = W1 at *
  have b2 := (Below.refl W1.heap.size W1).alloc (Nat.le_refl _) (.cells #[.int .i64 3, .int .u64 v, .string ⟨#[]⟩, .slice (some ⟨w.heap.size, 0, none⟩) 2 2] 42)
  have x2 := heap_alloc_new W1 (.cells #[.int .i64 3, .int .u64 v, .string ⟨#[]⟩, .slice (some ⟨w.heap.size, 0, none⟩) 2 2] 42)
  have s2 : (W1.alloc (.cells #[.int .i64 3, .int .u64 v, .string ⟨#[]⟩, .slice (some ⟨w.heap.size, 0, none⟩) 2 2] 42)).heap.size = w.heap.size + 1 + 1 := by simp [s1]
  generalize W1.alloc (.cells #[.int .i64 3, .int .u64 v, .string ⟨#[]⟩, .slice (some ⟨w.heap.size, 0, none⟩) 2 2] 42) = W2 at *
  have b3 := (Below.refl W2.heap.size W2).alloc (Nat.le_refl _) (.cells #[.int .i64 4, .string ⟨#[]⟩, .int .i64 0, .slice (some ⟨w.heap.size + 1, 0, none⟩) 1 1, .slice none 0 0, .slice none 0 0] 45)
  have x3 := heap_alloc_new W2 (.cells #[.int .i64 4, .string ⟨#[]⟩, .int .i64 0, .slice (some ⟨w.heap.size + 1, 0, none⟩) 1 1, .slice none 0 0, .slice none 0 0] 45)
  have s3 : (W2.alloc (.cells #[.int .i64 4, .string ⟨#[]⟩, .int .i64 0, .slice (some ⟨w.heap.size + 1, 0, none⟩) 1 1, .slice none 0 0, .slice none 0 0] 45)).heap.size = w.heap.size + 1 + 1 + 1 := by simp [s2]
  generalize W2.alloc (.cells #[.int .i64 4, .string ⟨#[]⟩, .int .i64 0, .slice (some ⟨w.heap.size + 1, 0, none⟩) 1 1, .slice none 0 0, .slice none 0 0] 45) = W3 at *
  have b4 := (Below.refl W3.heap.size W3).alloc (Nat.le_refl _) (.cells #[.string ⟨#[102]⟩, .bool false, .slice none 0 0, .slice (some ⟨w.heap.size + 1 + 1, 0, none⟩) 1 1] 48)
  have x4 := heap_alloc_new W3 (.cells #[.string ⟨#[102]⟩, .bool false, .slice none 0 0, .slice (some ⟨w.heap.size + 1 + 1, 0, none⟩) 1 1] 48)
  have s4 : (W3.alloc (.cells #[.string ⟨#[102]⟩, .bool false, .slice none 0 0, .slice (some ⟨w.heap.size + 1 + 1, 0, none⟩) 1 1] 48)).heap.size = w.heap.size + 1 + 1 + 1 + 1 := by simp [s3]
  generalize W3.alloc (.cells #[.string ⟨#[102]⟩, .bool false, .slice none 0 0, .slice (some ⟨w.heap.size + 1 + 1, 0, none⟩) 1 1] 48) = W4 at *
  have b5 := (Below.refl W4.heap.size W4).alloc (Nat.le_refl _) (.cells #[.slice none 0 0, .slice (some ⟨w.heap.size + 1 + 1 + 1, 0, none⟩) 1 1] 25)
  have x5 := heap_alloc_new W4 (.cells #[.slice none 0 0, .slice (some ⟨w.heap.size + 1 + 1 + 1, 0, none⟩) 1 1] 25)
  generalize W4.alloc (.cells #[.slice none 0 0, .slice (some ⟨w.heap.size + 1 + 1 + 1, 0, none⟩) 1 1] 25) = W5 at *
  rw [s1] at x2 b2
  rw [s2] at x3 b3
  rw [s3] at x4 b4
  rw [s4] at x5 b5
  have y4 := (b5.block _ (by omega)).trans x4
  have y3 := (b5.block _ (by omega)).trans ((b4.block _ (by omega)).trans x3)
  have y2 := (b5.block _ (by omega)).trans ((b4.block _ (by omega)).trans ((b3.block _ (by omega)).trans x2))
  have y1 := (b5.block _ (by omega)).trans ((b4.block _ (by omega)).trans ((b3.block _ (by omega)).trans ((b2.block _ (by omega)).trans x1)))
  refine ⟨b1.trans ((b2.mono (by omega)).trans ((b3.mono (by omega)).trans ((b4.mono (by omega)).trans (b5.mono (by omega))))), fun b => b = w.heap.size ∨ b = w.heap.size + 1 ∨ b = w.heap.size + 1 + 1 ∨ b = w.heap.size + 1 + 1 + 1, fun b hb => ?_, ⟨Nat.le_refl _, Nat.le_refl _, .inl rfl, .inr ⟨_, _, rfl, by simp, fun i hi => ?_⟩⟩, x5⟩
  · rcases hb with rfl | rfl | rfl | rfl
    · exact ⟨_, _, y1⟩
    · exact ⟨_, _, y2⟩
    · exact ⟨_, _, y3⟩
    · exact ⟨_, _, y4⟩
  · match i, hi with
    | 0, _ =>
      have c1 : ∀ o, W5.cell? ⟨w.heap.size, o, none⟩ = _ := fun o => cell_of_row W5 w.heap.size o _ _ _ y1
      have c2 : ∀ o, W5.cell? ⟨w.heap.size + 1, o, none⟩ = _ := fun o => cell_of_row W5 (w.heap.size + 1) o _ _ _ y2
      have c3 : ∀ o, W5.cell? ⟨w.heap.size + 1 + 1, o, none⟩ = _ := fun o => cell_of_row W5 (w.heap.size + 1 + 1) o _ _ _ y3
      have c4 : ∀ o, W5.cell? ⟨w.heap.size + 1 + 1 + 1, o, none⟩ = _ := fun o => cell_of_row W5 (w.heap.size + 1 + 1 + 1) o _ _ _ y4
      refine ⟨c4 0, c4 1, ⟨none, 0, c4 2, Nat.le_refl _, .inl rfl⟩, _, _, c4 3, Nat.le_refl _, .inr ⟨_, _, rfl, by simp, ⟨?_, trivial⟩⟩⟩
      unfold StmtAt
      refine ⟨c3 0, c3 1, c3 2, ⟨_, _, c3 3, Nat.le_refl _, .inr ⟨_, _, rfl, by simp, ⟨?_, trivial⟩⟩⟩, ⟨_, _, c3 4, Nat.le_refl _, .inl rfl⟩, ⟨_, _, c3 5, Nat.le_refl _, .inl rfl⟩⟩
      unfold ExprAt
      refine ⟨c2 0, c2 1, c2 2, _, _, c2 3, Nat.le_refl _, .inr ⟨_, _, rfl, by simp, ?_⟩⟩
      refine ⟨?_, ?_, trivial⟩
      · unfold ExprAt
        exact ⟨c1 0, c1 1, c1 2, _, _, c1 3, Nat.le_refl _, .inl rfl⟩
      · unfold ExprAt
        exact ⟨c1 4, c1 5, c1 6, _, _, c1 7, Nat.le_refl _, .inl rfl⟩
theorem opP_w (v : Int) (hv : fitsU v) : ProW (opP v) := by
  have lm : ∀ n : Nat, n ≤ 100 → n ≤ maxLen := fun n h => by unfold maxLen; omega
  have e0 : ExprW (.mk 0 1 ⟨#[]⟩ []) := by unfold ExprW; exact ⟨by unfold fitsI; omega, by unfold fitsU; omega, lm 0 (by omega), lm 0 (by omega), by simp [ExprsW]⟩
  have e1 : ExprW (.mk 0 2 ⟨#[]⟩ []) := by unfold ExprW; exact ⟨by unfold fitsI; omega, by unfold fitsU; omega, lm 0 (by omega), lm 0 (by omega), by simp [ExprsW]⟩
  have e2 : ExprW (.mk 3 v ⟨#[]⟩ [.mk 0 1 ⟨#[]⟩ [], .mk 0 2 ⟨#[]⟩ []]) := by unfold ExprW; exact ⟨by unfold fitsI; omega, hv, lm 0 (by omega), lm 2 (by omega), by simp [ExprsW, e0, e1]⟩
  have e3 : StmtW (.mk 4 ⟨#[]⟩ 0 [.mk 3 v ⟨#[]⟩ [.mk 0 1 ⟨#[]⟩ [], .mk 0 2 ⟨#[]⟩ []]] [] []) := by unfold StmtW; exact ⟨by unfold fitsI; omega, lm 0 (by omega), by unfold fitsI; omega, ⟨lm 1 (by omega), by simp [ExprsW, e2]⟩, ⟨lm 0 (by omega), by simp [StmtsW]⟩, lm 0 (by omega), by simp [StmtsW]⟩
  refine ⟨⟨lm 0 (by omega), fun x hx => by cases hx⟩, lm 1 (by omega), fun x hx => ?_⟩
  rw [show (opP v).2 = [(⟨#[102]⟩, false, [], [.mk 4 ⟨#[]⟩ 0 [.mk 3 v ⟨#[]⟩ [.mk 0 1 ⟨#[]⟩ [], .mk 0 2 ⟨#[]⟩ []]] [] []])] from rfl, List.mem_singleton] at hx
  subst hx
  exact ⟨lm 1 (by omega), ⟨lm 0 (by omega), fun y hy => by cases hy⟩, lm 1 (by omega), by simp [StmtsW, e3]⟩
def kn (s : ByteArray) (j : Nat) : Bool := (List.range j).any fun i => decide (opsW i = s)
theorem kn_succ (s : ByteArray) (j : Nat) : kn s (j + 1) = (kn s j || decide (opsW j = s)) := by unfold kn; rw [List.range_succ, List.any_append]; simp
theorem kn_iff {s : ByteArray} {j : Nat} : kn s j = true ↔ ∃ i, i < j ∧ opsW i = s := by unfold kn; simp
theorem ops_row (w : World) (k : Nat) (hk : k < 13) : (w.alloc (.cells #[.string ⟨#[97, 100, 100]⟩, .string ⟨#[115, 117, 98]⟩, .string ⟨#[115, 104, 108]⟩, .string ⟨#[115, 108, 116]⟩, .string ⟨#[115, 108, 116, 117]⟩, .string ⟨#[120, 111, 114]⟩, .string ⟨#[115, 104, 114]⟩, .string ⟨#[115, 97, 114]⟩, .string ⟨#[111, 114]⟩, .string ⟨#[97, 110, 100]⟩, .string ⟨#[109, 117, 108]⟩, .string ⟨#[100, 105, 118, 117]⟩, .string ⟨#[114, 101, 109, 117]⟩] 9)).cell? ⟨w.heap.size, k, none⟩ = some (.string (opsW k)) := by
  rw [cell_of_row _ _ k _ _ _ (heap_alloc_new w _)]
  match k, hk with
  | 0, _ => rfl
  | 1, _ => rfl
  | 2, _ => rfl
  | 3, _ => rfl
  | 4, _ => rfl
  | 5, _ => rfl
  | 6, _ => rfl
  | 7, _ => rfl
  | 8, _ => rfl
  | 9, _ => rfl
  | 10, _ => rfl
  | 11, _ => rfl
  | 12, _ => rfl
set_option maxHeartbeats 8000000 in
theorem walk (a0 : Int) (a1 : ByteArray) (w : World) (w0 : (Lit.int .u8 a0).wf = true) (w1 : a1.size ≤ maxLen) (hL : LxT w) (hT : TrT w) :
    Calls Tryz.prog 6 #[.int .u8 a0, .string a1] w fun e w' => e = .returned (.bool true) ∧ Below w.heap.size w w' := by
  have hb := bounds_u8 w0
  have h0 : 0 ≤ a0 := by omega
  have h1 : a0 ≤ 255 := by omega
  obtain ⟨k, hk⟩ : ∃ k : Nat, a0 % 13 = (k : Int) := ⟨(a0 % 13).toNat, by omega⟩
  have hk13 : k < 13 := by omega
  have HT := Lib.hid hT
  have HL := Lib.hid hL
  have HAw := Lib.hid (awake10_yes w hT hL)
  have HK := Lib.hid hk13
  clear hT hL hb w0 w1
  go_enter Tryz.func6, Tryz.ntmps6
  go_wp2_with fail
  refine HAw.out.mono ?_
  rintro e w2 ⟨rfl, hb1⟩
  have hrow := ops_row w2
  have hbr := (Below.refl w2.heap.size w2).alloc (Nat.le_refl _) (.cells #[.string ⟨#[97, 100, 100]⟩, .string ⟨#[115, 117, 98]⟩, .string ⟨#[115, 104, 108]⟩, .string ⟨#[115, 108, 116]⟩, .string ⟨#[115, 108, 116, 117]⟩, .string ⟨#[120, 111, 114]⟩, .string ⟨#[115, 104, 114]⟩, .string ⟨#[115, 97, 114]⟩, .string ⟨#[111, 114]⟩, .string ⟨#[97, 110, 100]⟩, .string ⟨#[109, 117, 108]⟩, .string ⟨#[100, 105, 118, 117]⟩, .string ⟨#[114, 101, 109, 117]⟩] 9)
  have HB := Lib.hid (hb1.trans (hbr.mono hb1.size))
  have x0 := hrow k hk13
  have HRow := Lib.hid hrow
  have HO := Lib.hid (op_known (k := k) hk13 rfl _ (HT.out.below (hb1.trans (hbr.mono hb1.size))))
  have k0 : (0 : Int) ≤ (k : Int) := by omega
  have k1 : (k : Int) < 13 := by omega
  clear hb1 hbr HAw hrow
  go_wp2_with fail
  refine HO.out.mono ?_
  rintro e w3 ⟨rfl, hb3⟩
  have hba : ∀ w : World, (Instr.build 42 #[(1, .int .u64 1)]).run Tryz.prog w = .ok (.agg #[.int .i64 0, .int .u64 1, .string ⟨#[]⟩, .slice none 0 0]) w := fun w => run_build w 42 _ _ (by kernel_rfl)
  have hbb : ∀ w : World, (Instr.build 42 #[(1, .int .u64 2)]).run Tryz.prog w = .ok (.agg #[.int .i64 0, .int .u64 2, .string ⟨#[]⟩, .slice none 0 0]) w := fun w => run_build w 42 _ _ (by kernel_rfl)
  have hbc : ∀ (v : Int) (b : Nat) (w : World), (Instr.build 42 #[(0, .int .i64 3), (1, .int .u64 v), (3, .slice (some ⟨b, 0, none⟩) 2 2)]).run Tryz.prog w = .ok (.agg #[.int .i64 3, .int .u64 v, .string ⟨#[]⟩, .slice (some ⟨b, 0, none⟩) 2 2]) w := fun v b w => run_build w 42 _ _ (by kernel_rfl)
  have hbe : ∀ (b : Nat) (w : World), (Instr.build 45 #[(0, .int .i64 4), (3, .slice (some ⟨b, 0, none⟩) 1 1)]).run Tryz.prog w = .ok (.agg #[.int .i64 4, .string ⟨#[]⟩, .int .i64 0, .slice (some ⟨b, 0, none⟩) 1 1, .slice none 0 0, .slice none 0 0]) w := fun b w => run_build w 45 _ _ (by kernel_rfl)
  have hbf : ∀ (b : Nat) (w : World), (Instr.build 48 #[(0, .string ⟨#[102]⟩), (3, .slice (some ⟨b, 0, none⟩) 1 1)]).run Tryz.prog w = .ok (.agg #[.string ⟨#[102]⟩, .bool false, .slice none 0 0, .slice (some ⟨b, 0, none⟩) 1 1]) w := fun b w => run_build w 48 _ _ (by kernel_rfl)
  have hbg : ∀ (b : Nat) (w : World), (Instr.build 25 #[(1, .slice (some ⟨b, 0, none⟩) 1 1)]).run Tryz.prog w = .ok (.agg #[.slice none 0 0, .slice (some ⟨b, 0, none⟩) 1 1]) w := fun b w => run_build w 25 _ _ (by kernel_rfl)
  have hu := opsR_u k hk13
  have hfv := ops_fits k hk13
  have HPr := Lib.hid (prt_op k hk13)
  have g1 := ops_size2 k hk13
  have HOT := Lib.hid (show opT k = ⟨#[40, 102, 117, 110, 32, 102, 32, 40, 41, 32, 40, 114, 101, 116, 32, 40]⟩ ++ opsW k ++ ⟨#[32, 49, 32, 50, 41, 41, 41, 10]⟩ from rfl)
  have HB3 := Lib.hid (HB.out.trans (hb3.mono HB.out.size))
  have HRow3 := Lib.hid (fun (j : Nat) (hj : j < 13) => (hb3.cell (p := ⟨w2.heap.size, j, none⟩) (block_lt (HRow.out j hj))).trans (HRow.out j hj))
  generalize (opsR k).2 = v at *
  generalize opsW k = x at *
  obtain ⟨hb5, S, hS, hV, hx5⟩ := w5_lies w3 v
  have HP := Lib.hid (print_any (opP v) (opP_w v hfv) S none (some ⟨w3.heap.size + 1 + 1 + 1, 0, none⟩) 0 1 (w5 w3 v) ((HT.out.below HB3.out).below hb5) ((HL.out.below HB3.out).below hb5) hS hV)
  have HB5 := Lib.hid hb5
  have HRow5 := Lib.hid (fun (j : Nat) (hj : j < 13) => (hb5.cell (p := ⟨w2.heap.size, j, none⟩) (block_lt (HRow3.out j hj))).trans (HRow3.out j hj))
  have q0 := cell_of_row (w5 w3 v) _ 0 _ _ _ hx5
  have q1 := cell_of_row (w5 w3 v) _ 1 _ _ _ hx5
  simp only [List.getElem?_toArray, List.getElem?_cons_zero, List.getElem?_cons_succ] at q0 q1
  have HW5 := Lib.hid (show w5 w3 v = w5 w3 v from rfl)
  unfold w5 at HP q0 q1
  clear hb3 hb5 hS hV hx5 HO HRow x0
  go_wp2_with fail
  refine HP.out.mono ?_
  rintro e w4 ⟨hb4, he⟩
  rw [HPr.out, HOT.out] at he
  simp only at he
  subst he
  have HB4 := Lib.hid (HB3.out.trans ((HB5.out.trans (hb4.mono HB5.out.size)).mono HB3.out.size))
  have HRow4 := Lib.hid (fun (j : Nat) (hj : j < 13) => (hb4.cell (p := ⟨w2.heap.size, j, none⟩) (block_lt (HRow5.out j hj))).trans (HRow5.out j hj))
  have HOp := Lib.hid (op_any a1 w4 (HT.out.below HB4.out))
  clear hb4 HP q0 q1 HRow5 HRow3 HW5
  go_wp2
  go_loopw [12, 13] (fun b i wr => ∃ j : Nat, j ≤ 13 ∧ i = .int .i64 j ∧ b = .bool (kn a1 j) ∧ wr = w4) (fun _ i _ => 13 - (intOf i).toNat)
  case atStart => exact ⟨0, by omega, rfl, rfl, rfl⟩
  case round =>
    obtain ⟨j, hj, rfl, rfl, rfl⟩ := hrel
    by_cases hlt : j < 13
    · have y0 := HRow4.out j hlt
      have j0 : (0 : Int) ≤ (j : Int) := by omega
      have j1 : (j : Int) < 13 := by omega
      have HS := Lib.hid (kn_succ a1 j)
      cases hkn : kn a1 j with
      | true =>
        rw [hkn] at HS
        go_wp2
        go_roundw
        case rel => exact ⟨j + 1, by omega, by go_num, by rw [HS.out]; rfl, by first | trivial | rfl⟩
        case measure => simp [intOf]; omega
      | false =>
        rw [hkn] at HS
        have hcmp := str_eq (x := opsW j) (s := a1)
        generalize opsW j = y at *
        go_wp2
        go_roundw
        case rel => exact ⟨j + 1, by omega, by go_num, by rw [HS.out]; simp, by first | trivial | rfl⟩
        case measure => simp [intOf]; omega
    · obtain rfl : j = 13 := by omega
      clear hlt hj
      go_wp2_with fail
      refine HOp.out.mono ?_
      rintro e w6 ⟨h6, hb6⟩
      have HB6 := Lib.hid (HB4.out.trans (hb6.mono HB4.out.size))
      clear hb6
      rcases h6 with ⟨i, hi, h7, _, rfl⟩ | ⟨h7, rfl⟩
      · have hkt : kn a1 13 = true := kn_iff.2 ⟨i, hi, h7⟩
        rw [hkt]
        clear h7 hkt
        go_wp2
        go_ret
        exact ⟨rfl, HB6.out⟩
      · have hkf : kn a1 13 = false := by
          cases hh : kn a1 13 with
          | false => rfl
          | true => obtain ⟨i, hi, e⟩ := kn_iff.1 hh; exact absurd e (h7 i hi)
        rw [hkf]
        clear h7 hkf
        go_wp2
        go_ret
        exact ⟨rfl, HB6.out⟩
end Go.Proofs.YtbhdbglhejibbaaGreatDoor.TreeOpsWalk
