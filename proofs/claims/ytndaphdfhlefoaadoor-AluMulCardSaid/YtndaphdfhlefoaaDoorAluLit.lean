/- Layer 3: the calls of package alu at each operation, by its own name; One at each operation. -/
import Derived.Test.YtndaphdfhlefoaaDoorAluAwake
import Derived.Test.YtndaphdfhlefoaaDoorAluLaid
import Derived.Test.YtndaphdfhlefoaaDoorArgs
namespace Go.Proofs.YtndaphdfhlefoaaDoor
open Go.RowKit
set_option linter.unusedVariables false
theorem add_call (a b : Int) (ha : IsU a) (hb : IsU b) (w : World) :
    Calls Tryd.prog 12 #[.int .i64 0, .int .u64 a, .int .u64 b] w fun e w' => e = .returned (.tuple #[.int .u64 (addI a b), .bool true]) ∧ Below w.heap.size w w' := two0 a b ha hb w
theorem sub_call (a b : Int) (ha : IsU a) (hb : IsU b) (w : World) :
    Calls Tryd.prog 12 #[.int .i64 1, .int .u64 a, .int .u64 b] w fun e w' => e = .returned (.tuple #[.int .u64 (subI a b), .bool true]) ∧ Below w.heap.size w w' := two1 a b ha hb w
theorem sll_call (a b : Int) (ha : IsU a) (hb : IsU b) (w : World) :
    Calls Tryd.prog 12 #[.int .i64 2, .int .u64 a, .int .u64 b] w fun e w' => e = .returned (.tuple #[.int .u64 (sllI a b), .bool true]) ∧ Below w.heap.size w w' := two2 a b ha hb w
theorem slt_call (a b : Int) (ha : IsU a) (hb : IsU b) (w : World) :
    Calls Tryd.prog 12 #[.int .i64 3, .int .u64 a, .int .u64 b] w fun e w' => e = .returned (.tuple #[.int .u64 (oneI (sltB a b)), .bool true]) ∧ Below w.heap.size w w' := two3 a b ha hb w
theorem sltu_call (a b : Int) (ha : IsU a) (hb : IsU b) (w : World) :
    Calls Tryd.prog 12 #[.int .i64 4, .int .u64 a, .int .u64 b] w fun e w' => e = .returned (.tuple #[.int .u64 (oneI (sltuB a b)), .bool true]) ∧ Below w.heap.size w w' := two4 a b ha hb w
theorem xor_call (a b : Int) (ha : IsU a) (hb : IsU b) (w : World) :
    Calls Tryd.prog 12 #[.int .i64 5, .int .u64 a, .int .u64 b] w fun e w' => e = .returned (.tuple #[.int .u64 (xorI a b), .bool true]) ∧ Below w.heap.size w w' := two5 a b ha hb w
theorem srl_call (a b : Int) (ha : IsU a) (hb : IsU b) (w : World) :
    Calls Tryd.prog 12 #[.int .i64 6, .int .u64 a, .int .u64 b] w fun e w' => e = .returned (.tuple #[.int .u64 (srlI a b), .bool true]) ∧ Below w.heap.size w w' := two6 a b ha hb w
theorem sra_call (a b : Int) (ha : IsU a) (hb : IsU b) (w : World) :
    Calls Tryd.prog 12 #[.int .i64 7, .int .u64 a, .int .u64 b] w fun e w' => e = .returned (.tuple #[.int .u64 (sraI a b), .bool true]) ∧ Below w.heap.size w w' := two7 a b ha hb w
theorem or_call (a b : Int) (ha : IsU a) (hb : IsU b) (w : World) :
    Calls Tryd.prog 12 #[.int .i64 8, .int .u64 a, .int .u64 b] w fun e w' => e = .returned (.tuple #[.int .u64 (orI a b), .bool true]) ∧ Below w.heap.size w w' := two8 a b ha hb w
theorem and_call (a b : Int) (ha : IsU a) (hb : IsU b) (w : World) :
    Calls Tryd.prog 12 #[.int .i64 9, .int .u64 a, .int .u64 b] w fun e w' => e = .returned (.tuple #[.int .u64 (andI a b), .bool true]) ∧ Below w.heap.size w w' := two9 a b ha hb w
theorem mul_call (a b : Int) (ha : IsU a) (hb : IsU b) (w : World) :
    Calls Tryd.prog 12 #[.int .i64 10, .int .u64 a, .int .u64 b] w fun e w' => e = .returned (.tuple #[.int .u64 (mulI a b), .bool true]) ∧ Below w.heap.size w w' := two10 a b ha hb w
theorem mulhu_call (a b : Int) (ha : IsU a) (hb : IsU b) (w : World) :
    Calls Tryd.prog 12 #[.int .i64 11, .int .u64 a, .int .u64 b] w fun e w' => e = .returned (.tuple #[.int .u64 (mulhuI a b), .bool true]) ∧ Below w.heap.size w w' := two11 a b ha hb w
theorem div_call (a b : Int) (ha : IsU a) (hb : IsU b) (w : World) :
    Calls Tryd.prog 12 #[.int .i64 12, .int .u64 a, .int .u64 b] w fun e w' => e = .returned (.tuple #[.int .u64 (divI a b), .bool true]) ∧ Below w.heap.size w w' := two12 a b ha hb w
theorem divu_call (a b : Int) (ha : IsU a) (hb : IsU b) (w : World) :
    Calls Tryd.prog 12 #[.int .i64 13, .int .u64 a, .int .u64 b] w fun e w' => e = .returned (.tuple #[.int .u64 (divuI a b), .bool true]) ∧ Below w.heap.size w w' := two13 a b ha hb w
theorem rem_call (a b : Int) (ha : IsU a) (hb : IsU b) (w : World) :
    Calls Tryd.prog 12 #[.int .i64 14, .int .u64 a, .int .u64 b] w fun e w' => e = .returned (.tuple #[.int .u64 (remI a b), .bool true]) ∧ Below w.heap.size w w' := two14 a b ha hb w
theorem remu_call (a b : Int) (ha : IsU a) (hb : IsU b) (w : World) :
    Calls Tryd.prog 12 #[.int .i64 15, .int .u64 a, .int .u64 b] w fun e w' => e = .returned (.tuple #[.int .u64 (remuI a b), .bool true]) ∧ Below w.heap.size w w' := two15 a b ha hb w
theorem addi_call (a i : Int) (ha : IsU a) (w : World) (hT : TabA w) :
    Calls Tryd.prog 14 #[.int .i64 16, .int .u64 a, .int .i64 i] w fun e w' => e = .returned (.tuple #[.int .u64 (addI a (modU i)), .bool true]) ∧ Below w.heap.size w w' := one_at 0 (by omega) a i ha w hT
theorem slti_call (a i : Int) (ha : IsU a) (w : World) (hT : TabA w) :
    Calls Tryd.prog 14 #[.int .i64 17, .int .u64 a, .int .i64 i] w fun e w' => e = .returned (.tuple #[.int .u64 (oneI (sltB a (modU i))), .bool true]) ∧ Below w.heap.size w w' := one_at 1 (by omega) a i ha w hT
theorem sltiu_call (a i : Int) (ha : IsU a) (w : World) (hT : TabA w) :
    Calls Tryd.prog 14 #[.int .i64 18, .int .u64 a, .int .i64 i] w fun e w' => e = .returned (.tuple #[.int .u64 (oneI (sltuB a (modU i))), .bool true]) ∧ Below w.heap.size w w' := one_at 2 (by omega) a i ha w hT
theorem xori_call (a i : Int) (ha : IsU a) (w : World) (hT : TabA w) :
    Calls Tryd.prog 14 #[.int .i64 19, .int .u64 a, .int .i64 i] w fun e w' => e = .returned (.tuple #[.int .u64 (xorI a (modU i)), .bool true]) ∧ Below w.heap.size w w' := one_at 3 (by omega) a i ha w hT
theorem ori_call (a i : Int) (ha : IsU a) (w : World) (hT : TabA w) :
    Calls Tryd.prog 14 #[.int .i64 20, .int .u64 a, .int .i64 i] w fun e w' => e = .returned (.tuple #[.int .u64 (orI a (modU i)), .bool true]) ∧ Below w.heap.size w w' := one_at 4 (by omega) a i ha w hT
theorem andi_call (a i : Int) (ha : IsU a) (w : World) (hT : TabA w) :
    Calls Tryd.prog 14 #[.int .i64 21, .int .u64 a, .int .i64 i] w fun e w' => e = .returned (.tuple #[.int .u64 (andI a (modU i)), .bool true]) ∧ Below w.heap.size w w' := one_at 5 (by omega) a i ha w hT
theorem slli_call (a i : Int) (ha : IsU a) (w : World) (hT : TabA w) :
    Calls Tryd.prog 14 #[.int .i64 22, .int .u64 a, .int .i64 i] w fun e w' => e = .returned (.tuple #[.int .u64 (sllI a (modU i)), .bool true]) ∧ Below w.heap.size w w' := one_at 6 (by omega) a i ha w hT
theorem srli_call (a i : Int) (ha : IsU a) (w : World) (hT : TabA w) :
    Calls Tryd.prog 14 #[.int .i64 23, .int .u64 a, .int .i64 i] w fun e w' => e = .returned (.tuple #[.int .u64 (srlI a (modU i)), .bool true]) ∧ Below w.heap.size w w' := one_at 7 (by omega) a i ha w hT
theorem srai_call (a i : Int) (ha : IsU a) (w : World) (hT : TabA w) :
    Calls Tryd.prog 14 #[.int .i64 24, .int .u64 a, .int .i64 i] w fun e w' => e = .returned (.tuple #[.int .u64 (sraI a (modU i)), .bool true]) ∧ Below w.heap.size w w' := one_at 8 (by omega) a i ha w hT
theorem beq_call (a b : Int) (w : World) :
    Calls Tryd.prog 16 #[.int .i64 32, .int .u64 a, .int .u64 b] w fun e w' => e = .returned (.tuple #[.bool (a == b), .bool true]) ∧ Below w.heap.size w w' := tak0 a b w
theorem bne_call (a b : Int) (w : World) :
    Calls Tryd.prog 16 #[.int .i64 33, .int .u64 a, .int .u64 b] w fun e w' => e = .returned (.tuple #[.bool (!(a == b)), .bool true]) ∧ Below w.heap.size w w' := tak1 a b w
theorem blt_call (a b : Int) (w : World) :
    Calls Tryd.prog 16 #[.int .i64 34, .int .u64 a, .int .u64 b] w fun e w' => e = .returned (.tuple #[.bool (sltB a b), .bool true]) ∧ Below w.heap.size w w' := tak2 a b w
theorem bge_call (a b : Int) (w : World) :
    Calls Tryd.prog 16 #[.int .i64 35, .int .u64 a, .int .u64 b] w fun e w' => e = .returned (.tuple #[.bool (!sltB a b), .bool true]) ∧ Below w.heap.size w w' := tak3 a b w
theorem bltu_call (a b : Int) (w : World) :
    Calls Tryd.prog 16 #[.int .i64 36, .int .u64 a, .int .u64 b] w fun e w' => e = .returned (.tuple #[.bool (sltuB a b), .bool true]) ∧ Below w.heap.size w w' := tak4 a b w
theorem bgeu_call (a b : Int) (w : World) :
    Calls Tryd.prog 16 #[.int .i64 37, .int .u64 a, .int .u64 b] w fun e w' => e = .returned (.tuple #[.bool (!sltuB a b), .bool true]) ∧ Below w.heap.size w w' := tak5 a b w
/-- the calls with the answer at hand under another name -/
theorem two_as {op a b v v' : Int} {c : Bool} {w : World} (h : Calls Tryd.prog 12 #[.int .i64 op, .int .u64 a, .int .u64 b] w fun e w' => e = .returned (.tuple #[.int .u64 v, .bool c]) ∧ Below w.heap.size w w') (e : v = v') :
    Calls Tryd.prog 12 #[.int .i64 op, .int .u64 a, .int .u64 b] w fun e w' => e = .returned (.tuple #[.int .u64 v', .bool c]) ∧ Below w.heap.size w w' := by rw [← e]; exact h
theorem one_as {op a i v v' : Int} {c : Bool} {w : World} (h : Calls Tryd.prog 14 #[.int .i64 op, .int .u64 a, .int .i64 i] w fun e w' => e = .returned (.tuple #[.int .u64 v, .bool c]) ∧ Below w.heap.size w w') (e : v = v') :
    Calls Tryd.prog 14 #[.int .i64 op, .int .u64 a, .int .i64 i] w fun e w' => e = .returned (.tuple #[.int .u64 v', .bool c]) ∧ Below w.heap.size w w' := by rw [← e]; exact h
theorem tak_as {op a b : Int} {v v' c : Bool} {w : World} (h : Calls Tryd.prog 16 #[.int .i64 op, .int .u64 a, .int .u64 b] w fun e w' => e = .returned (.tuple #[.bool v, .bool c]) ∧ Below w.heap.size w w') (e : v = v') :
    Calls Tryd.prog 16 #[.int .i64 op, .int .u64 a, .int .u64 b] w fun e w' => e = .returned (.tuple #[.bool v', .bool c]) ∧ Below w.heap.size w w' := by rw [← e]; exact h
theorem isU_div {a b : Int} : IsU (divI a b) := isU_modU _
theorem isU_rem {a b : Int} : IsU (remI a b) := isU_modU _
theorem isU_divu {a b : Int} (ha : IsU a) (hb : IsU b) : IsU (divuI a b) := by
  obtain ⟨a0, a1⟩ := ha
  obtain ⟨b0, b1⟩ := hb
  unfold divuI; split
  · exact ⟨by decide, by decide⟩
  · exact ⟨Int.ediv_nonneg a0 b0, Int.lt_of_le_of_lt (Int.ediv_le_self _ a0) a1⟩
theorem isU_remu {a b : Int} (ha : IsU a) (hb : IsU b) : IsU (remuI a b) := by
  obtain ⟨a0, a1⟩ := ha
  obtain ⟨b0, b1⟩ := hb
  unfold remuI; split
  · exact ⟨a0, a1⟩
  · next h => exact ⟨Int.emod_nonneg _ h, Int.lt_trans (Int.emod_lt_of_pos _ (by omega)) b1⟩
theorem isU_srl {a b : Int} (ha : IsU a) : IsU (srlI a b) := by
  obtain ⟨a0, a1⟩ := ha
  exact ⟨Int.ediv_nonneg a0 (Int.le_of_lt (Int.pow_pos (by decide))), Int.lt_of_le_of_lt (Int.ediv_le_self _ a0) a1⟩
theorem isU_mulhu {a b : Int} (ha : IsU a) (hb : IsU b) : IsU (mulhuI a b) := by
  obtain ⟨a0, a1⟩ := ha
  obtain ⟨b0, b1⟩ := hb
  obtain ⟨x, rfl⟩ := Int.eq_ofNat_of_zero_le a0
  obtain ⟨y, rfl⟩ := Int.eq_ofNat_of_zero_le b0
  have h1 : x * y ≤ x * 18446744073709551616 := Nat.mul_le_mul_left _ (by omega)
  unfold mulhuI IsU
  rw [← Int.natCast_mul]
  omega
theorem below_of {w0 w : World} (h : TabA w ∧ Below w0.heap.size w0 w) : Below w0.heap.size w0 w := h.2
end Go.Proofs.YtndaphdfhlefoaaDoor
