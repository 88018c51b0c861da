/- bits.Bytes and the reference's Bytes: both give a new slice that reads as the word's lowest n bytes (0 to 8), else nil. -/
import Derived.Test.YthmjelkckamkdaaDoorSame
namespace Go.Proofs.YthmjelkckamkdaaDoor
open Go.RowKit
set_option linter.unusedVariables false

/-- byte i of a word -/
def byteI (v : Int) (i : Nat) : Int := ((v.toNat / 2 ^ (8 * i) % 256 : Nat) : Int)
theorem byteI_bd (v : Int) (i : Nat) : 0 ≤ byteI v i ∧ byteI v i < 256 := by unfold byteI; omega
def bytesL (v : Int) (n : Nat) : List Int := (List.range n).map (byteI v)
theorem bytesL_length (v : Int) (n : Nat) : (bytesL v n).length = n := by simp [bytesL]
theorem bytesL_nth (v : Int) {n k : Nat} (h : k < n) : nth (bytesL v n) k = byteI v k := by
  simp [bytesL, nth, h]
/-- the row behind k rounds -/
def rowTo (v : Int) (n k : Nat) : List Value := (List.range n).map fun i => Value.int .u8 (if i < k then byteI v i else 0)
theorem rowTo_zero (v : Int) (n : Nat) : rowTo v n 0 = (madeCells (Value.int .u8 0).cells (n * 1)).toList := by
  unfold rowTo madeCells
  simp [Value.cells, Nat.mod_one]
theorem rowTo_set (v : Int) (n k : Nat) (h : k < n) : (rowTo v n k).set k (.int .u8 (byteI v k)) = rowTo v n (k + 1) := by
  refine List.ext_getElem (by simp [rowTo]) fun i h1 h2 => ?_
  simp only [List.getElem_set, rowTo, List.getElem_map, List.getElem_range]
  by_cases e : k = i
  · subst e; simp
  · rw [if_neg e]
    by_cases h3 : i < k
    · rw [if_pos h3, if_pos (by omega)]
    · rw [if_neg h3, if_neg (by omega)]
theorem rowTo_get (v : Int) (n k : Nat) (h : k < n) : (rowTo v n n)[k]? = some (.int .u8 (byteI v k)) := by
  simp [rowTo, h]
theorem sl_of_row {w : World} {base g : Nat} {e : TypeId} {v : Int} {n c : Nat} (h : w.ownsRow base e 1 (.slice (some ⟨g, 0, none⟩) n c) n (rowTo v n n)) : Sl w (some ⟨g, 0, none⟩) (bytesL v n) := by
  refine .inr ⟨g, 0, rfl, fun k hk => ?_⟩
  rw [bytesL_length] at hk
  rw [Nat.zero_add, h.cellAt k (by omega), rowTo_get v n k hk, bytesL_nth v hk]
theorem info5 : (Tryd.prog.info? 5).map (fun i => (i.zero, i.size, i.bytes)) = some (some (.int .u8 0), 1, 1) := by kernel_rfl

theorem byte_conv {v : Int} (hv : IsU v) {k : Nat} : v / 2 ^ (8 * k) % 256 = byteI v k := by
  obtain ⟨h0, h1⟩ := hv
  obtain ⟨v, rfl⟩ := Int.eq_ofNat_of_zero_le h0
  have e : ((v : Nat) : Int) / 2 ^ (8 * k) = ((v / 2 ^ (8 * k) : Nat) : Int) := by simp
  show (((v : Nat) : Int) / 2 ^ (8 * k)) % 256 = _
  rw [e, byteI, Int.toNat_natCast]
  omega
theorem val_u64' {a b : Int} (h : a = b) : Value.int .u64 a = Value.int .u64 b := by rw [h]
theorem new_cell (w : World) (u : Value) (t : TypeId) : ∀ j x, [u][j]? = some x → (w.alloc (.cells #[u] t)).cell? ((⟨w.heap.size, 0, none⟩ : Addr).add j) = some x := by
  intro j x hj
  match j, hj with
  | 0, hj =>
    simp at hj
    subst hj
    simp [Addr.add, go_sem]

/-! ### the reference's: appended one by one -/
/-- the word behind k rounds -/
def restI (v : Int) (k : Nat) : Int := ((v.toNat / 256 ^ k : Nat) : Int)
theorem rest_zero {v : Int} (hv : IsU v) : v = restI v 0 := by
  have := hv.1
  unfold restI; simp; omega
theorem isU_rest {v : Int} (hv : IsU v) (k : Nat) : IsU (restI v k) := by
  obtain ⟨h0, h1⟩ := hv
  unfold restI IsU
  have := Nat.div_le_self v.toNat (256 ^ k)
  generalize v.toNat / 256 ^ k = q at *
  omega
theorem rest_step (v : Int) (k : Nat) : restI v k / 256 = restI v (k + 1) := by
  unfold restI
  rw [Nat.pow_succ, ← Nat.div_div_eq_div_mul]
  omega
theorem rest_byte (v : Int) (k : Nat) : restI v k % 256 = byteI v k := by
  unfold restI byteI
  rw [Nat.pow_mul, show (2 : Nat) ^ 8 = 256 from rfl]
  omega
theorem rest_div {v : Int} (hv : IsU v) (k : Nat) : IntKind.u64.wrap ((restI v k).tdiv 256) = restI v (k + 1) := by
  obtain ⟨h0, h1⟩ := isU_rest hv k
  rw [Int.tdiv_eq_ediv_of_nonneg h0, rest_step, IntKind.wrap_u64]
  obtain ⟨h2, h3⟩ := isU_rest hv (k + 1)
  omega
def headL (v : Int) (k : Nat) : List Value := (bytesL v k).map (Value.int .u8)
theorem head_step (v : Int) (k : Nat) : headL v k ++ [Value.int .u8 (byteI v k)] = headL v (k + 1) := by
  simp [headL, bytesL, List.range_succ]
theorem sl_of_head {w : World} {base : Nat} {e : TypeId} {u : Value} {v : Int} {n : Nat} (h : w.ownsRow base e 1 u n (headL v n)) : ∃ A c, u = .slice A n c ∧ Sl w A (bytesL v n) := by
  have h0 := h.2
  rcases h0 with ⟨rfl, rfl⟩ | ⟨g, cap, cur, rfl, _⟩
  · exact ⟨none, 0, rfl, .inl rfl⟩
  · refine ⟨_, cap, rfl, .inr ⟨g, 0, rfl, fun k hk => ?_⟩⟩
    have hk' : k < n := by simpa [bytesL_length] using hk
    rw [Nat.zero_add, h.cellAt k (by omega), bytesL_nth v hk']
    simp [headL, bytesL, hk']
end Go.Proofs.YthmjelkckamkdaaDoor
