/- bits.Bytes and the reference's Bytes: both give a new slice that reads as the word's lowest n bytes (0 to 8), else nil. -/
import Derived.Test.YtpfohbinjcdcbaaSame
namespace Go.Proofs.Ytpfohbinjcdcbaa
open Go.RowKit
set_option linter.unusedVariables false

/-- byte i of a word -/
def byteI (v : Int) (i : Nat) : Int := ((v.toNat / 2 ^ (8 * i) % 256 : Nat) : Int)
theorem byteI_bd (v : Int) (i : Nat) : 0 ≤ byteI v i ∧ byteI v i < 256 := by unfold byteI; omega
def bytesL (v : Int) (n : Nat) : List Int := (List.range n).map (byteI v)
theorem bytesL_length (v : Int) (n : Nat) : (bytesL v n).length = n := by simp [bytesL]
theorem bytesL_nth (v : Int) {n k : Nat} (h : k < n) : nth (bytesL v n) k = byteI v k := by
  simp [bytesL, nth, h]
/-- the row behind k rounds -/
def rowTo (v : Int) (n k : Nat) : List Value := (List.range n).map fun i => Value.int .u8 (if i < k then byteI v i else 0)
theorem rowTo_zero (v : Int) (n : Nat) : rowTo v n 0 = (madeCells (Value.int .u8 0).cells (n * 1)).toList := by
  unfold rowTo madeCells
  simp [Value.cells, Nat.mod_one]
theorem rowTo_set (v : Int) (n k : Nat) (h : k < n) : (rowTo v n k).set k (.int .u8 (byteI v k)) = rowTo v n (k + 1) := by
  refine List.ext_getElem (by simp [rowTo]) fun i h1 h2 => ?_
  simp only [List.getElem_set, rowTo, List.getElem_map, List.getElem_range]
  by_cases e : k = i
  · subst e; simp
  · rw [if_neg e]
    by_cases h3 : i < k
    · rw [if_pos h3, if_pos (by omega)]
    · rw [if_neg h3, if_neg (by omega)]
theorem rowTo_get (v : Int) (n k : Nat) (h : k < n) : (rowTo v n n)[k]? = some (.int .u8 (byteI v k)) := by
  simp [rowTo, h]
theorem sl_of_row {w : World} {base g : Nat} {e : TypeId} {v : Int} {n c : Nat} (h : w.ownsRow base e 1 (.slice (some ⟨g, 0, none⟩) n c) n (rowTo v n n)) : Sl w (some ⟨g, 0, none⟩) (bytesL v n) := by
  refine .inr ⟨g, 0, rfl, fun k hk => ?_⟩
  rw [bytesL_length] at hk
  rw [Nat.zero_add, h.cellAt k (by omega), rowTo_get v n k hk, bytesL_nth v hk]
theorem info5 : (Try.prog.info? 5).map (fun i => (i.zero, i.size, i.bytes)) = some (some (.int .u8 0), 1, 1) := by kernel_rfl

theorem byte_conv {v : Int} (hv : IsU v) {k : Nat} : v / 2 ^ (8 * k) % 256 = byteI v k := by
  obtain ⟨h0, h1⟩ := hv
  obtain ⟨v, rfl⟩ := Int.eq_ofNat_of_zero_le h0
  have e : ((v : Nat) : Int) / 2 ^ (8 * k) = ((v / 2 ^ (8 * k) : Nat) : Int) := by simp
  show (((v : Nat) : Int) / 2 ^ (8 * k)) % 256 = _
  rw [e, byteI, Int.toNat_natCast]
  omega
theorem bytes_no (v n : Int) (h : n < 0 ∨ 8 < n) (w : World) :
    Calls Try.prog 27 #[.int .u64 v, .int .i64 n] w fun e w' => e = .returned (.slice none 0 0) ∧ w = w' := by
  rcases h with h | h
  · go_enter Try.func27, Try.ntmps27
    go_wp2
    go_ret
    exact ⟨rfl, rfl⟩
  · go_enter Try.func27, Try.ntmps27
    go_wp2
    go_ret
    exact ⟨rfl, rfl⟩
set_option maxHeartbeats 400000 in
theorem bytes_yes (v : Int) (n : Nat) (hv : IsU v) (h : n ≤ 8) (w : World) :
    Calls Try.prog 27 #[.int .u64 v, .int .i64 n] w fun e w' => e = .returned (.slice (some ⟨w.heap.size, 0, none⟩) n n) ∧ Sl w' (some ⟨w.heap.size, 0, none⟩) (bytesL v n) ∧ Below w.heap.size w w' := by
  obtain ⟨i0, hi, hz0, hz1, hz2⟩ := info_parts info5
  go_enter Try.func27, Try.ntmps27
  go_wp2_with (refine wpList_make_full _ rfl _ _ 24 rfl w.heap.size 5 i0 (.int .u8 0) 1 Try.underlying24 hi hz0 hz1 .i64 .i64 _ _ n rfl rfl rfl rfl (by rw [hz2]; omega) (by unfold maxLen; omega) (Nat.le_refl _) ?_; intro w1 hown hgrow)
  rw [← rowTo_zero v n] at hown
  have hbel := (Below.refl w.heap.size w).grown hgrow (Nat.le_refl _) (by simp)
  go_loopw [16] (fun i wr => ∃ k : Nat, k ≤ n ∧ i = .int .i64 k ∧ wr.ownsRow w.heap.size 5 1 (.slice (some ⟨w.heap.size, 0, none⟩) n n) n (rowTo v n k) ∧ Below w.heap.size w wr) (fun i _ => n - (intOf i).toNat)
  case atStart => exact ⟨0, by omega, rfl, hown, hbel⟩
  case round =>
    clear hown hbel hgrow
    obtain ⟨k, hk, rfl, hown, hbel⟩ := hrel
    by_cases hlt : k < n
    · have hc : wr.cell? ⟨w.heap.size, k, none⟩ = some (.int .u8 0) := by
        rw [hown.cellAt k (by omega)]; simp [rowTo, hlt]
      have hf := hown.frozenAt k
      have Hown := Lib.hid (hown.stored k (.int .u8 (byteI v k)))
      have Hbel := Lib.hid (hbel.setCell (p := ⟨w.heap.size, k, none⟩) (Nat.le_refl _) (.int .u8 (byteI v k)))
      have Hconv := Lib.hid (byte_conv hv (k := k))
      clear hown hbel
      go_wp2
      go_roundw
      case rel =>
        refine ⟨k + 1, by omega, by go_num, ?_⟩
        rw [Hconv.out, ← rowTo_set v n k hlt]
        exact ⟨Hown.out.1, Hbel.out⟩
      case measure => simp [intOf]; omega
    · obtain rfl : k = n := by omega
      have Hsl := Lib.hid (sl_of_row hown)
      clear hown
      go_wp2
      go_ret
      exact ⟨rfl, Hsl.out, hbel⟩

theorem val_u64' {a b : Int} (h : a = b) : Value.int .u64 a = Value.int .u64 b := by rw [h]
theorem new_cell (w : World) (u : Value) (t : TypeId) : ∀ j x, [u][j]? = some x → (w.alloc (.cells #[u] t)).cell? ((⟨w.heap.size, 0, none⟩ : Addr).add j) = some x := by
  intro j x hj
  match j, hj with
  | 0, hj =>
    simp at hj
    subst hj
    simp [Addr.add, go_sem]

/-! ### the reference's: appended one by one -/
/-- the word behind k rounds -/
def restI (v : Int) (k : Nat) : Int := ((v.toNat / 256 ^ k : Nat) : Int)
theorem rest_zero {v : Int} (hv : IsU v) : v = restI v 0 := by
  have := hv.1
  unfold restI; simp; omega
theorem isU_rest {v : Int} (hv : IsU v) (k : Nat) : IsU (restI v k) := by
  obtain ⟨h0, h1⟩ := hv
  unfold restI IsU
  have := Nat.div_le_self v.toNat (256 ^ k)
  generalize v.toNat / 256 ^ k = q at *
  omega
theorem rest_step (v : Int) (k : Nat) : restI v k / 256 = restI v (k + 1) := by
  unfold restI
  rw [Nat.pow_succ, ← Nat.div_div_eq_div_mul]
  omega
theorem rest_byte (v : Int) (k : Nat) : restI v k % 256 = byteI v k := by
  unfold restI byteI
  rw [Nat.pow_mul, show (2 : Nat) ^ 8 = 256 from rfl]
  omega
theorem rest_div {v : Int} (hv : IsU v) (k : Nat) : IntKind.u64.wrap ((restI v k).tdiv 256) = restI v (k + 1) := by
  obtain ⟨h0, h1⟩ := isU_rest hv k
  rw [Int.tdiv_eq_ediv_of_nonneg h0, rest_step, IntKind.wrap_u64]
  obtain ⟨h2, h3⟩ := isU_rest hv (k + 1)
  omega
def headL (v : Int) (k : Nat) : List Value := (bytesL v k).map (Value.int .u8)
theorem head_step (v : Int) (k : Nat) : headL v k ++ [Value.int .u8 (byteI v k)] = headL v (k + 1) := by
  simp [headL, bytesL, List.range_succ]
theorem sl_of_head {w : World} {base : Nat} {e : TypeId} {u : Value} {v : Int} {n : Nat} (h : w.ownsRow base e 1 u n (headL v n)) : ∃ A c, u = .slice A n c ∧ Sl w A (bytesL v n) := by
  have h0 := h.2
  rcases h0 with ⟨rfl, rfl⟩ | ⟨g, cap, cur, rfl, _⟩
  · exact ⟨none, 0, rfl, .inl rfl⟩
  · refine ⟨_, cap, rfl, .inr ⟨g, 0, rfl, fun k hk => ?_⟩⟩
    have hk' : k < n := by simpa [bytesL_length] using hk
    rw [Nat.zero_add, h.cellAt k (by omega), bytesL_nth v hk']
    simp [headL, bytesL, hk']
theorem rbytes_no (v n : Int) (h : n ≤ 0 ∨ 8 < n) (w : World) :
    Calls Try.prog 18 #[.int .u64 v, .int .i64 n] w fun e w' => e = .returned (.slice none 0 0) ∧ w = w' := by
  rcases h with h | h
  · go_enter Try.func18, Try.ntmps18
    go_wp2
    go_loop [5, 6] (fun s i => i = .int .i64 0 ∧ s = .slice none 0 0) (fun _ _ => 0)
    case atStart => exact ⟨rfl, rfl⟩
    case round =>
      obtain ⟨rfl, rfl⟩ := hrel
      go_wp2
      go_ret
      exact ⟨rfl, rfl⟩
  · have h' : 0 < n := by omega
    go_enter Try.func18, Try.ntmps18
    go_wp2
    go_loop [5, 6] (fun s i => i = .int .i64 0 ∧ s = .slice none 0 0) (fun _ _ => 0)
    case atStart => exact ⟨rfl, rfl⟩
    case round =>
      obtain ⟨rfl, rfl⟩ := hrel
      go_wp2
      go_ret
      exact ⟨rfl, rfl⟩
set_option maxHeartbeats 400000 in
theorem rbytes_fresh (v : Int) (n : Nat) (hv : IsU v) (h : n ≤ 8) (w : World) :
    Calls Try.prog 18 #[.int .u64 v, .int .i64 n] w fun e w' => ∃ A c, e = .returned (.slice A n c) ∧ Sl w' A (bytesL v n) ∧ Below w.heap.size w w' ∧ ∀ a, A = some a → w.heap.size ≤ a.block := by
  obtain ⟨i0, hi, hz0, hz1, hz2⟩ := info_parts info5
  have hv0 := Lib.hid (rest_zero hv)
  go_enter Try.func18, Try.ntmps18
  go_wp2
  go_loopw [0, 5, 6] (fun x s i wr => ∃ k : Nat, k ≤ n ∧ i = .int .i64 k ∧ x = .int .u64 (restI v k) ∧ wr.ownsRow w.heap.size 5 1 s k (headL v k) ∧ Below w.heap.size w wr) (fun _ _ i _ => n - (intOf i).toNat)
  case atStart => exact ⟨0, by omega, rfl, by rw [← hv0.out], ⟨rfl, .inl ⟨rfl, rfl⟩⟩, Below.refl _ _⟩
  case round =>
    obtain ⟨k, hk, rfl, rfl, hown, hbel⟩ := hrel
    by_cases hlt : k < n
    · have hb := rest_byte v k
      have hr := Lib.hid (rest_div hv k)
      have hu := isU_rest hv k
      have hu1 := hu.1
      have hh := Lib.hid (head_step v k)
      have hwb := hbel.size
      go_wp2_with (at_builtin; refine wpList_append_own _ rfl _ _ 24 rfl w.heap.size 5 i0 (.int .u8 0) 1 1 Try.underlying24 hi hz0 hz1 hz2 rfl (by decide) _ k (headL v k) rfl (hown.alloc _) ⟨wr.heap.size, 0, none⟩ 1 1 [.int .u8 (byteI v k)] rfl rfl ?c1 ?c2 ?c3 ?c4 ?c5 ?_)
      case c1 => exact new_cell _ _ _
      case c2 => simp [Value.oneCell']
      case c3 => unfold maxLen; omega
      case c4 => omega
      case c5 => simp; omega
      intro v' w1 hown1 hgrow _
      rw [hh.out] at hown1
      have hlt5 := hown.lt
      have hbel1 := Lib.hid ((hbel.alloc hwb _).grown hgrow (by simp; omega) (fun g hg => (hlt5 g hg).1))
      have Hown1 := Lib.hid hown1
      clear hown1 hgrow hown hbel hlt5
      go_wp2
      go_roundw
      case rel => exact ⟨k + 1, by omega, by go_num, val_u64' hr.out, Hown1.out, hbel1.out⟩
      case measure => simp [intOf]; omega
    · obtain rfl : k = n := by omega
      have hlt5 := hown.lt
      obtain ⟨A, c, rfl, hsl⟩ := sl_of_head hown
      have Hsl := Lib.hid hsl
      have Hf := Lib.hid (show ∀ a, A = some a → w.heap.size ≤ a.block from fun a ha => (hlt5 a.block (by rw [ha]; rfl)).1)
      clear hown hsl hlt5
      go_wp2
      go_ret
      exact ⟨_, _, rfl, Hsl.out, hbel, Hf.out⟩
theorem rbytes_yes (v : Int) (n : Nat) (hv : IsU v) (h : n ≤ 8) (w : World) :
    Calls Try.prog 18 #[.int .u64 v, .int .i64 n] w fun e w' => ∃ A c, e = .returned (.slice A n c) ∧ Sl w' A (bytesL v n) ∧ Below w.heap.size w w' :=
  (rbytes_fresh v n hv h w).mono fun e w' ⟨A, c, h1, h2, h3, _⟩ => ⟨A, c, h1, h2, h3⟩
end Go.Proofs.Ytpfohbinjcdcbaa
