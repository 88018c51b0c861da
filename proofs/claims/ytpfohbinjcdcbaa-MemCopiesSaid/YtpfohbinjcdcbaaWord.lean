/- bits.Word and the reference's Word: the number that up to 8 bytes are, the least first; of more bytes none. -/
import Derived.Test.YtpfohbinjcdcbaaBytes
namespace Go.Proofs.Ytpfohbinjcdcbaa
open Go.RowKit
set_option linter.unusedVariables false

def AllB (l : List Int) : Prop := ∀ x ∈ l, 0 ≤ x ∧ x < 256
theorem AllB.nth {l : List Int} (h : AllB l) {k : Nat} (hk : k < l.length) : 0 ≤ nth l k ∧ nth l k < 256 := by
  have : Proofs.Ytpfohbinjcdcbaa.nth l k = l[k] := by simp [Proofs.Ytpfohbinjcdcbaa.nth, hk]
  rw [this]
  exact h _ (List.getElem_mem hk)
theorem bytesL_all (v : Int) (n : Nat) : AllB (bytesL v n) := by
  intro x hx
  simp only [bytesL, List.mem_map] at hx
  obtain ⟨i, _, rfl⟩ := hx
  exact byteI_bd v i
/-- the number that bytes are -/
def wordI : List Int → Int
  | [] => 0
  | x :: l => x + 256 * wordI l
theorem wordI_snoc (l : List Int) (x : Int) : wordI (l ++ [x]) = wordI l + x * 256 ^ l.length := by
  induction l with
  | nil => simp [wordI]
  | cons y l ih =>
    simp only [List.cons_append, wordI, List.length_cons, ih, Int.pow_succ]
    rw [Int.mul_add, Int.add_assoc]
    congr 2
    rw [Int.mul_comm 256, Int.mul_assoc, Int.mul_comm (256 ^ l.length)]
theorem wordI_bd {l : List Int} (h : AllB l) : 0 ≤ wordI l ∧ wordI l < 256 ^ l.length := by
  induction l with
  | nil => simp [wordI]
  | cons y l ih =>
    have h1 := h y (by simp)
    have h2 := ih (fun x hx => h x (by simp [hx]))
    simp only [wordI, List.length_cons, Int.pow_succ]
    omega
theorem AllB.take {l : List Int} (h : AllB l) (k : Nat) : AllB (l.take k) := fun x hx => h x (List.mem_of_mem_take hx)
theorem AllB.drop {l : List Int} (h : AllB l) (k : Nat) : AllB (l.drop k) := fun x hx => h x (List.mem_of_mem_drop hx)
theorem nth_get {l : List Int} {k : Nat} (hk : k < l.length) : nth l k = l[k] := by simp [nth, hk]
theorem take_word {l : List Int} {k : Nat} (hk : k < l.length) : wordI (l.take (k + 1)) = wordI (l.take k) + nth l k * 256 ^ k := by
  rw [List.take_succ_eq_append_getElem hk, wordI_snoc, nth_get hk]
  simp [Nat.min_eq_left (Nat.le_of_lt hk)]
theorem drop_word {l : List Int} {k : Nat} (hk : k < l.length) : wordI (l.drop k) = nth l k + 256 * wordI (l.drop (k + 1)) := by
  rw [List.drop_eq_getElem_cons hk, nth_get hk]; rfl
theorem pow256_le {k : Nat} (h : k ≤ 8) : (256 : Int) ^ k ≤ 18446744073709551616 := by
  have h1 := Nat.pow_le_pow_right (n := 256) (by decide) h
  have e : (256 : Int) ^ k = ((256 ^ k : Nat) : Int) := by simp
  rw [e]
  omega
theorem isU_word {l : List Int} (h : AllB l) (hl : l.length ≤ 8) : IsU (wordI l) := by
  have h1 := wordI_bd h
  have h2 := pow256_le hl
  exact ⟨h1.1, by omega⟩
theorem or_step {l : List Int} (h : AllB l) (hl : l.length ≤ 8) {k : Nat} (hk : k < l.length) :
    bits .or .u64 (wordI (l.take k)) (IntKind.u64.wrap (nth l k * 2 ^ (8 * k))) = wordI (l.take (k + 1)) := by
  obtain ⟨b0, b1⟩ := h.nth hk
  obtain ⟨a0, a1⟩ := wordI_bd (h.take k)
  have hlen : (l.take k).length = k := by simp; omega
  rw [hlen] at a1
  rw [take_word hk]
  generalize wordI (l.take k) = a at *
  generalize nth l k = b at *
  obtain ⟨a, rfl⟩ := Int.eq_ofNat_of_zero_le a0
  obtain ⟨b, rfl⟩ := Int.eq_ofNat_of_zero_le b0
  have e : (256 : Int) ^ k = ((2 ^ (8 * k) : Nat) : Int) := by rw [Nat.pow_mul]; simp
  have e2 : ((b : Nat) : Int) * 2 ^ (8 * k) = ((b * 2 ^ (8 * k) : Nat) : Int) := by simp
  rw [e] at a1 ⊢
  have hp := Nat.pow_le_pow_right (n := 2) (by decide) (show 8 * k + 8 ≤ 64 by omega)
  have hp8 : 2 ^ (8 * k + 8) = 2 ^ (8 * k) * 256 := by rw [Nat.pow_add]
  have hlt : b * 2 ^ (8 * k) + 2 ^ (8 * k) ≤ 2 ^ (8 * k) * 256 := by
    have : (b + 1) * 2 ^ (8 * k) ≤ 256 * 2 ^ (8 * k) := Nat.mul_le_mul_right _ (by omega)
    rw [Nat.add_mul, Nat.one_mul] at this
    omega
  have hj := nat_join (8 * k) (b * 2 ^ (8 * k)) a (Nat.mul_mod_left _ _) (by omega)
  have hpos := Nat.two_pow_pos (8 * k)
  rw [e2, IntKind.wrap_u64, nat_emod, Nat.mod_eq_of_lt (by omega), u64_or_nat _ _ (by omega) (by omega), Nat.or_comm, hj]
  rw [← Int.natCast_mul]
  omega
theorem word_no (A : Option Addr) (n c : Nat) (h : 8 < n) (w : World) :
    Calls Try.prog 33 #[.slice A n c] w fun e w' => e = .returned (.tuple #[.int .u64 0, .bool false]) ∧ w = w' := by
  go_enter Try.func33, Try.ntmps33
  go_wp2
  go_ret2
  exact ⟨rfl, rfl⟩
theorem Sl.at_ {w : World} {A : Option Addr} {l : List Int} (h : Sl w A l) (h0 : 0 < l.length) : ∃ b off, A = some ⟨b, off, none⟩ ∧ ∀ k, k < l.length → w.cell? ⟨b, off + k, none⟩ = some (.int .u8 (nth l k)) := by
  rcases h with h | h
  · subst h; simp at h0
  · exact h
theorem word_yes (A : Option Addr) (l : List Int) (n c : Nat) (w : World) (hs : Sl w A l) (hn : l.length = n) (ha : AllB l) (h : n ≤ 8) :
    Calls Try.prog 33 #[.slice A n c] w fun e w' => e = .returned (.tuple #[.int .u64 (wordI l), .bool true]) ∧ w = w' := by
  by_cases h0 : n = 0
  · subst h0
    have e1 : l = [] := List.length_eq_zero_iff.1 hn
    clear hs hn ha
    subst e1
    go_enter Try.func33, Try.ntmps33
    go_wp2
    go_loop [4, 11] (fun v i => v = .int .u64 0 ∧ i = .int .i64 0) (fun _ _ => 0)
    case atStart => exact ⟨rfl, rfl⟩
    case round =>
      obtain ⟨rfl, rfl⟩ := hrel
      go_wp2
      go_ret2
      exact ⟨rfl, rfl⟩
  · obtain ⟨b, off, rfl, hc⟩ := hs.at_ (by omega)
    have Hn := Lib.hid hn
    have Hc := Lib.hid hc
    have Ha := Lib.hid ha
    clear hn hc ha
    go_enter Try.func33, Try.ntmps33
    go_wp2
    go_loop [4, 11] (fun v i => ∃ k : Nat, k ≤ n ∧ i = .int .i64 k ∧ v = .int .u64 (wordI (l.take k))) (fun _ i => n - (intOf i).toNat)
    case atStart => exact ⟨0, by omega, rfl, rfl⟩
    case round =>
      obtain ⟨k, hk, rfl, rfl⟩ := hrel
      by_cases hlt : k < n
      · have hcell := Hc.out k (by rw [Hn.out]; exact hlt)
        obtain ⟨b0, b1⟩ := Ha.out.nth (k := k) (by rw [Hn.out]; exact hlt)
        have hst := Lib.hid (or_step Ha.out (by rw [Hn.out]; exact h) (k := k) (by rw [Hn.out]; exact hlt))
        go_wp2
        go_round
        case rel => exact ⟨k + 1, by omega, by go_num, val_u64' hst.out⟩
        case measure => simp [intOf]; omega
      · obtain rfl : k = n := by omega
        go_wp2
        go_ret2
        exact ⟨ret_u64_tup (by rw [List.take_of_length_le (by rw [Hn.out]; exact Nat.le_refl _)]), rfl⟩
end Go.Proofs.Ytpfohbinjcdcbaa
