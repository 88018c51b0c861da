/- What a law's walk is told of its arguments: integers fit their kinds; a slice of integers that came in. -/
import Derived.Test.YtpfohbinjcdcbaaWord
import Derived.OpenShut
namespace Go.Proofs.Ytpfohbinjcdcbaa
open Go.RowKit
set_option linter.unusedVariables false
theorem isU_of_wf {a : Int} (h : (Lit.int .u64 a).wf = true) : IsU a := by
  have := bounds_u64 h
  exact ⟨by omega, by omega⟩
theorem isI_of_wf {a : Int} (h : (Lit.int .i64 a).wf = true) : IsI a := by
  have := bounds_i64 h
  exact ⟨by omega, by omega⟩
/-- a slice of integers that came in: nil, or a row of cap cells that read as zs; the first len are its elements -/
def IsRow (k : IntKind) (w : World) (a : Option Addr) (len cap : Nat) (zs : List Int) : Prop :=
  (a = none ∧ len = 0 ∧ cap = 0 ∧ zs = []) ∨
  ∃ x, a = some x ∧ len ≤ cap ∧ cap ≤ maxLen ∧ zs.length = cap ∧ (∀ i, i < zs.length → w.cell? (x.add i) = some (.int k (zs.getD i 0))) ∧ ∀ n ∈ zs, (Lit.int k n).wf = true
theorem IsRow.sl {w : World} {a : Option Addr} {len cap : Nat} {zs : List Int} (h : IsRow .u8 w a len cap zs) : Sl w a (zs.take len) ∧ (zs.take len).length = len ∧ AllB (zs.take len) ∧ len ≤ maxLen := by
  rcases h with ⟨rfl, rfl, rfl, rfl⟩ | ⟨x, rfl, hl, hm, hz, hc, hw⟩
  · exact ⟨.inl rfl, rfl, fun x hx => by simp at hx, by unfold maxLen; omega⟩
  · refine ⟨?_, by simp; omega, ?_, by omega⟩
    · by_cases h0 : len = 0
      · subst h0; exact .inl rfl
      · obtain ⟨b, off, spot⟩ := x
        have h00 := hc 0 (by omega)
        have hs : spot = none := by simpa [Addr.add] using World.cell?_spot h00
        subst hs
        refine .inr ⟨b, off, rfl, fun k hk => ?_⟩
        have hk' : k < len ∧ k < zs.length := by simp at hk; omega
        have := hc k hk'.2
        have e : nth (zs.take len) k = zs.getD k 0 := by simp [nth, hk'.1]
        rw [e, ← this]
        unfold Addr.add
        by_cases e0 : k = 0
        · subst e0; simp
        · simp [e0]
    · intro x hx
      have := bounds_u8 (hw x (List.mem_of_mem_take hx))
      omega

/-! ### Bytes at whatever count -/
def cnt (a : Int) : Nat := if 0 ≤ a ∧ a ≤ 8 then a.toNat else 0
theorem cnt_le (a : Int) : cnt a ≤ 8 := by unfold cnt; split <;> omega
theorem bytes_any (v a : Int) (hv : IsU v) (w : World) :
    Calls Try.prog 27 #[.int .u64 v, .int .i64 a] w fun e w' => ∃ A c, e = .returned (.slice A (cnt a) c) ∧ Sl w' A (bytesL v (cnt a)) ∧ Below w.heap.size w w' := by
  by_cases h : 0 ≤ a ∧ a ≤ 8
  · obtain ⟨h0, h1⟩ := h
    obtain ⟨n, rfl⟩ := Int.eq_ofNat_of_zero_le h0
    have e : cnt (n : Int) = n := by unfold cnt; rw [if_pos ⟨h0, h1⟩]; omega
    rw [e]
    exact (bytes_yes v n hv (by omega) w).mono fun e w' h => ⟨_, _, h⟩
  · have e : cnt a = 0 := by unfold cnt; rw [if_neg h]
    rw [e]
    exact (bytes_no v a (by omega) w).mono fun e w' ⟨h1, h2⟩ => ⟨none, 0, h1, .inl rfl, by rw [h2]; exact Below.refl _ _⟩
theorem rbytes_any (v a : Int) (hv : IsU v) (w : World) :
    Calls Try.prog 18 #[.int .u64 v, .int .i64 a] w fun e w' => ∃ A c, e = .returned (.slice A (cnt a) c) ∧ Sl w' A (bytesL v (cnt a)) ∧ Below w.heap.size w w' := by
  by_cases h : 0 ≤ a ∧ a ≤ 8
  · obtain ⟨h0, h1⟩ := h
    obtain ⟨n, rfl⟩ := Int.eq_ofNat_of_zero_le h0
    have e : cnt (n : Int) = n := by unfold cnt; rw [if_pos ⟨h0, h1⟩]; omega
    rw [e]
    exact rbytes_yes v n hv (by omega) w
  · have e : cnt a = 0 := by unfold cnt; rw [if_neg h]
    rw [e]
    exact (rbytes_no v a (by omega) w).mono fun e w' ⟨h1, h2⟩ => ⟨none, 0, h1, .inl rfl, by rw [h2]; exact Below.refl _ _⟩

/-! ### bytes and numbers, there and back -/
theorem restI_word (v : Int) (hv : IsU v) (n : Nat) : wordI (bytesL v n) + 256 ^ n * restI v n = v := by
  induction n with
  | zero => simp [bytesL, wordI]; exact (rest_zero hv).symm
  | succ n ih =>
    have h1 := rest_step v n
    have h2 := rest_byte v n
    have h3 := isU_rest hv n
    have e : bytesL v (n + 1) = bytesL v n ++ [byteI v n] := by simp [bytesL, List.range_succ]
    rw [e, wordI_snoc, bytesL_length, ← h1, ← h2, Int.pow_succ]
    have h4 := Int.emod_add_mul_ediv (restI v n) 256
    have h5 : restI v n % 256 * 256 ^ n + 256 ^ n * 256 * (restI v n / 256) = 256 ^ n * restI v n := by
      conv => rhs; rw [← h4]
      rw [Int.mul_add, Int.mul_comm (restI v n % 256), Int.mul_assoc]
    omega
theorem word_of_bytes {v : Int} (hv : IsU v) {n : Nat} (hn : n ≤ 8) : wordI (bytesL v n) = fld v 0 (8 * (n : Int)) := by
  have h := restI_word v hv n
  obtain ⟨b0, b1⟩ := wordI_bd (bytesL_all v n)
  rw [bytesL_length] at b1
  have e : fld v 0 (8 * (n : Int)) = v % 256 ^ n := by
    obtain ⟨v0, v1⟩ := hv
    obtain ⟨v, rfl⟩ := Int.eq_ofNat_of_zero_le v0
    unfold fld fldN
    rw [show (8 * (n : Int)).toNat = 8 * n from by omega, Nat.pow_mul, show (2 : Nat) ^ 8 = 256 from rfl]
    simp
  rw [e]
  have h1 : v % 256 ^ n = (wordI (bytesL v n) + 256 ^ n * restI v n) % 256 ^ n := by rw [h]
  rw [h1, Int.add_mul_emod_self_left, Int.emod_eq_of_lt b0 b1]
theorem bytes_of_word {l : List Int} (h : AllB l) (hl : l.length ≤ 8) : bytesL (wordI l) l.length = l := by
  refine List.ext_getElem (bytesL_length _ _) fun i h1 h2 => ?_
  have hu := isU_word h hl
  have e1 : (bytesL (wordI l) l.length)[i] = byteI (wordI l) i := by simp [bytesL]
  rw [e1, ← rest_byte]
  have e2 : restI (wordI l) i = wordI (l.drop i) := by
    clear e1
    induction i with
    | zero => rw [← rest_zero hu, List.drop_zero]
    | succ i ih =>
      have hi : i < l.length := by omega
      rw [← rest_step, ih (by rw [bytesL_length]; omega) hi, drop_word hi]
      have := h.nth hi
      omega
  rw [e2, drop_word h2, nth_get h2]
  have := h _ (List.getElem_mem h2)
  omega
end Go.Proofs.Ytpfohbinjcdcbaa
