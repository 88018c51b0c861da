/- Layer 4: a table of two regions of 64 bytes; how many bytes are not 0. -/
import Derived.Test.YtpfohbinjcdcbaaMemOpen
import Derived.Test.YtpfohbinjcdcbaaMemAwake
namespace Go.Proofs.Ytpfohbinjcdcbaa
open Go.RowKit Go.Maps
set_option linter.unusedVariables false
def T2 : List Rg := [(0, 64, 0, 0), (64, 128, 7, 7)]
theorem t2_two {P : Nat → Prop} (h0 : P 0) (h1 : P 1) : ∀ j, j < T2.length → P j := by
  intro j hj
  have : j = 0 ∨ j = 1 := by simp [T2] at hj; omega
  rcases this with rfl | rfl
  · exact h0
  · exact h1
theorem t2_w : TabW T2 := t2_two ⟨⟨by decide, by decide⟩, ⟨by decide, by decide⟩, ⟨by decide, by decide⟩, ⟨by decide, by decide⟩⟩ ⟨⟨by decide, by decide⟩, ⟨by decide, by decide⟩, ⟨by decide, by decide⟩, ⟨by decide, by decide⟩⟩
theorem t2_may : mayB T2 = true := by decide
theorem t2_tab (w : World) : TabAt (w.alloc (.cells #[.int .u64 0, .int .u64 64, .int .i64 0, .int .i64 0, .int .u64 64, .int .u64 128, .int .i64 7, .int .i64 7] 35)) w.heap.size 0 T2 :=
  t2_two ⟨by simp [go_sem]; rfl, by simp [go_sem]; rfl, by simp [go_sem]; rfl, by simp [go_sem]; rfl⟩ ⟨by simp [go_sem]; rfl, by simp [go_sem]; rfl, by simp [go_sem]; rfl, by simp [go_sem]; rfl⟩
theorem t2_hit0 {p q : Int} : hitB (nthR T2 0) p q = true ↔ 0 ≤ p ∧ p < 64 ∧ q ≤ 64 - p := hitB_iff
theorem t2_hit1 {p q : Int} : hitB (nthR T2 1) p q = true ↔ 64 ≤ p ∧ p < 128 ∧ q ≤ 128 - p := hitB_iff
theorem t2_f0 {p q : Int} (h0 : 0 ≤ p) (hq : 1 ≤ q) (h1 : p + q ≤ 64) : FindYes T2 p q 0 := ⟨hq, by simp [T2], t2_hit0.2 ⟨by omega, by omega, by omega⟩, fun j hj => by omega⟩
theorem t2_f1 {p q : Int} (h0 : 64 ≤ p) (hq : 1 ≤ q) (h1 : p + q ≤ 128) : FindYes T2 p q 1 := by
  refine ⟨hq, by simp [T2], t2_hit1.2 ⟨by omega, by omega, by omega⟩, fun j hj => ?_⟩
  obtain rfl : j = 0 := by omega
  cases e : hitB (nthR T2 0) p q with
  | false => rfl
  | true => have := t2_hit0.1 e; omega
theorem t2_n {p q : Int} (h0 : 0 ≤ p) (hq : 1 ≤ q) (h1 : ¬ p + q ≤ 64) (h2 : p < 64 ∨ ¬ p + q ≤ 128) : FindNo T2 p q := by
  refine .inr (t2_two ?_ ?_)
  · cases e : hitB (nthR T2 0) p q with
    | false => rfl
    | true => have := t2_hit0.1 e; omega
  · cases e : hitB (nthR T2 1) p q with
    | false => rfl
    | true => have := t2_hit1.1 e; omega
/-- how many are not 0 -/
def nz (l : List Int) : Nat := (l.filter (fun x => x != 0)).length
theorem nz_append (l x : List Int) : nz (l ++ x) = nz l + nz x := by simp [nz, List.filter_append]
theorem nz_zeros (n : Nat) : nz (List.replicate n 0) = 0 := by simp [nz]
theorem nz_le (l : List Int) : nz l ≤ l.length := List.length_filter_le _ _
theorem nz_step {l : List Int} {k : Nat} (h : k < l.length) : nz (l.take (k + 1)) = nz (l.take k) + if nth l k = 0 then 0 else 1 := by
  rw [List.take_succ_eq_append_getElem h, nz_append, nth_get h]
  congr 1
  by_cases e : l[k] = 0
  · simp [nz, e]
  · simp [nz, e]
theorem nz_step0 {l : List Int} {k : Nat} (h : k < l.length) (e : nth l k = 0) : nz (l.take (k + 1)) = nz (l.take k) := by rw [nz_step h, if_pos e, Nat.add_zero]
theorem nz_step1 {l : List Int} {k : Nat} (h : k < l.length) (e : ¬ nth l k = 0) : nz (l.take (k + 1)) = nz (l.take k) + 1 := by rw [nz_step h, if_neg e]
theorem nz_take (l : List Int) (k : Nat) : nz (l.take k) ≤ k := Nat.le_trans (nz_le _) (by simp; omega)
theorem nz_all {l : List Int} {k : Nat} (h : l.length = k) : nz (l.take k) = nz l := by rw [List.take_of_length_le (by omega)]
theorem nz_splice {n o : Nat} {l : List Int} (h : o + l.length ≤ n) : nz (splice (List.replicate n 0) o l) = nz l := by
  unfold splice
  rw [nz_append, nz_append]
  simp [nz_zeros]
/-- what is cut out of where it was put is it -/
theorem cut_splice {L l : List Int} {o : Nat} (h : o + l.length ≤ L.length) : ((splice L o l).drop o).take l.length = l := by
  unfold splice
  have e : (L.take o).length = o := by simp; omega
  rw [List.drop_append_of_le_length (by omega), List.drop_of_length_le (by omega), List.nil_append, List.take_append_of_le_length (by omega), List.take_of_length_le (by omega)]
theorem nth_all {l : List Int} (h : AllB l) (k : Nat) : 0 ≤ nth l k ∧ nth l k < 256 := by
  by_cases hk : k < l.length
  · rw [nth_get hk]; exact h _ (List.getElem_mem hk)
  · unfold nth; rw [List.getD_eq_getElem?_getD, List.getElem?_eq_none (by omega)]; simp
/-- the memory's bytes, whole -/
theorem cut0 {B : Nat → List Int} (h : (B 0).length = 64) : cut T2 B 0 64 0 = B 0 := by
  show ((B 0).drop 0).take 64 = _
  rw [List.drop_zero, List.take_of_length_le (by omega)]
theorem cut1 {B : Nat → List Int} (h : (B 1).length = 64) : cut T2 B 64 64 1 = B 1 := by
  show ((B 1).drop 0).take 64 = _
  rw [List.drop_zero, List.take_of_length_le (by omega)]
end Go.Proofs.Ytpfohbinjcdcbaa
