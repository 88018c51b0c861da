/- Layer 7: the least of some names. No condition. -/
import Derived.Test.YthoehbmbmjmpbaaDoorSymF
import Derived.Lib.MinMaxS
namespace Go.Proofs.YthoehbmbmjmpbaaDoor
set_option maxRecDepth 100000
open Go.RowKit
set_option linter.unusedVariables false
/-- none of them is less -/
def LeastN (names : List ByteArray) (x : ByteArray) : Prop := x ∈ names ∧ ∀ y ∈ names, ¬ y.data.toList < x.data.toList
theorem ba_ext {x y : ByteArray} (h : x.data.toList = y.data.toList) : x = y := ByteArray.ext (Array.toList_inj.1 h)
theorem lst_tri {a b : List UInt8} (h1 : ¬ a < b) (h2 : a ≠ b) : b < a := by
  rcases Classical.em (b < a) with h | h
  · exact h
  · exact absurd (List.le_antisymm (List.not_lt.1 h) (List.not_lt.1 h1)) h2
theorem LeastN.one (x : ByteArray) : LeastN [x] x := ⟨by simp, fun y hy => by
  rw [List.mem_singleton.1 hy]
  exact List.lt_irrefl _⟩
theorem LeastN.more {names : List ByteArray} {x y : ByteArray} (h : LeastN names x) : LeastN (names ++ [y]) (Lib.minS x y) := by
  unfold Lib.minS
  split
  · rename_i hc
    refine ⟨List.mem_append_left _ h.1, fun z hz => ?_⟩
    rcases List.mem_append.1 hz with hz | hz
    · exact h.2 z hz
    · rw [List.mem_singleton.1 hz]
      rcases hc with hc | hc
      · exact fun h2 => List.lt_irrefl _ (List.lt_trans hc h2)
      · rw [hc]; exact List.lt_irrefl _
  · rename_i hc
    have h1 : ¬ x.data.toList < y.data.toList := fun e => hc (.inl e)
    have h2 : x.data.toList ≠ y.data.toList := fun e => hc (.inr e)
    refine ⟨List.mem_append_right _ (by simp), fun z hz => ?_⟩
    rcases List.mem_append.1 hz with hz | hz
    · exact fun h3 => h.2 z hz (List.lt_trans h3 (lst_tri h1 h2))
    · rw [List.mem_singleton.1 hz]; exact List.lt_irrefl _
theorem LeastN.eq {names names' : List ByteArray} {x y : ByteArray} (h : LeastN names x) (h' : LeastN names' y) (hs : ∀ s, s ∈ names ↔ s ∈ names') : x = y := by
  refine ba_ext ?_
  rcases Classical.em (x.data.toList = y.data.toList) with e | e
  · exact e
  · exact absurd (lst_tri (h'.2 x ((hs x).1 h.1)) e) (h.2 y ((hs y).2 h'.1))
theorem take_snoc {α : Type} {xs : List α} {k : Nat} (hk : k < xs.length) : xs.take (k + 1) = xs.take k ++ [xs[k]] := List.take_succ_eq_append_getElem hk
theorem flatStr_get {names : List ByteArray} {k : Nat} (hk : k < names.length) : (names.flatMap encStr)[k]? = some (.string names[k]) := by
  have h := flat_get (enc := encStr) (sz := 1) (fun x => rfl) (i := 0) hk (by omega)
  rw [Nat.mul_one, Nat.add_zero] at h
  exact h
set_option maxHeartbeats 2000000 in
theorem min_any (names : List ByteArray) (base n : Nat) (v : Value) (w : World) (hn : names.length = n) (h0 : 0 < n) (hm : n ≤ 100000000) (hN : NamesAt w base names v) :
    Calls Tryd.prog 33 #[v] w fun e w' => ∃ x, e = .returned (.string x) ∧ LeastN names x ∧ w = w' := by
  obtain ⟨A, c, rfl, hown⟩ := hN
  rw [hn] at hown ⊢
  have HN := Lib.hid hn
  have hmin : ∀ (w : World) (ts : Array TypeId) (t : TypeId) (x y : ByteArray), (Builtin.min_ ts t #[.string x, .string y]).run Tryd.prog w = .ok (.string (Lib.minS x y)) w := Lib.run_min_strs
  rcases hown.2 with ⟨h1, h2⟩ | ⟨g, cap, cur, h1, _, h3, _⟩
  · omega
  cases h1
  have HC := Lib.hid (show ∀ (k : Nat) (hk : k < names.length), w.cell? ⟨g, 0 + k, none⟩ = some (.string names[k]) from fun k hk => by
    have := hown.cells (g := g) rfl k _ (flatStr_get hk)
    rwa [addO] at this)
  have HL0 := Lib.hid (show 0 < names.length by rw [HN.out]; exact h0)
  have c0 := HC.out 0 HL0.out
  rw [Nat.add_zero] at c0
  clear hown h3 hn
  go_enter Tryd.func33, Tryd.ntmps33
  have hlt1 : ¬ (n : Int) < 1 := by omega
  have hn0 : (0 : Int) < n := by omega
  go_wp2
  go_loopw [3, 4] (fun m i wr => ∃ (k : Nat) (x : ByteArray), 0 < k ∧ k ≤ n ∧ i = .int .i64 k ∧ m = .string x ∧ Hid (LeastN (names.take k) x) ∧ wr = w) (fun _ i _ => n - (intOf i).toNat)
  case atStart => exact ⟨1, _, by omega, by omega, rfl, rfl, Lib.hid (by
    rw [take_snoc (show 0 < names.length by have := HN.out; omega)]
    exact LeastN.one _), rfl⟩
  case round =>
    obtain ⟨k, x, hk0, hk, rfl, rfl, HL, rfl⟩ := hrel
    by_cases hlt : k < n
    · have k0 : (0 : Int) ≤ k := by omega
      have k1 : (k : Int) < n := by omega
      have HLk := Lib.hid (show k < names.length by rw [HN.out]; exact hlt)
      have ck := HC.out k HLk.out
      rw [Nat.zero_add] at ck
      have HL2 := Lib.hid (show LeastN (names.take (k + 1)) (Lib.minS x (names[k]'HLk.out)) from by rw [take_snoc HLk.out]; exact HL.out.more)
      generalize names[k]'HLk.out = y at *
      go_wp2
      go_roundw
      case rel => exact ⟨k + 1, _, by omega, by omega, by go_num, rfl, HL2, by first | rfl | trivial⟩
      case measure => simp [intOf]; omega
    · have hkn : k = n := by omega
      have k1 : ¬ (k : Int) < n := by omega
      have HL2 := Lib.hid (show LeastN names x from by have h := HL.out; rw [hkn, ← HN.out, List.take_length] at h; exact h)
      clear hkn hlt
      go_wp2
      go_ret
      exact ⟨x, rfl, HL2.out, rfl⟩
end Go.Proofs.YthoehbmbmjmpbaaDoor
