/- Slices of bytes in memory, and the reference's comparison of two of them: it tells whether they are the same list. -/
import Derived.Test.YtpfohbinjcdcbaaBits
import Derived.Handy
namespace Go.Proofs.Ytpfohbinjcdcbaa
open Go.RowKit
set_option linter.unusedVariables false

def nth (l : List Int) (k : Nat) : Int := l.getD k 0
/-- the slice at A reads as the bytes l -/
def Sl (w : World) (A : Option Addr) (l : List Int) : Prop := l = [] ∨ ∃ b off, A = some ⟨b, off, none⟩ ∧ ∀ k, k < l.length → w.cell? ⟨b, off + k, none⟩ = some (.int .u8 (nth l k))

theorem block_lt {w : World} {b o : Nat} {v : Value} (h : w.cell? ⟨b, o, none⟩ = some v) : b < w.heap.size := by
  rcases Nat.lt_or_ge b w.heap.size with h1 | h1
  · exact h1
  · simp [World.cell?, Array.getElem?_eq_none h1] at h
theorem Sl.below {w w' : World} {A : Option Addr} {l : List Int} (h : Sl w A l) (hb : Below w.heap.size w w') : Sl w' A l := by
  rcases h with h | ⟨b, off, rfl, hc⟩
  · exact .inl h
  · exact .inr ⟨b, off, rfl, fun k hk => by
      have h1 := hc k hk
      rw [hb.cell (p := ⟨b, off + k, none⟩) (block_lt h1)]
      exact h1⟩
theorem Sl.drewN {w : World} {A : Option Addr} {l : List Int} (h : Sl w A l) (n : Nat) : Sl (w.drewN n) A l := h

theorem same_ne (A B : Option Addr) (n m ca cb : Nat) (w : World) (h : n ≠ m) :
    Calls Try.prog 16 #[.slice A n ca, .slice B m cb] w fun e w' => e = .returned (.bool false) ∧ ∃ k, w' = w.drewN k := by
  have h' : ((n : Int) != (m : Int)) = true := by rw [bne_iff_ne]; omega
  go_enter Try.func16, Try.ntmps16
  go_wp2
  go_ret
  exact ⟨rfl, 0, rfl⟩
def SameTo (la lb : List Int) (k : Nat) : Prop := ∀ j, j < k → nth la j = nth lb j
theorem same_step {la lb : List Int} {k : Nat} (h : SameTo la lb k) (he : (nth la k != nth lb k) = false) : SameTo la lb (k + 1) := by
  intro j hj
  by_cases e : j = k
  · subst e; simpa using he
  · exact h j (by omega)
theorem same_end {la lb : List Int} (hl : la.length = lb.length) (h : SameTo la lb la.length) : (la == lb) = true := by
  rw [beq_iff_eq]
  refine List.ext_getElem hl fun i h1 h2 => ?_
  have := h i h1
  simpa [nth, List.getD_eq_getElem?_getD, List.getElem?_eq_getElem h1, List.getElem?_eq_getElem h2] using this
theorem same_diff {la lb : List Int} {k : Nat} (he : (nth la k != nth lb k) = true) : (la == lb) = false := by
  rw [beq_eq_false_iff_ne]
  rintro rfl
  simp at he
set_option maxHeartbeats 400000 in
theorem same_eq (A B : Option Addr) (la lb : List Int) (n ca cb : Nat) (w : World) (ha : Sl w A la) (hb : Sl w B lb) (hn : la.length = n) (hm : lb.length = n) (hmax : n ≤ 9223372036854775807) :
    Calls Try.prog 16 #[.slice A n ca, .slice B n cb] w fun e w' => e = .returned (.bool (la == lb)) ∧ ∃ k, w' = w.drewN k := by
  have hne : ((n : Int) != (n : Int)) = false := by simp
  by_cases h0 : n = 0
  · subst h0
    have e1 : la = [] := List.length_eq_zero_iff.1 hn
    have e2 : lb = [] := List.length_eq_zero_iff.1 hm
    clear ha hb hn hm
    subst e1 e2
    go_enter Try.func16, Try.ntmps16
    go_wp2
    go_loop [5] (fun i => i = .int .i64 0) (fun _ => 0)
    case atStart => rfl
    case round =>
      subst hrel
      go_wp2
      go_ret
      exact ⟨rfl, 0, rfl⟩
  · obtain ⟨b1, o1, rfl, hc1⟩ : ∃ b off, A = some ⟨b, off, none⟩ ∧ ∀ k, k < n → w.cell? ⟨b, off + k, none⟩ = some (.int .u8 (nth la k)) := by
      rcases ha with h | ⟨b, off, h, hc⟩
      · subst h; simp at hn; omega
      · exact ⟨b, off, h, fun k hk => hc k (by omega)⟩
    obtain ⟨b2, o2, rfl, hc2⟩ : ∃ b off, B = some ⟨b, off, none⟩ ∧ ∀ k, k < n → w.cell? ⟨b, off + k, none⟩ = some (.int .u8 (nth lb k)) := by
      rcases hb with h | ⟨b, off, h, hc⟩
      · subst h; simp at hm; omega
      · exact ⟨b, off, h, fun k hk => hc k (by omega)⟩
    have Hlen := Lib.hid (And.intro hn hm)
    have Hc1 := Lib.hid hc1
    have Hc2 := Lib.hid hc2
    clear ha hb hn hm hc1 hc2
    go_enter Try.func16, Try.ntmps16
    go_wp2
    go_loopw [5] (fun i wr => ∃ (k : Nat) (q : Nat), k ≤ n ∧ i = .int .i64 k ∧ SameTo la lb k ∧ wr = w.drewN q) (fun i _ => n - (intOf i).toNat)
    case atStart => exact ⟨0, 0, by omega, rfl, fun j hj => by omega, rfl⟩
    case round =>
      obtain ⟨k, q, hk, rfl, hs, rfl⟩ := hrel
      by_cases hlt : k < n
      · have d1 : w.cell? ⟨b1, o1 + k, none⟩ = some (.int .u8 (nth la k)) := Hc1.out k hlt
        have d2 : w.cell? ⟨b2, o2 + k, none⟩ = some (.int .u8 (nth lb k)) := Hc2.out k hlt
        have hi : (0 : Int) ≤ k := by omega
        have hj : (k : Int) < n := by omega
        cases he : (nth la k != nth lb k) with
        | false =>
          have Hs := Lib.hid (same_step hs he)
          go_wp2
          go_quiet (fail)
          go_wp2
          go_roundw
          case rel => exact ⟨k + 1, _, by omega, by go_num, Hs.out, rfl⟩
          case measure => simp [intOf]; omega
        | true =>
          have Hd := Lib.hid (same_diff he)
          go_wp2
          go_quiet (fail)
          go_wp2
          go_ret
          exact ⟨ret_bool Hd.out.symm, _, World.drewN_drewN _ _ _⟩
      · obtain rfl : k = n := by omega
        have Hf := Lib.hid (same_end (la := la) (lb := lb) (by have := Hlen.out; omega) (by rw [Hlen.out.1]; exact hs))
        clear hs
        go_wp2
        go_ret
        exact ⟨ret_bool Hf.out.symm, _, rfl⟩
theorem same_any (A B : Option Addr) (la lb : List Int) (n m ca cb : Nat) (w : World) (ha : Sl w A la) (hb : Sl w B lb) (hn : la.length = n) (hm : lb.length = m) (hmax : n ≤ 9223372036854775807) :
    Calls Try.prog 16 #[.slice A n ca, .slice B m cb] w fun e w' => e = .returned (.bool (la == lb)) ∧ ∃ k, w' = w.drewN k := by
  by_cases h : n = m
  · subst h; exact same_eq A B la lb n ca cb w ha hb hn hm hmax
  · refine (same_ne A B n m ca cb w h).mono fun e w' ⟨he, hw⟩ => ⟨?_, hw⟩
    rw [he]
    refine ret_bool (beq_eq_false_iff_ne.2 ?_).symm
    rintro rfl
    omega
end Go.Proofs.Ytpfohbinjcdcbaa
