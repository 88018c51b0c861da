/- Layer 4: Poke and Store of package mem whatever comes; which bytes a store leaves be. -/
import Derived.Test.YtpfohbinjcdcbaaMemCopy
import Derived.Test.YtpfohbinjcdcbaaMemSum
namespace Go.Proofs.Ytpfohbinjcdcbaa
open Go.RowKit Go.Maps
set_option linter.unusedVariables false

def PokeP (base m tb tc hb n : Nat) (T : List Rg) (G : Nat → Nat) (w : World) (e : Ending) (w' : World) : Prop :=
  ∃ (code : Int) (B' : Nat → List Int), e = .returned (.int .i64 code) ∧ MemIs w' base m tb tc hb n T G B' ∧ Below base w w'
theorem poke_any (base m tb tc hb n : Nat) (T : List Rg) (G : Nat → Nat) (B : Nat → List Int) (p : Int) (A : Option Addr) (q c : Nat) (l : List Int) (hp : IsU p) (hq : q ≤ 1000000) (w : World) (hM : MemIs w base m tb tc hb n T G B)
    (hl : l.length = q) (hall : AllB l) (hs : Sl w A l) :
    Calls Try.prog 12 #[.pointer (some ⟨m, 0, none⟩), .int .u64 p, .slice A q c] w (PokeP base m tb tc hb n T G w) := by
  have hbs : base ≤ w.heap.size := Nat.le_trans hM.own.1 (Nat.le_of_lt (block_lt hM.toH.c0))
  by_cases h0 : q = 0
  · subst h0
    exact (poke_none m p A c w).mono fun e w' ⟨h1, h2⟩ => ⟨0, B, h1, by rw [← h2]; exact hM, by rw [← h2]; exact Below.refl _ _⟩
  rcases find_or T p (q : Int) with hF | ⟨i, hF⟩
  · exact (poke_no m tb tc hb n T G p A q c hp hq h0 w hM.toH hF).mono fun e w' ⟨h1, h2⟩ => ⟨13, B, h1, hM.below h2, h2.mono hbs⟩
  · obtain ⟨ad, rfl⟩ := sl_some hs (by omega)
    refine (poke_yes base m tb tc hb n T G B p ad q c l i hp hq w hM hF hl hall hs).mono fun e w' ⟨h1, h2, h3⟩ => ⟨0, _, h1, h2, ?_⟩
    exact (Below.refl base w).grown h3 hbs (fun k hk => by cases hk; exact hM.from_ i (hM.spot hF).1)
def StoreP (base m tb tc hb n : Nat) (T : List Rg) (G : Nat → Nat) (B : Nat → List Int) (p q : Int) (own : Bool) (v : Int) (w : World) (e : Ending) (w' : World) : Prop :=
  ∃ (code : Int) (B' : Nat → List Int) (j : Nat), e = .returned (.int .i64 code) ∧ MemIs w' base m tb tc hb n T G B' ∧ j < n ∧ w.grownBy w' (some (G j)) ∧
    ((code = 0 ∧ ∃ i, AllYes T p q own 2 i ∧ B' = setB B i (splice (B i) (p - rlo (nthR T i)).toNat (bytesL v q.toNat))) ∨ (code = 13 ∧ AllNo T p q own 2 ∧ B' = B))
theorem store_any (base m tb tc hb n : Nat) (T : List Rg) (G : Nat → Nat) (B : Nat → List Int) (p q : Int) (own : Bool) (v : Int) (hp : IsU p) (hq : IsI q) (hv : IsU v) (hn : 0 < n) (w : World) (hM : MemIs w base m tb tc hb n T G B) :
    Calls Try.prog 15 #[.pointer (some ⟨m, 0, none⟩), .int .u64 p, .int .i64 q, .bool own, .int .u64 v] w (StoreP base m tb tc hb n T G B p q own v w) := by
  rcases all_or T p q own 2 with hA | ⟨i, hA⟩
  · exact (store_no base m tb tc hb n T G B p q own v hp hq w hM hA).mono fun e w' ⟨h1, h2⟩ => ⟨13, B, 0, h1, hM.below h2, hn, grown_of_below h2, .inr ⟨rfl, hA, rfl⟩⟩
  · exact (store_yes base m tb tc hb n T G B p q own v i hp hq hv w hM hA).mono fun e w' ⟨h1, h2, h3⟩ => ⟨0, _, i, h1, h2, (hM.spot hA.2.1).1, h3, .inl ⟨rfl, i, hA, rfl⟩⟩
/-- does byte k of region 0 lie in the access? -/
def InB (T : List Rg) (p q : Int) (k : Nat) : Prop := p ≤ rlo (nthR T 0) + (k : Int) ∧ rlo (nthR T 0) + (k : Int) - p < q
theorem nth_splice {l x : List Int} {o k : Nat} (h : o + x.length ≤ l.length) : nth (splice l o x) k = if o ≤ k ∧ k < o + x.length then nth x (k - o) else nth l k := by
  have ht : (l.take o).length = o := by simp; omega
  have hk : (splice l o x)[k]? = if k < o then l[k]? else if k < o + x.length then x[k - o]? else l[k]? := by
    unfold splice
    by_cases h1 : k < o
    · rw [if_pos h1, List.getElem?_append_left (by omega), List.getElem?_take_of_lt h1]
    · rw [if_neg h1, List.getElem?_append_right (by omega), ht]
      by_cases h2 : k < o + x.length
      · rw [if_pos h2, List.getElem?_append_left (by omega)]
      · rw [if_neg h2, List.getElem?_append_right (by omega), List.getElem?_drop]
        congr 1; omega
  have e : ∀ (y : List Int) (j : Nat), nth y j = (y[j]?).getD 0 := fun y j => by simp [nth]
  rw [e, hk, e, e]
  by_cases h1 : k < o
  · rw [if_pos h1, if_neg (by omega)]
  · rw [if_neg h1]
    by_cases h2 : k < o + x.length
    · rw [if_pos h2, if_pos (by omega)]
    · rw [if_neg h2, if_neg (by omega)]
section
variable {w : World} {base m tb tc hb n : Nat} {T : List Rg} {G : Nat → Nat} {B : Nat → List Int} {p q v : Int} {own : Bool} {i : Nat}
theorem stored_in (hM : MemIs w base m tb tc hb n T G B) (hT : MayT T) (hA : AllYes T p q own 2 i) {k : Nat} (hk : k < lenR (nthR T 0)) (hI : InB T p q k) :
    nth (setB B i (splice (B i) (p - rlo (nthR T i)).toNat (bytesL v q.toNat)) 0) k = byteI v (rlo (nthR T 0) + (k : Int) - p).toNat := by
  obtain ⟨hi, hs, hq0, hq⟩ := hM.spot hA.2.1
  obtain ⟨y0, y1, y2⟩ := hitB_iff.1 hA.2.1.2.2.1
  obtain ⟨h1, h2⟩ := hI
  have hok := okB_iff.1 (hT.2.2.1 0 (by have := hT.1; omega))
  have e : i = 0 := by
    rcases Nat.eq_zero_or_pos i with h | h
    · exact h
    · have := hT.2.2.2 0 i h (by rw [hM.toH.len]; exact hi)
      unfold lenR at hk
      omega
  subst e
  rw [setB_same, nth_splice (by rw [bytesL_length]; exact hs), bytesL_length, if_pos (by omega), bytesL_nth v (by omega)]
  congr 1
  omega
theorem stored_out (hM : MemIs w base m tb tc hb n T G B) (hA : AllYes T p q own 2 i) {k : Nat} (hI : ¬ InB T p q k) :
    nth (setB B i (splice (B i) (p - rlo (nthR T i)).toNat (bytesL v q.toNat)) 0) k = nth (B 0) k := by
  obtain ⟨hi, hs, hq0, hq⟩ := hM.spot hA.2.1
  obtain ⟨y0, y1, y2⟩ := hitB_iff.1 hA.2.1.2.2.1
  by_cases e : 0 = i
  · subst e
    rw [setB_same, nth_splice (by rw [bytesL_length]; exact hs), bytesL_length]
    unfold InB at hI
    rw [if_neg (by omega)]
  · rw [setB_other _ _ e]
end
/-- the bytes of region 0, whole -/
theorem cutW {w : World} {base m tb tc hb n : Nat} {T : List Rg} {G : Nat → Nat} {B : Nat → List Int} (hM : MemIs w base m tb tc hb n T G B) (hn : 0 < n) : cut T B (rlo (nthR T 0)) ((lenR (nthR T 0) : Nat) : Int) 0 = B 0 := by
  unfold cut
  rw [show (rlo (nthR T 0) - rlo (nthR T 0)).toNat = 0 by omega, List.drop_zero, Int.toNat_natCast, List.take_of_length_le (by rw [hM.lens 0 hn]; omega)]
theorem findW {T : List Rg} (hT : MayT T) : FindYes T (rlo (nthR T 0)) ((lenR (nthR T 0) : Nat) : Int) 0 := by
  have hok := okB_iff.1 (hT.2.2.1 0 (by have := hT.1; omega))
  refine find_is hT ?_ (by have := hT.1; omega) (hitB_iff.2 ?_)
  all_goals unfold lenR; omega
end Go.Proofs.Ytpfohbinjcdcbaa
