/- Layer 7: the names that are Out in two objects. No condition.
   Layer 7: the least of some names. No condition.
   Layer 7: the names that are used where they mean nothing. No condition.
   Layer 7: a count in the map of uses, one more: what the map is between the two halves of it. No condition.
   Layer 7: the names that relocations have, gathered. No condition.
   Layer 7: Check. Condition: the tables of package ins read as they should.
   Layer 7: what the book and the map of uses come to, plainly. No condition.
   Layer 7: right. Condition: the tables of package ins read as they should. -/
import Derived.Test.YtjngkifoaljmaaaGreatDoorSymA
import Derived.Maps.RangeWalk
import Derived.Deep.LoopGhost
import Derived.WalkMore
import Derived.Lib.MinMaxS
import Derived.WideKeyEntry
namespace Go.Proofs.YtjngkifoaljmaaaGreatDoor
set_option maxRecDepth 100000
open Go.RowKit Go.Maps
set_option linter.unusedVariables false
theorem grown_below' {w w' : World} (h : Below w.heap.size w w') : w.grownBy w' none := ⟨h.os, h.tape, h.output, h.size, fun k hk _ => h.block k hk⟩
theorem below_of_grown' {w w' : World} (h : w.grownBy w' none) : Below w.heap.size w w' := ⟨h.os, h.tape, h.output, h.size, fun k hk => h.block k hk (by simp)⟩
abbrev RangeN (w : World) (b r n : Nat) (D : DataW Unit) (left : Lit → Bool) (cnt : Nat) : Prop := w.ranges Tryz.prog 108 (plainElem Tryz.prog 3) b r n D left cnt
theorem RangeN.below {w w' : World} {b r n cnt : Nat} {D : DataW Unit} {left : Lit → Bool} (h : RangeN w b r n D left cnt) (k : Below w.heap.size w w') : RangeN w' b r n D left cnt :=
  World.ranges.kept h (grown_below' k) (by simp) (by simp)
def encStr (s : ByteArray) : List Value := [.string s]
theorem info_str : (Tryz.prog.info? 9).map (fun i => (i.zero, i.size, i.bytes)) = some (some (.string ⟨#[]⟩), 1, 16) := by kernel_rfl
theorem one_str (s : ByteArray) : ∀ u ∈ encStr s, u.oneCell' = true := fun u hu => by unfold encStr at hu; simp only [List.mem_singleton] at hu; subst hu; rfl
/-- a key of a name that is Out in an object ahead, too -/
def hitP (M : Kn → Option Int) (t : Kn) : Prop := t.2.2 = true ∧ ∃ a : Nat, (a : Int) < t.2.1 ∧ (M (t.1, (a : Int), true)).isSome = true
/-- the names of those keys that have gone by -/
def NmI (D : DataW Unit) (M : Kn → Option Int) (left : Lit → Bool) (names : List ByteArray) : Prop :=
  ∀ s, s ∈ names ↔ ∃ t, KnW t ∧ t.1 = s ∧ hitP M t ∧ has D (kKey t) = true ∧ left (kKey t) = false
theorem NmI.start (D : DataW Unit) (M : Kn → Option Int) : NmI D M (has D) [] := fun s =>
  ⟨fun h => (by cases h), fun ⟨t, _, _, _, h1, h2⟩ => (by rw [h1] at h2; cases h2)⟩
theorem left_next {left : Lit → Bool} {t u : Kn} (ht : KnW t) (hu : KnW u) : (left (kKey u) && !(kKey u).sameKey (kKey t)) = false ↔ (left (kKey u) = false ∨ u = t) := by
  rw [Bool.and_eq_false_iff, Bool.not_eq_false']
  constructor
  · rintro (h | h)
    · exact .inl h
    · exact .inr (kKey_inj hu ht (WideAt.sameKey_eq h))
  · rintro (h | rfl)
    · exact .inl h
    · exact .inr (WideAt.sameKey_self (isKey_kn u))
theorem NmI.miss {D : DataW Unit} {M : Kn → Option Int} {left : Lit → Bool} {names : List ByteArray} {t : Kn} (h : NmI D M left names) (ht : KnW t) (hm : ¬ hitP M t) : NmI D M (fun z => left z && !z.sameKey (kKey t)) names := fun s => by
  rw [h s]
  constructor
  · rintro ⟨u, h1, h2, h3, h4, h5⟩
    exact ⟨u, h1, h2, h3, h4, (left_next ht h1).2 (.inl h5)⟩
  · rintro ⟨u, h1, h2, h3, h4, h5⟩
    rcases (left_next ht h1).1 h5 with h | rfl
    · exact ⟨u, h1, h2, h3, h4, h⟩
    · exact absurd h3 hm
theorem NmI.hit {D : DataW Unit} {M : Kn → Option Int} {left : Lit → Bool} {names : List ByteArray} {t : Kn} (h : NmI D M left names) (ht : KnW t) (hm : hitP M t) (hd : has D (kKey t) = true) : NmI D M (fun z => left z && !z.sameKey (kKey t)) (names ++ [t.1]) := fun s => by
  rw [List.mem_append, List.mem_singleton, h s]
  constructor
  · rintro (⟨u, h1, h2, h3, h4, h5⟩ | rfl)
    · exact ⟨u, h1, h2, h3, h4, (left_next ht h1).2 (.inl h5)⟩
    · exact ⟨t, ht, rfl, hm, hd, (left_next ht ht).2 (.inr rfl)⟩
  · rintro ⟨u, h1, h2, h3, h4, h5⟩
    rcases (left_next ht h1).1 h5 with h | rfl
    · exact .inl ⟨u, h1, h2, h3, h4, h⟩
    · exact .inr h2.symm
/-- a name is Out in two objects -/
def clashP (M : Kn → Option Int) (s : ByteArray) : Prop := ∃ i : Int, KnW (s, i, true) ∧ (M (s, i, true)).isSome = true ∧ ∃ a : Nat, (a : Int) < i ∧ (M (s, (a : Int), true)).isSome = true
/-- rows of names that the call made -/
def NamesAt (w : World) (base : Nat) (names : List ByteArray) (v : Value) : Prop := ∃ A c, v = .slice A names.length c ∧ w.ownsRow base 9 1 v names.length (names.flatMap encStr)
theorem has_some {D : DataW Unit} {M : Kn → Option Int} (hat : ∀ t, KnW t → (M t = none → has D (kKey t) = false) ∧ ∀ c, M t = some c → has D (kKey t) = true ∧ ∀ z, D.atKey (kKey t) z = .lit (.int .i64 c)) {t : Kn} (ht : KnW t) (h : has D (kKey t) = true) : (M t).isSome = true := by
  cases hm : M t with
  | none => rw [(hat t ht).1 hm] at h; cases h
  | some c => rfl
theorem clash_iff {D : DataW Unit} {M : Kn → Option Int} {left : Lit → Bool} {names : List ByteArray} (h : NmI D M left names) (hl : ∀ kl, left kl = false) (hat : ∀ t, KnW t → (M t = none → has D (kKey t) = false) ∧ ∀ c, M t = some c → has D (kKey t) = true ∧ ∀ z, D.atKey (kKey t) z = .lit (.int .i64 c)) : ∀ s, s ∈ names ↔ clashP M s := fun s => by
  rw [h s]
  constructor
  · rintro ⟨⟨s', i, o⟩, h1, rfl, ⟨h3, a, h4, h5⟩, h6, _⟩
    simp only at h3
    subst h3
    exact ⟨i, h1, has_some hat h1 h6, a, h4, h5⟩
  · rintro ⟨i, h1, h2, a, h4, h5⟩
    obtain ⟨c, hc⟩ := Option.isSome_iff_exists.1 h2
    exact ⟨(s, i, true), h1, rfl, ⟨rfl, a, h4, h5⟩, ((hat _ h1).2 c hc).1, hl _⟩
theorem kn_base {w : World} {base base' n s : Nat} {e : TypeId} {v : Value} {xs : List Value} (h : w.ownsRow base e s v n xs) (hb : base' ≤ base) : w.ownsRow base' e s v n xs := by
  refine ⟨h.1, ?_⟩
  rcases h.2 with h | ⟨g, cap, cur, rfl, h1, h2, h3⟩
  · exact .inl h
  · exact .inr ⟨g, cap, cur, rfl, Nat.le_trans hb h1, h2, h3⟩
theorem KnK.low {w w1 w2 : World} {b n : Nat} {M : Kn → Option Int} (h : KnK w1 b n M) (h1 : Below w.heap.size w w1) (h2 : Below w.heap.size w w2) (hb : b < w.heap.size) : KnK w2 b n M := by
  obtain ⟨D, ⟨es, clock, q1, q2⟩, q3⟩ := h
  exact ⟨D, ⟨es, clock, ((h2.block b hb).trans (h1.block b hb).symm).trans q1, q2⟩, q3⟩
set_option maxHeartbeats 4000000 in
theorem clashing_any (nb b n : Nat) (hn : n < 1000000) (M : Kn → Option Int) (hM : ∀ t, (M t).isSome = true → 0 ≤ t.2.1 ∧ t.2.1 ≤ 1000000) (w : World) (hK : KnK w b n M) :
    Calls Tryz.prog 44 #[.agg #[.int .i64 nb, .map (some b)]] w fun e w' => ∃ names v, e = .returned v ∧ NamesAt w' w.heap.size names v ∧ names.length ≤ n ∧ (∀ s, s ∈ names ↔ clashP M s) ∧ Below w.heap.size w w' := by
  have hb0 := (Below.refl w.heap.size w).alloc (Nat.le_refl _) (.cells #[.int .i64 nb, .map (some b)] 87)
  have HB0 := Lib.hid hb0
  have HK0 := Lib.hid (hK.below hb0)
  have HBn := Lib.hid hK.lt
  obtain ⟨D, hown, hmap, hdom, hat⟩ := hK.below hb0
  have HDm := Lib.hid hdom
  have HAt := Lib.hid hat
  have HSz := Lib.hid hown.size_le
  have HM := Lib.hid hM
  have HX0 := Lib.hid (heap_alloc_new w (.cells #[.int .i64 nb, .map (some b)] 87))
  obtain ⟨i0, hi0, hz0, hz1, hz2⟩ := info_parts info_str
  clear hK hb0 hmap hdom hat hM
  go_enter Tryz.func44, Tryz.ntmps44
  obtain ⟨x0, x1, xf⟩ := row2 HX0.out
  go_wp2
  go_step3
  go_wp2
  go_step3
  go_wp2_with (at_range; refine wpList_range_own _ rfl _ 85 rfl 108 3 lawKn Tryz.underlying85 _ b n D rfl hown ?_; intro w2 hrg0 hg0 hs0)
  try go_frame
  have B2 := (below_of_grown' hg0)
  have HB2 := Lib.hid (HB0.out.trans (B2.mono HB0.out.size))
  have HG0 := Lib.hid hrg0
  have HX2 := Lib.hid ((B2.block _ (Array.getElem?_eq_some_iff.1 HX0.out).1).trans HX0.out)
  have HSr := Lib.hid (show w.heap.size < (w.alloc (.cells #[.int .i64 nb, .map (some b)] 87)).heap.size by simp)
  have HS2 := Lib.hid hs0
  clear B2 hg0 hs0 hrg0 hown x0 x1 xf
  generalize (w.alloc (.cells #[.int .i64 nb, .map (some b)] 87)).heap.size = r0 at *
  go_loopg [3] (Maps.size D) (fun cnt v wr => ∃ (left : Lit → Bool) (names : List ByteArray), Hid (RangeN wr b r0 n D left cnt) ∧ Hid (∀ kl, left kl = true → has D kl = true) ∧ Hid (NmI D M left names) ∧ Hid (names.length + cnt ≤ n) ∧ Hid (NamesAt wr (r0 + 1) names v) ∧ Hid (Below w.heap.size w wr) ∧ Hid (wr.heap[w.heap.size]? = some (.cells #[.int .i64 nb, .map (some b)] 87 (0, 0))) ∧ Hid (r0 + 1 ≤ wr.heap.size))
  case atStart => exact ⟨_, [], HG0, Lib.hid (fun _ h => h), Lib.hid (NmI.start D M), Lib.hid (by simpa using HSz.out), Lib.hid ⟨none, 0, rfl, World.ownsRow_nil _ _ _ _⟩, HB2, HX2, Lib.hid (by have := HS2.out; omega)⟩
  case round =>
    obtain ⟨left, names, HRg, HSub, HNm, HLc, HNa, HB, HX, HR1⟩ := hrel
    clear HG0 HB2 HX2 HS2
    have hrg := HRg.out
    go_wp2_with (at_next; refine wpList_next_ranges _ rfl _ rfl 108 lawKn (plainElem Tryz.prog 3) (fun x : Value => x) (fun x : Value => x) (fun key kl _ => ⟨key, rfl⟩) (fun v y _ => ⟨v, rfl⟩) b r0 n D left gk rfl hrg ?_ ?_)
    · intro _ hl0
      have HC := Lib.hid (clash_iff HNm.out hl0 HAt.out)
      obtain ⟨A, c, rfl, hown⟩ := HNa.out
      have HOw := Lib.hid hown
      clear hrg hl0 hown
      go_wp2
      try rw [Exit.noGoto_ret]
      go_ret
      exact ⟨names, _, rfl, ⟨A, c, rfl, kn_base HOw.out (by have := HSr.out; omega)⟩, by have := HLc.out; omega, HC.out, HB.out⟩
    · intro x c kl y ps w3 cnt' hkey hlk hv hat' hrg1 hlt hg1 hs1 hen
      have hlk2 := HSub.out _ hlk
      obtain ⟨t, ht, rfl⟩ := HDm.out _ hlk2
      have hx := lawKn.inj hkey (kKey_of ht)
      subst hx
      have his := has_some HAt.out ht hlk2
      have hir := HM.out t his
      have HB3 := Lib.hid (HB.out.grown hg1 HB.out.size (fun j hj => by cases hj; have := HSr.out; omega))
      have HX3 := Lib.hid ((hg1.block _ (Array.getElem?_eq_some_iff.1 HX.out).1 (by intro e; cases e; have := HSr.out; omega)).trans HX.out)
      obtain ⟨A, ca, rfl, hown⟩ := HNa.out
      have HO3 := Lib.hid (hown.kept hg1 (by
        cases hob : (Value.slice A names.length ca).ownBlock with
        | none => exact .inl rfl
        | some g => exact .inr (fun e => by cases e; have := (ownO_lt hown hob).2.1; omega)))
      have HR3 := Lib.hid (show r0 + 1 ≤ w3.heap.size from Nat.le_trans HR1.out hg1.size)
      have HRg3 := Lib.hid hrg1
      have HLt := Lib.hid hlt
      have HTw := Lib.hid ht
      have HTd := Lib.hid hlk2
      have HSub3 := Lib.hid (show ∀ kl, (left kl && !kl.sameKey (kKey t)) = true → has D kl = true from fun kl h => HSub.out kl (by simp only [Bool.and_eq_true] at h; exact h.1))
      have HLc3 := Lib.hid (show names.length + 1 + cnt' ≤ n by have := HLc.out; omega)
      clear hkey hlk hlk2 hv hat' hrg1 hlt hg1 hs1 ht his hrg HB HX HNa HR1 HRg HSub HLc hown
      obtain ⟨s, i, o⟩ := t
      unfold knV at hen
      simp only at hen hir
      obtain ⟨i, rfl⟩ := Int.eq_ofNat_of_zero_le hir.1
      have hi1 := hir.2
      have HBl := Lib.hid ((Below.refl w3.heap.size w3).alloc (Nat.le_refl _) (.cells #[.string s, .int .i64 i, .bool o] 108))
      have HB4 := Lib.hid (HB3.out.trans (HBl.out.mono HB3.out.size))
      have HX4 := Lib.hid ((HBl.out.block _ (Array.getElem?_eq_some_iff.1 HX3.out).1).trans HX3.out)
      have HO4 := Lib.hid (rowO_below HO3.out HBl.out)
      have HRg4 := Lib.hid (RangeN.below HRg3.out HBl.out)
      have HR4 := Lib.hid (Nat.le_trans HR3.out HBl.out.size)
      have HK4 := Lib.hid (HK0.out.low HB0.out HB4.out HBn.out)
      have HY4 := Lib.hid (heap_alloc_new w3 (.cells #[.string s, .int .i64 i, .bool o] 108))
      clear HB3 HX3 HO3 HRg3 HR3 hir
      cases o
      case false =>
        have HN5 := Lib.hid (HNm.out.miss HTw.out (fun h => by cases h.1))
        go_wp2
        go_roundg cnt'
        case measure => exact HLt.out
        case rel => exact ⟨_, names, HRg4, HSub3, HN5, Lib.hid (by have := HLc3.out; omega), Lib.hid ⟨A, ca, rfl, HO4.out⟩, HB4, HX4, HR4⟩
      case true =>
        go_upto_region 6 with fail
        clear hen
        generalize (w3.alloc (.cells #[.string s, .int .i64 i, .bool true] 108)) = W at *
        generalize w3.heap.size = kb at *
        have y0 := cell_of_row W kb 0 _ _ _ HY4.out
        have y1 := cell_of_row W kb 1 _ _ _ HY4.out
        simp only [List.getElem?_toArray, List.getElem?_cons_zero, List.getElem?_cons_succ] at y0 y1
        obtain ⟨x0, x1, xf⟩ := row2 HX4.out
        go_wp2
        go_loopg [3, 20] i (fun g v3 v wz => ∃ a : Nat, a + g = i ∧ v = .int .i64 a ∧ Hid (∀ q : Nat, q < a → M (s, (q : Int), true) = none) ∧ v3 = .slice A names.length ca ∧ wz = W)
        case atStart => exact ⟨0, by omega, rfl, Lib.hid (fun q hq => by omega), rfl, rfl⟩
        case round =>
          obtain ⟨a, hag, rfl, HQ, rfl, rfl⟩ := hrel
          have a0 : (0 : Int) ≤ a := by omega
          by_cases hai : a < i
          · have a1 : (a : Int) < i := by omega
            have hlo := HK4.out.look (t := (s, (a : Int), true)) ⟨HTw.out.1, by show (-9223372036854775808 : Int) ≤ a ∧ (a : Int) ≤ 9223372036854775807; omega⟩
            unfold knA knV at hlo
            simp only at hlo
            cases hMa : M (s, (a : Int), true) with
            | none =>
              rw [hMa] at hlo
              simp only [Option.getD_none, Option.isSome_none] at hlo
              have HQ2 := Lib.hid (show ∀ q : Nat, q < a + 1 → M (s, (q : Int), true) = none from fun q hq => by
                by_cases e : q = a
                · rw [e]; exact hMa
                · exact HQ.out q (by omega))
              obtain ⟨g2, hg2⟩ : ∃ g2, a + 1 + g2 = i := ⟨i - a - 1, by omega⟩
              clear hMa HQ
              go_wp2
              go_roundg g2
              case measure => omega
              case rel => exact ⟨a + 1, hg2, by go_num, HQ2, by first | rfl | trivial, by first | rfl | trivial⟩
            | some d =>
              rw [hMa] at hlo
              simp only [Option.getD_some, Option.isSome_some] at hlo
              have HN5 := Lib.hid (HNm.out.hit HTw.out ⟨rfl, a, by show (a : Int) < i; omega, by show (M (s, (a : Int), true)).isSome = true; rw [hMa]; rfl⟩ HTd.out)
              have HBl2 := Lib.hid ((Below.refl wr.heap.size wr).alloc (Nat.le_refl _) (.cells #[.string s] 9))
              have HOa := Lib.hid (rowO_below HO4.out HBl2.out)
              have HNa := Lib.hid (news_at (w := wr) (w2 := wr.alloc (.cells #[.string s] 9)) (cs := encStr s) (ty := 9) rfl)
              have HMl := Lib.hid (show names.length + 1 ≤ maxLen by have := HLc3.out; unfold maxLen; omega)
              have HBy := Lib.hid (show (names.length + 1) * 16 ≤ 140737488355328 by have := HLc3.out; omega)
              have HRz := Lib.hid (show r0 + 1 ≤ (wr.alloc (.cells #[.string s] 9)).heap.size from Nat.le_trans HR4.out HBl2.out.size)
              have H1s := Lib.hid (one_str s)
              clear hMa HQ
              go_wp2_with (at_builtin; (refine wpList_append_at6 rfl _ _ 90 rfl (r0 + 1) 9 i0 (.string ⟨#[]⟩) 1 16 Tryz.underlying90 hi0 hz0 hz1 hz2 rfl (by decide) (.slice A names.length ca) names.length (names.flatMap encStr) ?hs HOa.out ⟨wr.heap.size, 0, none⟩ 1 1 (encStr s) ?hx rfl HNa.out H1s.out HMl.out HBy.out HRz.out ?_; (case hs => rfl); (case hx => rfl); intro v' w7 hr hg hv'))
              obtain ⟨Aw, ew, rfl⟩ := ownO_slice hr
              have hgb : ∀ g, (Value.slice A names.length ca).ownBlock = some g → r0 + 1 ≤ g := own_ge HOa.out
              have HB7 := Lib.hid ((HB4.out.trans (HBl2.out.mono HB4.out.size)).grown hg (HB4.out.trans (HBl2.out.mono HB4.out.size)).size (fun g e => by have := hgb g e; have := HSr.out; omega))
              have HX7 := Lib.hid ((hg.block _ (by have := (Array.getElem?_eq_some_iff.1 HX4.out).1; have := HBl2.out.size; omega) (fun e => by have := hgb _ e.symm; have := HSr.out; omega)).trans ((HBl2.out.block _ (Array.getElem?_eq_some_iff.1 HX4.out).1).trans HX4.out))
              have HRg7 := Lib.hid (show RangeN w7 b r0 n D _ cnt' from World.ranges.kept (RangeN.below HRg4.out HBl2.out) hg (fun e => by have := hgb _ e.symm; have := HBn.out; have := HSr.out; omega) (fun e => by have := hgb _ e.symm; omega))
              have HO7 := Lib.hid (show w7.ownsRow (r0 + 1) 9 1 (.slice Aw (names.length + 1) ew) (names ++ [s]).length ((names ++ [s]).flatMap encStr) from by
                rw [List.length_append, List.flatMap_append, List.flatMap_cons, List.flatMap_nil, List.append_nil]; exact hr)
              have HR7 := Lib.hid (Nat.le_trans HRz.out hg.size)
              clear hr hg hv' hgb
              go_wp2
              go_roundg cnt'
              case measure => exact HLt.out
              case rel => exact ⟨_, names ++ [s], HRg7, HSub3, HN5, Lib.hid (by have := HLc3.out; simp; omega), Lib.hid ⟨Aw, ew, by simp, HO7.out⟩, HB7, HX7, HR7⟩
          · have hai2 : a = i := by omega
            have a1 : ¬ (a : Int) < i := by omega
            have HN5 := Lib.hid (HNm.out.miss HTw.out (fun h => by
              obtain ⟨_, q, hq, hsm⟩ := h
              have hq : (q : Int) < i := hq
              have := HQ.out q (by omega)
              simp only at hsm
              rw [this] at hsm
              cases hsm))
            clear hai hai2
            go_wp2
            go_roundg cnt'
            case measure => exact HLt.out
            case rel => exact ⟨_, names, HRg4, HSub3, HN5, Lib.hid (by have := HLc3.out; omega), Lib.hid ⟨A, ca, rfl, HO4.out⟩, HB4, HX4, HR4⟩
end Go.Proofs.YtjngkifoaljmaaaGreatDoor
namespace Go.Proofs.YtjngkifoaljmaaaGreatDoor
set_option maxRecDepth 100000
open Go.RowKit
set_option linter.unusedVariables false
/-- none of them is less -/
def LeastN (names : List ByteArray) (x : ByteArray) : Prop := x ∈ names ∧ ∀ y ∈ names, ¬ y.data.toList < x.data.toList
theorem ba_ext {x y : ByteArray} (h : x.data.toList = y.data.toList) : x = y := ByteArray.ext (Array.toList_inj.1 h)
theorem lst_tri {a b : List UInt8} (h1 : ¬ a < b) (h2 : a ≠ b) : b < a := by
  rcases Classical.em (b < a) with h | h
  · exact h
  · exact absurd (List.le_antisymm (List.not_lt.1 h) (List.not_lt.1 h1)) h2
theorem LeastN.one (x : ByteArray) : LeastN [x] x := ⟨by simp, fun y hy => by
  rw [List.mem_singleton.1 hy]
  exact List.lt_irrefl _⟩
theorem LeastN.more {names : List ByteArray} {x y : ByteArray} (h : LeastN names x) : LeastN (names ++ [y]) (Lib.minS x y) := by
  unfold Lib.minS
  split
  · rename_i hc
    refine ⟨List.mem_append_left _ h.1, fun z hz => ?_⟩
    rcases List.mem_append.1 hz with hz | hz
    · exact h.2 z hz
    · rw [List.mem_singleton.1 hz]
      rcases hc with hc | hc
      · exact fun h2 => List.lt_irrefl _ (List.lt_trans hc h2)
      · rw [hc]; exact List.lt_irrefl _
  · rename_i hc
    have h1 : ¬ x.data.toList < y.data.toList := fun e => hc (.inl e)
    have h2 : x.data.toList ≠ y.data.toList := fun e => hc (.inr e)
    refine ⟨List.mem_append_right _ (by simp), fun z hz => ?_⟩
    rcases List.mem_append.1 hz with hz | hz
    · exact fun h3 => h.2 z hz (List.lt_trans h3 (lst_tri h1 h2))
    · rw [List.mem_singleton.1 hz]; exact List.lt_irrefl _
theorem LeastN.eq {names names' : List ByteArray} {x y : ByteArray} (h : LeastN names x) (h' : LeastN names' y) (hs : ∀ s, s ∈ names ↔ s ∈ names') : x = y := by
  refine ba_ext ?_
  rcases Classical.em (x.data.toList = y.data.toList) with e | e
  · exact e
  · exact absurd (lst_tri (h'.2 x ((hs x).1 h.1)) e) (h.2 y ((hs y).2 h'.1))
theorem take_snoc {α : Type} {xs : List α} {k : Nat} (hk : k < xs.length) : xs.take (k + 1) = xs.take k ++ [xs[k]] := List.take_succ_eq_append_getElem hk
theorem flatStr_get {names : List ByteArray} {k : Nat} (hk : k < names.length) : (names.flatMap encStr)[k]? = some (.string names[k]) := by
  have h := flat_get (enc := encStr) (sz := 1) (fun x => rfl) (i := 0) hk (by omega)
  rw [Nat.mul_one, Nat.add_zero] at h
  exact h
set_option maxHeartbeats 2000000 in
theorem min_any (names : List ByteArray) (base n : Nat) (v : Value) (w : World) (hn : names.length = n) (h0 : 0 < n) (hm : n ≤ 100000000) (hN : NamesAt w base names v) :
    Calls Tryz.prog 45 #[v] w fun e w' => ∃ x, e = .returned (.string x) ∧ LeastN names x ∧ w = w' := by
  obtain ⟨A, c, rfl, hown⟩ := hN
  rw [hn] at hown ⊢
  have HN := Lib.hid hn
  have hmin : ∀ (w : World) (ts : Array TypeId) (t : TypeId) (x y : ByteArray), (Builtin.min_ ts t #[.string x, .string y]).run Tryz.prog w = .ok (.string (Lib.minS x y)) w := Lib.run_min_strs
  rcases hown.2 with ⟨h1, h2⟩ | ⟨g, cap, cur, h1, _, h3, _⟩
  · omega
  cases h1
  have HC := Lib.hid (show ∀ (k : Nat) (hk : k < names.length), w.cell? ⟨g, 0 + k, none⟩ = some (.string names[k]) from fun k hk => by
    have := hown.cells (g := g) rfl k _ (flatStr_get hk)
    rwa [addO] at this)
  have HL0 := Lib.hid (show 0 < names.length by rw [HN.out]; exact h0)
  have c0 := HC.out 0 HL0.out
  rw [Nat.add_zero] at c0
  clear hown h3 hn
  go_enter Tryz.func45, Tryz.ntmps45
  have hlt1 : ¬ (n : Int) < 1 := by omega
  have hn0 : (0 : Int) < n := by omega
  go_wp2
  go_loopw [3, 4] (fun m i wr => ∃ (k : Nat) (x : ByteArray), 0 < k ∧ k ≤ n ∧ i = .int .i64 k ∧ m = .string x ∧ Hid (LeastN (names.take k) x) ∧ wr = w) (fun _ i _ => n - (intOf i).toNat)
  case atStart => exact ⟨1, _, by omega, by omega, rfl, rfl, Lib.hid (by
    rw [take_snoc (show 0 < names.length by have := HN.out; omega)]
    exact LeastN.one _), rfl⟩
  case round =>
    obtain ⟨k, x, hk0, hk, rfl, rfl, HL, rfl⟩ := hrel
    by_cases hlt : k < n
    · have k0 : (0 : Int) ≤ k := by omega
      have k1 : (k : Int) < n := by omega
      have HLk := Lib.hid (show k < names.length by rw [HN.out]; exact hlt)
      have ck := HC.out k HLk.out
      rw [Nat.zero_add] at ck
      have HL2 := Lib.hid (show LeastN (names.take (k + 1)) (Lib.minS x (names[k]'HLk.out)) from by rw [take_snoc HLk.out]; exact HL.out.more)
      generalize names[k]'HLk.out = y at *
      go_wp2
      go_roundw
      case rel => exact ⟨k + 1, _, by omega, by omega, by go_num, rfl, HL2, by first | rfl | trivial⟩
      case measure => simp [intOf]; omega
    · have hkn : k = n := by omega
      have k1 : ¬ (k : Int) < n := by omega
      have HL2 := Lib.hid (show LeastN names x from by have h := HL.out; rw [hkn, ← HN.out, List.take_length] at h; exact h)
      clear hkn hlt
      go_wp2
      go_ret
      exact ⟨x, rfl, HL2.out, rfl⟩
end Go.Proofs.YtjngkifoaljmaaaGreatDoor
namespace Go.Proofs.YtjngkifoaljmaaaGreatDoor
set_option maxRecDepth 100000
open Go.RowKit Go.Maps
set_option linter.unusedVariables false
abbrev RangeU (w : World) (b r n : Nat) (D : DataW Unit) (left : Lit → Bool) (cnt : Nat) : Prop := w.ranges Tryz.prog 111 (plainElem Tryz.prog 3) b r n D left cnt
theorem RangeU.below {w w' : World} {b r n cnt : Nat} {D : DataW Unit} {left : Lit → Bool} (h : RangeU w b r n D left cnt) (k : Below w.heap.size w w') : RangeU w' b r n D left cnt :=
  World.ranges.kept h (grown_below' k) (by simp) (by simp)
/-- a use that means nothing -/
def voidP (M : Kn → Option Int) (nb : Nat) (t : Us) : Prop := meanM M nb t.2 t.1 = none
def NmU (D : DataW Unit) (M : Kn → Option Int) (nb : Nat) (left : Lit → Bool) (names : List ByteArray) : Prop :=
  ∀ s, s ∈ names ↔ ∃ t, UsW t ∧ t.1 = s ∧ voidP M nb t ∧ has D (uKey t) = true ∧ left (uKey t) = false
theorem NmU.start (D : DataW Unit) (M : Kn → Option Int) (nb : Nat) : NmU D M nb (has D) [] := fun s =>
  ⟨fun h => (by cases h), fun ⟨t, _, _, _, h1, h2⟩ => (by rw [h1] at h2; cases h2)⟩
theorem leftU_next {left : Lit → Bool} {t u : Us} (ht : UsW t) (hu : UsW u) : (left (uKey u) && !(uKey u).sameKey (uKey t)) = false ↔ (left (uKey u) = false ∨ u = t) := by
  rw [Bool.and_eq_false_iff, Bool.not_eq_false']
  constructor
  · rintro (h | h)
    · exact .inl h
    · exact .inr (uKey_inj hu ht (WideAt.sameKey_eq h))
  · rintro (h | rfl)
    · exact .inl h
    · exact .inr (WideAt.sameKey_self (isKey_us u))
theorem NmU.miss {D : DataW Unit} {M : Kn → Option Int} {nb : Nat} {left : Lit → Bool} {names : List ByteArray} {t : Us} (h : NmU D M nb left names) (ht : UsW t) (hm : ¬ voidP M nb t) : NmU D M nb (fun z => left z && !z.sameKey (uKey t)) names := fun s => by
  rw [h s]
  constructor
  · rintro ⟨u, h1, h2, h3, h4, h5⟩
    exact ⟨u, h1, h2, h3, h4, (leftU_next ht h1).2 (.inl h5)⟩
  · rintro ⟨u, h1, h2, h3, h4, h5⟩
    rcases (leftU_next ht h1).1 h5 with h | rfl
    · exact ⟨u, h1, h2, h3, h4, h⟩
    · exact absurd h3 hm
theorem NmU.hit {D : DataW Unit} {M : Kn → Option Int} {nb : Nat} {left : Lit → Bool} {names : List ByteArray} {t : Us} (h : NmU D M nb left names) (ht : UsW t) (hm : voidP M nb t) (hd : has D (uKey t) = true) : NmU D M nb (fun z => left z && !z.sameKey (uKey t)) (names ++ [t.1]) := fun s => by
  rw [List.mem_append, List.mem_singleton, h s]
  constructor
  · rintro (⟨u, h1, h2, h3, h4, h5⟩ | rfl)
    · exact ⟨u, h1, h2, h3, h4, (leftU_next ht h1).2 (.inl h5)⟩
    · exact ⟨t, ht, rfl, hm, hd, (leftU_next ht ht).2 (.inr rfl)⟩
  · rintro ⟨u, h1, h2, h3, h4, h5⟩
    rcases (leftU_next ht h1).1 h5 with h | rfl
    · exact .inl ⟨u, h1, h2, h3, h4, h⟩
    · exact .inr h2.symm
def voidsP (M : Kn → Option Int) (nb : Nat) (U : Us → Option Int) (s : ByteArray) : Prop := ∃ i : Int, UsW (s, i) ∧ (U (s, i)).isSome = true ∧ meanM M nb i s = none
abbrev AtU (D : DataW Unit) (U : Us → Option Int) : Prop := ∀ t, UsW t → (U t = none → has D (uKey t) = false) ∧ ∀ c, U t = some c → has D (uKey t) = true ∧ ∀ z, D.atKey (uKey t) z = .lit (.int .i64 c)
theorem voids_iff {D : DataW Unit} {M : Kn → Option Int} {nb : Nat} {U : Us → Option Int} {left : Lit → Bool} {names : List ByteArray} (h : NmU D M nb left names) (hl : ∀ kl, left kl = false) (hat : AtU D U) : ∀ s, s ∈ names ↔ voidsP M nb U s := fun s => by
  rw [h s]
  constructor
  · rintro ⟨⟨s', i⟩, h1, rfl, h3, h6, _⟩
    refine ⟨i, h1, ?_, h3⟩
    cases hm : U (s', i) with
    | none => rw [(hat _ h1).1 hm] at h6; cases h6
    | some c => rfl
  · rintro ⟨i, h1, h2, h3⟩
    obtain ⟨c, hc⟩ := Option.isSome_iff_exists.1 h2
    exact ⟨(s, i), h1, rfl, h3, ((hat _ h1).2 c hc).1, hl _⟩
theorem UsK.low {w w1 w2 : World} {b n : Nat} {U : Us → Option Int} (h : UsK w1 b n U) (h1 : Below w.heap.size w w1) (h2 : Below w.heap.size w w2) (hb : b < w.heap.size) : UsK w2 b n U := by
  obtain ⟨D, ⟨es, clock, q1, q2⟩, q3⟩ := h
  exact ⟨D, ⟨es, clock, ((h2.block b hb).trans (h1.block b hb).symm).trans q1, q2⟩, q3⟩
set_option maxHeartbeats 4000000 in
theorem meaningless_any (nb b n : Nat) (hnb : nb ≤ 1000000) (M : Kn → Option Int) (u m : Nat) (hm : m < 1000000) (U : Us → Option Int) (w : World) (hK : KnK w b n M) (hU : UsK w u m U) :
    Calls Tryz.prog 46 #[.agg #[.int .i64 nb, .map (some b)], .map (some u)] w fun e w' => ∃ names v, e = .returned v ∧ NamesAt w' w.heap.size names v ∧ names.length ≤ m ∧ (∀ s, s ∈ names ↔ voidsP M nb U s) ∧ Below w.heap.size w w' := by
  have hb0 := (Below.refl w.heap.size w).alloc (Nat.le_refl _) (.cells #[.int .i64 nb, .map (some b)] 87)
  have HB0 := Lib.hid hb0
  have HK0 := Lib.hid hK
  have HBn := Lib.hid hK.lt
  have HUn := Lib.hid hU.lt
  obtain ⟨D, hown, hmap, hdom, hat⟩ := hU.below hb0
  have HDm := Lib.hid hdom
  have HAt := Lib.hid (show AtU D U from hat)
  have HSz := Lib.hid hown.size_le
  have HNb := Lib.hid hnb
  have HX0 := Lib.hid (heap_alloc_new w (.cells #[.int .i64 nb, .map (some b)] 87))
  obtain ⟨i0, hi0, hz0, hz1, hz2⟩ := info_parts info_str
  clear hK hU hb0 hmap hdom hat hnb
  go_enter Tryz.func46, Tryz.ntmps46
  obtain ⟨x0, x1, xf⟩ := row2 HX0.out
  go_wp2_with (at_range; refine wpList_range_own _ rfl _ 94 rfl 111 3 lawUs Tryz.underlying94 _ u m D rfl hown ?_; intro w2 hrg0 hg0 hs0)
  try go_frame
  have B2 := (below_of_grown' hg0)
  have HB2 := Lib.hid (HB0.out.trans (B2.mono HB0.out.size))
  have HG0 := Lib.hid hrg0
  have HX2 := Lib.hid ((B2.block _ (Array.getElem?_eq_some_iff.1 HX0.out).1).trans HX0.out)
  have HSr := Lib.hid (show w.heap.size < (w.alloc (.cells #[.int .i64 nb, .map (some b)] 87)).heap.size by simp)
  have HS2 := Lib.hid hs0
  clear B2 hg0 hs0 hrg0 hown x0 x1 xf
  generalize (w.alloc (.cells #[.int .i64 nb, .map (some b)] 87)).heap.size = r0 at *
  go_loopg [5] (Maps.size D) (fun cnt v wr => ∃ (left : Lit → Bool) (names : List ByteArray), Hid (RangeU wr u r0 m D left cnt) ∧ Hid (∀ kl, left kl = true → has D kl = true) ∧ Hid (NmU D M nb left names) ∧ Hid (names.length + cnt ≤ m) ∧ Hid (NamesAt wr (r0 + 1) names v) ∧ Hid (Below w.heap.size w wr) ∧ Hid (wr.heap[w.heap.size]? = some (.cells #[.int .i64 nb, .map (some b)] 87 (0, 0))) ∧ Hid (r0 + 1 ≤ wr.heap.size))
  case atStart => exact ⟨_, [], HG0, Lib.hid (fun _ h => h), Lib.hid (NmU.start D M nb), Lib.hid (by simpa using HSz.out), Lib.hid ⟨none, 0, rfl, World.ownsRow_nil _ _ _ _⟩, HB2, HX2, Lib.hid (by have := HS2.out; omega)⟩
  case round =>
    obtain ⟨left, names, HRg, HSub, HNm, HLc, HNa, HB, HX, HR1⟩ := hrel
    clear HG0 HB2 HX2 HS2
    have hrg := HRg.out
    go_wp2_with (at_next; refine wpList_next_ranges _ rfl _ rfl 111 lawUs (plainElem Tryz.prog 3) (fun x : Value => x) (fun x : Value => x) (fun key kl _ => ⟨key, rfl⟩) (fun v y _ => ⟨v, rfl⟩) u r0 m D left gk rfl hrg ?_ ?_)
    · intro _ hl0
      have HC := Lib.hid (voids_iff HNm.out hl0 HAt.out)
      obtain ⟨A, c, rfl, hown⟩ := HNa.out
      have HOw := Lib.hid hown
      clear hrg hl0 hown
      go_wp2
      go_ret
      exact ⟨names, _, rfl, ⟨A, c, rfl, kn_base HOw.out (by have := HSr.out; omega)⟩, by have := HLc.out; omega, HC.out, HB.out⟩
    · intro x c kl y ps w3 cnt' hkey hlk hv hat' hrg1 hlt hg1 hs1 hen
      have hlk2 := HSub.out _ hlk
      obtain ⟨t, ht, rfl⟩ := HDm.out _ hlk2
      have hx := lawUs.inj hkey (uKey_of ht)
      subst hx
      have HB3 := Lib.hid (HB.out.grown hg1 HB.out.size (fun j hj => by cases hj; have := HSr.out; omega))
      have HX3 := Lib.hid ((hg1.block _ (Array.getElem?_eq_some_iff.1 HX.out).1 (by intro e; cases e; have := HSr.out; omega)).trans HX.out)
      obtain ⟨A, ca, rfl, hown⟩ := HNa.out
      have HO3 := Lib.hid (hown.kept hg1 (by
        cases hob : (Value.slice A names.length ca).ownBlock with
        | none => exact .inl rfl
        | some g => exact .inr (fun e => by cases e; have := (ownO_lt hown hob).2.1; omega)))
      have HR3 := Lib.hid (show r0 + 1 ≤ w3.heap.size from Nat.le_trans HR1.out hg1.size)
      have HRg3 := Lib.hid hrg1
      have HLt := Lib.hid hlt
      have HTw := Lib.hid ht
      have HTd := Lib.hid hlk2
      have HSub3 := Lib.hid (show ∀ kl, (left kl && !kl.sameKey (uKey t)) = true → has D kl = true from fun kl h => HSub.out kl (by simp only [Bool.and_eq_true] at h; exact h.1))
      have HLc3 := Lib.hid (show names.length + 1 + cnt' ≤ m by have := HLc.out; omega)
      clear hkey hlk hlk2 hv hat' hrg1 hlt hg1 hs1 ht hrg HB HX HNa HR1 HRg HSub HLc hown
      obtain ⟨s, i⟩ := t
      unfold usV at hen
      simp only at hen
      have HBl := Lib.hid ((Below.refl w3.heap.size w3).alloc (Nat.le_refl _) (.cells #[.string s, .int .i64 i] 111))
      have HB4 := Lib.hid (HB3.out.trans (HBl.out.mono HB3.out.size))
      have HX4 := Lib.hid ((HBl.out.block _ (Array.getElem?_eq_some_iff.1 HX3.out).1).trans HX3.out)
      have HO4 := Lib.hid (rowO_below HO3.out HBl.out)
      have HRg4 := Lib.hid (RangeU.below HRg3.out HBl.out)
      have HR4 := Lib.hid (Nat.le_trans HR3.out HBl.out.size)
      have HK4 := Lib.hid (HK0.out.low (Below.refl _ _) HB4.out HBn.out)
      have HY4 := Lib.hid (heap_alloc_new w3 (.cells #[.string s, .int .i64 i] 111))
      clear HB3 HX3 HO3 HRg3 HR3
      go_upto_region 5 with fail
      clear hen
      generalize (w3.alloc (.cells #[.string s, .int .i64 i] 111)) = W at *
      generalize w3.heap.size = kb at *
      obtain ⟨y0, y1, yf⟩ := row2 HY4.out
      obtain ⟨x0, x1, xf⟩ := row2 HX4.out
      go_wp2_with fail
      refine (meaning_any b n nb HNb.out M i (by have := HTw.out.2; unfold IsI; omega) s HTw.out.1 W HK4.out).mono ?_
      rintro e w5 ⟨rfl, hb5⟩
      obtain ⟨da, dj, hd⟩ := defV_form (meanM M nb i s)
      rw [hd]
      have HB5 := Lib.hid (HB4.out.trans (hb5.mono HB4.out.size))
      have HBd := Lib.hid ((Below.refl w5.heap.size w5).alloc (Nat.le_refl _) (.cells #[.int .i64 da, .int .i64 dj] 27))
      have HBw := Lib.hid (hb5.trans (HBd.out.mono hb5.size))
      have HB6 := Lib.hid (HB4.out.trans (HBw.out.mono HB4.out.size))
      have HX6 := Lib.hid ((HBw.out.block _ (Array.getElem?_eq_some_iff.1 HX4.out).1).trans HX4.out)
      have HO6 := Lib.hid (rowO_below HO4.out HBw.out)
      have HRg6 := Lib.hid (RangeU.below HRg4.out HBw.out)
      have HR6 := Lib.hid (Nat.le_trans HR4.out HBw.out.size)
      have HY6 := Lib.hid ((HBw.out.block _ (Array.getElem?_eq_some_iff.1 HY4.out).1).trans HY4.out)
      clear hb5 hd HB5 HBd HB4 HX4 HO4 HRg4 HR4 HK4 HY4 x0 x1 xf y0 y1 yf
      cases hmn : meanM M nb i s with
      | some r =>
        have HN5 := Lib.hid (HNm.out.miss HTw.out (fun h => by unfold voidP at h; simp only at h; rw [hmn] at h; cases h))
        clear hmn
        go_wp2
        go_roundg cnt'
        case measure => exact HLt.out
        case rel => exact ⟨_, names, HRg6, HSub3, HN5, Lib.hid (by have := HLc3.out; omega), Lib.hid ⟨A, ca, rfl, HO6.out⟩, HB6, HX6, HR6⟩
      | none =>
        have HN5 := Lib.hid (HNm.out.hit HTw.out (by unfold voidP; exact hmn) HTd.out)
        clear hmn
        go_upto_region 7 with fail
        clear HBw HBl
        generalize (w5.alloc (.cells #[.int .i64 da, .int .i64 dj] 27)) = wz at *
        have HBl2 := Lib.hid ((Below.refl wz.heap.size wz).alloc (Nat.le_refl _) (.cells #[.string s] 9))
        have HOa := Lib.hid (rowO_below HO6.out HBl2.out)
        have HNa := Lib.hid (news_at (w := wz) (w2 := wz.alloc (.cells #[.string s] 9)) (cs := encStr s) (ty := 9) rfl)
        have HMl := Lib.hid (show names.length + 1 ≤ maxLen by have := HLc3.out; unfold maxLen; omega)
        have HBy := Lib.hid (show (names.length + 1) * 16 ≤ 140737488355328 by have := HLc3.out; omega)
        have HRz := Lib.hid (show r0 + 1 ≤ (wz.alloc (.cells #[.string s] 9)).heap.size from Nat.le_trans HR6.out HBl2.out.size)
        have H1s := Lib.hid (one_str s)
        obtain ⟨y0, y1, yf⟩ := row2 HY6.out
        go_wp2_with (at_builtin; (refine wpList_append_at6 rfl _ _ 90 rfl (r0 + 1) 9 i0 (.string ⟨#[]⟩) 1 16 Tryz.underlying90 hi0 hz0 hz1 hz2 rfl (by decide) (.slice A names.length ca) names.length (names.flatMap encStr) ?hs HOa.out ⟨wz.heap.size, 0, none⟩ 1 1 (encStr s) ?hx rfl HNa.out H1s.out HMl.out HBy.out HRz.out ?_; (case hs => rfl); (case hx => rfl); intro v' w7 hr hg hv'))
        obtain ⟨Aw, ew, rfl⟩ := ownO_slice hr
        have hgb : ∀ g, (Value.slice A names.length ca).ownBlock = some g → r0 + 1 ≤ g := own_ge HOa.out
        have HB7 := Lib.hid ((HB6.out.trans (HBl2.out.mono HB6.out.size)).grown hg (HB6.out.trans (HBl2.out.mono HB6.out.size)).size (fun g e => by have := hgb g e; have := HSr.out; omega))
        have HX7 := Lib.hid ((hg.block _ (by have := (Array.getElem?_eq_some_iff.1 HX6.out).1; have := HBl2.out.size; omega) (fun e => by have := hgb _ e.symm; have := HSr.out; omega)).trans ((HBl2.out.block _ (Array.getElem?_eq_some_iff.1 HX6.out).1).trans HX6.out))
        have HRg7 := Lib.hid (show RangeU w7 u r0 m D _ cnt' from World.ranges.kept (RangeU.below HRg6.out HBl2.out) hg (fun e => by have := hgb _ e.symm; have := HUn.out; have := HSr.out; omega) (fun e => by have := hgb _ e.symm; omega))
        have HO7 := Lib.hid (show w7.ownsRow (r0 + 1) 9 1 (.slice Aw (names.length + 1) ew) (names ++ [s]).length ((names ++ [s]).flatMap encStr) from by
          rw [List.length_append, List.flatMap_append, List.flatMap_cons, List.flatMap_nil, List.append_nil]; exact hr)
        have HR7 := Lib.hid (Nat.le_trans HRz.out hg.size)
        clear hr hg hv' hgb
        go_wp2
        go_roundg cnt'
        case measure => exact HLt.out
        case rel => exact ⟨_, names ++ [s], HRg7, HSub3, HN5, Lib.hid (by have := HLc3.out; simp; omega), Lib.hid ⟨Aw, ew, by simp, HO7.out⟩, HB7, HX7, HR7⟩
end Go.Proofs.YtjngkifoaljmaaaGreatDoor
namespace Go.Proofs.YtjngkifoaljmaaaGreatDoor
set_option maxRecDepth 100000
open Go.RowKit Go.Maps
set_option linter.unusedVariables false
theorem lawUsK : WideMaps.KeyLaw Tryz.prog 111 := deep_law_laid laidAllO (m := 2) (by omega) rowUs (by kernel_rfl) wideUs
theorem UsK.same {w w2 : World} {b n : Nat} {U : Us → Option Int} (h : UsK w b n U) (e : w2.heap[b]? = w.heap[b]?) : UsK w2 b n U := by
  obtain ⟨D, ⟨es, clock, q1, q2⟩, q3⟩ := h
  exact ⟨D, ⟨es, clock, e.trans q1, q2⟩, q3⟩
theorem UsK.mono {w : World} {b n m : Nat} {U : Us → Option Int} (h : UsK w b n U) (hn : n ≤ m) : UsK w b m U := by
  obtain ⟨D, h1, h2⟩ := h
  exact ⟨D, h1.mono hn, h2⟩
theorem set_same {w : World} {b : Nat} {o o' : Obj} (hb : w.heap[b]? = some o) : (ChangeMaps.setBlock w b o').heap[b]? = some o' := (MapKept.heap_set hb).1
theorem set_grown {w : World} {b : Nat} {o o' : Obj} (hb : w.heap[b]? = some o) : w.grownBy (ChangeMaps.setBlock w b o') (some b) :=
  ⟨rfl, rfl, rfl, by simp [ChangeMaps.setBlock], fun k _ hne => (MapKept.heap_set hb).2 k (fun e => hne (by rw [e]))⟩
/-- the first half makes the entry, if there is none; the second one sets it -/
theorem UsK.entry {w : World} {b n : Nat} {U : Us → Option Int} (h : UsK w b n U) (hn : n < 1000000) {t : Us} (ht : UsW t) :
    ∃ (v0 : Value) (st : Nat) (w1 : World), (Instr.mapEntry 94 (.map (some b)) (usV t)).run Tryz.prog w = .ok (.tuple #[v0, goInt st]) w1 ∧ w.grownBy w1 (some b) ∧ w1.heap.size = w.heap.size ∧ (∃ U1, UsK w1 b (n + 1) U1 ∧ (U1 t).getD 0 = (U t).getD 0) ∧
      ∀ (w2 : World) (c : Int), w2.heap[b]? = w1.heap[b]? → 0 ≤ c → c ≤ 1000000 → ∃ w3, (Instr.entryStore 94 (.map (some b)) (goInt st) (.int .i64 c)).run Tryz.prog w2 = .ok () w3 ∧ UsK w3 b (n + 1) (fun u => if u = t then some c else U u) ∧ w2.grownBy w3 (some b) ∧ w3.heap.size = w2.heap.size := by
  have h' := h
  obtain ⟨D, ⟨es, clock, hb, F, hsz, hD⟩, hmap, hdom, hat⟩ := h'
  obtain ⟨v0, st, es1, clock1, hr, hv, hst⟩ := WideElems.entry_then_store lawUsK Tryz.underlying94 zeroIntO hb F (uKey_of ht)
  refine ⟨v0, st, _, hr, set_grown hb, by simp [ChangeMaps.setBlock], ?_, fun w2 c he h0 h1 => ?_⟩
  · rcases lawUsK.find w (uKey_of ht) es.toList F.keys with ⟨f1, f2⟩ | ⟨j, e0, f1, f2, f3⟩
    · obtain ⟨w', hu, hU, _⟩ := h.put hn ht 0 (by omega) (by omega)
      have e1 : (Instr.mapEntry 94 (.map (some b)) (usV t)).run Tryz.prog w = .ok (.tuple #[.int .i64 0, goInt clock]) (ChangeMaps.setBlock w b (.map (es.push ⟨usV t, .int .i64 0, clock⟩) (clock + 1))) := by
        simp [Instr.mapEntry, run_underlying Tryz.underlying94, MapKept.run_getObj_map hb, lawUsK.check w false (uKey_of ht), f1, MapKept.run_setObj_map _ hb, Result.andThen, ChangeMaps.setBlock]
      have e2 : (Instr.mapUpdate 94 (.map (some b)) (usV t) (.int .i64 0)).run Tryz.prog w = .ok () (ChangeMaps.setBlock w b (.map (es.push ⟨usV t, .int .i64 0, clock⟩) (clock + 1))) := by
        simp [Instr.mapUpdate, run_underlying Tryz.underlying94, MapKept.run_getObj_map hb, lawUsK.check w false (uKey_of ht), f1, MapKept.run_setObj_map _ hb, Result.andThen, ChangeMaps.setBlock]
      rw [hr] at e1
      rw [hu] at e2
      have e3 := (Result.ok.inj e1).2
      have e4 := (Result.ok.inj e2).2
      refine ⟨_, by rw [e3, ← e4]; exact hU, ?_⟩
      have e5 : (Instr.lookup 94 (.map (some b)) (usV t) true).run Tryz.prog w = .ok (.tuple #[.int .i64 0, .bool false]) w := by
        simp [Instr.lookup, run_underlying Tryz.underlying94, MapKept.run_getObj_map hb, lawUsK.check w _ (uKey_of ht), f1, Result.andThen]
      rw [h.look ht] at e5
      have e6 := (Result.ok.inj e5).1
      unfold usA at e6
      simp only [Value.tuple.injEq, Array.mk.injEq, List.cons.injEq, Value.int.injEq, true_and] at e6
      rw [e6.1]
      simp
    · have hj : es[j]? = some e0 := by simpa using f2
      have hsame : es.modify j (fun e => { e with key := usV t }) = es := by
        apply Array.ext'
        rw [Array.toList_modify, ChangeMaps.modify_eq_set _ _ _ _ f2]
        have : ({ e0 with key := usV t } : MapEntry) = e0 := by rw [← f3]
        rw [this]
        exact WideElems.set_self _ _ _ f2
      have e1 : (Instr.mapEntry 94 (.map (some b)) (usV t)).run Tryz.prog w = .ok (.tuple #[e0.val, goInt e0.born]) (ChangeMaps.setBlock w b (.map es clock)) := by
        simp [Instr.mapEntry, run_underlying Tryz.underlying94, MapKept.run_getObj_map hb, lawUsK.check w false (uKey_of ht), f1, hj, f3, lawUsK.stays w (uKey_of ht), hsame, MapKept.run_setObj_map _ hb, Result.andThen, ChangeMaps.setBlock]
      rw [hr] at e1
      have e3 := (Result.ok.inj e1).2
      exact ⟨U, by rw [e3]; exact (h.same ((set_same hb).trans hb.symm)).mono (Nat.le_succ n), rfl⟩
  · obtain ⟨es', clock', hrun, hupd⟩ := hst w2 (.int .i64 c) (he.trans (set_same hb))
    obtain ⟨w', hu, hU, _⟩ := h.put hn ht c h0 h1
    rw [hu] at hupd
    have e4 := (Result.ok.inj hupd).2
    have hb2 := he.trans (set_same hb)
    refine ⟨_, hrun, ?_, set_grown hb2, by simp [ChangeMaps.setBlock]⟩
    rw [e4] at hU
    exact hU.same ((set_same hb2).trans (set_same hb).symm)
end Go.Proofs.YtjngkifoaljmaaaGreatDoor
namespace Go.Proofs.YtjngkifoaljmaaaGreatDoor
set_option maxRecDepth 100000
open Go.RowKit Go.Maps
set_option linter.unusedVariables false
theorem UsK.look1 {w : World} {b n : Nat} {U : Us → Option Int} (h : UsK w b n U) {t : Us} (ht : UsW t) :
    (Instr.lookup 94 (.map (some b)) (usV t) false).run Tryz.prog w = .ok (.int .i64 ((U t).getD 0)) w := by
  obtain ⟨D, h1, _, _, h3⟩ := h
  obtain ⟨c, hrun, hat, _⟩ := h1.lookup_int lawUs Tryz.underlying94 Tryz.underlying3 (zeroIntO w) (uKey_of ht)
  obtain ⟨k1, k2⟩ := h3 t ht
  rw [hrun]
  cases hU : U t with
  | none =>
    rw [atKey_of_not_has (k1 hU)] at hat
    simp only [DataW.lit.injEq, Lit.int.injEq, true_and] at hat
    rw [← hat]; rfl
  | some d =>
    rw [(k2 d hU).2] at hat
    simp only [DataW.lit.injEq, Lit.int.injEq, true_and] at hat
    rw [← hat]; rfl
/-- one use more -/
def putU (U : Us → Option Int) (t : Us) : Us → Option Int := fun u => if u = t then some ((U t).getD 0 + 1) else U u
def usR (i : Int) (rs : List RelD) (U : Us → Option Int) : Nat → Us → Option Int
  | 0 => U
  | j + 1 => putU (usR i rs U j) ((rs.getD j (0, 0, ByteArray.empty, 0)).2.2.1, i)
def usL (l : List ObjD) : Nat → Us → Option Int
  | 0 => fun _ => none
  | k + 1 => usR (k : Int) (l.getD k dNo).rels (usL l k) (l.getD k dNo).rels.length
def sumR (l : List ObjD) (k : Nat) : Nat := ((l.take k).map fun d => d.rels.length).sum
theorem sumR_go {l : List ObjD} {k : Nat} (h : k < l.length) : sumR l (k + 1) = sumR l k + l[k].rels.length := by
  unfold sumR
  rw [List.take_succ_eq_append_getElem h, List.map_append, List.sum_append]
  simp
theorem sumR_le (l : List ObjD) (k : Nat) : sumR l k ≤ sumR l l.length := by
  unfold sumR
  rw [List.take_length]
  conv => rhs; rw [← List.take_append_drop k l]
  rw [List.map_append, List.sum_append]
  omega
theorem usL_go {l : List ObjD} {k : Nat} (h : k < l.length) : usL l (k + 1) = usR (k : Int) l[k].rels (usL l k) l[k].rels.length := by
  have e : l.getD k dNo = l[k] := by rw [List.getD_eq_getElem?_getD, List.getElem?_eq_getElem h]; rfl
  show usR (k : Int) (l.getD k dNo).rels (usL l k) (l.getD k dNo).rels.length = _
  rw [e]
theorem usR_go {i : Int} {rs : List RelD} {U : Us → Option Int} {j : Nat} (h : j < rs.length) : usR i rs U (j + 1) = putU (usR i rs U j) (rs[j].2.2.1, i) := by
  show putU (usR i rs U j) ((rs.getD j (0, 0, ByteArray.empty, 0)).2.2.1, i) = _
  rw [List.getD_eq_getElem?_getD, List.getElem?_eq_getElem h]; rfl
/-- counts are no more than what has gone by -/
def CntU (U : Us → Option Int) (N : Nat) : Prop := ∀ t, 0 ≤ (U t).getD 0 ∧ (U t).getD 0 ≤ N
theorem CntU.put {U : Us → Option Int} {N : Nat} (h : CntU U N) (t : Us) : CntU (putU U t) (N + 1) := fun u => by
  unfold putU
  split
  · have := h t; simp only [Option.getD_some]; omega
  · have := h u; omega
/-- the map as far as it is written -/
structure US (w0 : World) (N : Nat) (U : Us → Option Int) (w : World) : Prop where
  k : UsK w w0.heap.size N U
  c : CntU U N
  b : Below w0.heap.size w0 w
section
variable {w0 w w' : World} {N N' : Nat} {U U' : Us → Option Int}
theorem US.below (h : US w0 N U w) (hb : Below w.heap.size w w') : US w0 N U w' := ⟨h.k.below hb, h.c, h.b.trans (hb.mono h.b.size)⟩
theorem US.mono (h : US w0 N U w) (hn : N ≤ N') : US w0 N' U w := ⟨h.k.mono hn, fun t => by have := h.c t; omega, h.b⟩
end
set_option maxHeartbeats 4000000 in
theorem uses_any (l : List ObjD) (hW : ∀ d ∈ l, ObjW d) (A : Option Addr) (n c lo hi : Nat) (hn : l.length = n) (hmx : n ≤ 1000000) (hsum : sumR l l.length < 900000) (w : World) (hA : ObjsAt w lo hi l A) (hh : hi ≤ w.heap.size) :
    Calls Tryz.prog 47 #[.slice A n c] w fun e w' => e = .returned (.map (some w.heap.size)) ∧ UsK w' w.heap.size (sumR l l.length) (usL l n) ∧ Below w.heap.size w w' := by
  have HW := Lib.hid hW
  have HN := Lib.hid hn
  have HA := Lib.hid hA
  have HH := Lib.hid hh
  have HSum := Lib.hid hsum
  have HMx := Lib.hid hmx
  have HS0 := Lib.hid (show US w 0 (fun _ => none) (w.alloc (.map #[] 0)) from ⟨UsK.made w, fun t => by simp, (Below.refl _ _).alloc (Nat.le_refl _) _⟩)
  clear hW hn hA hh hsum
  have hmm := @run_makeMap Tryz.prog
  go_enter Tryz.func47, Tryz.ntmps47
  go_wp2
  go_loopw [11] (fun i wr => ∃ k : Nat, k ≤ n ∧ i = .int .i64 k ∧ Hid (US w (sumR l k) (usL l k) wr)) (fun i _ => n - (intOf i).toNat)
  case atStart => exact ⟨0, by omega, rfl, HS0⟩
  case round =>
    clear HS0
    obtain ⟨k, hk, rfl, HS⟩ := hrel
    by_cases hlt : k < n
    · have k0 : (0 : Int) ≤ k := by omega
      have k1 : (k : Int) < n := by omega
      have HLk := Lib.hid (show k < l.length by rw [HN.out]; exact hlt)
      obtain ⟨b, o, A1, n1, c1, A2, n2, c2, A3, n3, c3, A4, n4, c4, A5, n5, c5, rfl, hb, ⟨x0, x1, x2, x3, x4⟩, ho, -, hn4, -⟩ := (HA.out.below HH.out HS.out.b).at_ HLk.out
      have HSg := Lib.hid (sumR_go HLk.out)
      have HWg := Lib.hid (usL_go HLk.out)
      have HSl := Lib.hid (Nat.le_trans (Nat.le_of_eq HSg.out.symm) (sumR_le l (k + 1)))
      have HWk := Lib.hid (HW.out _ (List.getElem_mem HLk.out)).rels
      obtain ⟨f1, f2, f3, f4, f5, f6, f7, f8, f9, f10, es, he, -, -, -, hrow, -, -⟩ := ho
      simp only [Value.agg.injEq, Array.mk.injEq, List.cons.injEq, Value.slice.injEq, and_true] at he
      obtain ⟨-, -, -, ⟨e41, -, -⟩, -⟩ := he
      subst e41
      have HRw := Lib.hid (show RowC w lo hi A4 _ from hrow.move (Nat.le_refl _) (Nat.le_refl _) (fun b _ h2 => (HS.out.b.block b (by have := HH.out; omega)).symm))
      have HN4 := Lib.hid hn4
      have hn4b : n4 ≤ 1000000 := by have := HSl.out; have := HSum.out; rw [hn4] at *; omega
      have HS1 := Lib.hid (HS.out.below ((Below.refl wr.heap.size wr).alloc (Nat.le_refl _) (.cells #[.slice A1 n1 c1, .slice A2 n2 c2, .slice A3 n3 c3, .slice A4 n4 c4, .slice A5 n5 c5] 59)))
      generalize l[k].rels = rs at *
      clear hrow hn4
      go_wp2
      clear x0 x1 x2 x3 x4 HS
      generalize (wr.alloc (.cells #[.slice A1 n1 c1, .slice A2 n2 c2, .slice A3 n3 c3, .slice A4 n4 c4, .slice A5 n5 c5] 59)) = wk at *
      go_loopw [19] (fun i wr => ∃ j : Nat, j ≤ n4 ∧ i = .int .i64 j ∧ Hid (US w (sumR l k + j) (usR k rs (usL l k) j) wr)) (fun i _ => n4 - (intOf i).toNat)
      case atStart => exact ⟨0, by omega, rfl, HS1⟩
      case round =>
        clear HS1
        obtain ⟨j, hj, rfl, HS⟩ := hrel
        by_cases hlj : j < n4
        · have j0 : (0 : Int) ≤ j := by omega
          have j1 : (j : Int) < n4 := by omega
          have HLj := Lib.hid (show j < rs.length by rw [HN4.out]; exact hlj)
          have hsj := usR_go (i := (k : Int)) (U := usL l k) HLj.out
          obtain ⟨b3, o3, eA3, _, hb3, hc3⟩ := HRw.out.at_ (sz := 4) (fun x => rfl) (by omega) (by have := HLj.out; omega)
          subst eA3
          have hbk := HS.out.b.block b3 (by have := HH.out; omega)
          have hWj := HWk.out _ (List.getElem_mem HLj.out)
          have hcj := hc3 j HLj.out
          obtain ⟨ra, rk, nm, rd, hrj⟩ : ∃ ra rk nm rd, rs[j]'HLj.out = (ra, rk, nm, rd) := ⟨_, _, _, _, rfl⟩
          rw [hrj] at hWj hcj hsj
          have HSq := Lib.hid hsj
          have y0 := (World.cell?_of_block (a := ⟨b3, o3 + (j * 4 + 0), none⟩) hbk).trans (hcj 0 _ rfl)
          have y1 := (World.cell?_of_block (a := ⟨b3, o3 + (j * 4 + 1), none⟩) hbk).trans (hcj 1 _ rfl)
          have y2 := (World.cell?_of_block (a := ⟨b3, o3 + (j * 4 + 2), none⟩) hbk).trans (hcj 2 _ rfl)
          have y3 := (World.cell?_of_block (a := ⟨b3, o3 + (j * 4 + 3), none⟩) hbk).trans (hcj 3 _ rfl)
          rw [show o3 + (j * 4 + 0) = o3 + j * 4 by omega] at y0
          rw [show o3 + (j * 4 + 1) = o3 + j * 4 + 1 by omega] at y1
          rw [show o3 + (j * 4 + 2) = o3 + j * 4 + 2 by omega] at y2
          rw [show o3 + (j * 4 + 3) = o3 + j * 4 + 3 by omega] at y3
          have HUw := Lib.hid (show UsW (nm, (k : Int)) from ⟨hWj.2.2.1, by show (-9223372036854775808 : Int) ≤ k ∧ (k : Int) ≤ 9223372036854775807; have := HMx.out; omega⟩)
          have HS1 := Lib.hid (HS.out.below ((Below.refl wr.heap.size wr).alloc (Nat.le_refl _) (.cells #[.int .i64 ra, .int .i64 rk, .string nm, .int .i64 rd] 55)))
          have HBx := Lib.hid (heap_alloc_new wr (.cells #[.int .i64 ra, .int .i64 rk, .string nm, .int .i64 rd] 55))
          clear hWj hcj hrj hsj hbk hc3 HS
          go_upto_region 8 with fail
          clear y0 y1 y2 y3
          generalize (wr.alloc (.cells #[.int .i64 ra, .int .i64 rk, .string nm, .int .i64 rd] 55)) = wa at *
          generalize wr.heap.size = bx at *
          generalize usR (k : Int) rs (usL l k) j = U at *
          have hS := HS1.out.below (Below.drew (Below.refl wa.heap.size wa))
          obtain ⟨v0, st, wb, hme, hg1, hz1, ⟨U1, hU1, hU1e⟩, hes⟩ := hS.k.entry (by have := HSl.out; have := HSum.out; have := HN4.out; omega) HUw.out
          have hl0 := hS.k.look1 HUw.out
          have hl1 := hU1.look1 HUw.out
          rw [hU1e] at hl1
          have hcc := hS.c (nm, (k : Int))
          obtain ⟨wc, hst, hUc, hg2, hz2⟩ := hes wb ((U (nm, (k : Int))).getD 0 + 1) rfl (by omega) (by have := HSl.out; have := HSum.out; have := HN4.out; omega)
          obtain ⟨z0, z1, z2, z3, zf⟩ := row_cells4 HBx.out
          have HB2 := Lib.hid (hS.b.grown (hg1.trans hg2) hS.b.size (fun g e => by cases e; exact Nat.le_refl _))
          have HU2 := Lib.hid (show US w (sumR l k + (j + 1)) (putU U (nm, (k : Int))) wc from ⟨hUc, hS.c.put _, HB2.out⟩)
          unfold usV at hme hl0 hl1
          simp only at hme hl0 hl1
          have hcu : (U (nm, (k : Int))).getD 0 ≤ 1000000 := by have := HSl.out; have := HSum.out; have := HN4.out; omega
          have hcl := hcc.1
          generalize (U (nm, (k : Int))).getD 0 = cc at *
          unfold goInt at hme hst
          have hwr : IntKind.i64.wrap (cc + 1) = cc + 1 := by rw [IntKind.wrap_i64]; omega
          clear hS hg1 hz1 hU1 hU1e hes hcc hUc hg2 hz2
          go_region
          all_goals
            go_wp2
            go_roundw
            case rel => exact ⟨j + 1, by omega, by go_num, Lib.hid (by rw [HSq.out]; exact HU2.out)⟩
            case measure => simp [intOf]; omega
        · have hjn : j = n4 := by omega
          have j1 : ¬ (j : Int) < n4 := by omega
          have HS2 := Lib.hid (show US w (sumR l (k + 1)) (usL l (k + 1)) wr from by rw [HSg.out, HWg.out, HN4.out, ← hjn]; exact HS.out)
          clear hjn hlj HS
          go_wp2
          go_roundw
          case rel => exact ⟨k + 1, by omega, by go_num, HS2⟩
          case measure => simp [intOf]; omega
    · have hkn : k = n := by omega
      have k1 : ¬ (k : Int) < n := by omega
      have HS2 := Lib.hid (show US w (sumR l l.length) (usL l n) wr from by rw [show usL l n = usL l k by rw [hkn]]; exact HS.out.mono (sumR_le l k))
      clear hkn hlt HS
      go_wp2
      go_ret
      exact ⟨rfl, HS2.out.k, HS2.out.b⟩
end Go.Proofs.YtjngkifoaljmaaaGreatDoor
namespace Go.Proofs.YtjngkifoaljmaaaGreatDoor
set_option maxRecDepth 100000
open Go.RowKit
set_option linter.unusedVariables false
theorem putK_dom {M : Kn → Option Int} {t u : Kn} {i : Int} (h : (putK M t i u).isSome = true) : u = t ∨ (M u).isSome = true := by
  unfold putK at h
  by_cases e : u = t
  · exact .inl e
  · rw [if_neg e] at h; exact .inr h
theorem putS_dom {p : ByteArray → Bool} {i : Int} {M : Kn → Option Int} {j : Nat} {s : SymD} {u : Kn} (h : (putS p i M j s u).isSome = true) : u.2.1 = i ∨ (M u).isSome = true := by
  unfold putS at h
  split at h
  · split at h
    · rcases putK_dom h with rfl | h
      · exact .inl rfl
      · rcases putK_dom h with rfl | h
        · exact .inl rfl
        · exact .inr h
    · rcases putK_dom h with rfl | h
      · exact .inl rfl
      · exact .inr h
  · exact .inr h
theorem wrS_dom {p : ByteArray → Bool} {i : Int} {ss : List SymD} {M : Kn → Option Int} {u : Kn} : ∀ {j : Nat}, (wrS p i ss M j u).isSome = true → u.2.1 = i ∨ (M u).isSome = true
  | 0, h => .inr h
  | j + 1, h => by
    rcases putS_dom h with h | h
    · exact .inl h
    · exact wrS_dom h
theorem wrL_dom {p : ByteArray → Bool} {l : List ObjD} {u : Kn} : ∀ {k : Nat}, (wrL p l k u).isSome = true → ∃ q : Nat, q < k ∧ u.2.1 = q
  | 0, h => by cases h
  | k + 1, h => by
    rcases wrS_dom h with h | h
    · exact ⟨k, by omega, h⟩
    · obtain ⟨q, hq, e⟩ := wrL_dom h
      exact ⟨q, by omega, e⟩
theorem sum_le {l : List ObjD} {f : ObjD → Nat} {m : Nat} (h : ∀ d ∈ l, f d ≤ m) : (l.map f).sum ≤ l.length * m := by
  induction l with
  | nil => simp
  | cons d l ih =>
    have h1 := ih (fun x hx => h x (List.mem_cons_of_mem _ hx))
    have h2 := h d (List.mem_cons_self ..)
    rw [List.map_cons, List.sum_cons, List.length_cons, Nat.succ_mul]
    omega
theorem may_sums {l : List ObjD} (h : mayLs l = true) : l.length ≤ 16 ∧ sumS l l.length ≤ 4096 ∧ sumR l l.length ≤ 16384 := by
  unfold mayLs at h
  simp only [Bool.and_eq_true, decide_eq_true_eq] at h
  have hm : ∀ d ∈ l, d.syms.length ≤ 256 ∧ d.rels.length ≤ 1024 := fun d hd => by
    have h1 := List.all_eq_true.1 h.2 d hd
    rw [mayO_eq] at h1
    simp only [Bool.and_eq_true] at h1
    have := few_of h1.1.1
    exact ⟨this.2.2.1, this.2.2.2.1⟩
  have h1 := sum_le (f := fun d => d.syms.length) (m := 256) (fun d hd => (hm d hd).1)
  have h2 := sum_le (f := fun d => d.rels.length) (m := 1024) (fun d hd => (hm d hd).2)
  unfold sumS sumR
  rw [List.take_length]
  omega
abbrev bookM (l : List ObjD) : Kn → Option Int := wrL (fun _ => true) l l.length
/-- what Check tells of a list -/
def ChkP (l : List ObjD) (s : ByteArray) (c : Int) : Prop :=
  (mayLs l = false ∧ s = ⟨#[]⟩ ∧ c = 1) ∨
  (mayLs l = true ∧ (∃ names, (∀ x, x ∈ names ↔ clashP (bookM l) x) ∧ LeastN names s) ∧ c = 6) ∨
  (mayLs l = true ∧ (∀ x, ¬ clashP (bookM l) x) ∧ (∃ names, (∀ x, x ∈ names ↔ voidsP (bookM l) l.length (usL l l.length) x) ∧ LeastN names s) ∧ c = 7) ∨
  (mayLs l = true ∧ (∀ x, ¬ clashP (bookM l) x) ∧ (∀ x, ¬ voidsP (bookM l) l.length (usL l l.length) x) ∧ s = ⟨#[]⟩ ∧ c = 0)
theorem calls_uses (args : Array Value) (w : World) : (callFunc 47 args).run Tryz.prog w = .ok (.enter 47 args) w := by kernel_rfl
theorem calls_meaningless (args : Array Value) (w : World) : (callFunc 46 args).run Tryz.prog w = .ok (.enter 46 args) w := by kernel_rfl
theorem NamesAt.low {w : World} {b b' : Nat} {names : List ByteArray} {v : Value} (h : NamesAt w b names v) (hb : b' ≤ b) : NamesAt w b' names v := by
  obtain ⟨A, c, e, ho⟩ := h
  exact ⟨A, c, e, kn_base ho hb⟩
set_option maxHeartbeats 4000000 in
theorem check_any (l : List ObjD) (hW : ∀ d ∈ l, ObjW d) (A : Option Addr) (n c lo hi : Nat) (hn : l.length = n) (hmx : n ≤ maxLen) (w : World) (hT : Tabs w) (hA : ObjsAt w lo hi l A) (hh : hi ≤ w.heap.size) :
    Calls Tryz.prog 19 #[.slice A n c] w fun e w' => ∃ s k, e = .returned (.tuple #[.string s, .int .i64 k]) ∧ ChkP l s k ∧ Below w.heap.size w w' := by
  have HW := Lib.hid hW
  have HN := Lib.hid hn
  have HA := Lib.hid hA
  have HH := Lib.hid hh
  have HC := Lib.hid (mayBe_any l hW A n c lo hi hn hmx w hT hA hh)
  clear hW hn hA hh hT
  go_enter Tryz.func19, Tryz.ntmps19
  go_wp2_with fail
  refine HC.out.mono ?_
  rintro e w1 ⟨rfl, hb⟩
  have HB1 := Lib.hid hb
  clear hb HC
  cases hm : mayLs l
  case false =>
    have HR := Lib.hid (show ChkP l ⟨#[]⟩ 1 from .inl ⟨hm, rfl, rfl⟩)
    clear hm
    go_wp2
    go_ret2
    exact ⟨⟨#[]⟩, 1, rfl, HR.out, HB1.out⟩
  obtain ⟨h16, hss, hsr⟩ := may_sums hm
  have HM := Lib.hid hm
  have HSr := Lib.hid hsr
  have hn16 : n ≤ 16 := by rw [← HN.out]; exact h16
  have HC := Lib.hid (write_every l HW.out A n c lo hi HN.out (by omega) (by omega) w1 (HA.out.below HH.out HB1.out) (Nat.le_trans HH.out HB1.out.size))
  clear hm h16 hss hsr
  go_wp2_with fail
  refine HC.out.mono ?_
  rintro e w2 ⟨b, N, rfl, hb0, hk, hN, hb⟩
  have hMe : wrL (fun _ => true) l n = bookM l := by unfold bookM; rw [HN.out]
  rw [hMe] at hk
  have HBx := Lib.hid ((Below.refl w2.heap.size w2).alloc (Nat.le_refl _) (.cells #[.int .i64 n, .map (some b)] 87))
  have HB2 := Lib.hid ((HB1.out.trans (hb.mono HB1.out.size)).trans (HBx.out.mono (HB1.out.trans (hb.mono HB1.out.size)).size))
  have HK2 := Lib.hid (hk.below HBx.out)
  have HX2 := Lib.hid (heap_alloc_new w2 (.cells #[.int .i64 n, .map (some b)] 87))
  have HNb := Lib.hid hN
  have HC := Lib.hid (clashing_any n b N hN (bookM l) (fun t ht => by
    obtain ⟨q, hq, e⟩ := wrL_dom ht
    rw [HN.out] at hq
    rw [e]; omega) _ HK2.out)
  obtain ⟨x0, x1, xf⟩ := row2 HX2.out
  clear hk hN hb hb0 hMe HBx
  go_wp2_with fail
  generalize (w2.alloc (.cells #[.int .i64 n, .map (some b)] 87)) = w3 at *
  generalize w2.heap.size = kb at *
  refine HC.out.mono ?_
  rintro e w4 ⟨names, v, rfl, hna, hln, hcl, hb⟩
  have HNa := Lib.hid hna
  have HCl := Lib.hid hcl
  have HLn := Lib.hid hln
  have HB4 := Lib.hid (HB2.out.trans (hb.mono HB2.out.size))
  have HK4 := Lib.hid (HK2.out.below hb)
  have HX4 := Lib.hid ((hb.block _ (Array.getElem?_eq_some_iff.1 HX2.out).1).trans HX2.out)
  obtain ⟨An, cn, rfl, hown⟩ := hna
  clear hcl hln hb hown x0 x1 xf HC HK2 HX2
  by_cases h0 : 0 < names.length
  · have h0' : (names.length : Int) > 0 := by omega
    have HC := Lib.hid (min_any names _ names.length _ w4 rfl h0 (by have := HLn.out; have := HNb.out; omega) HNa.out)
    clear h0
    go_wp2_with fail
    refine HC.out.mono ?_
    rintro e w5 ⟨x, rfl, hlx, rfl⟩
    have HR := Lib.hid (show ChkP l x 6 from .inr (.inl ⟨HM.out, ⟨names, HCl.out, hlx⟩, rfl⟩))
    clear hlx
    go_wp2
    go_ret2
    exact ⟨x, 6, rfl, HR.out, HB4.out⟩
  · have h0' : ¬ (names.length : Int) > 0 := by omega
    have HNo := Lib.hid (show ∀ x, ¬ clashP (bookM l) x from fun x hx => by
      have := (HCl.out x).2 hx
      have := List.length_pos_of_mem this
      omega)
    have HC := Lib.hid (uses_any l HW.out A n c lo hi HN.out (by omega) (by have := HSr.out; omega) w4.drew ((HA.out.below HH.out HB4.out).below (Nat.le_trans HH.out HB4.out.size) (Below.drew (Below.refl _ _))) (Nat.le_trans HH.out HB4.out.size))
    obtain ⟨x0, x1, xf⟩ := row2 HX4.out
    clear h0
    go_upto_region 7 with fail
    go_region_law (first
      | (refine step_call6 rfl 47 _ _ rfl #[.slice A n c] ?hv calls_uses HC.out ?_; (case hv => simp [go_sem]); rintro e w5 ⟨rfl, hu, hb5⟩; refine ⟨_, rfl, ?_⟩; have hbb := ((Below.refl w4.heap.size w4).drew.trans hb5); have HB5 := Lib.hid (HB4.out.trans (hbb.mono HB4.out.size)); have HX5 := Lib.hid ((hbb.block _ (Array.getElem?_eq_some_iff.1 HX4.out).1).trans HX4.out); have HCm := Lib.hid (meaningless_any n b N (by omega) (bookM l) w4.drew.heap.size (sumR l l.length) (by have := HSr.out; omega) (usL l n) w5 (HK4.out.below hbb) hu); obtain ⟨p0, p1, pf⟩ := row2 HX5.out; clear hu hb5 hbb)
      | (refine step_call6 rfl 46 _ _ rfl #[.agg #[.int .i64 n, .map (some b)], .map (some w4.heap.size)] ?hv calls_meaningless HCm.out ?_; (case hv => simp [go_sem]); rintro e w6 ⟨nm2, v2, rfl, hna, hln, hcl, hb6⟩; have HB6 := Lib.hid (HB5.out.trans (hb6.mono HB5.out.size)); have HN2 := Lib.hid hna; have HCl2 := Lib.hid hcl; have HLn2 := Lib.hid hln; obtain ⟨A2, c2, rfl, _⟩ := hna; refine ⟨_, rfl, ?_⟩; clear hln hcl hb6))
    all_goals
      have HV := Lib.hid (show ∀ x, x ∈ nm2 ↔ voidsP (bookM l) l.length (usL l l.length) x from by rw [HN.out]; exact HCl2.out)
      by_cases h1 : 0 < nm2.length
      · have h1' : (nm2.length : Int) > 0 := by omega
        have HCq := Lib.hid (min_any nm2 _ nm2.length _ w6 rfl h1 (by have := HLn2.out; have := HSr.out; omega) HN2.out)
        clear h1
        go_wp2_with fail
        refine HCq.out.mono ?_
        rintro e w7 ⟨x, rfl, hlx, rfl⟩
        have HR := Lib.hid (show ChkP l x 7 from .inr (.inr (.inl ⟨HM.out, HNo.out, ⟨nm2, HV.out, hlx⟩, rfl⟩)))
        clear hlx
        go_wp2
        go_ret2
        exact ⟨x, 7, rfl, HR.out, HB6.out⟩
      · have h1' : ¬ (nm2.length : Int) > 0 := by omega
        have HR := Lib.hid (show ChkP l ⟨#[]⟩ 0 from .inr (.inr (.inr ⟨HM.out, HNo.out, fun x hx => by
          have := (HV.out x).2 hx
          have := List.length_pos_of_mem this
          omega, rfl, rfl⟩)))
        clear h1
        go_wp2
        go_ret2
        exact ⟨⟨#[]⟩, 0, rfl, HR.out, HB6.out⟩
end Go.Proofs.YtjngkifoaljmaaaGreatDoor
namespace Go.Proofs.YtjngkifoaljmaaaGreatDoor
set_option linter.unusedVariables false
/-- a Sym of that name, Out where it is asked for -/
def mtS (s : ByteArray) (o : Bool) (t : SymD) : Bool := decide (t.1 = s) && (!o || t.2.2.2)
/-- the first such Sym's place -/
def idxS (ss : List SymD) (s : ByteArray) (o : Bool) : Option Int := (ss.findIdx? (mtS s o)).map fun q => (q : Int)
theorem putK_at (M : Kn → Option Int) (t u : Kn) (i : Int) : putK M t i u = if u = t then some ((M u).getD i) else M u := by
  unfold putK
  by_cases e : u = t
  · rw [if_pos e, if_pos e, e]
  · rw [if_neg e, if_neg e]
theorem putS_oth {p : ByteArray → Bool} {i : Int} {M : Kn → Option Int} {j : Nat} {s : SymD} {u : Kn} (h : u.2.1 ≠ i) : putS p i M j s u = M u := by
  have h1 : u ≠ (s.1, i, false) := fun e => h (by rw [e])
  have h2 : u ≠ (s.1, i, true) := fun e => h (by rw [e])
  unfold putS
  split
  · split
    · rw [putK_at, if_neg h2, putK_at, if_neg h1]
    · rw [putK_at, if_neg h1]
  · rfl
theorem wrS_oth {p : ByteArray → Bool} {i : Int} {ss : List SymD} {M : Kn → Option Int} {u : Kn} (h : u.2.1 ≠ i) : ∀ j, wrS p i ss M j u = M u
  | 0 => rfl
  | j + 1 => by
    show putS p i (wrS p i ss M j) j _ u = _
    rw [putS_oth h, wrS_oth h j]
theorem putS_at {p : ByteArray → Bool} {i : Int} {M : Kn → Option Int} {j : Nat} {t : SymD} {s : ByteArray} {o : Bool} : putS p i M j t (s, i, o) = if p s && mtS s o t then some ((M (s, i, o)).getD j) else M (s, i, o) := by
  unfold putS
  by_cases hs : t.1 = s
  · subst hs
    cases hp : p t.1 with
    | false => simp
    | true =>
      cases ho : t.2.2.2 with
      | false =>
        cases o with
        | false => simp [putK_at, mtS]
        | true => simp [putK_at, mtS, ho]
      | true =>
        cases o with
        | false => simp [putK_at, mtS]
        | true => simp [putK_at, mtS, ho]
  · have h1 : ∀ b, (s, i, o) ≠ (t.1, i, b) := fun b e => hs (by injection e with e _; exact e.symm)
    have h2 : mtS s o t = false := by unfold mtS; rw [decide_eq_false hs]; rfl
    rw [h2, Bool.and_false]
    split
    · split
      · rw [putK_at, if_neg (h1 _), putK_at, if_neg (h1 _)]; rfl
      · rw [putK_at, if_neg (h1 _)]; rfl
    · rfl
theorem findIdx_snoc {α : Type} (f : α → Bool) (xs : List α) (x : α) : (xs ++ [x]).findIdx? f = (xs.findIdx? f).or (if f x then some xs.length else none) := by
  rw [List.findIdx?_append]
  cases xs.findIdx? f with
  | some q => rfl
  | none =>
    simp [List.findIdx?_cons]
theorem wrS_val {p : ByteArray → Bool} {i : Int} {ss : List SymD} {M : Kn → Option Int} (hM : ∀ s o, M (s, i, o) = none) (s : ByteArray) (o : Bool) : ∀ j, j ≤ ss.length → wrS p i ss M j (s, i, o) = if p s then idxS (ss.take j) s o else none
  | 0, _ => by
    show M (s, i, o) = _
    rw [hM]
    split <;> simp [idxS]
  | j + 1, hj => by
    have ih := wrS_val (p := p) (ss := ss) hM s o j (by omega)
    rw [wrS_go (ss := ss) (show j < ss.length by omega), putS_at, ih, take_snoc (xs := ss) (show j < ss.length by omega)]
    cases hp : p s with
    | false => simp
    | true =>
      unfold idxS
      rw [findIdx_snoc, List.length_take, Nat.min_eq_left (by omega)]
      cases hf : List.findIdx? (mtS s o) (List.take j ss) with
      | some q => cases hm : mtS s o ss[j] <;> simp
      | none => cases hm : mtS s o ss[j] <;> simp
theorem wrL_val {p : ByteArray → Bool} {l : List ObjD} (s : ByteArray) (o : Bool) : ∀ {k q : Nat} (hk : k ≤ l.length) (hq : q < k), wrL p l k (s, (q : Int), o) = if p s then idxS (l[q]'(by omega)).syms s o else none
  | 0, q, _, hq => by omega
  | k + 1, q, hk, hq => by
    have hkl : k < l.length := by omega
    rw [wrL_go hkl]
    have hnone : ∀ s o, wrL p l k (s, (k : Int), o) = none := fun s o => by
      cases h : wrL p l k (s, (k : Int), o) with
      | none => rfl
      | some c =>
        obtain ⟨q, hq, e⟩ := wrL_dom (u := (s, (k : Int), o)) (by rw [h]; rfl)
        simp only at e
        omega
    by_cases e : q = k
    · subst e
      rw [wrS_val hnone s o _ (Nat.le_refl _), List.take_length]
    · rw [wrS_oth (by show (q : Int) ≠ k; omega)]
      exact wrL_val s o (by omega) (by omega)
/-! ### what is used -/
theorem putU_some {U : Us → Option Int} {t u : Us} : (putU U t u).isSome = true ↔ u = t ∨ (U u).isSome = true := by
  unfold putU
  by_cases e : u = t
  · rw [if_pos e]; simp [e]
  · rw [if_neg e]; simp [e]
theorem usR_some {i : Int} {rs : List RelD} {U : Us → Option Int} {u : Us} : ∀ {j : Nat}, j ≤ rs.length → ((usR i rs U j u).isSome = true ↔ (u.2 = i ∧ ∃ r ∈ rs.take j, r.2.2.1 = u.1) ∨ (U u).isSome = true)
  | 0, _ => by simp [usR]
  | j + 1, hj => by
    rw [usR_go (rs := rs) (show j < rs.length by omega), putU_some, usR_some (by omega), take_snoc (xs := rs) (show j < rs.length by omega)]
    constructor
    · rintro (rfl | ⟨h, r, hr, hn⟩ | h)
      · exact .inl ⟨rfl, _, List.mem_append_right _ (by simp), rfl⟩
      · exact .inl ⟨h, r, List.mem_append_left _ hr, hn⟩
      · exact .inr h
    · rintro (⟨h, r, hr, hn⟩ | h)
      · rcases List.mem_append.1 hr with hr | hr
        · exact .inr (.inl ⟨h, r, hr, hn⟩)
        · refine .inl ?_
          rw [List.mem_singleton.1 hr] at hn
          exact Prod.ext hn.symm h
      · exact .inr (.inr h)
theorem usL_some {l : List ObjD} {s : ByteArray} {i : Int} : ∀ {k : Nat}, k ≤ l.length → ((usL l k (s, i)).isSome = true ↔ ∃ (q : Nat) (hq : q < l.length), q < k ∧ i = q ∧ ∃ r ∈ l[q].rels, r.2.2.1 = s)
  | 0, _ => by simp [usL]
  | k + 1, hk => by
    have hkl : k < l.length := by omega
    rw [usL_go hkl, usR_some (Nat.le_refl _), List.take_length, usL_some (by omega)]
    constructor
    · rintro (⟨h, r, hr, hn⟩ | ⟨q, hq, h1, h2, h3⟩)
      · exact ⟨k, hkl, by omega, h, r, hr, hn⟩
      · exact ⟨q, hq, by omega, h2, h3⟩
    · rintro ⟨q, hq, h1, h2, h3⟩
      by_cases e : q = k
      · subst e
        obtain ⟨r, hr, hn⟩ := h3
        exact .inl ⟨h2, r, hr, hn⟩
      · exact .inr ⟨q, hq, by omega, h2, h3⟩
end Go.Proofs.YtjngkifoaljmaaaGreatDoor
namespace Go.Proofs.YtjngkifoaljmaaaGreatDoor
set_option maxRecDepth 100000
open Go.RowKit
set_option linter.unusedVariables false
theorem chk_zero {l : List ObjD} {s : ByteArray} {c : Int} (h : ChkP l s c) : c = 0 ↔ (mayLs l = true ∧ (∀ x, ¬ clashP (bookM l) x) ∧ ∀ x, ¬ voidsP (bookM l) l.length (usL l l.length) x) := by
  rcases h with ⟨a, b, rfl⟩ | ⟨a, ⟨nm, h1, h2⟩, rfl⟩ | ⟨a, a2, ⟨nm, h1, h2⟩, rfl⟩ | ⟨a, a2, a3, b, rfl⟩
  · constructor
    · intro h; cases h
    · rintro ⟨h, _⟩; rw [a] at h; cases h
  · constructor
    · intro h; cases h
    · rintro ⟨_, h, _⟩
      exact absurd ((h1 s).1 h2.1) (h s)
  · constructor
    · intro h; cases h
    · rintro ⟨_, _, h⟩
      exact absurd ((h1 s).1 h2.1) (h s)
  · exact ⟨fun _ => ⟨a, a2, a3⟩, fun _ => rfl⟩
/-- Check finds a list OK -/
def okL (l : List ObjD) : Prop := mayLs l = true ∧ (∀ x, ¬ clashP (bookM l) x) ∧ ∀ x, ¬ voidsP (bookM l) l.length (usL l l.length) x
end Go.Proofs.YtjngkifoaljmaaaGreatDoor
