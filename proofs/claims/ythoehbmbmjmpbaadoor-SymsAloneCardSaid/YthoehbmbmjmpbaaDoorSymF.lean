/- Layer 7: the names that are Out in two objects. No condition. -/
import Derived.Test.YthoehbmbmjmpbaaDoorSymE
import Derived.Maps.RangeWalk
import Derived.Deep.LoopGhost
import Derived.WalkMore
namespace Go.Proofs.YthoehbmbmjmpbaaDoor
set_option maxRecDepth 100000
open Go.RowKit Go.Maps
set_option linter.unusedVariables false
theorem grown_below' {w w' : World} (h : Below w.heap.size w w') : w.grownBy w' none := ⟨h.os, h.tape, h.output, h.size, fun k hk _ => h.block k hk⟩
theorem below_of_grown' {w w' : World} (h : w.grownBy w' none) : Below w.heap.size w w' := ⟨h.os, h.tape, h.output, h.size, fun k hk => h.block k hk (by simp)⟩
abbrev RangeN (w : World) (b r n : Nat) (D : DataW Unit) (left : Lit → Bool) (cnt : Nat) : Prop := w.ranges Tryd.prog 87 (plainElem Tryd.prog 3) b r n D left cnt
theorem RangeN.below {w w' : World} {b r n cnt : Nat} {D : DataW Unit} {left : Lit → Bool} (h : RangeN w b r n D left cnt) (k : Below w.heap.size w w') : RangeN w' b r n D left cnt :=
  World.ranges.kept h (grown_below' k) (by simp) (by simp)
def encStr (s : ByteArray) : List Value := [.string s]
theorem info_str : (Tryd.prog.info? 9).map (fun i => (i.zero, i.size, i.bytes)) = some (some (.string ⟨#[]⟩), 1, 16) := by kernel_rfl
theorem one_str (s : ByteArray) : ∀ u ∈ encStr s, u.oneCell' = true := fun u hu => by unfold encStr at hu; simp only [List.mem_singleton] at hu; subst hu; rfl
/-- a key of a name that is Out in an object ahead, too -/
def hitP (M : Kn → Option Int) (t : Kn) : Prop := t.2.2 = true ∧ ∃ a : Nat, (a : Int) < t.2.1 ∧ (M (t.1, (a : Int), true)).isSome = true
/-- the names of those keys that have gone by -/
def NmI (D : DataW Unit) (M : Kn → Option Int) (left : Lit → Bool) (names : List ByteArray) : Prop :=
  ∀ s, s ∈ names ↔ ∃ t, KnW t ∧ t.1 = s ∧ hitP M t ∧ has D (kKey t) = true ∧ left (kKey t) = false
theorem NmI.start (D : DataW Unit) (M : Kn → Option Int) : NmI D M (has D) [] := fun s =>
  ⟨fun h => (by cases h), fun ⟨t, _, _, _, h1, h2⟩ => (by rw [h1] at h2; cases h2)⟩
theorem left_next {left : Lit → Bool} {t u : Kn} (ht : KnW t) (hu : KnW u) : (left (kKey u) && !(kKey u).sameKey (kKey t)) = false ↔ (left (kKey u) = false ∨ u = t) := by
  rw [Bool.and_eq_false_iff, Bool.not_eq_false']
  constructor
  · rintro (h | h)
    · exact .inl h
    · exact .inr (kKey_inj hu ht (WideAt.sameKey_eq h))
  · rintro (h | rfl)
    · exact .inl h
    · exact .inr (WideAt.sameKey_self (isKey_kn u))
theorem NmI.miss {D : DataW Unit} {M : Kn → Option Int} {left : Lit → Bool} {names : List ByteArray} {t : Kn} (h : NmI D M left names) (ht : KnW t) (hm : ¬ hitP M t) : NmI D M (fun z => left z && !z.sameKey (kKey t)) names := fun s => by
  rw [h s]
  constructor
  · rintro ⟨u, h1, h2, h3, h4, h5⟩
    exact ⟨u, h1, h2, h3, h4, (left_next ht h1).2 (.inl h5)⟩
  · rintro ⟨u, h1, h2, h3, h4, h5⟩
    rcases (left_next ht h1).1 h5 with h | rfl
    · exact ⟨u, h1, h2, h3, h4, h⟩
    · exact absurd h3 hm
theorem NmI.hit {D : DataW Unit} {M : Kn → Option Int} {left : Lit → Bool} {names : List ByteArray} {t : Kn} (h : NmI D M left names) (ht : KnW t) (hm : hitP M t) (hd : has D (kKey t) = true) : NmI D M (fun z => left z && !z.sameKey (kKey t)) (names ++ [t.1]) := fun s => by
  rw [List.mem_append, List.mem_singleton, h s]
  constructor
  · rintro (⟨u, h1, h2, h3, h4, h5⟩ | rfl)
    · exact ⟨u, h1, h2, h3, h4, (left_next ht h1).2 (.inl h5)⟩
    · exact ⟨t, ht, rfl, hm, hd, (left_next ht ht).2 (.inr rfl)⟩
  · rintro ⟨u, h1, h2, h3, h4, h5⟩
    rcases (left_next ht h1).1 h5 with h | rfl
    · exact .inl ⟨u, h1, h2, h3, h4, h⟩
    · exact .inr h2.symm
/-- a name is Out in two objects -/
def clashP (M : Kn → Option Int) (s : ByteArray) : Prop := ∃ i : Int, KnW (s, i, true) ∧ (M (s, i, true)).isSome = true ∧ ∃ a : Nat, (a : Int) < i ∧ (M (s, (a : Int), true)).isSome = true
/-- rows of names that the call made -/
def NamesAt (w : World) (base : Nat) (names : List ByteArray) (v : Value) : Prop := ∃ A c, v = .slice A names.length c ∧ w.ownsRow base 9 1 v names.length (names.flatMap encStr)
theorem has_some {D : DataW Unit} {M : Kn → Option Int} (hat : ∀ t, KnW t → (M t = none → has D (kKey t) = false) ∧ ∀ c, M t = some c → has D (kKey t) = true ∧ ∀ z, D.atKey (kKey t) z = .lit (.int .i64 c)) {t : Kn} (ht : KnW t) (h : has D (kKey t) = true) : (M t).isSome = true := by
  cases hm : M t with
  | none => rw [(hat t ht).1 hm] at h; cases h
  | some c => rfl
theorem clash_iff {D : DataW Unit} {M : Kn → Option Int} {left : Lit → Bool} {names : List ByteArray} (h : NmI D M left names) (hl : ∀ kl, left kl = false) (hat : ∀ t, KnW t → (M t = none → has D (kKey t) = false) ∧ ∀ c, M t = some c → has D (kKey t) = true ∧ ∀ z, D.atKey (kKey t) z = .lit (.int .i64 c)) : ∀ s, s ∈ names ↔ clashP M s := fun s => by
  rw [h s]
  constructor
  · rintro ⟨⟨s', i, o⟩, h1, rfl, ⟨h3, a, h4, h5⟩, h6, _⟩
    simp only at h3
    subst h3
    exact ⟨i, h1, has_some hat h1 h6, a, h4, h5⟩
  · rintro ⟨i, h1, h2, a, h4, h5⟩
    obtain ⟨c, hc⟩ := Option.isSome_iff_exists.1 h2
    exact ⟨(s, i, true), h1, rfl, ⟨rfl, a, h4, h5⟩, ((hat _ h1).2 c hc).1, hl _⟩
theorem kn_base {w : World} {base base' n s : Nat} {e : TypeId} {v : Value} {xs : List Value} (h : w.ownsRow base e s v n xs) (hb : base' ≤ base) : w.ownsRow base' e s v n xs := by
  refine ⟨h.1, ?_⟩
  rcases h.2 with h | ⟨g, cap, cur, rfl, h1, h2, h3⟩
  · exact .inl h
  · exact .inr ⟨g, cap, cur, rfl, Nat.le_trans hb h1, h2, h3⟩
theorem KnK.low {w w1 w2 : World} {b n : Nat} {M : Kn → Option Int} (h : KnK w1 b n M) (h1 : Below w.heap.size w w1) (h2 : Below w.heap.size w w2) (hb : b < w.heap.size) : KnK w2 b n M := by
  obtain ⟨D, ⟨es, clock, q1, q2⟩, q3⟩ := h
  exact ⟨D, ⟨es, clock, ((h2.block b hb).trans (h1.block b hb).symm).trans q1, q2⟩, q3⟩
set_option maxHeartbeats 4000000 in
theorem clashing_any (nb b n : Nat) (hn : n < 1000000) (M : Kn → Option Int) (hM : ∀ t, (M t).isSome = true → 0 ≤ t.2.1 ∧ t.2.1 ≤ 1000000) (w : World) (hK : KnK w b n M) :
    Calls Tryd.prog 32 #[.agg #[.int .i64 nb, .map (some b)]] w fun e w' => ∃ names v, e = .returned v ∧ NamesAt w' w.heap.size names v ∧ names.length ≤ n ∧ (∀ s, s ∈ names ↔ clashP M s) ∧ Below w.heap.size w w' := by
  have hb0 := (Below.refl w.heap.size w).alloc (Nat.le_refl _) (.cells #[.int .i64 nb, .map (some b)] 78)
  have HB0 := Lib.hid hb0
  have HK0 := Lib.hid (hK.below hb0)
  have HBn := Lib.hid hK.lt
  obtain ⟨D, hown, hmap, hdom, hat⟩ := hK.below hb0
  have HDm := Lib.hid hdom
  have HAt := Lib.hid hat
  have HSz := Lib.hid hown.size_le
  have HM := Lib.hid hM
  have HX0 := Lib.hid (heap_alloc_new w (.cells #[.int .i64 nb, .map (some b)] 78))
  obtain ⟨i0, hi0, hz0, hz1, hz2⟩ := info_parts info_str
  clear hK hb0 hmap hdom hat hM
  go_enter Tryd.func32, Tryd.ntmps32
  obtain ⟨x0, x1, xf⟩ := row2 HX0.out
  go_wp2
  go_step3
  go_wp2
  go_step3
  go_wp2_with (at_range; refine wpList_range_own _ rfl _ 76 rfl 87 3 lawKn Tryd.underlying76 _ b n D rfl hown ?_; intro w2 hrg0 hg0 hs0)
  try go_frame
  have B2 := (below_of_grown' hg0)
  have HB2 := Lib.hid (HB0.out.trans (B2.mono HB0.out.size))
  have HG0 := Lib.hid hrg0
  have HX2 := Lib.hid ((B2.block _ (Array.getElem?_eq_some_iff.1 HX0.out).1).trans HX0.out)
  have HSr := Lib.hid (show w.heap.size < (w.alloc (.cells #[.int .i64 nb, .map (some b)] 78)).heap.size by simp)
  have HS2 := Lib.hid hs0
  clear B2 hg0 hs0 hrg0 hown x0 x1 xf
  generalize (w.alloc (.cells #[.int .i64 nb, .map (some b)] 78)).heap.size = r0 at *
  go_loopg [3] (Maps.size D) (fun cnt v wr => ∃ (left : Lit → Bool) (names : List ByteArray), Hid (RangeN wr b r0 n D left cnt) ∧ Hid (∀ kl, left kl = true → has D kl = true) ∧ Hid (NmI D M left names) ∧ Hid (names.length + cnt ≤ n) ∧ Hid (NamesAt wr (r0 + 1) names v) ∧ Hid (Below w.heap.size w wr) ∧ Hid (wr.heap[w.heap.size]? = some (.cells #[.int .i64 nb, .map (some b)] 78 (0, 0))) ∧ Hid (r0 + 1 ≤ wr.heap.size))
  case atStart => exact ⟨_, [], HG0, Lib.hid (fun _ h => h), Lib.hid (NmI.start D M), Lib.hid (by simpa using HSz.out), Lib.hid ⟨none, 0, rfl, World.ownsRow_nil _ _ _ _⟩, HB2, HX2, Lib.hid (by have := HS2.out; omega)⟩
  case round =>
    obtain ⟨left, names, HRg, HSub, HNm, HLc, HNa, HB, HX, HR1⟩ := hrel
    clear HG0 HB2 HX2 HS2
    have hrg := HRg.out
    go_wp2_with (at_next; refine wpList_next_ranges _ rfl _ rfl 87 lawKn (plainElem Tryd.prog 3) (fun x : Value => x) (fun x : Value => x) (fun key kl _ => ⟨key, rfl⟩) (fun v y _ => ⟨v, rfl⟩) b r0 n D left gk rfl hrg ?_ ?_)
    · intro _ hl0
      have HC := Lib.hid (clash_iff HNm.out hl0 HAt.out)
      obtain ⟨A, c, rfl, hown⟩ := HNa.out
      have HOw := Lib.hid hown
      clear hrg hl0 hown
      go_wp2
      try rw [Exit.noGoto_ret]
      go_ret
      exact ⟨names, _, rfl, ⟨A, c, rfl, kn_base HOw.out (by have := HSr.out; omega)⟩, by have := HLc.out; omega, HC.out, HB.out⟩
    · intro x c kl y ps w3 cnt' hkey hlk hv hat' hrg1 hlt hg1 hs1 hen
      have hlk2 := HSub.out _ hlk
      obtain ⟨t, ht, rfl⟩ := HDm.out _ hlk2
      have hx := lawKn.inj hkey (kKey_of ht)
      subst hx
      have his := has_some HAt.out ht hlk2
      have hir := HM.out t his
      have HB3 := Lib.hid (HB.out.grown hg1 HB.out.size (fun j hj => by cases hj; have := HSr.out; omega))
      have HX3 := Lib.hid ((hg1.block _ (Array.getElem?_eq_some_iff.1 HX.out).1 (by intro e; cases e; have := HSr.out; omega)).trans HX.out)
      obtain ⟨A, ca, rfl, hown⟩ := HNa.out
      have HO3 := Lib.hid (hown.kept hg1 (by
        cases hob : (Value.slice A names.length ca).ownBlock with
        | none => exact .inl rfl
        | some g => exact .inr (fun e => by cases e; have := (ownO_lt hown hob).2.1; omega)))
      have HR3 := Lib.hid (show r0 + 1 ≤ w3.heap.size from Nat.le_trans HR1.out hg1.size)
      have HRg3 := Lib.hid hrg1
      have HLt := Lib.hid hlt
      have HTw := Lib.hid ht
      have HTd := Lib.hid hlk2
      have HSub3 := Lib.hid (show ∀ kl, (left kl && !kl.sameKey (kKey t)) = true → has D kl = true from fun kl h => HSub.out kl (by simp only [Bool.and_eq_true] at h; exact h.1))
      have HLc3 := Lib.hid (show names.length + 1 + cnt' ≤ n by have := HLc.out; omega)
      clear hkey hlk hlk2 hv hat' hrg1 hlt hg1 hs1 ht his hrg HB HX HNa HR1 HRg HSub HLc hown
      obtain ⟨s, i, o⟩ := t
      unfold knV at hen
      simp only at hen hir
      obtain ⟨i, rfl⟩ := Int.eq_ofNat_of_zero_le hir.1
      have hi1 := hir.2
      have HBl := Lib.hid ((Below.refl w3.heap.size w3).alloc (Nat.le_refl _) (.cells #[.string s, .int .i64 i, .bool o] 87))
      have HB4 := Lib.hid (HB3.out.trans (HBl.out.mono HB3.out.size))
      have HX4 := Lib.hid ((HBl.out.block _ (Array.getElem?_eq_some_iff.1 HX3.out).1).trans HX3.out)
      have HO4 := Lib.hid (rowO_below HO3.out HBl.out)
      have HRg4 := Lib.hid (RangeN.below HRg3.out HBl.out)
      have HR4 := Lib.hid (Nat.le_trans HR3.out HBl.out.size)
      have HK4 := Lib.hid (HK0.out.low HB0.out HB4.out HBn.out)
      have HY4 := Lib.hid (heap_alloc_new w3 (.cells #[.string s, .int .i64 i, .bool o] 87))
      clear HB3 HX3 HO3 HRg3 HR3 hir
      cases o
      case false =>
        have HN5 := Lib.hid (HNm.out.miss HTw.out (fun h => by cases h.1))
        go_wp2
        go_roundg cnt'
        case measure => exact HLt.out
        case rel => exact ⟨_, names, HRg4, HSub3, HN5, Lib.hid (by have := HLc3.out; omega), Lib.hid ⟨A, ca, rfl, HO4.out⟩, HB4, HX4, HR4⟩
      case true =>
        go_upto_region 6 with fail
        clear hen
        generalize (w3.alloc (.cells #[.string s, .int .i64 i, .bool true] 87)) = W at *
        generalize w3.heap.size = kb at *
        have y0 := cell_of_row W kb 0 _ _ _ HY4.out
        have y1 := cell_of_row W kb 1 _ _ _ HY4.out
        simp only [List.getElem?_toArray, List.getElem?_cons_zero, List.getElem?_cons_succ] at y0 y1
        obtain ⟨x0, x1, xf⟩ := row2 HX4.out
        go_wp2
        go_loopg [3, 20] i (fun g v3 v wz => ∃ a : Nat, a + g = i ∧ v = .int .i64 a ∧ Hid (∀ q : Nat, q < a → M (s, (q : Int), true) = none) ∧ v3 = .slice A names.length ca ∧ wz = W)
        case atStart => exact ⟨0, by omega, rfl, Lib.hid (fun q hq => by omega), rfl, rfl⟩
        case round =>
          obtain ⟨a, hag, rfl, HQ, rfl, rfl⟩ := hrel
          have a0 : (0 : Int) ≤ a := by omega
          by_cases hai : a < i
          · have a1 : (a : Int) < i := by omega
            have hlo := HK4.out.look (t := (s, (a : Int), true)) ⟨HTw.out.1, by show (-9223372036854775808 : Int) ≤ a ∧ (a : Int) ≤ 9223372036854775807; omega⟩
            unfold knA knV at hlo
            simp only at hlo
            cases hMa : M (s, (a : Int), true) with
            | none =>
              rw [hMa] at hlo
              simp only [Option.getD_none, Option.isSome_none] at hlo
              have HQ2 := Lib.hid (show ∀ q : Nat, q < a + 1 → M (s, (q : Int), true) = none from fun q hq => by
                by_cases e : q = a
                · rw [e]; exact hMa
                · exact HQ.out q (by omega))
              obtain ⟨g2, hg2⟩ : ∃ g2, a + 1 + g2 = i := ⟨i - a - 1, by omega⟩
              clear hMa HQ
              go_wp2
              go_roundg g2
              case measure => omega
              case rel => exact ⟨a + 1, hg2, by go_num, HQ2, by first | rfl | trivial, by first | rfl | trivial⟩
            | some d =>
              rw [hMa] at hlo
              simp only [Option.getD_some, Option.isSome_some] at hlo
              have HN5 := Lib.hid (HNm.out.hit HTw.out ⟨rfl, a, by show (a : Int) < i; omega, by show (M (s, (a : Int), true)).isSome = true; rw [hMa]; rfl⟩ HTd.out)
              have HBl2 := Lib.hid ((Below.refl wr.heap.size wr).alloc (Nat.le_refl _) (.cells #[.string s] 9))
              have HOa := Lib.hid (rowO_below HO4.out HBl2.out)
              have HNa := Lib.hid (news_at (w := wr) (w2 := wr.alloc (.cells #[.string s] 9)) (cs := encStr s) (ty := 9) rfl)
              have HMl := Lib.hid (show names.length + 1 ≤ maxLen by have := HLc3.out; unfold maxLen; omega)
              have HBy := Lib.hid (show (names.length + 1) * 16 ≤ 140737488355328 by have := HLc3.out; omega)
              have HRz := Lib.hid (show r0 + 1 ≤ (wr.alloc (.cells #[.string s] 9)).heap.size from Nat.le_trans HR4.out HBl2.out.size)
              have H1s := Lib.hid (one_str s)
              clear hMa HQ
              go_wp2_with (at_builtin; (refine wpList_append_at6 rfl _ _ 36 rfl (r0 + 1) 9 i0 (.string ⟨#[]⟩) 1 16 Tryd.underlying36 hi0 hz0 hz1 hz2 rfl (by decide) (.slice A names.length ca) names.length (names.flatMap encStr) ?hs HOa.out ⟨wr.heap.size, 0, none⟩ 1 1 (encStr s) ?hx rfl HNa.out H1s.out HMl.out HBy.out HRz.out ?_; (case hs => rfl); (case hx => rfl); intro v' w7 hr hg hv'))
              obtain ⟨Aw, ew, rfl⟩ := ownO_slice hr
              have hgb : ∀ g, (Value.slice A names.length ca).ownBlock = some g → r0 + 1 ≤ g := own_ge HOa.out
              have HB7 := Lib.hid ((HB4.out.trans (HBl2.out.mono HB4.out.size)).grown hg (HB4.out.trans (HBl2.out.mono HB4.out.size)).size (fun g e => by have := hgb g e; have := HSr.out; omega))
              have HX7 := Lib.hid ((hg.block _ (by have := (Array.getElem?_eq_some_iff.1 HX4.out).1; have := HBl2.out.size; omega) (fun e => by have := hgb _ e.symm; have := HSr.out; omega)).trans ((HBl2.out.block _ (Array.getElem?_eq_some_iff.1 HX4.out).1).trans HX4.out))
              have HRg7 := Lib.hid (show RangeN w7 b r0 n D _ cnt' from World.ranges.kept (RangeN.below HRg4.out HBl2.out) hg (fun e => by have := hgb _ e.symm; have := HBn.out; have := HSr.out; omega) (fun e => by have := hgb _ e.symm; omega))
              have HO7 := Lib.hid (show w7.ownsRow (r0 + 1) 9 1 (.slice Aw (names.length + 1) ew) (names ++ [s]).length ((names ++ [s]).flatMap encStr) from by
                rw [List.length_append, List.flatMap_append, List.flatMap_cons, List.flatMap_nil, List.append_nil]; exact hr)
              have HR7 := Lib.hid (Nat.le_trans HRz.out hg.size)
              clear hr hg hv' hgb
              go_wp2
              go_roundg cnt'
              case measure => exact HLt.out
              case rel => exact ⟨_, names ++ [s], HRg7, HSub3, HN5, Lib.hid (by have := HLc3.out; simp; omega), Lib.hid ⟨Aw, ew, by simp, HO7.out⟩, HB7, HX7, HR7⟩
          · have hai2 : a = i := by omega
            have a1 : ¬ (a : Int) < i := by omega
            have HN5 := Lib.hid (HNm.out.miss HTw.out (fun h => by
              obtain ⟨_, q, hq, hsm⟩ := h
              have hq : (q : Int) < i := hq
              have := HQ.out q (by omega)
              simp only at hsm
              rw [this] at hsm
              cases hsm))
            clear hai hai2
            go_wp2
            go_roundg cnt'
            case measure => exact HLt.out
            case rel => exact ⟨_, names, HRg4, HSub3, HN5, Lib.hid (by have := HLc3.out; omega), Lib.hid ⟨A, ca, rfl, HO4.out⟩, HB4, HX4, HR4⟩
end Go.Proofs.YthoehbmbmjmpbaaDoor
