/- Layer 7: the names that are used where they mean nothing. No condition. -/
import Derived.Test.YthoehbmbmjmpbaaDoorSymG
namespace Go.Proofs.YthoehbmbmjmpbaaDoor
set_option maxRecDepth 100000
open Go.RowKit Go.Maps
set_option linter.unusedVariables false
abbrev RangeU (w : World) (b r n : Nat) (D : DataW Unit) (left : Lit → Bool) (cnt : Nat) : Prop := w.ranges Tryd.prog 92 (plainElem Tryd.prog 3) b r n D left cnt
theorem RangeU.below {w w' : World} {b r n cnt : Nat} {D : DataW Unit} {left : Lit → Bool} (h : RangeU w b r n D left cnt) (k : Below w.heap.size w w') : RangeU w' b r n D left cnt :=
  World.ranges.kept h (grown_below' k) (by simp) (by simp)
/-- a use that means nothing -/
def voidP (M : Kn → Option Int) (nb : Nat) (t : Us) : Prop := meanM M nb t.2 t.1 = none
def NmU (D : DataW Unit) (M : Kn → Option Int) (nb : Nat) (left : Lit → Bool) (names : List ByteArray) : Prop :=
  ∀ s, s ∈ names ↔ ∃ t, UsW t ∧ t.1 = s ∧ voidP M nb t ∧ has D (uKey t) = true ∧ left (uKey t) = false
theorem NmU.start (D : DataW Unit) (M : Kn → Option Int) (nb : Nat) : NmU D M nb (has D) [] := fun s =>
  ⟨fun h => (by cases h), fun ⟨t, _, _, _, h1, h2⟩ => (by rw [h1] at h2; cases h2)⟩
theorem leftU_next {left : Lit → Bool} {t u : Us} (ht : UsW t) (hu : UsW u) : (left (uKey u) && !(uKey u).sameKey (uKey t)) = false ↔ (left (uKey u) = false ∨ u = t) := by
  rw [Bool.and_eq_false_iff, Bool.not_eq_false']
  constructor
  · rintro (h | h)
    · exact .inl h
    · exact .inr (uKey_inj hu ht (WideAt.sameKey_eq h))
  · rintro (h | rfl)
    · exact .inl h
    · exact .inr (WideAt.sameKey_self (isKey_us u))
theorem NmU.miss {D : DataW Unit} {M : Kn → Option Int} {nb : Nat} {left : Lit → Bool} {names : List ByteArray} {t : Us} (h : NmU D M nb left names) (ht : UsW t) (hm : ¬ voidP M nb t) : NmU D M nb (fun z => left z && !z.sameKey (uKey t)) names := fun s => by
  rw [h s]
  constructor
  · rintro ⟨u, h1, h2, h3, h4, h5⟩
    exact ⟨u, h1, h2, h3, h4, (leftU_next ht h1).2 (.inl h5)⟩
  · rintro ⟨u, h1, h2, h3, h4, h5⟩
    rcases (leftU_next ht h1).1 h5 with h | rfl
    · exact ⟨u, h1, h2, h3, h4, h⟩
    · exact absurd h3 hm
theorem NmU.hit {D : DataW Unit} {M : Kn → Option Int} {nb : Nat} {left : Lit → Bool} {names : List ByteArray} {t : Us} (h : NmU D M nb left names) (ht : UsW t) (hm : voidP M nb t) (hd : has D (uKey t) = true) : NmU D M nb (fun z => left z && !z.sameKey (uKey t)) (names ++ [t.1]) := fun s => by
  rw [List.mem_append, List.mem_singleton, h s]
  constructor
  · rintro (⟨u, h1, h2, h3, h4, h5⟩ | rfl)
    · exact ⟨u, h1, h2, h3, h4, (leftU_next ht h1).2 (.inl h5)⟩
    · exact ⟨t, ht, rfl, hm, hd, (leftU_next ht ht).2 (.inr rfl)⟩
  · rintro ⟨u, h1, h2, h3, h4, h5⟩
    rcases (leftU_next ht h1).1 h5 with h | rfl
    · exact .inl ⟨u, h1, h2, h3, h4, h⟩
    · exact .inr h2.symm
def voidsP (M : Kn → Option Int) (nb : Nat) (U : Us → Option Int) (s : ByteArray) : Prop := ∃ i : Int, UsW (s, i) ∧ (U (s, i)).isSome = true ∧ meanM M nb i s = none
abbrev AtU (D : DataW Unit) (U : Us → Option Int) : Prop := ∀ t, UsW t → (U t = none → has D (uKey t) = false) ∧ ∀ c, U t = some c → has D (uKey t) = true ∧ ∀ z, D.atKey (uKey t) z = .lit (.int .i64 c)
theorem voids_iff {D : DataW Unit} {M : Kn → Option Int} {nb : Nat} {U : Us → Option Int} {left : Lit → Bool} {names : List ByteArray} (h : NmU D M nb left names) (hl : ∀ kl, left kl = false) (hat : AtU D U) : ∀ s, s ∈ names ↔ voidsP M nb U s := fun s => by
  rw [h s]
  constructor
  · rintro ⟨⟨s', i⟩, h1, rfl, h3, h6, _⟩
    refine ⟨i, h1, ?_, h3⟩
    cases hm : U (s', i) with
    | none => rw [(hat _ h1).1 hm] at h6; cases h6
    | some c => rfl
  · rintro ⟨i, h1, h2, h3⟩
    obtain ⟨c, hc⟩ := Option.isSome_iff_exists.1 h2
    exact ⟨(s, i), h1, rfl, h3, ((hat _ h1).2 c hc).1, hl _⟩
theorem UsK.low {w w1 w2 : World} {b n : Nat} {U : Us → Option Int} (h : UsK w1 b n U) (h1 : Below w.heap.size w w1) (h2 : Below w.heap.size w w2) (hb : b < w.heap.size) : UsK w2 b n U := by
  obtain ⟨D, ⟨es, clock, q1, q2⟩, q3⟩ := h
  exact ⟨D, ⟨es, clock, ((h2.block b hb).trans (h1.block b hb).symm).trans q1, q2⟩, q3⟩
set_option maxHeartbeats 4000000 in
theorem meaningless_any (nb b n : Nat) (hnb : nb ≤ 1000000) (M : Kn → Option Int) (u m : Nat) (hm : m < 1000000) (U : Us → Option Int) (w : World) (hK : KnK w b n M) (hU : UsK w u m U) :
    Calls Tryd.prog 34 #[.agg #[.int .i64 nb, .map (some b)], .map (some u)] w fun e w' => ∃ names v, e = .returned v ∧ NamesAt w' w.heap.size names v ∧ names.length ≤ m ∧ (∀ s, s ∈ names ↔ voidsP M nb U s) ∧ Below w.heap.size w w' := by
  have hb0 := (Below.refl w.heap.size w).alloc (Nat.le_refl _) (.cells #[.int .i64 nb, .map (some b)] 78)
  have HB0 := Lib.hid hb0
  have HK0 := Lib.hid hK
  have HBn := Lib.hid hK.lt
  have HUn := Lib.hid hU.lt
  obtain ⟨D, hown, hmap, hdom, hat⟩ := hU.below hb0
  have HDm := Lib.hid hdom
  have HAt := Lib.hid (show AtU D U from hat)
  have HSz := Lib.hid hown.size_le
  have HNb := Lib.hid hnb
  have HX0 := Lib.hid (heap_alloc_new w (.cells #[.int .i64 nb, .map (some b)] 78))
  obtain ⟨i0, hi0, hz0, hz1, hz2⟩ := info_parts info_str
  clear hK hU hb0 hmap hdom hat hnb
  go_enter Tryd.func34, Tryd.ntmps34
  obtain ⟨x0, x1, xf⟩ := row2 HX0.out
  go_wp2_with (at_range; refine wpList_range_own _ rfl _ 84 rfl 92 3 lawUs Tryd.underlying84 _ u m D rfl hown ?_; intro w2 hrg0 hg0 hs0)
  try go_frame
  have B2 := (below_of_grown' hg0)
  have HB2 := Lib.hid (HB0.out.trans (B2.mono HB0.out.size))
  have HG0 := Lib.hid hrg0
  have HX2 := Lib.hid ((B2.block _ (Array.getElem?_eq_some_iff.1 HX0.out).1).trans HX0.out)
  have HSr := Lib.hid (show w.heap.size < (w.alloc (.cells #[.int .i64 nb, .map (some b)] 78)).heap.size by simp)
  have HS2 := Lib.hid hs0
  clear B2 hg0 hs0 hrg0 hown x0 x1 xf
  generalize (w.alloc (.cells #[.int .i64 nb, .map (some b)] 78)).heap.size = r0 at *
  go_loopg [5] (Maps.size D) (fun cnt v wr => ∃ (left : Lit → Bool) (names : List ByteArray), Hid (RangeU wr u r0 m D left cnt) ∧ Hid (∀ kl, left kl = true → has D kl = true) ∧ Hid (NmU D M nb left names) ∧ Hid (names.length + cnt ≤ m) ∧ Hid (NamesAt wr (r0 + 1) names v) ∧ Hid (Below w.heap.size w wr) ∧ Hid (wr.heap[w.heap.size]? = some (.cells #[.int .i64 nb, .map (some b)] 78 (0, 0))) ∧ Hid (r0 + 1 ≤ wr.heap.size))
  case atStart => exact ⟨_, [], HG0, Lib.hid (fun _ h => h), Lib.hid (NmU.start D M nb), Lib.hid (by simpa using HSz.out), Lib.hid ⟨none, 0, rfl, World.ownsRow_nil _ _ _ _⟩, HB2, HX2, Lib.hid (by have := HS2.out; omega)⟩
  case round =>
    obtain ⟨left, names, HRg, HSub, HNm, HLc, HNa, HB, HX, HR1⟩ := hrel
    clear HG0 HB2 HX2 HS2
    have hrg := HRg.out
    go_wp2_with (at_next; refine wpList_next_ranges _ rfl _ rfl 92 lawUs (plainElem Tryd.prog 3) (fun x : Value => x) (fun x : Value => x) (fun key kl _ => ⟨key, rfl⟩) (fun v y _ => ⟨v, rfl⟩) u r0 m D left gk rfl hrg ?_ ?_)
    · intro _ hl0
      have HC := Lib.hid (voids_iff HNm.out hl0 HAt.out)
      obtain ⟨A, c, rfl, hown⟩ := HNa.out
      have HOw := Lib.hid hown
      clear hrg hl0 hown
      go_wp2
      go_ret
      exact ⟨names, _, rfl, ⟨A, c, rfl, kn_base HOw.out (by have := HSr.out; omega)⟩, by have := HLc.out; omega, HC.out, HB.out⟩
    · intro x c kl y ps w3 cnt' hkey hlk hv hat' hrg1 hlt hg1 hs1 hen
      have hlk2 := HSub.out _ hlk
      obtain ⟨t, ht, rfl⟩ := HDm.out _ hlk2
      have hx := lawUs.inj hkey (uKey_of ht)
      subst hx
      have HB3 := Lib.hid (HB.out.grown hg1 HB.out.size (fun j hj => by cases hj; have := HSr.out; omega))
      have HX3 := Lib.hid ((hg1.block _ (Array.getElem?_eq_some_iff.1 HX.out).1 (by intro e; cases e; have := HSr.out; omega)).trans HX.out)
      obtain ⟨A, ca, rfl, hown⟩ := HNa.out
      have HO3 := Lib.hid (hown.kept hg1 (by
        cases hob : (Value.slice A names.length ca).ownBlock with
        | none => exact .inl rfl
        | some g => exact .inr (fun e => by cases e; have := (ownO_lt hown hob).2.1; omega)))
      have HR3 := Lib.hid (show r0 + 1 ≤ w3.heap.size from Nat.le_trans HR1.out hg1.size)
      have HRg3 := Lib.hid hrg1
      have HLt := Lib.hid hlt
      have HTw := Lib.hid ht
      have HTd := Lib.hid hlk2
      have HSub3 := Lib.hid (show ∀ kl, (left kl && !kl.sameKey (uKey t)) = true → has D kl = true from fun kl h => HSub.out kl (by simp only [Bool.and_eq_true] at h; exact h.1))
      have HLc3 := Lib.hid (show names.length + 1 + cnt' ≤ m by have := HLc.out; omega)
      clear hkey hlk hlk2 hv hat' hrg1 hlt hg1 hs1 ht hrg HB HX HNa HR1 HRg HSub HLc hown
      obtain ⟨s, i⟩ := t
      unfold usV at hen
      simp only at hen
      have HBl := Lib.hid ((Below.refl w3.heap.size w3).alloc (Nat.le_refl _) (.cells #[.string s, .int .i64 i] 92))
      have HB4 := Lib.hid (HB3.out.trans (HBl.out.mono HB3.out.size))
      have HX4 := Lib.hid ((HBl.out.block _ (Array.getElem?_eq_some_iff.1 HX3.out).1).trans HX3.out)
      have HO4 := Lib.hid (rowO_below HO3.out HBl.out)
      have HRg4 := Lib.hid (RangeU.below HRg3.out HBl.out)
      have HR4 := Lib.hid (Nat.le_trans HR3.out HBl.out.size)
      have HK4 := Lib.hid (HK0.out.low (Below.refl _ _) HB4.out HBn.out)
      have HY4 := Lib.hid (heap_alloc_new w3 (.cells #[.string s, .int .i64 i] 92))
      clear HB3 HX3 HO3 HRg3 HR3
      go_upto_region 5 with fail
      clear hen
      generalize (w3.alloc (.cells #[.string s, .int .i64 i] 92)) = W at *
      generalize w3.heap.size = kb at *
      obtain ⟨y0, y1, yf⟩ := row2 HY4.out
      obtain ⟨x0, x1, xf⟩ := row2 HX4.out
      go_wp2_with fail
      refine (meaning_any b n nb HNb.out M i (by have := HTw.out.2; unfold IsI; omega) s HTw.out.1 W HK4.out).mono ?_
      rintro e w5 ⟨rfl, hb5⟩
      obtain ⟨da, dj, hd⟩ := defV_form (meanM M nb i s)
      rw [hd]
      have HB5 := Lib.hid (HB4.out.trans (hb5.mono HB4.out.size))
      have HBd := Lib.hid ((Below.refl w5.heap.size w5).alloc (Nat.le_refl _) (.cells #[.int .i64 da, .int .i64 dj] 39))
      have HBw := Lib.hid (hb5.trans (HBd.out.mono hb5.size))
      have HB6 := Lib.hid (HB4.out.trans (HBw.out.mono HB4.out.size))
      have HX6 := Lib.hid ((HBw.out.block _ (Array.getElem?_eq_some_iff.1 HX4.out).1).trans HX4.out)
      have HO6 := Lib.hid (rowO_below HO4.out HBw.out)
      have HRg6 := Lib.hid (RangeU.below HRg4.out HBw.out)
      have HR6 := Lib.hid (Nat.le_trans HR4.out HBw.out.size)
      have HY6 := Lib.hid ((HBw.out.block _ (Array.getElem?_eq_some_iff.1 HY4.out).1).trans HY4.out)
      clear hb5 hd HB5 HBd HB4 HX4 HO4 HRg4 HR4 HK4 HY4 x0 x1 xf y0 y1 yf
      cases hmn : meanM M nb i s with
      | some r =>
        have HN5 := Lib.hid (HNm.out.miss HTw.out (fun h => by unfold voidP at h; simp only at h; rw [hmn] at h; cases h))
        clear hmn
        go_wp2
        go_roundg cnt'
        case measure => exact HLt.out
        case rel => exact ⟨_, names, HRg6, HSub3, HN5, Lib.hid (by have := HLc3.out; omega), Lib.hid ⟨A, ca, rfl, HO6.out⟩, HB6, HX6, HR6⟩
      | none =>
        have HN5 := Lib.hid (HNm.out.hit HTw.out (by unfold voidP; exact hmn) HTd.out)
        clear hmn
        go_upto_region 7 with fail
        clear HBw HBl
        generalize (w5.alloc (.cells #[.int .i64 da, .int .i64 dj] 39)) = wz at *
        have HBl2 := Lib.hid ((Below.refl wz.heap.size wz).alloc (Nat.le_refl _) (.cells #[.string s] 9))
        have HOa := Lib.hid (rowO_below HO6.out HBl2.out)
        have HNa := Lib.hid (news_at (w := wz) (w2 := wz.alloc (.cells #[.string s] 9)) (cs := encStr s) (ty := 9) rfl)
        have HMl := Lib.hid (show names.length + 1 ≤ maxLen by have := HLc3.out; unfold maxLen; omega)
        have HBy := Lib.hid (show (names.length + 1) * 16 ≤ 140737488355328 by have := HLc3.out; omega)
        have HRz := Lib.hid (show r0 + 1 ≤ (wz.alloc (.cells #[.string s] 9)).heap.size from Nat.le_trans HR6.out HBl2.out.size)
        have H1s := Lib.hid (one_str s)
        obtain ⟨y0, y1, yf⟩ := row2 HY6.out
        go_wp2_with (at_builtin; (refine wpList_append_at6 rfl _ _ 36 rfl (r0 + 1) 9 i0 (.string ⟨#[]⟩) 1 16 Tryd.underlying36 hi0 hz0 hz1 hz2 rfl (by decide) (.slice A names.length ca) names.length (names.flatMap encStr) ?hs HOa.out ⟨wz.heap.size, 0, none⟩ 1 1 (encStr s) ?hx rfl HNa.out H1s.out HMl.out HBy.out HRz.out ?_; (case hs => rfl); (case hx => rfl); intro v' w7 hr hg hv'))
        obtain ⟨Aw, ew, rfl⟩ := ownO_slice hr
        have hgb : ∀ g, (Value.slice A names.length ca).ownBlock = some g → r0 + 1 ≤ g := own_ge HOa.out
        have HB7 := Lib.hid ((HB6.out.trans (HBl2.out.mono HB6.out.size)).grown hg (HB6.out.trans (HBl2.out.mono HB6.out.size)).size (fun g e => by have := hgb g e; have := HSr.out; omega))
        have HX7 := Lib.hid ((hg.block _ (by have := (Array.getElem?_eq_some_iff.1 HX6.out).1; have := HBl2.out.size; omega) (fun e => by have := hgb _ e.symm; have := HSr.out; omega)).trans ((HBl2.out.block _ (Array.getElem?_eq_some_iff.1 HX6.out).1).trans HX6.out))
        have HRg7 := Lib.hid (show RangeU w7 u r0 m D _ cnt' from World.ranges.kept (RangeU.below HRg6.out HBl2.out) hg (fun e => by have := hgb _ e.symm; have := HUn.out; have := HSr.out; omega) (fun e => by have := hgb _ e.symm; omega))
        have HO7 := Lib.hid (show w7.ownsRow (r0 + 1) 9 1 (.slice Aw (names.length + 1) ew) (names ++ [s]).length ((names ++ [s]).flatMap encStr) from by
          rw [List.length_append, List.flatMap_append, List.flatMap_cons, List.flatMap_nil, List.append_nil]; exact hr)
        have HR7 := Lib.hid (Nat.le_trans HRz.out hg.size)
        clear hr hg hv' hgb
        go_wp2
        go_roundg cnt'
        case measure => exact HLt.out
        case rel => exact ⟨_, names ++ [s], HRg7, HSub3, HN5, Lib.hid (by have := HLc3.out; simp; omega), Lib.hid ⟨Aw, ew, by simp, HO7.out⟩, HB7, HX7, HR7⟩
end Go.Proofs.YthoehbmbmjmpbaaDoor
