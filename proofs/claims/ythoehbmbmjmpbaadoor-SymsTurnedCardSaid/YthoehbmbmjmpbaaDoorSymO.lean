/- Layer 7: Outs. No condition. -/
import Derived.Test.YthoehbmbmjmpbaaDoorSymN
namespace Go.Proofs.YthoehbmbmjmpbaaDoor
set_option maxRecDepth 100000
open Go.RowKit Go.Maps
set_option linter.unusedVariables false
/-- the names, Out, of those keys that have gone by -/
def NmO (D : DataW Unit) (left : Lit → Bool) (names : List ByteArray) : Prop :=
  ∀ s, s ∈ names ↔ ∃ t, KnW t ∧ t.1 = s ∧ t.2.2 = true ∧ has D (kKey t) = true ∧ left (kKey t) = false
theorem NmO.start (D : DataW Unit) : NmO D (has D) [] := fun s =>
  ⟨fun h => (by cases h), fun ⟨t, _, _, _, h1, h2⟩ => (by rw [h1] at h2; cases h2)⟩
theorem NmO.miss {D : DataW Unit} {left : Lit → Bool} {names : List ByteArray} {t : Kn} (h : NmO D left names) (ht : KnW t) (hm : ¬ t.2.2 = true) : NmO D (fun z => left z && !z.sameKey (kKey t)) names := fun s => by
  rw [h s]
  constructor
  · rintro ⟨u, h1, h2, h3, h4, h5⟩
    exact ⟨u, h1, h2, h3, h4, (left_next ht h1).2 (.inl h5)⟩
  · rintro ⟨u, h1, h2, h3, h4, h5⟩
    rcases (left_next ht h1).1 h5 with h | rfl
    · exact ⟨u, h1, h2, h3, h4, h⟩
    · exact absurd h3 hm
theorem NmO.hit {D : DataW Unit} {left : Lit → Bool} {names : List ByteArray} {t : Kn} (h : NmO D left names) (ht : KnW t) (hm : t.2.2 = true) (hd : has D (kKey t) = true) : NmO D (fun z => left z && !z.sameKey (kKey t)) (names ++ [t.1]) := fun s => by
  rw [List.mem_append, List.mem_singleton, h s]
  constructor
  · rintro (⟨u, h1, h2, h3, h4, h5⟩ | rfl)
    · exact ⟨u, h1, h2, h3, h4, (left_next ht h1).2 (.inl h5)⟩
    · exact ⟨t, ht, rfl, hm, hd, (left_next ht ht).2 (.inr rfl)⟩
  · rintro ⟨u, h1, h2, h3, h4, h5⟩
    rcases (left_next ht h1).1 h5 with h | rfl
    · exact .inl ⟨u, h1, h2, h3, h4, h⟩
    · exact .inr h2.symm
/-- a name is Out in an object -/
def outP (M : Kn → Option Int) (s : ByteArray) : Prop := ∃ i : Int, KnW (s, i, true) ∧ (M (s, i, true)).isSome = true
theorem outs_iff {D : DataW Unit} {M : Kn → Option Int} {left : Lit → Bool} {names : List ByteArray} (h : NmO D left names) (hl : ∀ kl, left kl = false) (hat : ∀ t, KnW t → (M t = none → has D (kKey t) = false) ∧ ∀ c, M t = some c → has D (kKey t) = true ∧ ∀ z, D.atKey (kKey t) z = .lit (.int .i64 c)) : ∀ s, s ∈ names ↔ outP M s := fun s => by
  rw [h s]
  constructor
  · rintro ⟨⟨s', i, o⟩, h1, rfl, h3, h6, _⟩
    simp only at h3
    subst h3
    exact ⟨i, h1, has_some hat h1 h6⟩
  · rintro ⟨i, h1, h2⟩
    obtain ⟨c, hc⟩ := Option.isSome_iff_exists.1 h2
    exact ⟨(s, i, true), h1, rfl, rfl, ((hat _ h1).2 c hc).1, hl _⟩
theorem field_book (n : Int) (b : Nat) (w : World) : (Instr.field 78 (.agg #[.int .i64 n, .map (some b)]) 1).run Tryd.prog w = .ok (.map (some b)) w := by kernel_rfl
attribute [local go_sem ↓] field_book
set_option maxHeartbeats 4000000 in
theorem outs_any (l : List ObjD) (hW : ∀ d ∈ l, ObjW d) (A : Option Addr) (n c lo hi : Nat) (hn : l.length = n) (hmx : n ≤ 1000000) (hsum : 2 * sumS l l.length < 1000000) (w : World) (hA : ObjsAt w lo hi l A) (hh : hi ≤ w.heap.size) :
    Calls Tryd.prog 14 #[.slice A n c] w fun e w' => ∃ names v, e = .returned v ∧ NamesAt w' w.heap.size (cmpN (srtN names)) v ∧ (∀ s, s ∈ names ↔ outP (wrL (fun _ => true) l n) s) ∧ names.length < 1000000 ∧ Below w.heap.size w w' := by
  have HCw := Lib.hid (write_every l hW A n c lo hi hn hmx hsum w hA hh)
  obtain ⟨i0, hi0, hz0, hz1, hz2⟩ := info_parts info_str
  clear hW hn hsum hA hh
  go_enter Tryd.func14, Tryd.ntmps14
  go_wp2_with fail
  refine HCw.out.mono ?_
  rintro e w1 ⟨b, N, rfl, hb0, hk, hN, hb⟩
  have HBn := Lib.hid hk.lt
  obtain ⟨D, hown, hmap, hdom, hat⟩ := hk
  have HDm := Lib.hid hdom
  have HAt := Lib.hid hat
  have HSz := Lib.hid hown.size_le
  have HN := Lib.hid hN
  have HB0 := Lib.hid hb
  have HGe := Lib.hid hb0
  clear HCw hb0 hN hb hdom hat hmap
  go_wp2_with (at_range; refine wpList_range_own _ rfl _ 76 rfl 87 3 lawKn Tryd.underlying76 _ b N D rfl hown ?_; intro w2 hrg0 hg0 hs0)
  try go_frame
  have B2 := (below_of_grown' hg0)
  have HB2 := Lib.hid (HB0.out.trans (B2.mono HB0.out.size))
  have HG0 := Lib.hid hrg0
  have HSr := Lib.hid HB0.out.size
  have HS2 := Lib.hid hs0
  clear B2 hg0 hs0 hrg0 hown
  generalize w1.heap.size = r0 at *
  go_loopg [3] (Maps.size D) (fun cnt v wr => ∃ (left : Lit → Bool) (names : List ByteArray), Hid (RangeN wr b r0 N D left cnt) ∧ Hid (∀ kl, left kl = true → has D kl = true) ∧ Hid (NmO D left names) ∧ Hid (names.length + cnt ≤ N) ∧ Hid (NamesAt wr (r0 + 1) names v) ∧ Hid (Below w.heap.size w wr) ∧ Hid (r0 + 1 ≤ wr.heap.size))
  case atStart => exact ⟨_, [], HG0, Lib.hid (fun _ h => h), Lib.hid (NmO.start D), Lib.hid (by simpa using HSz.out), Lib.hid ⟨none, 0, rfl, World.ownsRow_nil _ _ _ _⟩, HB2, Lib.hid (by have := HS2.out; omega)⟩
  case round =>
    obtain ⟨left, names, HRg, HSub, HNm, HLc, HNa, HB, HR1⟩ := hrel
    clear HG0 HB2 HS2 HB0
    have hrg := HRg.out
    go_wp2_with (at_next; refine wpList_next_ranges _ rfl _ rfl 87 lawKn (plainElem Tryd.prog 3) (fun x : Value => x) (fun x : Value => x) (fun key kl _ => ⟨key, rfl⟩) (fun v y _ => ⟨v, rfl⟩) b r0 N D left gk rfl hrg ?_ ?_)
    · intro _ hl0
      have HC := Lib.hid (outs_iff HNm.out hl0 HAt.out)
      have HLn := Lib.hid (show names.length < 1000000 by have := HLc.out; have := HN.out; omega)
      obtain ⟨A3, c3, rfl, hown⟩ := HNa.out
      have HCs := Lib.hid (sort_names names w.heap.size _ _ ⟨A3, c3, rfl, kn_base hown (by have := HSr.out; omega)⟩ (by have := HLn.out; omega))
      clear hrg hl0 hown HNa
      go_wp2_with fail
      refine HCs.out.mono ?_
      rintro e w4 ⟨rfl, hna, hb4⟩
      have HB4 := Lib.hid (HB.out.trans hb4)
      have HCc := Lib.hid (compact_names (srtN names) w.heap.size _ _ hna (by rw [srtN_length]; have := HLn.out; omega))
      clear hna hb4
      go_wp2_with fail
      refine HCc.out.mono ?_
      rintro e w5 ⟨v', rfl, hna, hb5⟩
      have HB5 := Lib.hid (HB4.out.trans hb5)
      have HN5 := Lib.hid hna
      clear hna hb5
      go_wp2
      try rw [Exit.noGoto_ret]
      go_ret
      exact ⟨names, _, rfl, HN5.out, HC.out, HLn.out, HB5.out⟩
    · intro x c kl y ps w3 cnt' hkey hlk hv hat' hrg1 hlt hg1 hs1 hen
      have hlk2 := HSub.out _ hlk
      obtain ⟨t, ht, rfl⟩ := HDm.out _ hlk2
      have hx := lawKn.inj hkey (kKey_of ht)
      subst hx
      have HB3 := Lib.hid (HB.out.grown hg1 HB.out.size (fun j hj => by cases hj; have := HSr.out; omega))
      obtain ⟨A, ca, rfl, hown⟩ := HNa.out
      have HO3 := Lib.hid (hown.kept hg1 (by
        cases hob : (Value.slice A names.length ca).ownBlock with
        | none => exact .inl rfl
        | some g => exact .inr (fun e => by cases e; have := (ownO_lt hown hob).2.1; omega)))
      have HR3 := Lib.hid (show r0 + 1 ≤ w3.heap.size from Nat.le_trans HR1.out hg1.size)
      have HRg3 := Lib.hid hrg1
      have HLt := Lib.hid hlt
      have HTw := Lib.hid ht
      have HTd := Lib.hid hlk2
      have HSub3 := Lib.hid (show ∀ kl, (left kl && !kl.sameKey (kKey t)) = true → has D kl = true from fun kl h => HSub.out kl (by simp only [Bool.and_eq_true] at h; exact h.1))
      have HLc3 := Lib.hid (show names.length + 1 + cnt' ≤ N by have := HLc.out; omega)
      clear hkey hlk hlk2 hv hat' hrg1 hlt hg1 hs1 ht hrg HB HNa HR1 HRg HSub HLc hown
      obtain ⟨s, i, o⟩ := t
      unfold knV at hen
      simp only at hen
      have HBl := Lib.hid ((Below.refl w3.heap.size w3).alloc (Nat.le_refl _) (.cells #[.string s, .int .i64 i, .bool o] 87))
      have HB4 := Lib.hid (HB3.out.trans (HBl.out.mono HB3.out.size))
      have HO4 := Lib.hid (rowO_below HO3.out HBl.out)
      have HRg4 := Lib.hid (RangeN.below HRg3.out HBl.out)
      have HR4 := Lib.hid (Nat.le_trans HR3.out HBl.out.size)
      clear HB3 HO3 HRg3 HR3
      cases o
      case false =>
        have HN5 := Lib.hid (HNm.out.miss HTw.out (fun h => by cases h))
        go_wp2
        go_roundg cnt'
        case measure => exact HLt.out
        case rel => exact ⟨_, names, HRg4, HSub3, HN5, Lib.hid (by have := HLc3.out; omega), Lib.hid ⟨A, ca, rfl, HO4.out⟩, HB4, HR4⟩
      case true =>
        go_upto_region 6 with fail
        have HN5 := Lib.hid (HNm.out.hit HTw.out rfl HTd.out)
        have HY4 := Lib.hid (heap_alloc_new w3 (.cells #[.string s, .int .i64 i, .bool true] 87))
        clear hen
        generalize (w3.alloc (.cells #[.string s, .int .i64 i, .bool true] 87)) = wr at *
        generalize w3.heap.size = kb at *
        have y0 := cell_of_row wr kb 0 _ _ _ HY4.out
        have y1 := cell_of_row wr kb 1 _ _ _ HY4.out
        simp only [List.getElem?_toArray, List.getElem?_cons_zero, List.getElem?_cons_succ] at y0 y1
        have HBl2 := Lib.hid ((Below.refl wr.heap.size wr).alloc (Nat.le_refl _) (.cells #[.string s] 9))
        have HOa := Lib.hid (rowO_below HO4.out HBl2.out)
        have HNa := Lib.hid (news_at (w := wr) (w2 := wr.alloc (.cells #[.string s] 9)) (cs := encStr s) (ty := 9) rfl)
        have HMl := Lib.hid (show names.length + 1 ≤ maxLen by have := HLc3.out; have := HN.out; unfold maxLen; omega)
        have HBy := Lib.hid (show (names.length + 1) * 16 ≤ 140737488355328 by have := HLc3.out; have := HN.out; omega)
        have HRz := Lib.hid (show r0 + 1 ≤ (wr.alloc (.cells #[.string s] 9)).heap.size from Nat.le_trans HR4.out HBl2.out.size)
        have H1s := Lib.hid (one_str s)
        go_wp2_with (at_builtin; (refine wpList_append_at6 rfl _ _ 36 rfl (r0 + 1) 9 i0 (.string ⟨#[]⟩) 1 16 Tryd.underlying36 hi0 hz0 hz1 hz2 rfl (by decide) (.slice A names.length ca) names.length (names.flatMap encStr) ?hs HOa.out ⟨wr.heap.size, 0, none⟩ 1 1 (encStr s) ?hx rfl HNa.out H1s.out HMl.out HBy.out HRz.out ?_; (case hs => rfl); (case hx => rfl); intro v' w7 hr hg hv'))
        obtain ⟨Aw, ew, rfl⟩ := ownO_slice hr
        have hgb : ∀ g, (Value.slice A names.length ca).ownBlock = some g → r0 + 1 ≤ g := own_ge HOa.out
        have HB7 := Lib.hid ((HB4.out.trans (HBl2.out.mono HB4.out.size)).grown hg (HB4.out.trans (HBl2.out.mono HB4.out.size)).size (fun g e => by have := hgb g e; have := HSr.out; omega))
        have HRg7 := Lib.hid (show RangeN w7 b r0 N D _ cnt' from World.ranges.kept (RangeN.below HRg4.out HBl2.out) hg (fun e => by have := hgb _ e.symm; have := HBn.out; have := HSr.out; omega) (fun e => by have := hgb _ e.symm; omega))
        have HO7 := Lib.hid (show w7.ownsRow (r0 + 1) 9 1 (.slice Aw (names.length + 1) ew) (names ++ [s]).length ((names ++ [s]).flatMap encStr) from by
          rw [List.length_append, List.flatMap_append, List.flatMap_cons, List.flatMap_nil, List.append_nil]; exact hr)
        have HR7 := Lib.hid (Nat.le_trans HRz.out hg.size)
        clear hr hg hv' hgb
        go_wp2
        go_roundg cnt'
        case measure => exact HLt.out
        case rel => exact ⟨_, names ++ [s], HRg7, HSub3, HN5, Lib.hid (by have := HLc3.out; simp; omega), Lib.hid ⟨Aw, ew, by simp, HO7.out⟩, HB7, HR7⟩
end Go.Proofs.YthoehbmbmjmpbaaDoor
