/- Layer 7: slices.Sort and slices.Compact of strings, of rows that the call made: by the library's contracts, laid at this program in plain words (YthoehbmbmjmpbaaGreatDoorShelf: tools/shelf.sh). No condition beside.
   Layer 7: Outs. No condition.
   Layer 7: cmp.Compare of ints. No condition.
   Layer 7: cmp.Or of two ints; byPlace. No condition. -/
import Derived.Test.YthoehbmbmjmpbaaGreatDoorSymF
import Derived.Test.YthoehbmbmjmpbaaGreatDoorShelf
import Derived.Shelf.Slices.In.SortNone
import Derived.Sort.OwnSorted
import Derived.Sort.EveryDepth
import Derived.Lib.OwnBridge
namespace Go.Proofs.YthoehbmbmjmpbaaGreatDoor
set_option maxRecDepth 100000
open Go.RowKit Go.Sort
set_option linter.unusedVariables false
/-- a row of bytes' rows in their order -/
def srtB (ss : List (List UInt8)) : List (List UInt8) := ss.mergeSort fun x y => decide (x ≤ y)
theorem sort_rows (ss : List (List UInt8)) (base n : Nat) (v : Value) (w : World) (h : w.ownsRow base 9 1 v n (ss.map Proofs.encStr)) (hn : n ≤ 100000000) :
    Calls Tryz.prog 49 #[v] w fun e w' => e = .returned (.tuple #[]) ∧ w'.ownsRow base 9 1 v n ((srtB ss).map Proofs.encStr) ∧ Below base w w' := by
  have hl : ss.length = n := by simpa using h.1
  rcases h.2 with ⟨rfl, rfl⟩ | ⟨g, cap, cur, rfl, hbase, hb, h1, h2, h3, h4⟩
  · have hs : ss = [] := List.eq_nil_of_length_eq_zero hl
    subst hs
    refine (calls_of_every_depth fun D => AnyS.slices_Sort_string_none_alone Tryz.laysSort D none 0 w).mono ?_
    rintro e w' ⟨rfl, rfl⟩
    exact ⟨rfl, by unfold srtB; rw [List.mergeSort_nil]; exact h, Below.refl _ _⟩
  · have hg : g < w.heap.size := (Array.getElem?_eq_some_iff.1 hb).1
    have hH : Holds Proofs.encStr w g 0 ss.toArray := holds_of_block hb (by rw [hl]; simpa using h4)
    subst hl
    refine (calls_of_every_depth fun D => AnyS.slices_Sort_string_alone Tryz.laysSort D g 0 cap ss w hH hg (by omega)).mono ?_
    rintro e w' ⟨rfl, q, os, rfl⟩
    exact ⟨rfl, ownsRow_sorted (List.length_mergeSort ss) hbase hb h1 h2 h3, (Below.refl base w).grown (grownBy_sorted _) (by omega) (fun k hk => by cases hk; exact hbase)⟩
theorem compact_rows (ss : List (List UInt8)) (base n : Nat) (v : Value) (w : World) (h : w.ownsRow base 9 1 v n (ss.map Proofs.encStr)) (hn : n ≤ 100000000) :
    Calls Tryz.prog 50 #[v] w fun e w' => ∃ v', e = .returned v' ∧ w'.ownsRow base 9 1 v' (Lib.compact ss).length ((Lib.compact ss).map Proofs.encStr) ∧ Below base w w' := by
  have hl : ss.length = n := by simpa using h.1
  rcases h.2 with ⟨rfl, rfl⟩ | ⟨g, cap, cur, rfl, hbase, hb, h1, h2, h3, h4⟩
  · have hs : ss = [] := List.eq_nil_of_length_eq_zero hl
    subst hs
    refine (calls_of_every_depth fun D => AnyS.slices_Compact_string_empty_in Tryz.laysCompact D none 0 w).mono ?_
    rintro e w' ⟨rfl, rfl⟩
    exact ⟨_, rfl, h, Below.refl _ _⟩
  · have hg : g < w.heap.size := (Array.getElem?_eq_some_iff.1 hb).1
    have hH : Holds Proofs.encStr w g 0 ss.toArray := holds_of_block hb (by rw [hl]; simpa using h4)
    subst hl
    refine (calls_of_every_depth fun D => AnyS.slices_Compact_string_in Tryz.laysCompact D g 0 cap ss w hH (by omega) h1).mono ?_
    rintro e w' ⟨rfl, q, rfl⟩
    have hle := Lib.compact_length_le ss
    have hc := Lib.ownsRow_putRow (q := q) (k := (Lib.compact ss).length) (ys := Lib.compact ss ++ List.replicate (ss.length - (Lib.compact ss).length) []) h (by simp; omega) hle
    rw [List.take_left] at hc
    exact ⟨_, rfl, hc, Lib.below_putRow (Below.refl base w) hbase⟩
def rowsB (names : List ByteArray) : List (List UInt8) := names.map (·.data.toList)
def namesL (ss : List (List UInt8)) : List ByteArray := ss.map fun l => ⟨l.toArray⟩
theorem flat_bytes (names : List ByteArray) : names.flatMap encStr = (rowsB names).map Proofs.encStr := by
  unfold rowsB encStr
  rw [Lib.map_encStr]
  induction names with
  | nil => rfl
  | cons a l ih => rw [List.flatMap_cons, ih]; rfl
theorem flat_names (ss : List (List UInt8)) : (namesL ss).flatMap encStr = ss.map Proofs.encStr := by
  unfold namesL encStr
  induction ss with
  | nil => rfl
  | cons a l ih => rw [List.map_cons, List.flatMap_cons, ih]; rfl
/-- names in their order; names without those that follow their like -/
def srtN (names : List ByteArray) : List ByteArray := namesL (srtB (rowsB names))
def cmpN (names : List ByteArray) : List ByteArray := namesL (Lib.compact (rowsB names))
theorem srtN_length (names : List ByteArray) : (srtN names).length = names.length := by
  unfold srtN namesL srtB rowsB
  rw [List.length_map, List.length_mergeSort, List.length_map]
theorem sort_names (names : List ByteArray) (base : Nat) (v : Value) (w : World) (h : NamesAt w base names v) (hn : names.length ≤ 100000000) :
    Calls Tryz.prog 49 #[v] w fun e w' => e = .returned (.tuple #[]) ∧ NamesAt w' base (srtN names) v ∧ Below base w w' := by
  obtain ⟨A, c, hv, ho⟩ := h
  rw [flat_bytes] at ho
  refine (sort_rows _ base _ v w ho hn).mono ?_
  rintro e w' ⟨he, h1, h2⟩
  refine ⟨he, ⟨A, c, by rw [srtN_length]; exact hv, ?_⟩, h2⟩
  rw [srtN_length]
  unfold srtN
  rw [flat_names]
  exact h1
theorem compact_names (names : List ByteArray) (base : Nat) (v : Value) (w : World) (h : NamesAt w base names v) (hn : names.length ≤ 100000000) :
    Calls Tryz.prog 50 #[v] w fun e w' => ∃ v', e = .returned v' ∧ NamesAt w' base (cmpN names) v' ∧ Below base w w' := by
  obtain ⟨A, c, hv, ho⟩ := h
  rw [flat_bytes] at ho
  refine (compact_rows _ base _ v w ho hn).mono ?_
  rintro e w' ⟨v', he, h1, h2⟩
  have hl : (cmpN names).length = (Lib.compact (rowsB names)).length := by unfold cmpN namesL; rw [List.length_map]
  have hs : ∃ A' c', v' = .slice A' (cmpN names).length c' := by
    rw [hl]
    rcases h1.2 with ⟨e0, e1⟩ | ⟨g, cap, cur, e0, _⟩
    · exact ⟨none, 0, by rw [e0, e1]⟩
    · exact ⟨_, _, e0⟩
  obtain ⟨A', c', hv'⟩ := hs
  refine ⟨v', he, ⟨A', c', hv', ?_⟩, h2⟩
  rw [hl]
  unfold cmpN
  rw [flat_names]
  exact h1
end Go.Proofs.YthoehbmbmjmpbaaGreatDoor
namespace Go.Proofs.YthoehbmbmjmpbaaGreatDoor
set_option maxRecDepth 100000
open Go.RowKit Go.Maps
set_option linter.unusedVariables false
/-- the names, Out, of those keys that have gone by -/
def NmO (D : DataW Unit) (left : Lit → Bool) (names : List ByteArray) : Prop :=
  ∀ s, s ∈ names ↔ ∃ t, KnW t ∧ t.1 = s ∧ t.2.2 = true ∧ has D (kKey t) = true ∧ left (kKey t) = false
theorem NmO.start (D : DataW Unit) : NmO D (has D) [] := fun s =>
  ⟨fun h => (by cases h), fun ⟨t, _, _, _, h1, h2⟩ => (by rw [h1] at h2; cases h2)⟩
theorem NmO.miss {D : DataW Unit} {left : Lit → Bool} {names : List ByteArray} {t : Kn} (h : NmO D left names) (ht : KnW t) (hm : ¬ t.2.2 = true) : NmO D (fun z => left z && !z.sameKey (kKey t)) names := fun s => by
  rw [h s]
  constructor
  · rintro ⟨u, h1, h2, h3, h4, h5⟩
    exact ⟨u, h1, h2, h3, h4, (left_next ht h1).2 (.inl h5)⟩
  · rintro ⟨u, h1, h2, h3, h4, h5⟩
    rcases (left_next ht h1).1 h5 with h | rfl
    · exact ⟨u, h1, h2, h3, h4, h⟩
    · exact absurd h3 hm
theorem NmO.hit {D : DataW Unit} {left : Lit → Bool} {names : List ByteArray} {t : Kn} (h : NmO D left names) (ht : KnW t) (hm : t.2.2 = true) (hd : has D (kKey t) = true) : NmO D (fun z => left z && !z.sameKey (kKey t)) (names ++ [t.1]) := fun s => by
  rw [List.mem_append, List.mem_singleton, h s]
  constructor
  · rintro (⟨u, h1, h2, h3, h4, h5⟩ | rfl)
    · exact ⟨u, h1, h2, h3, h4, (left_next ht h1).2 (.inl h5)⟩
    · exact ⟨t, ht, rfl, hm, hd, (left_next ht ht).2 (.inr rfl)⟩
  · rintro ⟨u, h1, h2, h3, h4, h5⟩
    rcases (left_next ht h1).1 h5 with h | rfl
    · exact .inl ⟨u, h1, h2, h3, h4, h⟩
    · exact .inr h2.symm
/-- a name is Out in an object -/
def outP (M : Kn → Option Int) (s : ByteArray) : Prop := ∃ i : Int, KnW (s, i, true) ∧ (M (s, i, true)).isSome = true
theorem outs_iff {D : DataW Unit} {M : Kn → Option Int} {left : Lit → Bool} {names : List ByteArray} (h : NmO D left names) (hl : ∀ kl, left kl = false) (hat : ∀ t, KnW t → (M t = none → has D (kKey t) = false) ∧ ∀ c, M t = some c → has D (kKey t) = true ∧ ∀ z, D.atKey (kKey t) z = .lit (.int .i64 c)) : ∀ s, s ∈ names ↔ outP M s := fun s => by
  rw [h s]
  constructor
  · rintro ⟨⟨s', i, o⟩, h1, rfl, h3, h6, _⟩
    simp only at h3
    subst h3
    exact ⟨i, h1, has_some hat h1 h6⟩
  · rintro ⟨i, h1, h2⟩
    obtain ⟨c, hc⟩ := Option.isSome_iff_exists.1 h2
    exact ⟨(s, i, true), h1, rfl, rfl, ((hat _ h1).2 c hc).1, hl _⟩
theorem field_book (n : Int) (b : Nat) (w : World) : (Instr.field 68 (.agg #[.int .i64 n, .map (some b)]) 1).run Tryz.prog w = .ok (.map (some b)) w := by kernel_rfl
attribute [local go_sem ↓] field_book
set_option maxHeartbeats 4000000 in
theorem outs_any (l : List ObjD) (hW : ∀ d ∈ l, ObjW d) (A : Option Addr) (n c lo hi : Nat) (hn : l.length = n) (hmx : n ≤ 1000000) (hsum : 2 * sumS l l.length < 1000000) (w : World) (hA : ObjsAt w lo hi l A) (hh : hi ≤ w.heap.size) :
    Calls Tryz.prog 22 #[.slice A n c] w fun e w' => ∃ names v, e = .returned v ∧ NamesAt w' w.heap.size (cmpN (srtN names)) v ∧ (∀ s, s ∈ names ↔ outP (wrL (fun _ => true) l n) s) ∧ names.length < 1000000 ∧ Below w.heap.size w w' := by
  have HCw := Lib.hid (write_every l hW A n c lo hi hn hmx hsum w hA hh)
  obtain ⟨i0, hi0, hz0, hz1, hz2⟩ := info_parts info_str
  clear hW hn hsum hA hh
  go_enter Tryz.func22, Tryz.ntmps22
  go_wp2_with fail
  refine HCw.out.mono ?_
  rintro e w1 ⟨b, N, rfl, hb0, hk, hN, hb⟩
  have HBn := Lib.hid hk.lt
  obtain ⟨D, hown, hmap, hdom, hat⟩ := hk
  have HDm := Lib.hid hdom
  have HAt := Lib.hid hat
  have HSz := Lib.hid hown.size_le
  have HN := Lib.hid hN
  have HB0 := Lib.hid hb
  have HGe := Lib.hid hb0
  clear HCw hb0 hN hb hdom hat hmap
  go_wp2_with (at_range; refine wpList_range_own _ rfl _ 66 rfl 94 3 lawKn Tryz.underlying66 _ b N D rfl hown ?_; intro w2 hrg0 hg0 hs0)
  try go_frame
  have B2 := (below_of_grown' hg0)
  have HB2 := Lib.hid (HB0.out.trans (B2.mono HB0.out.size))
  have HG0 := Lib.hid hrg0
  have HSr := Lib.hid HB0.out.size
  have HS2 := Lib.hid hs0
  clear B2 hg0 hs0 hrg0 hown
  generalize w1.heap.size = r0 at *
  go_loopg [3] (Maps.size D) (fun cnt v wr => ∃ (left : Lit → Bool) (names : List ByteArray), Hid (RangeN wr b r0 N D left cnt) ∧ Hid (∀ kl, left kl = true → has D kl = true) ∧ Hid (NmO D left names) ∧ Hid (names.length + cnt ≤ N) ∧ Hid (NamesAt wr (r0 + 1) names v) ∧ Hid (Below w.heap.size w wr) ∧ Hid (r0 + 1 ≤ wr.heap.size))
  case atStart => exact ⟨_, [], HG0, Lib.hid (fun _ h => h), Lib.hid (NmO.start D), Lib.hid (by simpa using HSz.out), Lib.hid ⟨none, 0, rfl, World.ownsRow_nil _ _ _ _⟩, HB2, Lib.hid (by have := HS2.out; omega)⟩
  case round =>
    obtain ⟨left, names, HRg, HSub, HNm, HLc, HNa, HB, HR1⟩ := hrel
    clear HG0 HB2 HS2 HB0
    have hrg := HRg.out
    go_wp2_with (at_next; refine wpList_next_ranges _ rfl _ rfl 94 lawKn (plainElem Tryz.prog 3) (fun x : Value => x) (fun x : Value => x) (fun key kl _ => ⟨key, rfl⟩) (fun v y _ => ⟨v, rfl⟩) b r0 N D left gk rfl hrg ?_ ?_)
    · intro _ hl0
      have HC := Lib.hid (outs_iff HNm.out hl0 HAt.out)
      have HLn := Lib.hid (show names.length < 1000000 by have := HLc.out; have := HN.out; omega)
      obtain ⟨A3, c3, rfl, hown⟩ := HNa.out
      have HCs := Lib.hid (sort_names names w.heap.size _ _ ⟨A3, c3, rfl, kn_base hown (by have := HSr.out; omega)⟩ (by have := HLn.out; omega))
      clear hrg hl0 hown HNa
      go_wp2_with fail
      refine HCs.out.mono ?_
      rintro e w4 ⟨rfl, hna, hb4⟩
      have HB4 := Lib.hid (HB.out.trans hb4)
      have HCc := Lib.hid (compact_names (srtN names) w.heap.size _ _ hna (by rw [srtN_length]; have := HLn.out; omega))
      clear hna hb4
      go_wp2_with fail
      refine HCc.out.mono ?_
      rintro e w5 ⟨v', rfl, hna, hb5⟩
      have HB5 := Lib.hid (HB4.out.trans hb5)
      have HN5 := Lib.hid hna
      clear hna hb5
      go_wp2
      try rw [Exit.noGoto_ret]
      go_ret
      exact ⟨names, _, rfl, HN5.out, HC.out, HLn.out, HB5.out⟩
    · intro x c kl y ps w3 cnt' hkey hlk hv hat' hrg1 hlt hg1 hs1 hen
      have hlk2 := HSub.out _ hlk
      obtain ⟨t, ht, rfl⟩ := HDm.out _ hlk2
      have hx := lawKn.inj hkey (kKey_of ht)
      subst hx
      have HB3 := Lib.hid (HB.out.grown hg1 HB.out.size (fun j hj => by cases hj; have := HSr.out; omega))
      obtain ⟨A, ca, rfl, hown⟩ := HNa.out
      have HO3 := Lib.hid (hown.kept hg1 (by
        cases hob : (Value.slice A names.length ca).ownBlock with
        | none => exact .inl rfl
        | some g => exact .inr (fun e => by cases e; have := (ownO_lt hown hob).2.1; omega)))
      have HR3 := Lib.hid (show r0 + 1 ≤ w3.heap.size from Nat.le_trans HR1.out hg1.size)
      have HRg3 := Lib.hid hrg1
      have HLt := Lib.hid hlt
      have HTw := Lib.hid ht
      have HTd := Lib.hid hlk2
      have HSub3 := Lib.hid (show ∀ kl, (left kl && !kl.sameKey (kKey t)) = true → has D kl = true from fun kl h => HSub.out kl (by simp only [Bool.and_eq_true] at h; exact h.1))
      have HLc3 := Lib.hid (show names.length + 1 + cnt' ≤ N by have := HLc.out; omega)
      clear hkey hlk hlk2 hv hat' hrg1 hlt hg1 hs1 ht hrg HB HNa HR1 HRg HSub HLc hown
      obtain ⟨s, i, o⟩ := t
      unfold knV at hen
      simp only at hen
      have HBl := Lib.hid ((Below.refl w3.heap.size w3).alloc (Nat.le_refl _) (.cells #[.string s, .int .i64 i, .bool o] 94))
      have HB4 := Lib.hid (HB3.out.trans (HBl.out.mono HB3.out.size))
      have HO4 := Lib.hid (rowO_below HO3.out HBl.out)
      have HRg4 := Lib.hid (RangeN.below HRg3.out HBl.out)
      have HR4 := Lib.hid (Nat.le_trans HR3.out HBl.out.size)
      clear HB3 HO3 HRg3 HR3
      cases o
      case false =>
        have HN5 := Lib.hid (HNm.out.miss HTw.out (fun h => by cases h))
        go_wp2
        go_roundg cnt'
        case measure => exact HLt.out
        case rel => exact ⟨_, names, HRg4, HSub3, HN5, Lib.hid (by have := HLc3.out; omega), Lib.hid ⟨A, ca, rfl, HO4.out⟩, HB4, HR4⟩
      case true =>
        go_upto_region 6 with fail
        have HN5 := Lib.hid (HNm.out.hit HTw.out rfl HTd.out)
        have HY4 := Lib.hid (heap_alloc_new w3 (.cells #[.string s, .int .i64 i, .bool true] 94))
        clear hen
        generalize (w3.alloc (.cells #[.string s, .int .i64 i, .bool true] 94)) = wr at *
        generalize w3.heap.size = kb at *
        have y0 := cell_of_row wr kb 0 _ _ _ HY4.out
        have y1 := cell_of_row wr kb 1 _ _ _ HY4.out
        simp only [List.getElem?_toArray, List.getElem?_cons_zero, List.getElem?_cons_succ] at y0 y1
        have HBl2 := Lib.hid ((Below.refl wr.heap.size wr).alloc (Nat.le_refl _) (.cells #[.string s] 9))
        have HOa := Lib.hid (rowO_below HO4.out HBl2.out)
        have HNa := Lib.hid (news_at (w := wr) (w2 := wr.alloc (.cells #[.string s] 9)) (cs := encStr s) (ty := 9) rfl)
        have HMl := Lib.hid (show names.length + 1 ≤ maxLen by have := HLc3.out; have := HN.out; unfold maxLen; omega)
        have HBy := Lib.hid (show (names.length + 1) * 16 ≤ 140737488355328 by have := HLc3.out; have := HN.out; omega)
        have HRz := Lib.hid (show r0 + 1 ≤ (wr.alloc (.cells #[.string s] 9)).heap.size from Nat.le_trans HR4.out HBl2.out.size)
        have H1s := Lib.hid (one_str s)
        go_wp2_with (at_builtin; (refine wpList_append_at6 rfl _ _ 23 rfl (r0 + 1) 9 i0 (.string ⟨#[]⟩) 1 16 Tryz.underlying23 hi0 hz0 hz1 hz2 rfl (by decide) (.slice A names.length ca) names.length (names.flatMap encStr) ?hs HOa.out ⟨wr.heap.size, 0, none⟩ 1 1 (encStr s) ?hx rfl HNa.out H1s.out HMl.out HBy.out HRz.out ?_; (case hs => rfl); (case hx => rfl); intro v' w7 hr hg hv'))
        obtain ⟨Aw, ew, rfl⟩ := ownO_slice hr
        have hgb : ∀ g, (Value.slice A names.length ca).ownBlock = some g → r0 + 1 ≤ g := own_ge HOa.out
        have HB7 := Lib.hid ((HB4.out.trans (HBl2.out.mono HB4.out.size)).grown hg (HB4.out.trans (HBl2.out.mono HB4.out.size)).size (fun g e => by have := hgb g e; have := HSr.out; omega))
        have HRg7 := Lib.hid (show RangeN w7 b r0 N D _ cnt' from World.ranges.kept (RangeN.below HRg4.out HBl2.out) hg (fun e => by have := hgb _ e.symm; have := HBn.out; have := HSr.out; omega) (fun e => by have := hgb _ e.symm; omega))
        have HO7 := Lib.hid (show w7.ownsRow (r0 + 1) 9 1 (.slice Aw (names.length + 1) ew) (names ++ [s]).length ((names ++ [s]).flatMap encStr) from by
          rw [List.length_append, List.flatMap_append, List.flatMap_cons, List.flatMap_nil, List.append_nil]; exact hr)
        have HR7 := Lib.hid (Nat.le_trans HRz.out hg.size)
        clear hr hg hv' hgb
        go_wp2
        go_roundg cnt'
        case measure => exact HLt.out
        case rel => exact ⟨_, names ++ [s], HRg7, HSub3, HN5, Lib.hid (by have := HLc3.out; simp; omega), Lib.hid ⟨Aw, ew, by simp, HO7.out⟩, HB7, HR7⟩
end Go.Proofs.YthoehbmbmjmpbaaGreatDoor
namespace Go.Proofs.YthoehbmbmjmpbaaGreatDoor
set_option maxRecDepth 100000
open Go.RowKit Go.Maps
set_option linter.unusedVariables false
/-- cmp.Compare -/
def cmpI (x y : Int) : Int := if x < y then -1 else if y < x then 1 else 0
theorem isnan_any (x : Int) (w : World) : Calls Tryz.prog 111 #[.int .i64 x] w fun e w' => e = .returned (.bool false) ∧ w' = w := by
  go_enter Tryz.func111, Tryz.ntmps111
  go_wp2
  go_ret
  exact ⟨by simp, rfl⟩
set_option maxHeartbeats 4000000 in
theorem compare_any (x y : Int) (w : World) : Calls Tryz.prog 77 #[.int .i64 x, .int .i64 y] w fun e w' => e = .returned (.int .i64 (cmpI x y)) ∧ w' = w := by
  have HC := fun (z : Int) (W : World) => isnan_any z W
  unfold cmpI
  by_cases h1 : x < y
  · have HR := Lib.hid (show (if x < y then (-1 : Int) else if y < x then 1 else 0) = -1 from if_pos h1)
    rw [HR.out]
    go_enter Tryz.func77, Tryz.ntmps77
    go_wp2_with (go_at_call 111; refine (HC _ _).mono ?_; rintro e w' ⟨rfl, rfl⟩)
    go_ret
    exact ⟨rfl, rfl⟩
  · by_cases h2 : y < x
    · rw [if_neg h1, if_pos h2]
      have h2' : x > y := h2
      go_enter Tryz.func77, Tryz.ntmps77
      go_wp2_with (go_at_call 111; refine (HC _ _).mono ?_; rintro e w' ⟨rfl, rfl⟩)
      go_ret
      exact ⟨rfl, rfl⟩
    · rw [if_neg h1, if_neg h2]
      have h2' : ¬ x > y := h2
      go_enter Tryz.func77, Tryz.ntmps77
      go_wp2_with (go_at_call 111; refine (HC _ _).mono ?_; rintro e w' ⟨rfl, rfl⟩)
      go_ret
      exact ⟨rfl, rfl⟩
end Go.Proofs.YthoehbmbmjmpbaaGreatDoor
namespace Go.Proofs.YthoehbmbmjmpbaaGreatDoor
set_option maxRecDepth 100000
open Go.RowKit Go.Maps
set_option linter.unusedVariables false
/-- cmp.Or of two -/
def orI (x y : Int) : Int := if x = 0 then y else x
set_option maxHeartbeats 4000000 in
theorem or_any (x y : Int) (g : Nat) (w : World) (h : w.heap[g]? = some (.cells #[.int .i64 x, .int .i64 y] 3 (0, 0))) : Calls Tryz.prog 76 #[.slice (some ⟨g, 0, none⟩) 2 2] w fun e w' => e = .returned (.int .i64 (orI x y)) ∧ w' = w := by
  have HX := Lib.hid h
  clear h
  go_enter Tryz.func76, Tryz.ntmps76
  obtain ⟨x0, x1, xf⟩ := row2 HX.out
  go_wp2
  go_loopg [8] 2 (fun m v wr => ∃ k : Nat, k + m = 2 ∧ v = .int .i64 k ∧ Hid (0 < k → x = 0) ∧ Hid (1 < k → y = 0) ∧ wr = w)
  case atStart => exact ⟨0, rfl, rfl, Lib.hid (fun h => by omega), Lib.hid (fun h => by omega), rfl⟩
  case round =>
    obtain ⟨k, hk, rfl, H0, H1, rfl⟩ := hrel
    rcases (show k = 0 ∨ k = 1 ∨ k = 2 by omega) with rfl | rfl | rfl
    · have hgk : gk = 2 := by omega
      clear hk
      by_cases hx : x = 0
      · have HX0 := Lib.hid hx
        go_wp2
        go_roundg 1
        case measure => omega
        case rel => exact ⟨1, rfl, rfl, Lib.hid (fun _ => HX0.out), Lib.hid (fun h => by omega), rfl⟩
      · have HO := Lib.hid (show orI x y = x from if_neg hx)
        go_wp2
        go_ret
        exact ⟨by rw [HO.out]; rfl, rfl⟩
    · have hgk : gk = 1 := by omega
      clear hk
      have HO := Lib.hid (show orI x y = y from if_pos (H0.out (by omega)))
      by_cases hy : y = 0
      · have HY0 := Lib.hid hy
        have HX0 := Lib.hid (H0.out (by omega))
        go_wp2
        go_roundg 0
        case measure => omega
        case rel => exact ⟨2, rfl, rfl, Lib.hid (fun _ => HX0.out), Lib.hid (fun _ => HY0.out), rfl⟩
      · go_wp2
        go_ret
        exact ⟨by rw [HO.out]; rfl, rfl⟩
    · clear hk
      have HO := Lib.hid (show orI x y = 0 from (if_pos (H0.out (by omega))).trans (H1.out (by omega)))
      go_wp2
      go_ret
      exact ⟨by rw [HO.out]; rfl, rfl⟩
theorem calls_cmp (args : Array Value) (w : World) : (callFunc 77 args).run Tryz.prog w = .ok (.enter 77 args) w := by kernel_rfl
theorem calls_or (args : Array Value) (w : World) : (callFunc 76 args).run Tryz.prog w = .ok (.enter 76 args) w := by kernel_rfl
set_option maxHeartbeats 4000000 in
theorem by_place (ao az bo bs : Int) (w : World) : Calls Tryz.prog 53 #[.agg #[.int .i64 ao, .int .i64 az], .agg #[.int .i64 bo, .int .i64 bs]] w fun e w' => e = .returned (.int .i64 (orI (cmpI ao bo) (cmpI az bs))) ∧ ∃ q os', w' = Sort.grow (w.drewN q) os' := by
  go_enter Tryz.func53, Tryz.ntmps53
  go_upto_region 1 with fail
  have HB1 := Lib.hid ((Below.refl w.heap.size w).alloc (Nat.le_refl _) (.cells #[.int .i64 ao, .int .i64 az] 45))
  have HB2 := Lib.hid ((Below.refl (w.alloc (.cells #[.int .i64 ao, .int .i64 az] 45)).heap.size (w.alloc (.cells #[.int .i64 ao, .int .i64 az] 45))).alloc (Nat.le_refl _) (.cells #[.int .i64 bo, .int .i64 bs] 45))
  have H1 := Lib.hid (heap_alloc_new w (.cells #[.int .i64 ao, .int .i64 az] 45))
  have H2 := Lib.hid (heap_alloc_new (w.alloc (.cells #[.int .i64 ao, .int .i64 az] 45)) (.cells #[.int .i64 bo, .int .i64 bs] 45))
  have hsz : (w.alloc (.cells #[.int .i64 ao, .int .i64 az] 45)).heap.size = w.heap.size + 1 := by simp
  have HB := Lib.hid (HB1.out.trans (HB2.out.mono HB1.out.size))
  have H3 := Lib.hid ((HB2.out.block _ (by rw [hsz]; omega)).trans H1.out)
  rw [hsz] at H2
  have HG := Lib.hid (show ∃ q os', ((w.alloc (.cells #[.int .i64 ao, .int .i64 az] 45)).alloc (.cells #[.int .i64 bo, .int .i64 bs] 45)).drew.alloc (.cells #[.int .i64 (cmpI ao bo), .int .i64 (cmpI az bs)] 3) = Sort.grow (w.drewN q) os' from ⟨1, _, by rw [Sort.alloc_eq_grow, Sort.alloc_eq_grow, Sort.alloc_eq_grow, Sort.grow_grow]; exact Sort.grow_grow (w.drewN 1) _ _⟩)
  generalize ((w.alloc (.cells #[.int .i64 ao, .int .i64 az] 45)).alloc (.cells #[.int .i64 bo, .int .i64 bs] 45)) = W at *
  obtain ⟨x0, x1, xf⟩ := row2 H3.out
  obtain ⟨y0, y1, yf⟩ := row2 H2.out
  have HO := Lib.hid (or_any (cmpI ao bo) (cmpI az bs) W.heap.size (W.drew.alloc (.cells #[.int .i64 (cmpI ao bo), .int .i64 (cmpI az bs)] 3)) (heap_alloc_new W.drew _))
  have _HD := Lib.hid (HB.out.trans ((((Below.refl W.heap.size W).drew).alloc (show W.heap.size ≤ W.drew.heap.size from Nat.le_refl _) (.cells #[.int .i64 (cmpI ao bo), .int .i64 (cmpI az bs)] 3)).mono HB.out.size))
  clear HB1 HB2 H1 hsz
  go_region_law (first
    | (refine step_call6 rfl 77 _ _ rfl #[.int .i64 ao, .int .i64 bo] ?hv calls_cmp (compare_any ao bo _) ?_; (case hv => simp [go_sem]); rintro e w5 ⟨rfl, rfl⟩; refine ⟨_, rfl, ?_⟩)
    | (refine step_call6 rfl 77 _ _ rfl #[.int .i64 az, .int .i64 bs] ?hv calls_cmp (compare_any az bs _) ?_; (case hv => simp [go_sem]); rintro e w5 ⟨rfl, rfl⟩; refine ⟨_, rfl, ?_⟩)
    | (refine step_call6 rfl 76 _ _ rfl #[.slice (some ⟨W.heap.size, 0, none⟩) 2 2] ?hv calls_or HO.out ?_; (case hv => simp [go_sem]); rintro e w5 ⟨rfl, rfl⟩; refine ⟨_, rfl, ?_⟩))
  all_goals
    go_wp2
    go_ret
    exact ⟨rfl, HG.out⟩
end Go.Proofs.YthoehbmbmjmpbaaGreatDoor
