/- Layer 7: a list the other way round; an object with others that have none Out. No condition. -/
import Derived.Test.YthoehbmbmjmpbaaDoorSynP
import Derived.Test.YthoehbmbmjmpbaaDoorSymS
import Derived.Test.YthoehbmbmjmpbaaDoorSymO
namespace Go.Proofs.YthoehbmbmjmpbaaDoor
set_option linter.unusedVariables false
theorem nAt_rev {l : List ObjD} {q : Nat} (hq : q < l.length) : nAt l.reverse q = nAt l (l.length - 1 - q) := by
  rw [nAt_get (by simpa using hq), nAt_get (by omega), List.getElem_reverse]
theorem mayLs_rev (l : List ObjD) : mayLs l.reverse = mayLs l := by unfold mayLs; simp
theorem clash_rev1 {l : List ObjD} (hl : l.length ≤ 1000000) {s : ByteArray} (h : clashP (bookM l.reverse) s) : clashP (bookM l) s := by
  rw [clash_plain (by simpa using hl)] at h
  rw [clash_plain hl]
  obtain ⟨h0, a, i, h1, h2, h3, h4⟩ := h
  rw [List.length_reverse] at h2
  rw [nAt_rev (by omega)] at h3 h4
  exact ⟨h0, l.length - 1 - i, l.length - 1 - a, by omega, by omega, h4, h3⟩
theorem clash_rev {l : List ObjD} (hl : l.length ≤ 1000000) (s : ByteArray) : clashP (bookM l.reverse) s ↔ clashP (bookM l) s :=
  ⟨clash_rev1 hl, fun h => clash_rev1 (l := l.reverse) (by simpa using hl) (by rw [List.reverse_reverse]; exact h)⟩
theorem void_rev1 {l : List ObjD} (hl : l.length ≤ 1000000) {s : ByteArray} (h : voidsP (bookM l.reverse) l.reverse.length (usL l.reverse l.reverse.length) s) : voidsP (bookM l) l.length (usL l l.length) s := by
  rw [voids_plain (by simpa using hl)] at h
  rw [voids_plain hl]
  obtain ⟨h0, q, h1, h2, h3, h4⟩ := h
  rw [List.length_reverse] at h1 h4
  rw [nAt_rev h1] at h2 h3
  refine ⟨h0, l.length - 1 - q, by omega, h2, h3, fun j hj => ?_⟩
  have := h4 (l.length - 1 - j) (by omega)
  rw [nAt_rev (by omega), show l.length - 1 - (l.length - 1 - j) = j by omega] at this
  exact this
theorem void_rev {l : List ObjD} (hl : l.length ≤ 1000000) (s : ByteArray) : voidsP (bookM l.reverse) l.reverse.length (usL l.reverse l.reverse.length) s ↔ voidsP (bookM l) l.length (usL l l.length) s :=
  ⟨void_rev1 hl, fun h => void_rev1 (l := l.reverse) (by simpa using hl) (by rw [List.reverse_reverse]; exact h)⟩
theorem ChkP.congr {l m : List ObjD} (h1 : mayLs l = mayLs m) (h2 : ∀ s, clashP (bookM l) s ↔ clashP (bookM m) s) (h3 : ∀ s, voidsP (bookM l) l.length (usL l l.length) s ↔ voidsP (bookM m) m.length (usL m m.length) s) {s : ByteArray} {c : Int} (h : ChkP l s c) : ChkP m s c := by
  unfold ChkP at *
  rw [← h1]
  rcases h with h | ⟨a, ⟨nm, b1, b2⟩, e⟩ | ⟨a, b, ⟨nm, c1, c2⟩, e⟩ | ⟨a, b, c, e⟩
  · exact .inl h
  · exact .inr (.inl ⟨a, ⟨nm, fun x => (b1 x).trans (h2 x), b2⟩, e⟩)
  · exact .inr (.inr (.inl ⟨a, fun x => fun hx => b x ((h2 x).2 hx), ⟨nm, fun x => (c1 x).trans (h3 x), c2⟩, e⟩))
  · exact .inr (.inr (.inr ⟨a, fun x hx => b x ((h2 x).2 hx), fun x hx => c x ((h3 x).2 hx), e⟩))
theorem chk_rev {l : List ObjD} (hl : l.length ≤ 1000000) {s : ByteArray} {c : Int} (h : ChkP l.reverse s c) : ChkP l s c :=
  h.congr (mayLs_rev l) (clash_rev hl) (void_rev hl)
theorem ok_rev {l : List ObjD} (hl : l.length ≤ 1000000) (h : okL l) : okL l.reverse :=
  ⟨by rw [mayLs_rev]; exact h.1, fun x hx => h.2.1 x ((clash_rev hl x).1 hx), fun x hx => h.2.2 x ((void_rev hl x).1 hx)⟩
/-- what a name means, in the list the other way round -/
theorem find_rev {l : List ObjD} (hl : l.length ≤ 1000000) {q : Nat} (hq : q < l.length) {s : ByteArray} (hs : s.size ≤ maxLen) (hno : ¬ clashP (bookM l) s) {k : Nat} {j : Int} (hk : k < l.length) (h : findP l q s = some ((k : Int), j)) :
    findP l.reverse (l.length - 1 - q) s = some (((l.length - 1 - k : Nat) : Int), j) := by
  unfold findP at h ⊢
  rw [nAt_rev (by omega), show l.length - 1 - (l.length - 1 - q) = q by omega]
  cases e : idxS (nAt l q).syms s false with
  | some j' =>
    rw [e] at h
    simp only [Option.some.injEq, Prod.mk.injEq] at h
    obtain ⟨h1, rfl⟩ := h
    have : q = k := by omega
    subst this
    rfl
  | none =>
    rw [e] at h
    simp only at h
    obtain ⟨k', hk', hx⟩ := List.exists_of_findSome?_eq_some h
    rw [Option.map_eq_some_iff] at hx
    obtain ⟨j', hj, he⟩ := hx
    simp only [Prod.mk.injEq] at he
    obtain ⟨he, rfl⟩ := he
    have : k' = k := by omega
    subst this
    have hout : outIn (nAt l k') s = true := by unfold outIn; rw [← idx_isSome, hj]; rfl
    have hun : ∀ m, m < l.length → m ≠ k' → idxS (nAt l m).syms s true = none := fun m hm hne => by
      rw [idx_none]
      cases hb : (nAt l m).syms.any (mtS s true) with
      | false => rfl
      | true =>
        exfalso
        refine hno ((clash_plain hl s).2 ⟨hs, ?_⟩)
        rcases Nat.lt_or_ge m k' with h1 | h1
        · exact ⟨m, k', h1, hk, hb, hout⟩
        · exact ⟨k', m, by omega, hm, hout, hb⟩
    simp only
    rw [List.length_reverse]
    refine find_at (k := l.length - 1 - k') (by omega) (fun m hm => ?_) ?_
    · rw [nAt_rev (by omega), hun _ (by omega) (by omega)]; rfl
    · rw [nAt_rev (by omega), show l.length - 1 - (l.length - 1 - k') = k' by omega, hj]; rfl
/-- a Def that is used, plainly -/
theorem used_plain {l : List ObjD} (hl : l.length ≤ 1000000) (hok : okL l) (x : Int × Int) : usedP l x ↔ ∃ (q : Nat) (s : ByteArray), q < l.length ∧ s.size ≤ maxLen ∧ relIn (nAt l q) s = true ∧ findP l q s = some x := by
  constructor
  · rintro ⟨⟨s, i⟩, hw, h1, h2⟩
    obtain ⟨q, hq, _, rfl, r, hr, e⟩ := (usL_some (Nat.le_refl _)).1 h1
    have hrel : relIn (nAt l q) s = true := by
      unfold relIn
      rw [List.any_eq_true]
      exact ⟨r, by rw [nAt_get hq]; exact hr, decide_eq_true e⟩
    unfold valD at h2
    rw [mean_plain hq] at h2
    refine ⟨q, s, hq, hw.1, hrel, ?_⟩
    cases hf : findP l q s with
    | some y => rw [hf] at h2; simp only [Option.getD_some] at h2; rw [h2]
    | none =>
      exfalso
      refine hok.2.2 s ((voids_plain hl s).2 ⟨hw.1, q, hq, hrel, ?_⟩)
      rw [← mean_plain hq] at hf
      exact (mean_void hq s).1 hf
  · rintro ⟨q, s, hq, hs, h1, h2⟩
    refine ⟨(s, (q : Int)), ⟨hs, by simp only; omega, by simp only; omega⟩, ?_, ?_⟩
    · unfold relIn at h1
      rw [List.any_eq_true] at h1
      obtain ⟨r, hr, e⟩ := h1
      rw [nAt_get hq] at hr
      exact (usL_some (Nat.le_refl _)).2 ⟨q, hq, hq, rfl, r, hr, of_decide_eq_true e⟩
    · unfold valD
      rw [mean_plain hq, h2]; rfl
/-- a relocation's name means something, where all is right -/
theorem rel_find {l : List ObjD} (hl : l.length ≤ 1000000) (hok : okL l) {q : Nat} (hq : q < l.length) {s : ByteArray} (hs : s.size ≤ maxLen) (h : relIn (nAt l q) s = true) : (findP l q s).isSome = true := by
  cases hf : findP l q s with
  | some y => rfl
  | none =>
    exfalso
    refine hok.2.2 s ((voids_plain hl s).2 ⟨hs, q, hq, h, ?_⟩)
    rw [← mean_plain hq] at hf
    exact (mean_void hq s).1 hf
theorem used_rev1 {l : List ObjD} (hl : l.length ≤ 1000000) (hok : okL l) {x : Int × Int} (h : usedP l x) : usedP l.reverse ((l.length : Int) - 1 - x.1, x.2) := by
  rw [used_plain hl hok] at h
  rw [used_plain (by simpa using hl) (ok_rev hl hok)]
  obtain ⟨q, s, hq, hs, h1, h2⟩ := h
  obtain ⟨k, j, hj, hk, rfl, _, _⟩ := find_some hq h2
  refine ⟨l.length - 1 - q, s, by rw [List.length_reverse]; omega, hs, ?_, ?_⟩
  · rw [nAt_rev (by omega), show l.length - 1 - (l.length - 1 - q) = q by omega]; exact h1
  · rw [find_rev hl hq hs (hok.2.1 s) hk h2]
    congr 2
    simp only; omega
theorem len_le {f : Int × Int → Int × Int} (hf : ∀ x y, f x = f y → x = y) : ∀ {xs ys : List (Int × Int)}, xs.Pairwise (· ≠ ·) → (∀ x ∈ xs, f x ∈ ys) → xs.length ≤ ys.length
  | [], _, _, _ => Nat.zero_le _
  | x :: xs, ys, hp, h => by
    rw [List.pairwise_cons] at hp
    have h1 : f x ∈ ys := h x (by simp)
    have h2 := len_le hf (xs := xs) (ys := ys.erase (f x)) hp.2 (fun y hy => by
      rw [List.mem_erase_of_ne (fun e => hp.1 y hy (hf _ _ e).symm)]
      exact h y (by simp [hy]))
    rw [List.length_erase_of_mem h1] at h2
    have := List.length_pos_of_mem h1
    simp only [List.length_cons]
    omega
theorem used_len {l : List ObjD} (hl : l.length ≤ 1000000) (hok : okL l) {xs ys : List (Int × Int)} (hx : xs.Pairwise (· ≠ ·)) (hy : ys.Pairwise (· ≠ ·)) (h1 : ∀ x, x ∈ xs ↔ usedP l x) (h2 : ∀ x, x ∈ ys ↔ usedP l.reverse x) : xs.length = ys.length := by
  have hf : ∀ x y : Int × Int, (fun x : Int × Int => ((l.length : Int) - 1 - x.1, x.2)) x = (fun x : Int × Int => ((l.length : Int) - 1 - x.1, x.2)) y → x = y := fun x y e => by
    simp only [Prod.mk.injEq] at e
    exact Prod.ext (by omega) e.2
  apply Nat.le_antisymm
  · exact len_le hf hx fun x hx' => (h2 _).2 (used_rev1 hl hok ((h1 x).1 hx'))
  · refine len_le hf hy fun x hx' => (h1 _).2 ?_
    have := used_rev1 (l := l.reverse) (by simpa using hl) (ok_rev hl hok) ((h2 x).1 hx')
    rw [List.reverse_reverse, List.length_reverse] at this
    exact this
theorem out_rev1 {l : List ObjD} {s : ByteArray} (h : ∃ q : Nat, q < l.reverse.length ∧ outIn (nAt l.reverse q) s = true) : ∃ q : Nat, q < l.length ∧ outIn (nAt l q) s = true := by
  obtain ⟨q, hq, h⟩ := h
  rw [List.length_reverse] at hq
  rw [nAt_rev hq] at h
  exact ⟨_, by omega, h⟩
theorem out_rev {l : List ObjD} (s : ByteArray) : (∃ q : Nat, q < l.reverse.length ∧ outIn (nAt l.reverse q) s = true) ↔ ∃ q : Nat, q < l.length ∧ outIn (nAt l q) s = true :=
  ⟨out_rev1, fun h => out_rev1 (l := l.reverse) (by rw [List.reverse_reverse]; exact h)⟩
def sumE (l : List ObjD) : Nat := (l.map fun d => d.ents.length).sum
theorem sumE_rev (l : List ObjD) : sumE l.reverse = sumE l := by unfold sumE; rw [List.map_reverse, List.sum_reverse]
/-! ### with others -/
def xD : ObjD := ⟨[1048691], [], [(⟨#[102]⟩, false, 0, false), (⟨#[111, 119, 110]⟩, false, 0, false)], [], []⟩
def alD (o : ObjD) (m : Nat) : List ObjD := o :: List.replicate m xD
theorem alD_at {o : ObjD} {m q : Nat} (hq : q < m + 1) : nAt (alD o m) q = if q = 0 then o else xD := by
  rw [nAt_get (by simp [alD]; omega)]
  rcases q with _ | q
  · rfl
  · simp [alD]
theorem x_out (s : ByteArray) : outIn xD s = false := by unfold outIn mtS xD; simp
theorem x_idx (s : ByteArray) : idxS xD.syms s true = none := by rw [idx_none]; exact x_out s
theorem x_rel (s : ByteArray) : relIn xD s = false := by unfold relIn xD; simp
theorem al_len (o : ObjD) (m : Nat) : (alD o m).length = m + 1 := by simp [alD]
theorem al_out {o : ObjD} {m : Nat} {s : ByteArray} {q : Nat} (hq : q < m + 1) (h : outIn (nAt (alD o m) q) s = true) : q = 0 := by
  rw [alD_at hq] at h
  by_cases e : q = 0
  · exact e
  · rw [if_neg e, x_out] at h; cases h
theorem one_at7 (o : ObjD) : nAt [o] 0 = o := rfl
theorem al_find {o : ObjD} {m : Nat} (s : ByteArray) : findP (alD o m) 0 s = findP [o] 0 s := by
  unfold findP
  rw [alD_at (by omega), if_pos rfl, one_at7]
  cases idxS o.syms s false with
  | some j => rfl
  | none =>
    simp only
    rw [al_len]
    have h1 : (List.range [o].length).findSome? (fun (k : Nat) => (idxS (nAt [o] k).syms s true).map fun j => ((k : Int), j)) = (idxS o.syms s true).map fun j => ((0 : Int), j) := by
      show (List.range 1).findSome? _ = _
      rw [show List.range 1 = [0] from rfl]
      cases h : idxS o.syms s true <;> simp [one_at7, h]
    rw [h1]
    cases h : idxS o.syms s true with
    | some j =>
      refine find_at (k := 0) (by omega) (fun m hm => by omega) ?_
      rw [alD_at (by omega), if_pos rfl, h]; rfl
    | none =>
      rw [Option.map_none]
      refine List.findSome?_eq_none_iff.2 fun k hk => ?_
      rw [alD_at (List.mem_range.1 hk)]
      by_cases e : k = 0
      · rw [if_pos e, h]; rfl
      · rw [if_neg e, x_idx]; rfl
theorem al_ok {o : ObjD} {m : Nat} (hm : m ≤ 4) (h : okL [o]) : okL (alD o m) := by
  obtain ⟨h1, h2, h3⟩ := h
  refine ⟨?_, fun s hs => ?_, fun s hs => ?_⟩
  · unfold mayLs at h1 ⊢
    simp only [List.all_cons, List.all_nil, Bool.and_true, Bool.and_eq_true] at h1
    rw [al_len]
    unfold alD
    simp only [List.all_cons, Bool.and_eq_true, decide_eq_true_eq]
    refine ⟨by omega, h1.2, ?_⟩
    rw [List.all_eq_true]
    intro x hx
    rw [List.eq_of_mem_replicate hx]
    decide +kernel
  · rw [clash_plain (by rw [al_len]; omega), al_len] at hs
    obtain ⟨_, a, i, hai, hi, ha, hb⟩ := hs
    have := al_out hi hb
    omega
  · rw [voids_plain (by rw [al_len]; omega), al_len] at hs
    obtain ⟨hz, q, hq, ha, hb, hc⟩ := hs
    rw [alD_at hq] at ha hb
    by_cases e : q = 0
    · rw [if_pos e] at ha hb
      refine h3 s ((voids_plain (by simp) s).2 ⟨hz, 0, by simp, ha, hb, fun j hj => ?_⟩)
      have : j = 0 := by simp at hj; exact hj
      subst this
      have := hc 0 (by omega)
      rw [alD_at (by omega), if_pos rfl] at this
      exact this
    · rw [if_neg e, x_rel] at ha; cases ha
theorem al_used {o : ObjD} {m : Nat} (hm : m ≤ 4) (h : okL [o]) (x : Int × Int) : usedP (alD o m) x ↔ usedP [o] x := by
  rw [used_plain (by rw [al_len]; omega) (al_ok hm h), used_plain (by simp) h, al_len]
  constructor
  · rintro ⟨q, s, hq, hs, h1, h2⟩
    rw [alD_at hq] at h1
    by_cases e : q = 0
    · subst e
      rw [if_pos rfl] at h1
      exact ⟨0, s, by simp, hs, h1, by rw [← al_find (m := m)]; exact h2⟩
    · rw [if_neg e, x_rel] at h1; cases h1
  · rintro ⟨q, s, hq, hs, h1, h2⟩
    have : q = 0 := by simp at hq; exact hq
    subst this
    exact ⟨0, s, by omega, hs, by rw [alD_at (by omega), if_pos rfl]; exact h1, by rw [al_find]; exact h2⟩
theorem al_ents (o : ObjD) (m : Nat) : sumE (alD o m) = o.ents.length := by
  unfold sumE alD
  simp [xD]
end Go.Proofs.YthoehbmbmjmpbaaDoor
