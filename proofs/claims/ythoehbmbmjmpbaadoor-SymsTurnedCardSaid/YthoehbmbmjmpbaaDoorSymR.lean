/- Layer 7: what clashes and what means nothing, plainly; Check, reckoned. No condition. -/
import Derived.Test.YthoehbmbmjmpbaaDoorSymM
import Derived.Test.YthoehbmbmjmpbaaDoorSymG
import Derived.Test.YthoehbmbmjmpbaaDoorSymL
namespace Go.Proofs.YthoehbmbmjmpbaaDoor
set_option linter.unusedVariables false
def outIn (d : ObjD) (s : ByteArray) : Bool := d.syms.any (mtS s true)
def ownIn (d : ObjD) (s : ByteArray) : Bool := d.syms.any (mtS s false)
def relIn (d : ObjD) (s : ByteArray) : Bool := d.rels.any fun r => decide (r.2.2.1 = s)
def nAt (l : List ObjD) (q : Nat) : ObjD := l.getD q dNo
theorem nAt_get {l : List ObjD} {q : Nat} (h : q < l.length) : nAt l q = l[q] := by unfold nAt; simp [h]
theorem idx_isSome (ss : List SymD) (s : ByteArray) (o : Bool) : (idxS ss s o).isSome = ss.any (mtS s o) := by
  have h := List.findIdx?_isSome (xs := ss) (p := mtS s o)
  rw [← h]
  unfold idxS
  cases ss.findIdx? (mtS s o) <;> rfl
theorem book_at {l : List ObjD} {q : Nat} (hq : q < l.length) (s : ByteArray) (o : Bool) : bookM l (s, (q : Int), o) = idxS (nAt l q).syms s o := by
  have h := wrL_val (p := fun _ => true) (l := l) s o (Nat.le_refl l.length) hq
  rw [nAt_get hq]
  simpa using h
theorem book_out {l : List ObjD} {q : Nat} (hq : q < l.length) (s : ByteArray) : (bookM l (s, (q : Int), true)).isSome = outIn (nAt l q) s := by
  rw [book_at hq, idx_isSome]; rfl
theorem book_own {l : List ObjD} {q : Nat} (hq : q < l.length) (s : ByteArray) : (bookM l (s, (q : Int), false)).isSome = ownIn (nAt l q) s := by
  rw [book_at hq, idx_isSome]; rfl
theorem clash_plain {l : List ObjD} (hl : l.length ≤ 1000000) (s : ByteArray) : clashP (bookM l) s ↔ s.size ≤ maxLen ∧ ∃ a i : Nat, a < i ∧ i < l.length ∧ outIn (nAt l a) s = true ∧ outIn (nAt l i) s = true := by
  constructor
  · rintro ⟨i, h1, h2, a, h3, h4⟩
    obtain ⟨q, hq, e⟩ := wrL_dom h2
    simp only at e
    subst e
    have ha : a < q := by omega
    rw [book_out hq] at h2
    rw [book_out (by omega)] at h4
    exact ⟨h1.1, a, q, ha, hq, h4, h2⟩
  · rintro ⟨h1, a, i, h2, h3, h4, h5⟩
    refine ⟨i, ⟨h1, by simp only; omega, by simp only; omega⟩, ?_, a, by omega, ?_⟩
    · rw [book_out h3]; exact h5
    · rw [book_out (by omega)]; exact h4
theorem mean_void {l : List ObjD} {q : Nat} (hq : q < l.length) (s : ByteArray) : meanM (bookM l) l.length q s = none ↔ ownIn (nAt l q) s = false ∧ ∀ j, j < l.length → outIn (nAt l j) s = false := by
  constructor
  · intro h
    unfold meanM at h
    cases e : bookM l (s, (q : Int), false) with
    | some j => rw [e] at h; cases h
    | none =>
      rw [e] at h
      refine ⟨by rw [← book_own hq, e]; rfl, fun j hj => ?_⟩
      have := List.findSome?_eq_none_iff.1 h j (List.mem_range.2 hj)
      rw [← book_out hj]
      cases e2 : bookM l (s, (j : Int), true) with
      | none => rfl
      | some x => rw [e2] at this; cases this
  · rintro ⟨h1, h2⟩
    refine mean_none ?_ fun j hj => ?_
    · rw [← Option.not_isSome_iff_eq_none, book_own hq, h1]; simp
    · rw [← Option.not_isSome_iff_eq_none, book_out hj, h2 j hj]; simp
theorem voids_plain {l : List ObjD} (hl : l.length ≤ 1000000) (s : ByteArray) : voidsP (bookM l) l.length (usL l l.length) s ↔ s.size ≤ maxLen ∧ ∃ q : Nat, q < l.length ∧ relIn (nAt l q) s = true ∧ ownIn (nAt l q) s = false ∧ ∀ j, j < l.length → outIn (nAt l j) s = false := by
  constructor
  · rintro ⟨i, h1, h2, h3⟩
    obtain ⟨q, hq, _, rfl, r, hr, e⟩ := (usL_some (Nat.le_refl _)).1 h2
    obtain ⟨h4, h5⟩ := (mean_void hq s).1 h3
    refine ⟨h1.1, q, hq, ?_, h4, h5⟩
    unfold relIn
    rw [List.any_eq_true]
    exact ⟨r, by rw [nAt_get hq]; exact hr, decide_eq_true e⟩
  · rintro ⟨h1, q, hq, h2, h3⟩
    refine ⟨q, ⟨h1, by simp only; omega, by simp only; omega⟩, ?_, (mean_void hq s).2 h3⟩
    unfold relIn at h2
    rw [List.any_eq_true] at h2
    obtain ⟨r, hr, e⟩ := h2
    rw [nAt_get hq] at hr
    exact (usL_some (Nat.le_refl _)).2 ⟨q, hq, hq, rfl, r, hr, of_decide_eq_true e⟩
/-! ### reckoned -/
def clB (l : List ObjD) (s : ByteArray) : Bool := (List.range l.length).any fun i => outIn (nAt l i) s && (List.range i).any fun a => outIn (nAt l a) s
def vdB (l : List ObjD) (s : ByteArray) : Bool := (List.range l.length).any fun q => relIn (nAt l q) s && !ownIn (nAt l q) s && (List.range l.length).all fun j => !outIn (nAt l j) s
def symN (l : List ObjD) : List ByteArray := l.flatMap fun d => d.syms.map (·.1)
def relN (l : List ObjD) : List ByteArray := l.flatMap fun d => d.rels.map (·.2.2.1)
def clN (l : List ObjD) : List ByteArray := (symN l).filter (clB l)
def vdN (l : List ObjD) : List ByteArray := (relN l).filter (vdB l)
theorem clB_iff (l : List ObjD) (s : ByteArray) : clB l s = true ↔ ∃ a i : Nat, a < i ∧ i < l.length ∧ outIn (nAt l a) s = true ∧ outIn (nAt l i) s = true := by
  unfold clB
  simp only [List.any_eq_true, List.mem_range, Bool.and_eq_true]
  constructor
  · rintro ⟨i, h1, h2, a, h3, h4⟩; exact ⟨a, i, h3, h1, h4, h2⟩
  · rintro ⟨a, i, h1, h2, h3, h4⟩; exact ⟨i, h2, h4, a, h1, h3⟩
theorem vdB_iff (l : List ObjD) (s : ByteArray) : vdB l s = true ↔ ∃ q : Nat, q < l.length ∧ relIn (nAt l q) s = true ∧ ownIn (nAt l q) s = false ∧ ∀ j, j < l.length → outIn (nAt l j) s = false := by
  unfold vdB
  simp only [List.any_eq_true, List.all_eq_true, List.mem_range, Bool.and_eq_true, Bool.not_eq_true']
  constructor
  · rintro ⟨q, h1, ⟨h2, h3⟩, h4⟩; exact ⟨q, h1, h2, h3, h4⟩
  · rintro ⟨q, h1, h2, h3, h4⟩; exact ⟨q, h1, ⟨h2, h3⟩, h4⟩
theorem nAt_mem {l : List ObjD} {q : Nat} (h : q < l.length) : nAt l q ∈ l := by rw [nAt_get h]; exact List.getElem_mem h
theorem out_sym {d : ObjD} {s : ByteArray} (h : outIn d s = true) : ∃ t ∈ d.syms, t.1 = s ∧ t.2.2.2 = true := by
  unfold outIn at h
  rw [List.any_eq_true] at h
  obtain ⟨t, h1, h2⟩ := h
  unfold mtS at h2
  simp at h2
  exact ⟨t, h1, h2.1, h2.2⟩
theorem rel_rel {d : ObjD} {s : ByteArray} (h : relIn d s = true) : ∃ r ∈ d.rels, r.2.2.1 = s := by
  unfold relIn at h
  rw [List.any_eq_true] at h
  obtain ⟨t, h1, h2⟩ := h
  exact ⟨t, h1, of_decide_eq_true h2⟩
theorem mem_clN {l : List ObjD} (hW : ∀ d ∈ l, ObjW d) (hl : l.length ≤ 1000000) (s : ByteArray) : s ∈ clN l ↔ clashP (bookM l) s := by
  unfold clN
  rw [List.mem_filter, clB_iff, clash_plain hl]
  constructor
  · rintro ⟨h1, h2⟩
    obtain ⟨a, i, h3, h4, h5, h6⟩ := h2
    obtain ⟨t, ht, e, _⟩ := out_sym h6
    exact ⟨by rw [← e]; exact ((hW _ (nAt_mem h4)).syms t ht).1, a, i, h3, h4, h5, h6⟩
  · rintro ⟨h1, a, i, h3, h4, h5, h6⟩
    obtain ⟨t, ht, e, _⟩ := out_sym h6
    refine ⟨?_, a, i, h3, h4, h5, h6⟩
    unfold symN
    rw [List.mem_flatMap]
    exact ⟨_, nAt_mem h4, List.mem_map.2 ⟨t, ht, e⟩⟩
theorem mem_vdN {l : List ObjD} (hW : ∀ d ∈ l, ObjW d) (hl : l.length ≤ 1000000) (s : ByteArray) : s ∈ vdN l ↔ voidsP (bookM l) l.length (usL l l.length) s := by
  unfold vdN
  rw [List.mem_filter, vdB_iff, voids_plain hl]
  constructor
  · rintro ⟨h1, q, h3, h4, h5⟩
    obtain ⟨t, ht, e⟩ := rel_rel h4
    exact ⟨by rw [← e]; exact ((hW _ (nAt_mem h3)).rels t ht).2.2.1, q, h3, h4, h5⟩
  · rintro ⟨h1, q, h3, h4, h5⟩
    obtain ⟨t, ht, e⟩ := rel_rel h4
    refine ⟨?_, q, h3, h4, h5⟩
    unfold relN
    rw [List.mem_flatMap]
    exact ⟨_, nAt_mem h3, List.mem_map.2 ⟨t, ht, e⟩⟩
theorem least_fold (r : List ByteArray) : ∀ (names : List ByteArray) (x : ByteArray), LeastN names x → LeastN (names ++ r) (r.foldl Lib.minS x) := by
  induction r with
  | nil => intro names x h; simpa using h
  | cons y r ih =>
    intro names x h
    have := ih (names ++ [y]) (Lib.minS x y) h.more
    rw [List.append_assoc] at this
    exact this
def chkF (l : List ObjD) : ByteArray × Int :=
  if mayLs l = false then (⟨#[]⟩, 1) else match clN l with
    | x :: r => (r.foldl Lib.minS x, 6)
    | [] => match vdN l with
      | x :: r => (r.foldl Lib.minS x, 7)
      | [] => (⟨#[]⟩, 0)
theorem chk_eq {l : List ObjD} (hW : ∀ d ∈ l, ObjW d) (hl : l.length ≤ 1000000) {s : ByteArray} {c : Int} (h : ChkP l s c) : s = (chkF l).1 ∧ c = (chkF l).2 := by
  have e1 := mem_clN hW hl
  have e2 := mem_vdN hW hl
  unfold chkF
  rcases h with ⟨h1, rfl, rfl⟩ | ⟨h1, ⟨names, h2, h3⟩, rfl⟩ | ⟨h1, h2, ⟨names, h3, h4⟩, rfl⟩ | ⟨h1, h2, h3, rfl, rfl⟩
  · rw [if_pos h1]; exact ⟨rfl, rfl⟩
  · rw [if_neg (by rw [h1]; simp)]
    cases hc : clN l with
    | nil =>
      have := (e1 s).2 ((h2 s).1 h3.1)
      rw [hc] at this; cases this
    | cons x r =>
      refine ⟨h3.eq (least_fold r [x] x (LeastN.one x)) (fun t => ?_), rfl⟩
      rw [h2 t, ← e1 t, hc]; rfl
  · rw [if_neg (by rw [h1]; simp)]
    cases hc : clN l with
    | cons x r => exact absurd ((e1 x).1 (by rw [hc]; simp)) (h2 x)
    | nil =>
      cases hv : vdN l with
      | nil =>
        have := (e2 s).2 ((h3 s).1 h4.1)
        rw [hv] at this; cases this
      | cons x r =>
        refine ⟨h4.eq (least_fold r [x] x (LeastN.one x)) (fun t => ?_), rfl⟩
        rw [h3 t, ← e2 t, hv]; rfl
  · rw [if_neg (by rw [h1]; simp)]
    cases hc : clN l with
    | cons x r => exact absurd ((e1 x).1 (by rw [hc]; simp)) (h2 x)
    | nil =>
      cases hv : vdN l with
      | cons x r => exact absurd ((e2 x).1 (by rw [hv]; simp)) (h3 x)
      | nil => exact ⟨rfl, rfl⟩
end Go.Proofs.YthoehbmbmjmpbaaDoor
