/- Layer 8: what PlaceSpots and PlaceMoved reckon. No condition. -/
import Derived.Test.YtjngkifoaljmaaaDoorPlaP
import Derived.Test.YtjngkifoaljmaaaDoorPlaH
namespace Go.Proofs.YtjngkifoaljmaaaDoor
set_option maxRecDepth 100000
open Go.RowKit
set_option linter.unusedVariables false
/-- a right list's Sym lies within its part, or at its end -/
theorem may_sym {l : List ObjD} (h : mayLs l = true) {i j : Nat} (hi : i < l.length) (hj : j < l[i].syms.length) :
    0 ≤ l[i].syms[j].2.2.1 ∧ l[i].syms[j].2.2.1 ≤ (if l[i].syms[j].2.1 = true then 8 * (l[i].data.length : Int) else 4 * (l[i].text.length : Int)) := by
  unfold mayLs at h
  simp only [Bool.and_eq_true] at h
  have h1 := List.all_eq_true.1 h.2 l[i] (List.getElem_mem hi)
  unfold mayO at h1
  simp only [Bool.and_eq_true] at h1
  obtain ⟨⟨⟨⟨_, _⟩, h3⟩, _⟩, _⟩ := h1
  have h4 : symOkB l[i] j = true := range_all_of h3 hj
  unfold symOkB at h4
  simp only [Bool.and_eq_true] at h4
  obtain ⟨⟨⟨_, _⟩, _⟩, h5⟩ := h4
  unfold inB at h5
  simp only [Bool.and_eq_true, decide_eq_true_eq] at h5
  have e : symAt l[i] j = l[i].syms[j] := by unfold symAt; simp [hj]
  rw [e] at h5
  obtain ⟨h5, h6⟩ := h5
  refine ⟨h5, ?_⟩
  cases hb : l[i].syms[j].2.1 with
  | false => rw [hb] at h6; simpa [unitI] using h6
  | true => rw [hb] at h6; simpa [unitI] using h6
theorem may_few {l : List ObjD} (h : mayLs l = true) {i : Nat} (hi : i < l.length) : l[i].text.length ≤ 4096 ∧ l[i].data.length ≤ 1024 ∧ l[i].syms.length ≤ 1000000 ∧ l[i].rels.length ≤ 16384 := by
  unfold mayLs at h
  simp only [Bool.and_eq_true] at h
  have h1 := List.all_eq_true.1 h.2 l[i] (List.getElem_mem hi)
  rw [mayO_eq] at h1
  simp only [Bool.and_eq_true] at h1
  have h2 := few_of h1.1.1
  exact ⟨h2.1, h2.2.1, by have := h2.2.2.1; omega, by have := h2.2.2.2.1; omega⟩
/-- where all relocations of a word come to the same, so does it -/
theorem relT_like {l : List ObjD} {xs xs' : List (Int × Int)} {i : Nat} {d : ObjD} {p : Nat} : ∀ {j : Nat} {t t' : List Int}, relT l xs i d j = some t → relT l xs' i d j = some t' → (∀ q, q < j → posR d q = p → relX l xs i d q = relX l xs' i d q) → t.getD p 0 = t'.getD p 0
  | 0, t, t', h, h', _ => by cases h; cases h'; rfl
  | j + 1, t, t', h, h', hp => by
    unfold relT at h h'
    cases e : relT l xs i d j with
    | none => rw [e] at h; cases h
    | some u =>
      cases e' : relT l xs' i d j with
      | none => rw [e'] at h'; cases h'
      | some u' =>
        rw [e] at h
        rw [e'] at h'
        cases f : relX l xs i d j with
        | none => rw [f] at h; cases h
        | some y =>
          cases f' : relX l xs' i d j with
          | none => rw [f'] at h'; cases h'
          | some y' =>
            rw [f] at h
            rw [f'] at h'
            simp only [Option.some.injEq] at h h'
            subst h
            subst h'
            have ih := relT_like e e' (fun q hq => hp q (by omega))
            simp only [List.getD_eq_getElem?_getD] at ih ⊢
            by_cases hj : posR d j = p
            · have := hp j (by omega) hj
              rw [f, f'] at this
              cases this
              rw [hj, List.getElem?_set, List.getElem?_set]
              have hl : u.length = u'.length := (relT_len e).trans (relT_len e').symm
              rw [hl, if_pos rfl, if_pos rfl]
            · rw [List.getElem?_set_ne hj, List.getElem?_set_ne hj]; exact ih
theorem sumT_mono {l : List ObjD} {i k : Nat} (h : i < k) (hk : k ≤ l.length) : sumT l i + (nAt l i).text.length ≤ sumT l k := by
  induction k with
  | zero => omega
  | succ k ih =>
    have hg := sumT_go (l := l) (k := k) (by omega)
    by_cases e : i = k
    · subst e; rw [nAt_get (by omega), hg]; omega
    · have := ih (by omega) (by omega); omega
theorem txT_like {l : List ObjD} {xs xs' : List (Int × Int)} {i j : Nat} : ∀ {k : Nat} {a a' : List Int}, k ≤ l.length → txT l xs k = some a → txT l xs' k = some a' → i < k → j < (nAt l i).text.length →
    (∀ q, q < (nAt l i).rels.length → posR (nAt l i) q = j → relX l xs i (nAt l i) q = relX l xs' i (nAt l i) q) → a.getD (sumT l i + j) 0 = a'.getD (sumT l i + j) 0
  | 0, _, _, _, _, _, hi, _, _ => by omega
  | k + 1, a, a', hk, h, h', hi, hj, hq => by
    unfold txT at h h'
    cases e : txT l xs k with
    | none => rw [e] at h; cases h
    | some u =>
      cases e' : txT l xs' k with
      | none => rw [e'] at h'; cases h'
      | some u' =>
        rw [e] at h
        rw [e'] at h'
        cases f : relT l xs k (nAt l k) (nAt l k).rels.length with
        | none => rw [f] at h; cases h
        | some t =>
          cases f' : relT l xs' k (nAt l k) (nAt l k).rels.length with
          | none => rw [f'] at h'; cases h'
          | some t' =>
            rw [f] at h
            rw [f'] at h'
            simp only [Option.some.injEq] at h h'
            subst h
            subst h'
            have l1 := txT_len (by omega) e
            have l2 := txT_len (by omega) e'
            simp only [List.getD_eq_getElem?_getD]
            by_cases ek : i = k
            · subst ek
              rw [List.getElem?_append_right (by omega), List.getElem?_append_right (by omega), l1, l2, show sumT l i + j - sumT l i = j by omega]
              have := relT_like (p := j) f f' hq
              simpa only [List.getD_eq_getElem?_getD] using this
            · have hm := sumT_mono (l := l) (i := i) (k := k) (by omega) (by omega)
              rw [List.getElem?_append_left (by omega), List.getElem?_append_left (by omega)]
              have := txT_like (i := i) (j := j) (by omega) e e' (by omega) hj hq
              simpa only [List.getD_eq_getElem?_getD] using this
theorem num_moved {kind p v p' v' : Int} (hk : ¬ kind ≤ 1) (h : IntKind.u64.wrap (v - p) = IntKind.u64.wrap (v' - p')) : numV kind p v = numV kind p' v' := by
  unfold numV
  rw [if_neg (by omega), if_neg (by omega), if_neg (by omega), if_neg (by omega), h]
theorem done_moved {x kind p v p' v' : Int} (hk : ¬ kind ≤ 1) (h : IntKind.u64.wrap (v - p) = IntKind.u64.wrap (v' - p')) : doneV x kind p v = doneV x kind p' v' := by
  unfold doneV
  rw [num_moved hk h]
theorem wrap_moved (t t' a b c e : Int) : IntKind.u64.wrap (IntKind.u64.wrap (IntKind.u64.wrap (t + a + b) + c) - IntKind.u64.wrap (t + e)) = IntKind.u64.wrap (IntKind.u64.wrap (IntKind.u64.wrap (t' + a + b) + c) - IntKind.u64.wrap (t' + e)) := by
  simp only [IntKind.wrap_u64]
  omega
theorem spL_get {l : List ObjD} {t d : Int} {k n : Nat} (h : k < n) : (spL l t d n).getD k (0, 0) = spD l t d k := by
  rw [List.getD_eq_getElem?_getD, spL_at l t d h]; rfl
/-- moved as a whole: what leads from text to text is the same -/
theorem relX_moved {l : List ObjD} {t t' d : Int} {n i q o jj : Nat} {D : ObjD} (hi : i < n) (hk : ¬ (relAt D q).2.1 ≤ 1) (hf : fndD l (i : Int) (relAt D q).2.2.1 = some ((o : Int), (jj : Int))) (ho : o < n) (hs : (symAt (nAt l o) jj).2.1 = false) :
    relX l (spL l t d n) i D q = relX l (spL l t' d n) i D q := by
  unfold relX
  refine done_moved hk ?_
  unfold tgD
  rw [hf]
  simp only
  unfold tgV adrD
  rw [spL_get hi, spL_get hi]
  simp only [Int.toNat_natCast]
  rw [spL_get ho, spL_get ho, hs]
  unfold adr1 spD
  simp only [Bool.false_eq_true, if_false]
  have h := wrap_moved t t' (4 * (sumT l o : Int)) (IntKind.u64.wrap (symAt (nAt l o) jj).2.2.1) (IntKind.u64.wrap (relAt D q).2.2.2) (4 * (sumT l i : Int) + IntKind.u64.wrap (relAt D q).1)
  rw [← Int.add_assoc, ← Int.add_assoc] at h
  exact h
theorem moved_word {l : List ObjD} (hck : (chkF l).2 = 0) {t t' d : Int} {n : Nat} {a c : List Int} (hn : l.length = n) (h1 : txT l (spL l t d n) n = some a) (h2 : txT l (spL l t' d n) n = some c) {i j : Nat} (hi : i < l.length) (hj : j < l[i].text.length)
    (hno : ∀ q (hq : q < l[i].rels.length), l[i].rels[q].1 = 4 * (j : Int) → ¬ l[i].rels[q].2.1 ≤ 1 ∧ ∀ (o jj : Nat), o < l.length → fndD l (i : Int) l[i].rels[q].2.2.1 = some ((o : Int), (jj : Int)) → (symAt (nAt l o) jj).2.1 = false) :
    a.getD (sumT l i + j) 0 = c.getD (sumT l i + j) 0 := by
  refine txT_like (k := n) (by omega) h1 h2 (by omega) (by rw [nAt_get hi]; exact hj) ?_
  intro q hq hp
  rw [nAt_get hi] at hq hp ⊢
  have hok := (may_rel (chkF_may hck) hi hq).1
  have hsp := rel_spot hok
  have er : relAt l[i] q = l[i].rels[q] := by unfold relAt; simp [hq]
  obtain ⟨o, ho, jj, hjj, hf⟩ := chk_found hck hi (List.getElem_mem hq)
  obtain ⟨g1, g2⟩ := hno q hq (by rw [← er, hsp.2.2.1, hp])
  exact relX_moved (by omega) (by rw [er]; exact g1) (by rw [er]; exact hf) (by omega) (g2 o jj ho hf)
end Go.Proofs.YtjngkifoaljmaaaDoor
