/- Layer 7: what the book and the map of uses come to, plainly. No condition. -/
import Derived.Test.YthoehbmbmjmpbaaDoorSymK
namespace Go.Proofs.YthoehbmbmjmpbaaDoor
set_option linter.unusedVariables false
/-- a Sym of that name, Out where it is asked for -/
def mtS (s : ByteArray) (o : Bool) (t : SymD) : Bool := decide (t.1 = s) && (!o || t.2.2.2)
/-- the first such Sym's place -/
def idxS (ss : List SymD) (s : ByteArray) (o : Bool) : Option Int := (ss.findIdx? (mtS s o)).map fun q => (q : Int)
theorem putK_at (M : Kn → Option Int) (t u : Kn) (i : Int) : putK M t i u = if u = t then some ((M u).getD i) else M u := by
  unfold putK
  by_cases e : u = t
  · rw [if_pos e, if_pos e, e]
  · rw [if_neg e, if_neg e]
theorem putS_oth {p : ByteArray → Bool} {i : Int} {M : Kn → Option Int} {j : Nat} {s : SymD} {u : Kn} (h : u.2.1 ≠ i) : putS p i M j s u = M u := by
  have h1 : u ≠ (s.1, i, false) := fun e => h (by rw [e])
  have h2 : u ≠ (s.1, i, true) := fun e => h (by rw [e])
  unfold putS
  split
  · split
    · rw [putK_at, if_neg h2, putK_at, if_neg h1]
    · rw [putK_at, if_neg h1]
  · rfl
theorem wrS_oth {p : ByteArray → Bool} {i : Int} {ss : List SymD} {M : Kn → Option Int} {u : Kn} (h : u.2.1 ≠ i) : ∀ j, wrS p i ss M j u = M u
  | 0 => rfl
  | j + 1 => by
    show putS p i (wrS p i ss M j) j _ u = _
    rw [putS_oth h, wrS_oth h j]
theorem putS_at {p : ByteArray → Bool} {i : Int} {M : Kn → Option Int} {j : Nat} {t : SymD} {s : ByteArray} {o : Bool} : putS p i M j t (s, i, o) = if p s && mtS s o t then some ((M (s, i, o)).getD j) else M (s, i, o) := by
  unfold putS
  by_cases hs : t.1 = s
  · subst hs
    cases hp : p t.1 with
    | false => simp
    | true =>
      cases ho : t.2.2.2 with
      | false =>
        cases o with
        | false => simp [putK_at, mtS]
        | true => simp [putK_at, mtS, ho]
      | true =>
        cases o with
        | false => simp [putK_at, mtS]
        | true => simp [putK_at, mtS, ho]
  · have h1 : ∀ b, (s, i, o) ≠ (t.1, i, b) := fun b e => hs (by injection e with e _; exact e.symm)
    have h2 : mtS s o t = false := by unfold mtS; rw [decide_eq_false hs]; rfl
    rw [h2, Bool.and_false]
    split
    · split
      · rw [putK_at, if_neg (h1 _), putK_at, if_neg (h1 _)]; rfl
      · rw [putK_at, if_neg (h1 _)]; rfl
    · rfl
theorem findIdx_snoc {α : Type} (f : α → Bool) (xs : List α) (x : α) : (xs ++ [x]).findIdx? f = (xs.findIdx? f).or (if f x then some xs.length else none) := by
  rw [List.findIdx?_append]
  cases xs.findIdx? f with
  | some q => rfl
  | none =>
    simp [List.findIdx?_cons]
theorem wrS_val {p : ByteArray → Bool} {i : Int} {ss : List SymD} {M : Kn → Option Int} (hM : ∀ s o, M (s, i, o) = none) (s : ByteArray) (o : Bool) : ∀ j, j ≤ ss.length → wrS p i ss M j (s, i, o) = if p s then idxS (ss.take j) s o else none
  | 0, _ => by
    show M (s, i, o) = _
    rw [hM]
    split <;> simp [idxS]
  | j + 1, hj => by
    have ih := wrS_val (p := p) (ss := ss) hM s o j (by omega)
    rw [wrS_go (ss := ss) (show j < ss.length by omega), putS_at, ih, take_snoc (xs := ss) (show j < ss.length by omega)]
    cases hp : p s with
    | false => simp
    | true =>
      unfold idxS
      rw [findIdx_snoc, List.length_take, Nat.min_eq_left (by omega)]
      cases hf : List.findIdx? (mtS s o) (List.take j ss) with
      | some q => cases hm : mtS s o ss[j] <;> simp
      | none => cases hm : mtS s o ss[j] <;> simp
theorem wrL_val {p : ByteArray → Bool} {l : List ObjD} (s : ByteArray) (o : Bool) : ∀ {k q : Nat} (hk : k ≤ l.length) (hq : q < k), wrL p l k (s, (q : Int), o) = if p s then idxS (l[q]'(by omega)).syms s o else none
  | 0, q, _, hq => by omega
  | k + 1, q, hk, hq => by
    have hkl : k < l.length := by omega
    rw [wrL_go hkl]
    have hnone : ∀ s o, wrL p l k (s, (k : Int), o) = none := fun s o => by
      cases h : wrL p l k (s, (k : Int), o) with
      | none => rfl
      | some c =>
        obtain ⟨q, hq, e⟩ := wrL_dom (u := (s, (k : Int), o)) (by rw [h]; rfl)
        simp only at e
        omega
    by_cases e : q = k
    · subst e
      rw [wrS_val hnone s o _ (Nat.le_refl _), List.take_length]
    · rw [wrS_oth (by show (q : Int) ≠ k; omega)]
      exact wrL_val s o (by omega) (by omega)
/-! ### what is used -/
theorem putU_some {U : Us → Option Int} {t u : Us} : (putU U t u).isSome = true ↔ u = t ∨ (U u).isSome = true := by
  unfold putU
  by_cases e : u = t
  · rw [if_pos e]; simp [e]
  · rw [if_neg e]; simp [e]
theorem usR_some {i : Int} {rs : List RelD} {U : Us → Option Int} {u : Us} : ∀ {j : Nat}, j ≤ rs.length → ((usR i rs U j u).isSome = true ↔ (u.2 = i ∧ ∃ r ∈ rs.take j, r.2.2.1 = u.1) ∨ (U u).isSome = true)
  | 0, _ => by simp [usR]
  | j + 1, hj => by
    rw [usR_go (rs := rs) (show j < rs.length by omega), putU_some, usR_some (by omega), take_snoc (xs := rs) (show j < rs.length by omega)]
    constructor
    · rintro (rfl | ⟨h, r, hr, hn⟩ | h)
      · exact .inl ⟨rfl, _, List.mem_append_right _ (by simp), rfl⟩
      · exact .inl ⟨h, r, List.mem_append_left _ hr, hn⟩
      · exact .inr h
    · rintro (⟨h, r, hr, hn⟩ | h)
      · rcases List.mem_append.1 hr with hr | hr
        · exact .inr (.inl ⟨h, r, hr, hn⟩)
        · refine .inl ?_
          rw [List.mem_singleton.1 hr] at hn
          exact Prod.ext hn.symm h
      · exact .inr (.inr h)
theorem usL_some {l : List ObjD} {s : ByteArray} {i : Int} : ∀ {k : Nat}, k ≤ l.length → ((usL l k (s, i)).isSome = true ↔ ∃ (q : Nat) (hq : q < l.length), q < k ∧ i = q ∧ ∃ r ∈ l[q].rels, r.2.2.1 = s)
  | 0, _ => by simp [usL]
  | k + 1, hk => by
    have hkl : k < l.length := by omega
    rw [usL_go hkl, usR_some (Nat.le_refl _), List.take_length, usL_some (by omega)]
    constructor
    · rintro (⟨h, r, hr, hn⟩ | ⟨q, hq, h1, h2, h3⟩)
      · exact ⟨k, hkl, by omega, h, r, hr, hn⟩
      · exact ⟨q, hq, by omega, h2, h3⟩
    · rintro ⟨q, hq, h1, h2, h3⟩
      by_cases e : q = k
      · subst e
        obtain ⟨r, hr, hn⟩ := h3
        exact .inl ⟨h2, r, hr, hn⟩
      · exact .inr ⟨q, hq, by omega, h2, h3⟩
end Go.Proofs.YthoehbmbmjmpbaaDoor
