/- Layer 5's statements: what CpuSteps asks of each step and of runs in two goes: plain mathematics. -/
import Derived.Test.YtoeagbcjnffpaaaGreatDoorCpuH
namespace Go.Proofs.YtoeagbcjnffpaaaGreatDoor
set_option maxRecDepth 100000
open Go.RowKit Go.Maps
set_option linter.unusedVariables false
/-! ### Registers -/
theorem regI_nn (v a : Int) (has : Bool) : 0 ≤ regI v a has := by
  unfold regI
  split
  · unfold fld; omega
  · omega
/-- one register at most, and not the first -/
def OneSet (R R' : List Int) : Prop := R' = R ∨ ∃ (r : Nat) (v : Int), 1 ≤ r ∧ R' = R.set r v
theorem setR_one (s : CS) (r v : Int) (h : 0 ≤ r) : OneSet s.R (setR s r v).R := by
  unfold setR
  split
  · exact .inl rfl
  · exact .inr ⟨r.toNat, v, by omega, rfl⟩
theorem execC_one (T : List Rg) (x : X) (st : St) (h : 0 ≤ x.rd) : OneSet st.s.R (execC T x st).s.R := by
  have hs : ∀ k a b, (showC st k a b).s = st.s := fun k a b => by unfold showC; split <;> rfl
  unfold execC
  split
  · split
    · show OneSet _ (setR (showC st _ _ _).s _ _).R
      rw [hs]; exact setR_one _ _ _ h
    · exact setR_one _ _ _ h
  split
  · exact setR_one _ _ _ h
  split
  · split
    · show OneSet _ (showC st _ _ _).s.R
      rw [hs]; exact .inl rfl
    · show OneSet _ (setR (showC st _ _ _).s _ _).R
      rw [hs]; exact setR_one _ _ _ h
  split
  · split
    · show OneSet _ (showC st _ _ _).s.R
      rw [hs]; exact .inl rfl
    · exact .inl rfl
  split
  · exact .inl rfl
  split
  · exact setR_one _ _ _ h
  split
  · exact setR_one _ _ _ h
  split
  · exact setR_one _ _ _ h
  split
  · exact setR_one _ _ _ h
  · exact .inl rfl
theorem execC_own (T : List Rg) (x : X) (st : St) : (execC T x st).s.own = st.s.own := by
  have hs : ∀ k a b, (showC st k a b).s = st.s := fun k a b => by unfold showC; split <;> rfl
  have hw : ∀ (s : CS) (r v : Int), (setR s r v).own = s.own := fun s r v => by unfold setR; split <;> rfl
  unfold execC
  repeat' split
  all_goals simp [writeC, leapC, withS, withB, goTo, doneS, broke, hs, hw]
theorem fetchC_st {T : List Rg} {E : List Int} {st st1 : St} {v : Int} (h : fetchC T E st = some (v, st1)) : st1 = st ∨ st1 = changed st := (fetchC_rows h).2.2.2
/-- what a step does to the row of changes, and to who runs -/
def EvStep (st st' : St) : Prop := (st'.ev = st.ev ∧ st'.s.own = st.s.own) ∨ ∃ p A, A.length = 8 ∧ st'.ev = st.ev ++ [(!st.s.own, p, A)] ∧ st'.s.own = !st.s.own
theorem stepC_all (T : List Rg) (E : List Int) (st : St) (hR : st.s.R.length = 32) : OneSet st.s.R (stepC T E st).s.R ∧ EvStep st (stepC T E st) := by
  have hs : ∀ (st : St) k a b, (showC st k a b).s = st.s := fun st k a b => by unfold showC; split <;> rfl
  have h8 : ((st.s.R.drop 10).take 8).length = 8 := by simp [hR]
  unfold stepC
  split
  · exact ⟨.inl rfl, .inl ⟨rfl, rfl⟩⟩
  · split
    · exact ⟨.inl rfl, .inl ⟨rfl, rfl⟩⟩
    · next w st1 h =>
      split
      · rcases fetchC_st h with rfl | rfl
        · exact ⟨.inl rfl, .inl ⟨rfl, rfl⟩⟩
        · exact ⟨.inl rfl, .inr ⟨_, _, h8, rfl, rfl⟩⟩
      · next x hx =>
        obtain ⟨n, hn, hM, rfl⟩ := decI_match hx
        have h1 := execC_one T (xOf w n) (showC st1 0 st1.s.pc 0) (regI_nn _ _ _)
        have h2 := execC_own T (xOf w n) (showC st1 0 st1.s.pc 0)
        have h3 := (execC_rows T (xOf w n) (showC st1 0 st1.s.pc 0)).1
        rw [showC_ev] at h3
        rw [hs] at h1 h2
        rcases fetchC_st h with rfl | rfl
        · exact ⟨h1, .inl ⟨h3, h2⟩⟩
        · exact ⟨h1, .inr ⟨_, _, h8, h3, h2⟩⟩
/-- how many of the first k differ -/
def diffN (R R' : List Int) (k : Nat) : Nat := ((List.range k).filter (fun j => nth R j != nth R' j)).length
theorem diffN_succ (R R' : List Int) (k : Nat) : diffN R R' (k + 1) = diffN R R' k + if nth R k = nth R' k then 0 else 1 := by
  unfold diffN
  rw [List.range_succ, List.filter_append, List.length_append]
  congr 1
  by_cases h : nth R k = nth R' k <;> simp [h]
theorem diffN_one {R R' : List Int} (h : OneSet R R') (k : Nat) : diffN R R' k ≤ 1 := by
  rcases h with rfl | ⟨r, v, hr, rfl⟩
  · have : ∀ k, diffN R' R' k = 0 := by
      intro k
      induction k with
      | zero => rfl
      | succ k ih => rw [diffN_succ, ih, if_pos rfl]
    rw [this]; omega
  · have key : ∀ k, (r < k → diffN R (R.set r v) k ≤ 1) ∧ (¬ r < k → diffN R (R.set r v) k = 0) := by
      intro k
      induction k with
      | zero => exact ⟨fun h => by omega, fun _ => rfl⟩
      | succ k ih =>
        by_cases e : k = r
        · have h0 := ih.2 (by omega)
          refine ⟨fun _ => ?_, fun h => by omega⟩
          rw [diffN_succ, h0]
          split <;> omega
        · have hk : nth R k = nth (R.set r v) k := by
            unfold nth
            rw [List.getD_eq_getElem?_getD, List.getD_eq_getElem?_getD, List.getElem?_set_ne (by omega)]
          rw [diffN_succ, if_pos hk, Nat.add_zero]
          exact ⟨fun h => ih.1 (by omega), fun h => ih.2 (by omega)⟩
    by_cases h : r < k
    · exact (key k).1 h
    · rw [(key k).2 h]; omega
/-! ### By turns -/
def turnB (own : Bool) (i : Nat) : Bool := if i % 2 = 0 then own else !own
/-- each change is a turn of who ran before it -/
def Turns (own : Bool) (l : List Ev) : Prop := ∀ i e, l[i]? = some e → e.1 = !turnB own i
theorem turn_succ (own : Bool) (i : Nat) : turnB own (i + 1) = !turnB own i := by
  unfold turnB
  by_cases h : i % 2 = 0
  · rw [if_pos h, if_neg (by omega)]
  · rw [if_neg h, if_pos (by omega)]; simp
def TurnOk (own : Bool) (st : St) : Prop := Turns own st.ev ∧ st.s.own = turnB own st.ev.length
theorem turn_step {own : Bool} {T : List Rg} {E : List Int} {st : St} (hR : st.s.R.length = 32) (h : TurnOk own st) : TurnOk own (stepC T E st) := by
  rcases (stepC_all T E st hR).2 with ⟨h1, h2⟩ | ⟨p, A, _, h1, h2⟩
  · exact ⟨by rw [h1]; exact h.1, by rw [h2, h1]; exact h.2⟩
  · refine ⟨?_, ?_⟩
    · rw [h1]
      intro i e hi
      by_cases hlt : i < st.ev.length
      · rw [List.getElem?_append_left hlt] at hi
        exact h.1 i e hi
      · rw [List.getElem?_append_right (by omega)] at hi
        by_cases e0 : i = st.ev.length
        · subst e0
          simp at hi
          subst hi
          simp only
          rw [← h.2]
        · rw [List.getElem?_eq_none (by simp; omega)] at hi; cases hi
    · rw [h2, h1, List.length_append, List.length_singleton, turn_succ, ← h.2]
/-- each change as ten cells -/
def Ev8 (l : List Ev) : Prop := ∀ e ∈ l, e.2.2.length = 8
theorem evs_flat : ∀ (l : List Ev) (i : Nat) (e : Ev), Ev8 l → l[i]? = some e → (evsL l)[i * 10]? = some (.bool e.1) := by
  intro l
  induction l with
  | nil => intro i e _ h; simp at h
  | cons x l ih =>
    intro i e h8 h
    have hx : (evC x).length = 10 := by have := h8 x (by simp); simp [evC, this]
    rw [show evsL (x :: l) = evC x ++ evsL l from rfl]
    cases i with
    | zero =>
      simp only [List.getElem?_cons_zero, Option.some.injEq] at h
      subst h
      rfl
    | succ i =>
      simp only [List.getElem?_cons_succ] at h
      rw [List.getElem?_append_right (by rw [hx]; omega), hx, show (i + 1) * 10 - 10 = i * 10 by omega]
      exact ih i e (fun e he => h8 e (by simp [he])) h
theorem ev8_step {T : List Rg} {E : List Int} {st : St} (hR : st.s.R.length = 32) (h : Ev8 st.ev) : Ev8 (stepC T E st).ev := by
  rcases (stepC_all T E st hR).2 with ⟨h1, _⟩ | ⟨p, A, h8, h1, _⟩
  · rw [h1]; exact h
  · rw [h1]
    intro e he
    rcases List.mem_append.1 he with he | he
    · exact h e he
    · simp at he; subst he; exact h8
/-! ### In two goes -/
theorem runC_end (T : List Rg) (E : List Int) : ∀ (n : Nat) (st : St), (runC T E n st).1 < n → (runC T E n st).2.s.dn ≠ 0 := by
  intro n
  induction n with
  | zero => intro st h; omega
  | succ n ih =>
    intro st h
    by_cases hd : st.s.dn = 0
    · rw [runC_succ _ _ _ _ hd] at h ⊢
      exact ih _ (by simp only at h; omega)
    · rw [runC_stop _ _ _ _ hd]; exact hd
theorem runC_le (T : List Rg) (E : List Int) : ∀ (n : Nat) (st : St), (runC T E n st).1 ≤ n := by
  intro n
  induction n with
  | zero => intro st; exact Nat.le_refl _
  | succ n ih =>
    intro st
    by_cases hd : st.s.dn = 0
    · rw [runC_succ _ _ _ _ hd]; have := ih (stepC T E st); simp only; omega
    · rw [runC_stop _ _ _ _ hd]; exact Nat.zero_le _
theorem runC_add' (T : List Rg) (E : List Int) : ∀ (a b : Nat) (st : St), (runC T E (a + b) st).2 = (runC T E b (runC T E a st).2).2 := by
  intro a
  induction a with
  | zero => intro b st; rw [Nat.zero_add, runC_zero]
  | succ a ih =>
    intro b st
    by_cases hd : st.s.dn = 0
    · rw [show a + 1 + b = (a + b) + 1 by omega, runC_succ _ _ _ _ hd, runC_succ _ _ _ _ hd]
      exact ih b _
    · rw [runC_stop _ _ _ _ hd, runC_stop _ _ _ _ hd, runC_stop _ _ _ _ hd]
theorem runC_add1 (T : List Rg) (E : List Int) : ∀ (a b : Nat) (st : St), (runC T E a st).1 = a → (runC T E (a + b) st).1 = a + (runC T E b (runC T E a st).2).1 := by
  intro a
  induction a with
  | zero => intro b st _; rw [Nat.zero_add, runC_zero]; simp
  | succ a ih =>
    intro b st h
    by_cases hd : st.s.dn = 0
    · rw [runC_succ _ _ _ _ hd] at h ⊢
      have h : (runC T E a (stepC T E st)).1 = a := by simp only at h; omega
      rw [show a + 1 + b = (a + b) + 1 by omega, runC_succ _ _ _ _ hd]
      simp only
      rw [ih b _ h]; omega
    · rw [runC_stop _ _ _ _ hd] at h; simp at h
/-- run so far as it goes, and then the rest -/
theorem two_goes (T : List Rg) (E : List Int) (f k : Nat) (st : St) (h : ranN T E f st ≤ k) : ranS T E (k - ranN T E f st) (ranS T E f st) = ranS T E k st := by
  unfold ranN ranS at *
  by_cases hx : (runC T E f st).1 = f
  · rw [hx] at h ⊢
    have := runC_add' T E f (k - f) st
    rw [show f + (k - f) = k by omega] at this
    exact this.symm
  · have hlt : (runC T E f st).1 < f := by have := runC_le T E f st; omega
    have hd := runC_end T E f st hlt
    rw [runC_stop _ _ _ _ hd]
    simp only
    by_cases hk : k ≤ f
    · have e := runC_add' T E k (f - k) st
      rw [show k + (f - k) = f by omega] at e
      rw [e]
      have hn : (runC T E k st).2.s.dn ≠ 0 := by
        by_cases hc : (runC T E k st).1 < k
        · exact runC_end T E k st hc
        · have hk1 : (runC T E k st).1 = k := by have := runC_le T E k st; omega
          intro h0
          have e2 := runC_add1 T E k (f - k) st hk1
          rw [show k + (f - k) = f by omega] at e2
          by_cases hz : f - k = 0
          · rw [hz, runC_zero] at e2; simp only at e2; omega
          · rw [show f - k = (f - k - 1) + 1 by omega, runC_succ _ _ _ _ h0] at e2
            simp only at e2
            omega
      rw [runC_stop _ _ _ _ hn]
    · have e := runC_add' T E f (k - f) st
      rw [show f + (k - f) = k by omega, runC_stop _ _ _ _ hd] at e
      exact e.symm
end Go.Proofs.YtoeagbcjnffpaaaGreatDoor
