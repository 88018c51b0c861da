/- Regions that draw their order, by an invariant over what has been done so far: each operation is shown once, for whatever order. No condition. -/
import Derived.Orders
import Derived.Tactics
namespace Go.Proofs.YtmpieeadkkeniaaGreatDoor
set_option linter.unusedVariables false
theorem wpAny_inv {P : Program} {md : Region.Mode} {ops : Array Oper} {Q : Exit → Act → World → Prop} (Inv : (Nat → Bool) → Act → World → Prop)
    (hed : ∀ (j : Nat) (o : Oper), ops[j]? = some o → ∀ e ∈ o.after, e.on < j)
    (step : ∀ (L : Nat → Bool) (a : Act) (w : World) (i : Nat) (o : Oper), Inv L a w → L i = false → ops[i]? = some o → (∀ e ∈ o.after, Region.binds md e = true → L e.on = true) →
      wpOp P ops Q i (fun a' w' => Inv (fun k => L k || k == i) a' w') a w)
    (done : ∀ (L : Nat → Bool) (a : Act) (w : World), (∀ k, k < ops.size → L k = true) → Inv L a w → Q .normal a w) :
    ∀ (fuel : Nat) (listed : Array Bool) (a : Act) (w : World), listed.size = ops.size → listed.toList.countP (fun b => !b) = fuel → Inv (fun k => listed.getD k false) a w → wpAny P md ops Q fuel listed a w := by
  have least : ∀ (listed : Array Bool), listed.size = ops.size → Region.ready md ops listed = [] → ∀ k, k < ops.size → listed.getD k false = true := by
    intro listed hs hr k
    induction k using Nat.strongRecOn with
    | ind k ih =>
      intro hk
      cases h : listed.getD k false with
      | true => rfl
      | false =>
        exfalso
        obtain ⟨o, ho⟩ : ∃ o, ops[k]? = some o := ⟨ops[k], Array.getElem?_eq_getElem hk⟩
        have : k ∈ Region.ready md ops listed := by
          refine mem_ready.2 ⟨?_, o, ho, fun e he _ => ?_⟩
          · rw [Array.getD_eq_getD_getElem?] at h ⊢
            rw [Array.getElem?_eq_getElem (by omega)] at h ⊢
            exact h
          · have := hed k o ho e he
            exact ih e.on this (by omega)
        rw [hr] at this
        cases this
  intro fuel
  induction fuel with
  | zero =>
    intro listed a w hs hc hI
    have hall : ∀ k, k < ops.size → listed.getD k false = true := fun k hk => by
      rw [Array.getD_eq_getD_getElem?, Array.getElem?_eq_getElem (by omega)]
      have h := List.countP_eq_zero.1 hc listed[k] (by simp)
      simpa using h
    refine ⟨?_, done _ a w hall hI⟩
    cases hr : Region.ready md ops listed with
    | nil => rfl
    | cons i l =>
      exfalso
      have hi : i ∈ Region.ready md ops listed := by rw [hr]; simp
      obtain ⟨h1, o, h2, _⟩ := mem_ready.1 hi
      have hlt := (Array.getElem?_eq_some_iff.1 h2).1
      have h3 := hall i hlt
      rw [Array.getD_eq_getD_getElem?, Array.getElem?_eq_getElem (by omega)] at h1 h3
      simp at h1 h3
      rw [h1] at h3
      cases h3
  | succ fuel ih =>
    intro listed a w hs hc hI
    refine ⟨fun hr => done _ a w (least listed hs hr) hI, fun i hi => ?_⟩
    obtain ⟨h1, o, h2, h3⟩ := mem_ready.1 hi
    have hlt := (Array.getElem?_eq_some_iff.1 h2).1
    have hg : listed[i]'(by omega) = false := by
      rw [Array.getD_eq_getD_getElem?, Array.getElem?_eq_getElem (by omega)] at h1
      simpa using h1
    have hL : (fun k => listed.getD k false) i = false := by
      show listed.getD i false = false
      rw [Array.getD_eq_getD_getElem?, Array.getElem?_eq_getElem (by omega)]
      simpa using hg
    have hst := step _ a w i o hI hL h2 h3
    have hnext : ∀ a' w', Inv (fun k => listed.getD k false || k == i) a' w' → wpAny P md ops Q fuel (listed.setIfInBounds i true) a' w' := fun a' w' h => by
      refine ih _ a' w' (by simpa using hs) ?_ ?_
      · have hcs : (listed.setIfInBounds i true).toList = listed.toList.set i true := by simp
        rw [hcs, List.countP_set (by simpa using (by omega : i < listed.size))]
        have hgl : listed.toList[i]'(by simpa using (by omega : i < listed.size)) = false := by simpa using hg
        rw [hgl]
        simp at hc ⊢
        omega
      · have he : (fun k => (listed.setIfInBounds i true).getD k false) = (fun k => listed.getD k false || k == i) := by
          funext k
          rw [Array.getD_eq_getD_getElem?, Array.getD_eq_getD_getElem?]
          by_cases e : k = i
          · subst e
            rw [Array.getElem?_setIfInBounds_self_of_lt (by omega)]
            simp
          · rw [Array.getElem?_setIfInBounds_ne (fun h => e h.symm)]
            simp [e]
        rw [he]; exact h
    unfold wpOp at hst ⊢
    rw [h2] at hst ⊢
    simp only at hst ⊢
    split
    · rename_i hw
      rw [if_pos hw] at hst
      rcases hst with h | h
      · exact .inl (Oper.wp_mono hnext h)
      · exact .inr h
    · rename_i hw
      rw [if_neg hw] at hst
      exact hnext _ _ hst
/-- the frame a, with what the operations that are done have left -/
def putL : List Oper → Nat → (Nat → Bool) → (Nat → Value) → Act → Act
  | [], _, _, _, a => a
  | o :: l, k, L, V, a => putL l (k + 1) L V (if L k then a.put o.dst (V k) else a)
theorem putL_put {d : Option Tmp} {v : Value} {L : Nat → Bool} {V : Nat → Value} : ∀ (l : List Oper) (k : Nat) (a : Act), (∀ o ∈ l, ∀ x, d = some x → o.dst ≠ some x) → putL l k L V (a.put d v) = (putL l k L V a).put d v
  | [], _, _, _ => rfl
  | o :: l, k, a, h => by
    have h1 := putL_put (d := d) (v := v) (L := L) (V := V) l (k + 1) (if L k then a.put o.dst (V k) else a) (fun o ho => h o (List.mem_cons_of_mem _ ho))
    simp only [putL]
    rw [← h1]
    split
    · rw [Act.put_comm a v (V k) (h o (List.mem_cons_self ..))]
    · rfl
theorem putL_congr {L L' : Nat → Bool} {V V' : Nat → Value} : ∀ (l : List Oper) (k : Nat) (a : Act), (∀ j, k ≤ j → L j = L' j ∧ V j = V' j) → putL l k L V a = putL l k L' V' a
  | [], _, _, _ => rfl
  | o :: l, k, a, h => by
    simp only [putL]
    rw [(h k (Nat.le_refl _)).1, (h k (Nat.le_refl _)).2]
    exact putL_congr l (k + 1) _ (fun j hj => h j (by omega))
def dstsApart (l : List Oper) : Prop := l.Pairwise fun o p => ∀ x, o.dst = some x → p.dst ≠ some x
/-- one more -/
def addL (L : Nat → Bool) (i : Nat) : Nat → Bool := fun k => L k || k == i
def setV (V : Nat → Value) (i : Nat) (v : Value) : Nat → Value := fun k => if k = i then v else V k
theorem addL_same (L : Nat → Bool) (i : Nat) : addL L i i = true := by simp [addL]
theorem addL_other {L : Nat → Bool} {i k : Nat} (h : k ≠ i) : addL L i k = L k := by simp [addL, h]
theorem setV_same (V : Nat → Value) (i : Nat) (v : Value) : setV V i v i = v := by simp [setV]
theorem setV_other {V : Nat → Value} {i k : Nat} (v : Value) (h : k ≠ i) : setV V i v k = V k := by simp [setV, h]
theorem putL_step {L : Nat → Bool} {V : Nat → Value} {i : Nat} {o : Oper} {v : Value} (hL : L i = false) : ∀ (l : List Oper) (k : Nat) (a : Act), dstsApart l → k ≤ i → l[i - k]? = some o → (putL l k L V a).put o.dst v = putL l k (addL L i) (setV V i v) a
  | [], _, _, _, _, h => by simp at h
  | p :: l, k, a, hd, hk, h => by
    obtain ⟨hd1, hd2⟩ := List.pairwise_cons.1 hd
    simp only [putL]
    by_cases e : i = k
    · subst e
      rw [Nat.sub_self] at h
      simp only [List.getElem?_cons_zero, Option.some.injEq] at h
      subst h
      rw [hL, addL_same, setV_same, ← putL_put l (i + 1) _ (fun o ho x hx hy => hd1 o ho x hx hy)]
      simp only [Bool.false_eq_true, if_false, if_true]
      exact putL_congr l (i + 1) _ (fun j hj => ⟨(addL_other (by omega)).symm, (setV_other v (by omega)).symm⟩)
    · rw [addL_other (fun e2 => e e2.symm), setV_other v (fun e2 => e e2.symm)]
      refine putL_step hL l (k + 1) _ hd2 (by omega) ?_
      rw [show i - k = (i - (k + 1)) + 1 by omega, List.getElem?_cons_succ] at h
      exact h
theorem putL_other {L : Nat → Bool} {V : Nat → Value} {x : Tmp} : ∀ (l : List Oper) (k : Nat) (a : Act), (∀ o ∈ l, o.dst ≠ some x) → (putL l k L V a).eval (.tmp x) = a.eval (.tmp x)
  | [], _, _, _ => rfl
  | o :: l, k, a, h => by
    simp only [putL]
    rw [putL_other l (k + 1) _ (fun o ho => h o (List.mem_cons_of_mem _ ho))]
    split
    · exact Act.eval_put (fun d hd e => by cases e; exact h o (List.mem_cons_self ..) hd)
    · rfl
theorem putL_off {L : Nat → Bool} {V : Nat → Value} {x : Tmp} : ∀ (l : List Oper) (k : Nat) (a : Act), (∀ j p, l[j]? = some p → p.dst = some x → L (k + j) = false) → (putL l k L V a).eval (.tmp x) = a.eval (.tmp x)
  | [], _, _, _ => rfl
  | o :: l, k, a, h => by
    simp only [putL]
    rw [putL_off l (k + 1) _ (fun j p hp hx => by have := h (j + 1) p (by rw [List.getElem?_cons_succ]; exact hp) hx; rw [show k + 1 + j = k + (j + 1) by omega]; exact this)]
    split
    · rename_i hL
      refine Act.eval_put (fun d hd e => ?_)
      cases e
      have := h 0 o rfl hd
      rw [Nat.add_zero] at this
      rw [hL] at this
      cases this
    · rfl
theorem putL_size {L : Nat → Bool} {V : Nat → Value} : ∀ (l : List Oper) (k : Nat) (a : Act), (putL l k L V a).tmps.size = a.tmps.size
  | [], _, _ => rfl
  | o :: l, k, a => by
    simp only [putL]
    rw [putL_size l (k + 1)]
    split
    · cases o.dst <;> simp [Act.put]
    · rfl
theorem eval_put_same {a : Act} {x : Tmp} {v : Value} (h : x < a.tmps.size) : (a.put (some x) v).eval (.tmp x) = v := by
  simp [Act.eval, Act.put, h]
theorem putL_dst {L : Nat → Bool} {V : Nat → Value} {i : Nat} {o : Oper} {x : Tmp} (hL : L i = true) (hx : o.dst = some x) : ∀ (l : List Oper) (k : Nat) (a : Act), dstsApart l → k ≤ i → l[i - k]? = some o → x < a.tmps.size → (putL l k L V a).eval (.tmp x) = V i
  | [], _, _, _, _, h, _ => by simp at h
  | p :: l, k, a, hd, hk, h, hs => by
    obtain ⟨hd1, hd2⟩ := List.pairwise_cons.1 hd
    simp only [putL]
    by_cases e : i = k
    · subst e
      rw [Nat.sub_self] at h
      simp only [List.getElem?_cons_zero, Option.some.injEq] at h
      subst h
      rw [hL, if_pos rfl, putL_other l (i + 1) _ (fun o ho => hd1 o ho x hx), hx, eval_put_same hs]
    · refine putL_dst hL hx l (k + 1) _ hd2 (by omega) ?_ ?_
      · rw [show i - k = (i - (k + 1)) + 1 by omega, List.getElem?_cons_succ] at h
        exact h
      · split
        · cases p.dst <;> simp [Act.put, hs]
        · exact hs
theorem putL_all {L : Nat → Bool} {V : Nat → Value} : ∀ (l : List Oper) (k : Nat) (a : Act), (∀ j, k ≤ j → j < k + l.length → L j = true) → putL l k L V a = putL l k (fun _ => true) V a
  | [], _, _, _ => rfl
  | o :: l, k, a, h => by
    simp only [putL]
    rw [h k (Nat.le_refl _) (by simp), putL_all l (k + 1) _ (fun j h1 h2 => h j (by omega) (by simp; omega))]
    simp
theorem putL_none {V : Nat → Value} : ∀ (l : List Oper) (k : Nat) (a : Act), putL l k (fun _ => false) V a = a
  | [], _, _ => rfl
  | o :: l, k, a => by
    simp only [putL]
    exact putL_none l (k + 1) a
/-- no guard; what is waited for lies ahead -/
def backB : List Oper → Nat → Bool
  | [], _ => true
  | o :: l, k => o.guard.isNone && o.after.toList.all (fun e => decide (e.on < k)) && backB l (k + 1)
def apartB : List Oper → Bool
  | [] => true
  | o :: l => l.all (fun p => match o.dst with | some x => p.dst != some x | none => true) && apartB l
def boundB (l : List Oper) (n : Nat) : Bool := l.all fun o => match o.dst with | some x => decide (x < n) | none => true
theorem back_of : ∀ {l : List Oper} {k : Nat}, backB l k = true → ∀ {i : Nat} {o : Oper}, l[i]? = some o → o.guard = none ∧ ∀ e ∈ o.after, e.on < k + i
  | [], _, _, _, _, h => by simp at h
  | p :: l, k, hb, i, o, h => by
    simp only [backB, Bool.and_eq_true] at hb
    cases i with
    | zero =>
      simp only [List.getElem?_cons_zero, Option.some.injEq] at h
      subst h
      refine ⟨by simpa using hb.1.1, fun e he => ?_⟩
      have := List.all_eq_true.1 hb.1.2 e (by simpa using he)
      simpa using this
    | succ i =>
      rw [List.getElem?_cons_succ] at h
      obtain ⟨h1, h2⟩ := back_of hb.2 h
      exact ⟨h1, fun e he => by have := h2 e he; omega⟩
theorem apart_of : ∀ {l : List Oper}, apartB l = true → dstsApart l
  | [], _ => List.Pairwise.nil
  | o :: l, h => by
    simp only [apartB, Bool.and_eq_true] at h
    refine List.pairwise_cons.2 ⟨fun p hp x hx => ?_, apart_of h.2⟩
    have := List.all_eq_true.1 h.1 p hp
    rw [hx] at this
    simpa using this
theorem wp_region_rg {P : Program} {id : Nat} {Q : Exit → Act → World → Prop} {a : Act} {w : World} {l : List Oper} (J : (Nat → Bool) → (Nat → Value) → World → Prop) (n : Nat)
    (hm : P.follows .mixedOrders = true) (hb : (backB l 0 && apartB l && boundB l n) = true) (hn : a.tmps.size = n) (h0 : ∀ V, J (fun _ => false) V w.drew)
    (step : ∀ (L : Nat → Bool) (V : Nat → Value) (w' : World) (i : Nat) (o : Oper) (a' : Act), J L V w' → L i = false → l[i]? = some o → (∀ e ∈ o.after, Region.binds .any e = true → L e.on = true) →
      (∀ k p x, l[k]? = some p → p.dst = some x → L k = true → a'.eval (.tmp x) = V k) → (∀ x, (∀ j p, l[j]? = some p → p.dst = some x → L j = false) → a'.eval (.tmp x) = a.eval (.tmp x)) →
      (∀ k p, l[k]? = some p → L k = true → ∀ e ∈ p.after, Region.binds .any e = true → L e.on = true) →
      o.wp P a' w' (fun a'' w'' => ∃ v, a'' = a'.put o.dst v ∧ J (addL L i) (setV V i v) w'') Q)
    (done : ∀ (L : Nat → Bool) (V : Nat → Value) (w' : World), (∀ k, k < l.length → L k = true) → J L V w' → Q .normal (putL l 0 (fun _ => true) V a) w') :
    (Code.region id l.toArray true).wp P Q a w := by
  simp only [Bool.and_eq_true] at hb
  obtain ⟨⟨hb1, hb2⟩, hb3⟩ := hb
  have hap := apart_of hb2
  have hbd : ∀ o ∈ l, ∀ x, o.dst = some x → x < a.tmps.size := fun o ho x hx => by
    have := List.all_eq_true.1 hb3 o ho
    rw [hx] at this
    rw [hn]
    simpa using this
  refine wp_region_any hm (wpAny_inv (fun L a' w' => (∃ V, a' = putL l 0 L V a ∧ J L V w') ∧ ∀ k p, l[k]? = some p → L k = true → ∀ e ∈ p.after, Region.binds .any e = true → L e.on = true) (fun j o ho e he => by have := (back_of hb1 (by simpa using ho)).2 e he; omega) ?_ ?_ _ _ _ _ (by simp) ?_ ?_)
  · rintro L a' w' i o ⟨⟨V, rfl, hJ⟩, hcl⟩ hL ho hd
    have ho' : l[i]? = some o := by simpa using ho
    obtain ⟨hg, _⟩ := back_of hb1 ho'
    have hst := step L V w' i o (putL l 0 L V a) hJ hL ho' hd
      (fun k p x hk hx hLk => putL_dst hLk hx l 0 a hap (Nat.zero_le _) (by simpa using hk) (hbd p (List.mem_of_getElem? hk) x hx))
      (fun x hx => putL_off l 0 a (fun j p hp hd => by rw [Nat.zero_add]; exact hx j p hp hd)) hcl
    unfold wpOp
    rw [ho]
    have hw : Region.wanted o (yielded l.toArray (putL l 0 L V a).tmps) = true := by simp [Region.wanted, hg]
    simp only [hw, if_true]
    refine .inl (Oper.wp_mono ?_ hst)
    rintro a'' w'' ⟨v, rfl, hJ'⟩
    refine ⟨⟨setV V i v, putL_step hL l 0 a hap (Nat.zero_le _) (by simpa using ho'), hJ'⟩, fun k p hp hk e he hb => ?_⟩
    show (L e.on || e.on == i) = true
    by_cases h : k = i
    · subst h
      rw [ho'] at hp
      cases hp
      rw [hd e he hb]; rfl
    · have hk' : (L k || k == i) = true := hk
      have : L k = true := by simpa [h] using hk'
      rw [hcl k p hp this e he hb]; rfl
  · rintro L a' w' hall ⟨⟨V, rfl, hJ⟩, _⟩
    rw [putL_all l 0 a (fun j _ hj => hall j (by simpa using hj))]
    exact done L V w' (fun k hk => hall k (by simpa using hk)) hJ
  · simp [List.countP_replicate]
  · have hf : (fun k => (Array.replicate l.toArray.size false).getD k false) = fun _ => false := by
      funext k
      rw [Array.getD_eq_getD_getElem?, Array.getElem?_replicate]
      split <;> rfl
    rw [hf]
    exact ⟨⟨fun _ => undef, (putL_none l 0 a).symm, h0 _⟩, fun k p _ h => (by cases h)⟩
end Go.Proofs.YtmpieeadkkeniaaGreatDoor
