/- Layer 10: words in parentheses as trees of words; what is read of them, plainly. No condition.
   Layer 10: words in parentheses are those of one list of trees at most. No condition.
   Layer 10: what is read of trees of words: expressions, plainly. No condition.
   Layer 10: a reader, and the parts of an item, as they lie; next, word, count. Condition: the tables read as they should.
   Layer 10: next, word, count, inside. Condition: the library's variables are what they are.
   Layer 10: inside. No condition.
   Layer 10: rows of what is read, as they grow. No condition.
   Layer 10: list, of expressions. Condition: what reads each of them does what it says.
   Layer 10: wordExpr; expressions, behind their word. Condition: the library's variables are what they are.
   Layer 10: expressions, read. Condition: the tables read as they should.
   Layer 10: an expression, read. Condition: the tables read as they should. -/
import Derived.Test.YtbhdbglhejibbaaGreatDoorTraE
import Derived.Test.YtbhdbglhejibbaaGreatDoorLexE
import Derived.Test.YtbhdbglhejibbaaGreatDoorLexL
import Derived.Test.YtbhdbglhejibbaaGreatDoorTraM
namespace Go.Proofs.YtbhdbglhejibbaaGreatDoor
set_option maxRecDepth 100000
open Go.RowKit
set_option linter.unusedVariables false
/-- a word, or what is in parentheses -/
inductive TokD where
  | w (s : ByteArray)
  | l (ts : List TokD)
def opnB : ByteArray := ⟨#[40]⟩
def clsB : ByteArray := ⟨#[41]⟩
mutual
def flat : TokD → List ByteArray
  | .w s => [s]
  | .l ts => opnB :: (flats ts ++ [clsB])
def flats : List TokD → List ByteArray
  | [] => []
  | t :: ts => flat t ++ flats ts
end
mutual
def TokOk : TokD → Prop
  | .w s => opnW s = 0
  | .l ts => ToksOk ts
def ToksOk : List TokD → Prop
  | [] => True
  | t :: ts => TokOk t ∧ ToksOk ts
end
theorem toksOk_iff : ∀ {l : List TokD}, ToksOk l ↔ ∀ t ∈ l, TokOk t
  | [] => by simp [ToksOk]
  | t :: ts => by unfold ToksOk; rw [toksOk_iff (l := ts)]; simp
theorem flats_map : ∀ (l : List TokD), flats l = (l.map flat).flatten
  | [] => rfl
  | t :: ts => by unfold flats; rw [flats_map ts]; rfl
theorem flats_append (a b : List TokD) : flats (a ++ b) = flats a ++ flats b := by rw [flats_map, flats_map, flats_map]; simp
theorem opnW_opn : opnW opnB = 1 := by unfold opnW opnB; rw [if_pos (by decide)]
theorem opnW_cls : opnW clsB = -1 := by unfold opnW clsB; rw [if_neg (by decide), if_pos (by decide)]
theorem opnW_pos {s : ByteArray} (h : opnW s = 1) : s = opnB := by
  unfold opnW at h
  split at h
  · next h1 =>
    apply ByteArray.ext
    have : s.data.toList = opnB.data.toList := h1
    exact Array.toList_inj.1 this
  · split at h <;> omega
theorem opnW_neg {s : ByteArray} (h : opnW s = -1) : s = clsB := by
  unfold opnW at h
  split at h
  · omega
  · split at h
    · next h1 =>
      apply ByteArray.ext
      have : s.data.toList = clsB.data.toList := h1
      exact Array.toList_inj.1 this
    · omega
theorem opnW_three (s : ByteArray) : opnW s = 0 ∨ opnW s = 1 ∨ opnW s = -1 := by
  unfold opnW
  split
  · simp
  · split <;> simp
/-- what was read ahead of a place: what is open there, from without -/
def unst : List (List TokD) → List TokD → List ByteArray
  | [], top => flats top
  | s :: st, top => unst st s ++ (opnB :: flats top)
theorem unst_snoc : ∀ (st : List (List TokD)) (top : List TokD) (t : TokD), unst st (top ++ [t]) = unst st top ++ flat t
  | [], top, t => by unfold unst; rw [flats_append]; simp [flats]
  | s :: st, top, t => by unfold unst; rw [flats_append]; simp [flats]
theorem toks_of : ∀ (l : List ByteArray) (st : List (List TokD)) (top : List TokD), nstP l st.length = some 0 → (∀ s ∈ st, ToksOk s) → ToksOk top → ∃ ts, ToksOk ts ∧ unst st top ++ l = flats ts
  | [], st, top, h, hs, ht => by
    simp only [nstP, Option.some.injEq] at h
    have : st = [] := List.length_eq_zero_iff.1 (by omega)
    subst this
    exact ⟨top, ht, by simp [unst]⟩
  | s :: l, st, top, h, hs, ht => by
    unfold nstP at h
    split at h
    · cases h
    next hb =>
    rcases opnW_three s with h0 | h1 | h2
    · obtain ⟨ts, h3, h4⟩ := toks_of l st (top ++ [.w s]) (by rw [h0] at h; simpa using h) hs (by rw [toksOk_iff] at ht ⊢; intro t hx; rcases List.mem_append.1 hx with hx | hx; exact ht t hx; simp at hx; subst hx; exact h0)
      refine ⟨ts, h3, ?_⟩
      rw [← h4, unst_snoc]
      simp [flat]
    · have e := opnW_pos h1
      subst e
      obtain ⟨ts, h3, h4⟩ := toks_of l (top :: st) [] (by rw [h1] at h; simpa using h) (by intro x hx; rcases List.mem_cons.1 hx with rfl | hx; exact ht; exact hs x hx) trivial
      refine ⟨ts, h3, ?_⟩
      rw [← h4]
      simp [unst, flats]
    · have e := opnW_neg h2
      subst e
      match st, hs with
      | [], _ => rw [h2] at hb; simp at hb
      | q :: st, hs =>
        obtain ⟨ts, h3, h4⟩ := toks_of l st (q ++ [.l top]) (by rw [h2, show (((q :: st).length : Nat) : Int) + -1 = (st.length : Int) by rw [List.length_cons]; omega] at h; exact h) (fun x hx => hs x (by simp [hx])) (by rw [toksOk_iff]; intro t hx; rcases List.mem_append.1 hx with hx | hx; exact (toksOk_iff.1 (hs q (by simp))) t hx; simp at hx; subst hx; exact ht)
        refine ⟨ts, h3, ?_⟩
        rw [← h4, unst_snoc]
        simp [unst, flat]
/-- words that are nested right are trees of words -/
theorem toks_nst {l : List ByteArray} (h : nstB l = true) : ∃ ts, ToksOk ts ∧ l = flats ts := by
  obtain ⟨ts, h1, h2⟩ := toks_of l [] [] (by unfold nstB at h; simpa using h) (by simp) trivial
  exact ⟨ts, h1, by simpa [unst, flats] using h2⟩
mutual
theorem itm_in : ∀ (t : TokD) (p : Int) (cur r : List ByteArray), TokOk t → 1 ≤ p → itmP (flat t ++ r) p cur = itmP r p (cur ++ flat t)
  | .w s, p, cur, r, h, hp => by
    unfold flat
    unfold TokOk at h
    simp only [List.cons_append, List.nil_append]
    rw [itmP, h, if_neg (by omega), Int.add_zero]
  | .l ts, p, cur, r, h, hp => by
    unfold flat
    unfold TokOk at h
    simp only [List.cons_append, List.append_assoc, List.nil_append]
    rw [itmP, opnW_opn, if_neg (by omega), itms_in ts (p + 1) _ _ h (by omega), itmP, opnW_cls, if_neg (by omega), show p + 1 + -1 = p by omega]
    simp
theorem itms_in : ∀ (ts : List TokD) (p : Int) (cur r : List ByteArray), ToksOk ts → 1 ≤ p → itmP (flats ts ++ r) p cur = itmP r p (cur ++ flats ts)
  | [], p, cur, r, h, hp => by simp [flats]
  | t :: ts, p, cur, r, h, hp => by
    unfold flats
    unfold ToksOk at h
    rw [List.append_assoc, itm_in t p cur _ h.1 hp, itms_in ts p _ r h.2 hp, List.append_assoc]
end
theorem itm_one (t : TokD) (r : List ByteArray) (h : TokOk t) : itmP (flat t ++ r) 0 [] = flat t :: itmP r 0 [] := by
  cases t with
  | w s =>
    unfold flat
    unfold TokOk at h
    simp only [List.cons_append, List.nil_append]
    rw [itmP, h, if_pos (by omega)]
    simp
  | l ts =>
    unfold flat
    unfold TokOk at h
    simp only [List.cons_append, List.append_assoc, List.nil_append]
    rw [itmP, opnW_opn, if_neg (by omega), itms_in ts (0 + 1) _ _ h (by omega), itmP, opnW_cls, if_pos (by omega)]
    simp
/-- the items are the trees, one by one -/
theorem itm_toks : ∀ (ts : List TokD), ToksOk ts → itmP (flats ts) 0 [] = ts.map flat
  | [], _ => rfl
  | t :: ts, h => by
    unfold flats
    unfold ToksOk at h
    rw [itm_one t _ h.1, itm_toks ts h.2]
    rfl
theorem flat_len : ∀ (t : TokD), (flat t).length = 1 ∨ (∃ ts, t = .l ts ∧ 2 ≤ (flat t).length)
  | .w s => .inl rfl
  | .l ts => .inr ⟨ts, rfl, by simp [flat]⟩
end Go.Proofs.YtbhdbglhejibbaaGreatDoor
namespace Go.Proofs.YtbhdbglhejibbaaGreatDoor
set_option maxRecDepth 100000
open Go.RowKit
set_option linter.unusedVariables false
def EndW (r : List ByteArray) : Prop := r = [] ∨ ∃ q, r = clsB :: q
theorem flat_end {t : TokD} {x r : List ByteArray} (ht : TokOk t) (hr : EndW r) (h : r = flat t ++ x) : False := by
  rcases hr with rfl | ⟨q, rfl⟩
  · cases t <;> simp [flat] at h
  · cases t with
    | w s =>
      simp only [flat, List.cons_append, List.nil_append, List.cons.injEq] at h
      unfold TokOk at ht
      rw [← h.1, opnW_cls] at ht
      omega
    | l ts =>
      simp only [flat, List.cons_append, List.cons.injEq] at h
      have := congrArg opnW h.1
      rw [opnW_cls, opnW_opn] at this
      omega
theorem flats_one : ∀ (n : Nat) (a b : List TokD) (r r' : List ByteArray), (flats a).length ≤ n → ToksOk a → ToksOk b → EndW r → EndW r' → flats a ++ r = flats b ++ r' → a = b ∧ r = r'
  | _, [], [], r, r', _, _, _, _, _, h => ⟨rfl, by simpa [flats] using h⟩
  | _, [], t :: ts, r, r', _, _, hb, hr, _, h => by
    simp only [flats, List.nil_append, List.append_assoc] at h
    exact (flat_end hb.1 hr h).elim
  | _, t :: ts, [], r, r', _, ha, _, _, hr, h => by
    simp only [flats, List.nil_append, List.append_assoc] at h
    exact (flat_end ha.1 hr h.symm).elim
  | n, t :: ts, u :: us, r, r', hn, ha, hb, hr, hr', h => by
    simp only [flats, List.append_assoc] at h
    have hl : (flat t).length + (flats ts).length ≤ n := by unfold flats at hn; rw [List.length_append] at hn; exact hn
    cases t with
    | w s =>
      cases u with
      | w s' =>
        simp only [flat, List.cons_append, List.nil_append, List.cons.injEq] at h
        obtain ⟨rfl, h⟩ := h
        match n, hl with
        | 0, hl => simp [flat] at hl
        | n + 1, hl =>
          obtain ⟨rfl, e⟩ := flats_one n ts us r r' (by simp only [flat, List.length_cons, List.length_nil] at hl; omega) ha.2 hb.2 hr hr' h
          exact ⟨rfl, e⟩
      | l vs =>
        simp only [flat, List.cons_append, List.nil_append, List.cons.injEq] at h
        have h1 := ha.1
        unfold TokOk at h1
        rw [h.1, opnW_opn] at h1
        omega
    | l ws =>
      cases u with
      | w s' =>
        simp only [flat, List.cons_append, List.nil_append, List.cons.injEq] at h
        have h1 := hb.1
        unfold TokOk at h1
        rw [← h.1, opnW_opn] at h1
        omega
      | l vs =>
        simp only [flat, List.cons_append, List.nil_append, List.append_assoc, List.cons.injEq, true_and] at h
        simp only [flat, List.length_cons, List.length_append, List.length_nil] at hl
        match n, hl with
        | 0, hl => omega
        | n + 1, hl =>
          have h1 := ha.1
          have h2 := hb.1
          unfold TokOk at h1 h2
          obtain ⟨rfl, e⟩ := flats_one n ws vs (clsB :: (flats ts ++ r)) (clsB :: (flats us ++ r')) (by omega) h1 h2 (.inr ⟨_, rfl⟩) (.inr ⟨_, rfl⟩) h
          obtain ⟨rfl, e2⟩ := flats_one n ts us r r' (by omega) ha.2 hb.2 hr hr' (List.cons.inj e).2
          exact ⟨rfl, e2⟩
theorem flats_inj {a b : List TokD} (ha : ToksOk a) (hb : ToksOk b) (h : flats a = flats b) : a = b :=
  (flats_one _ a b [] [] (Nat.le_refl _) ha hb (.inl rfl) (.inl rfl) (by rw [h])).1
end Go.Proofs.YtbhdbglhejibbaaGreatDoor
namespace Go.Proofs.YtbhdbglhejibbaaGreatDoor
set_option maxRecDepth 100000
open Go.RowKit
set_option linter.unusedVariables false
def allO {α : Type} : List (Option α) → Option (List α)
  | [] => some []
  | none :: _ => none
  | some x :: l => (allO l).map (x :: ·)
theorem allO_none {α : Type} : ∀ {l : List (Option α)}, none ∈ l → allO l = none
  | none :: l, _ => rfl
  | some x :: l, h => by
    unfold allO
    rw [allO_none (l := l) (by simpa using h)]; rfl
theorem allO_some {α : Type} : ∀ {l : List α}, allO (l.map some) = some l
  | [] => rfl
  | x :: l => by
    rw [List.map_cons, allO, allO_some (l := l)]; rfl
def chkE : ExprD → Option ExprD
  | .mk k n s args => if exB k n s args.length = true then some (.mk k n s args) else none
def wrdE (s : ByteArray) : ExprD := if numB s = true then .mk 0 (numV s) ⟨#[]⟩ [] else .mk 1 0 s []
/-- what each first word means: a kind, a number, whether a name is behind -/
def kinL : List (ByteArray × Int × Int × Bool) := [(expW 2, 2, 0, true), (expW 4, 4, 0, false), (expW 5, 5, 0, true), (expW 6, 6, 0, false)] ++ (List.range 13).map (fun k => (opsW k, 3, (opsR k).2, false))
def kinE (s : ByteArray) : Option (Int × Int × Bool) := (kinL.find? (fun x => decide (x.1 = s))).map (·.2)
/-- an expression, of the parts behind its word -/
def rdE (k n : Int) (named : Bool) (ts : List TokD) (rs : List (Option ExprD)) : Option ExprD :=
  if named = true then match ts with
    | .w s :: _ => (allO (rs.drop 1)).map (.mk k n s ·)
    | _ => none
  else (allO rs).map (.mk k n ⟨#[]⟩ ·)
mutual
def pE : TokD → Option ExprD
  | .w s => chkE (wrdE s)
  | .l ts => match ts, psE ts with
    | .w h :: ts', _ :: rs => match kinE h with
      | some x => (rdE x.1 x.2.1 x.2.2 ts' rs).bind chkE
      | none => none
    | _, _ => none
def psE : List TokD → List (Option ExprD)
  | [] => []
  | t :: ts => pE t :: psE ts
end
theorem psE_map : ∀ (l : List TokD), psE l = l.map pE
  | [] => rfl
  | t :: ts => by unfold psE; rw [psE_map ts]; rfl
theorem pE_head {h : ByteArray} {ts : List TokD} : pE (.l (.w h :: ts)) = match kinE h with
    | some x => (rdE x.1 x.2.1 x.2.2 ts (ts.map pE)).bind chkE
    | none => none := by
  simp only [pE, psE_map, List.map_cons]
theorem pE_nohead {ts us : List TokD} : pE (.l (.l ts :: us)) = none := by simp only [pE]
theorem pE_nil : pE (.l []) = none := by simp only [pE]
theorem TokD.ind {P : TokD → Prop} (hw : ∀ s, P (.w s)) (hl : ∀ ts, (∀ t ∈ ts, P t) → P (.l ts)) : ∀ t, P t := fun t =>
  TokD.rec (motive_1 := P) (motive_2 := fun l => ∀ t ∈ l, P t) hw (fun ts ih => hl ts ih) (fun t ht => by cases ht)
    (fun t ts h1 h2 x hx => by rcases List.mem_cons.1 hx with rfl | hx; exact h1; exact h2 x hx) t
mutual
/-- how deep parentheses are -/
def tdep : TokD → Nat
  | .w _ => 0
  | .l ts => tdeps ts + 1
def tdeps : List TokD → Nat
  | [] => 0
  | t :: ts => max (tdep t) (tdeps ts)
end
theorem nst_step (s : ByteArray) (l : List ByteArray) (p : Int) : nstP (s :: l) p = if p + opnW s < 0 ∨ 24 < p + opnW s then none else nstP l (p + opnW s) := rfl
mutual
theorem nst_flat : ∀ (t : TokD) (p : Nat) (r : List ByteArray), TokOk t → p ≤ 24 → nstP (flat t ++ r) p = if p + tdep t ≤ 24 then nstP r p else none
  | .w s, p, r, h, hp => by
    unfold flat tdep
    unfold TokOk at h
    simp only [List.cons_append, List.nil_append]
    rw [nst_step, h, Int.add_zero, if_neg (by omega), if_pos (by omega)]
  | .l ts, p, r, h, hp => by
    unfold flat tdep
    unfold TokOk at h
    simp only [List.cons_append, List.append_assoc, List.nil_append]
    rw [nst_step, opnW_opn]
    by_cases h1 : p + 1 ≤ 24
    · rw [if_neg (by omega), show (p : Int) + 1 = ((p + 1 : Nat) : Int) by omega, nst_flats ts (p + 1) _ h h1]
      by_cases h2 : p + 1 + tdeps ts ≤ 24
      · rw [if_pos h2, if_pos (by omega), nst_step, opnW_cls, if_neg (by omega), show ((p + 1 : Nat) : Int) + -1 = p by omega]
      · rw [if_neg h2, if_neg (by omega)]
    · rw [if_pos (by omega), if_neg (by omega)]
theorem nst_flats : ∀ (ts : List TokD) (p : Nat) (r : List ByteArray), ToksOk ts → p ≤ 24 → nstP (flats ts ++ r) p = if p + tdeps ts ≤ 24 then nstP r p else none
  | [], p, r, h, hp => by
    unfold flats tdeps
    rw [if_pos (by omega)]; rfl
  | t :: ts, p, r, h, hp => by
    unfold flats tdeps
    unfold ToksOk at h
    rw [List.append_assoc, nst_flat t p _ h.1 hp, nst_flats ts p r h.2 hp]
    by_cases h1 : p + tdep t ≤ 24
    · rw [if_pos h1]
      by_cases h2 : p + tdeps ts ≤ 24
      · rw [if_pos h2, if_pos (by omega)]
      · rw [if_neg h2, if_neg (by omega)]
    · rw [if_neg h1, if_neg (by omega)]
end
theorem nst_deps {ts : List TokD} (h : ToksOk ts) : nstB (flats ts) = true ↔ tdeps ts ≤ 24 := by
  have := nst_flats ts 0 [] h (by omega)
  simp only [List.append_nil] at this
  unfold nstB
  rw [show ((0 : Nat) : Int) = 0 from rfl] at this
  rw [this]
  by_cases h1 : 0 + tdeps ts ≤ 24
  · rw [if_pos h1]
    simp [nstP]
    omega
  · rw [if_neg h1]
    simp
    omega
theorem tdep_mem : ∀ {ts : List TokD} {t : TokD}, t ∈ ts → tdep t ≤ tdeps ts
  | u :: us, t, h => by
    unfold tdeps
    rcases List.mem_cons.1 h with rfl | h
    · omega
    · have := tdep_mem h; omega
/-- few words, none too long, not too deep -/
def TokB (t : TokD) : Prop := (flat t).length ≤ 100000 ∧ (∀ s ∈ flat t, s.size ≤ 100000) ∧ tdep t ≤ 24
theorem flat_mem : ∀ {ts : List TokD} {t : TokD}, t ∈ ts → (flat t).length ≤ (flats ts).length ∧ ∀ s ∈ flat t, s ∈ flats ts
  | u :: us, t, h => by
    unfold flats
    rcases List.mem_cons.1 h with rfl | h
    · exact ⟨by simp, fun s hs => by simp [hs]⟩
    · obtain ⟨h1, h2⟩ := flat_mem h
      exact ⟨by rw [List.length_append]; omega, fun s hs => by simp [h2 s hs]⟩
theorem TokB.of {ts : List TokD} {t : TokD} (h : TokB (.l ts)) (ht : t ∈ ts) : TokB t := by
  obtain ⟨h1, h2, h5⟩ := h
  obtain ⟨h3, h4⟩ := flat_mem ht
  have h6 := tdep_mem ht
  unfold flat at h1 h2
  unfold tdep at h5
  exact ⟨by simp at h1; omega, fun s hs => h2 s (by simp [h4 s hs]), by omega⟩
theorem flat_pos (t : TokD) : 1 ≤ (flat t).length := by
  cases t <;> simp [flat]
theorem flats_len : ∀ (ts : List TokD), ts.length ≤ (flats ts).length
  | [] => by simp [flats]
  | t :: ts => by
    have := flats_len ts
    have := flat_pos t
    unfold flats
    simp
    omega
theorem TokB.count {ts : List TokD} (h : TokB (.l ts)) : ts.length ≤ 100000 ∧ (flats ts).length ≤ 100000 := by
  have := h.1
  have := flats_len ts
  unfold flat at *
  simp at *
  omega
end Go.Proofs.YtbhdbglhejibbaaGreatDoor
namespace Go.Proofs.YtbhdbglhejibbaaGreatDoor
set_option maxRecDepth 100000
open Go.RowKit
set_option linter.unusedVariables false
/-- block m is a map of these words, in this order -/
def StrAt (w : World) (m : Nat) (L : List (ByteArray × Value)) : Prop := ∃ es clock, w.heap[m]? = some (.map es clock) ∧ es.toList.map (fun e => (e.key, e.val)) = L.map (fun x => (Value.string x.1, x.2))
theorem StrAt.lt {w : World} {m : Nat} {L : List (ByteArray × Value)} (h : StrAt w m L) : m < w.heap.size := by obtain ⟨es, c, h, _⟩ := h; exact (Array.getElem?_eq_some_iff.1 h).1
theorem StrAt.move {w w' : World} {m : Nat} {L : List (ByteArray × Value)} (h : StrAt w m L) (hk : w'.heap[m]? = w.heap[m]?) : StrAt w' m L := by
  obtain ⟨es, c, h, h2⟩ := h
  exact ⟨es, c, hk.trans h, h2⟩
def strF (L : List (ByteArray × Value)) (s : ByteArray) : Option Value := (L.find? (fun x => decide (x.1 = s))).map (·.2)
theorem bq_eq (a b : ByteArray) : (a == b) = decide (a = b) := (beq_toListBytes a b).trans str_eq
theorem find_str {s : ByteArray} : ∀ (es : List MapEntry) (L : List (ByteArray × Value)) (i : Nat), es.map (fun e => (e.key, e.val)) = L.map (fun x => (Value.string x.1, x.2)) →
    ∃ r, Instr.findNow .string (.string s) es i = some r ∧ r.map (·.2) = strF L s
  | [], L, i, h => by
    have : L = [] := by simpa using h.symm
    subst this
    exact ⟨none, rfl, rfl⟩
  | e :: es, [], i, h => by simp at h
  | e :: es, x :: L, i, h => by
    simp only [List.map_cons, List.cons.injEq, Prod.mk.injEq] at h
    obtain ⟨⟨h1, h2⟩, h3⟩ := h
    by_cases hs : x.1 = s
    · subst hs
      refine ⟨some (i, e.val), ?_, ?_⟩
      · simp [Instr.findNow, h1, Instr.sameNow, bq_eq]
      · unfold strF
        rw [List.find?_cons_of_pos (by simp)]
        simp [h2]
    · obtain ⟨r, hr, h4⟩ := find_str (s := s) es L (i + 1) h3
      refine ⟨r, ?_, ?_⟩
      · have : (s == x.1) = false := by rw [bq_eq]; exact decide_eq_false (fun e => hs e.symm)
        simp [Instr.findNow, h1, Instr.sameNow, this, hr]
      · unfold strF
        rw [List.find?_cons_of_neg (by simpa using hs)]
        exact h4
theorem StrAt.look {w : World} {M T E : TypeId} {m : Nat} {L : List (ByteArray × Value)} (h : StrAt w m L) (hM : Tryz.prog.underlying M = some (.map T E)) (hT : Tryz.prog.underlying T = some .string) (hE : (zeroValue E).run Tryz.prog w = .ok .nilFunc w) (s : ByteArray) :
    (Instr.lookup M (.map (some m)) (.string s) true).run Tryz.prog w = .ok (.tuple #[(strF L s).getD .nilFunc, .bool (strF L s).isSome]) w := by
  obtain ⟨es, c, hb, hk⟩ := h
  obtain ⟨r, hr, h2⟩ := find_str es.toList L 0 hk (s := s)
  have hch : ∀ em, (Instr.checkKey em 10000 T (.string s)).run Tryz.prog w = .ok () w := fun em => by
    rw [show (10000 : Nat) = 9999 + 1 from rfl, Instr.checkKey]
    simp [run_underlying hT]
  have hf : (Instr.findKey T (.string s) es.toList).run Tryz.prog w = .ok r w := by
    unfold Instr.findKey
    simp only [Sem.run_bind, run_underlying hT, Result.andThen_ok, hr, Sem.run_pure]
  unfold Instr.lookup
  simp only [Sem.run_bind, run_underlying hM, Result.andThen_ok, tget_map hb, Sem.run_pure, hch, hf]
  rw [← h2]
  cases r with
  | none => simp [hE]
  | some x => simp
/-- what a reader knows: where it lies, its four maps, and above which blocks all that it makes lies -/
structure RdC where
  w0 : World
  r : Nat
  ri : Nat
  rp : Nat
  rs : Nat
  re : Nat
  top : Nat
def stV8 (r : Nat) (k : Nat) : Value := .agg #[.pointer (some ⟨r, 0, none⟩), .int .i64 k, .string (stmW k), .bool (stmR k).2.1, .bool (stmR k).2.2.1, .int .i64 (stmR k).2.2.2.1, .int .i64 (stmR k).2.2.2.2]
def itemsL (r : Nat) : List (ByteArray × Value) := [(wSecret, .func (.func 50) #[.pointer (some ⟨r, 0, none⟩)] #[]), (wFun, .func (.func 51) #[.pointer (some ⟨r, 0, none⟩)] #[]), (wExport, .func (.func 52) #[.pointer (some ⟨r, 0, none⟩)] #[])]
def paramsL (r : Nat) : List (ByteArray × Value) := [(wSec, .func (.func 53) #[.pointer (some ⟨r, 0, none⟩)] #[]), (wPtr, .func (.func 54) #[.pointer (some ⟨r, 0, none⟩)] #[])]
def stmtsL (r : Nat) : List (ByteArray × Value) := (List.range 5).map fun (k : Nat) => (stmW (k : Int), .func (.func 55) #[stV8 r k] #[])
def exV8 (r : Nat) (x : Int × Int × Bool) : Value := .agg #[.pointer (some ⟨r, 0, none⟩), .int .i64 x.1, .int .u64 x.2.1, .bool x.2.2]
def exprsL (r : Nat) : List (ByteArray × Value) := kinL.map fun x => (x.1, .func (.func 56) #[exV8 r x.2] #[])
theorem exprsL_find (r : Nat) (s : ByteArray) : strF (exprsL r) s = (kinE s).map fun x => .func (.func 56) #[exV8 r x] #[] := by
  unfold strF exprsL kinE
  rw [List.find?_map]
  have : ((fun x : ByteArray × Value => decide (x.1 = s)) ∘ fun x : ByteArray × Int × Int × Bool => (x.1, Value.func (.func 56) #[exV8 r x.2] #[])) = fun x => decide (x.1 = s) := rfl
  rw [this]
  cases kinL.find? (fun x => decide (x.1 = s)) <;> rfl
structure RdIs (R : RdC) (w : World) : Prop where
  tab : TrT R.w0
  lib : LxT R.w0
  base : Below R.w0.heap.size R.w0 w
  low : R.w0.heap.size ≤ R.top
  top : R.top ≤ w.heap.size
  blk : w.heap[R.r]? = some (.cells #[.map (some R.ri), .map (some R.rp), .map (some R.rs), .map (some R.re)] 106 (0, 0))
  items : StrAt w R.ri (itemsL R.r)
  params : StrAt w R.rp (paramsL R.r)
  stmts : StrAt w R.rs (stmtsL R.r)
  exprs : StrAt w R.re (exprsL R.r)
  tops : R.r < R.top ∧ R.ri < R.top ∧ R.rp < R.top ∧ R.rs < R.top ∧ R.re < R.top
theorem RdIs.move {R : RdC} {w w' : World} (h : RdIs R w) (hb : Below R.top w w') : RdIs R w' where
  tab := h.tab
  lib := h.lib
  base := h.base.trans (hb.mono h.low)
  low := h.low
  top := Nat.le_trans h.top hb.size
  blk := (hb.block _ h.tops.1).trans h.blk
  items := h.items.move (hb.block _ h.tops.2.1)
  params := h.params.move (hb.block _ h.tops.2.2.1)
  stmts := h.stmts.move (hb.block _ h.tops.2.2.2.1)
  exprs := h.exprs.move (hb.block _ h.tops.2.2.2.2)
  tops := h.tops
theorem RdIs.below {R : RdC} {w w' : World} (h : RdIs R w) (hb : Below w.heap.size w w') : RdIs R w' := h.move (hb.mono h.top)
theorem RdIs.tabs {R : RdC} {w : World} (h : RdIs R w) : TrT w := h.tab.below h.base
theorem RdIs.libs {R : RdC} {w : World} (h : RdIs R w) : LxT w := h.lib.below h.base
/-- trees of words, each a row of its words, in the blocks of S -/
def ToksAt (w : World) (S : Nat → Prop) (ts : List TokD) (A : Option Addr) : Prop := ts = [] ∨ ∃ g o, A = some ⟨g, o, none⟩ ∧ S g ∧ ∀ (j : Nat) (hj : j < ts.length), ∃ a q c, w.cell? ⟨g, o + j, none⟩ = some (.slice (some ⟨a, q, none⟩) (flat ts[j]).length c) ∧ (flat ts[j]).length ≤ c ∧ c ≤ 9223372036854775807 ∧ S a ∧ ∀ k, k < (flat ts[j]).length → w.cell? ⟨a, q + k, none⟩ = some (.string (wdK (flat ts[j]) k))
theorem ToksAt.move {w w' : World} {S S' : Nat → Prop} {ts : List TokD} {A : Option Addr} (h : ToksAt w S ts A) (hl : ∀ b, S b → S' b) (hk : ∀ b, S b → w'.heap[b]? = w.heap[b]?) : ToksAt w' S' ts A := by
  rcases h with h | ⟨g, o, rfl, hg, h⟩
  · exact .inl h
  · refine .inr ⟨g, o, rfl, hl g hg, fun j hj => ?_⟩
    obtain ⟨a, q, c, h1, h2, h2', h3, h4⟩ := h j hj
    exact ⟨a, q, c, (World.cell?_of_block (hk g hg)).trans h1, h2, h2', hl a h3, fun k hk' => (World.cell?_of_block (hk a h3)).trans (h4 k hk')⟩
/-- block p holds the parts that aren't read yet; they lie below it -/
structure PtAt (w : World) (p : Nat) (ts : List TokD) : Prop where
  blk : ∃ A c, w.heap[p]? = some (.cells #[.slice A ts.length c] 160 (0, 0)) ∧ ts.length ≤ c ∧ c ≤ 9223372036854775807 ∧ ToksAt w (fun b => b < p) ts A
  ok : ToksOk ts
  few : ∀ t ∈ ts, TokB t
  len : ts.length ≤ 100000
theorem PtAt.lt {w : World} {p : Nat} {ts : List TokD} (h : PtAt w p ts) : p < w.heap.size := by obtain ⟨A, c, h1, _⟩ := h.blk; exact (Array.getElem?_eq_some_iff.1 h1).1
theorem PtAt.below {w w' : World} {p : Nat} {ts : List TokD} (h : PtAt w p ts) (hb : Below w.heap.size w w') : PtAt w' p ts where
  blk := by
    obtain ⟨A, c, h1, h2, h2', h3⟩ := h.blk
    exact ⟨A, c, (hb.block p h.lt).trans h1, h2, h2', h3.move (fun b hb' => hb') (fun b hb' => hb.block b (Nat.lt_trans hb' h.lt))⟩
  ok := h.ok
  few := h.few
  len := h.len
/-- rows above are written -/
theorem PtAt.grown {w w' : World} {p : Nat} {ts : List TokD} {v : Value} (h : PtAt w p ts) (hg : w.grownBy w' v.ownBlock) (hv : ∀ g, v.ownBlock = some g → p < g) : PtAt w' p ts where
  blk := by
    obtain ⟨A, c, h1, h2, h2', h3⟩ := h.blk
    exact ⟨A, c, (hg.block p h.lt (fun e => by have := hv _ e.symm; omega)).trans h1, h2, h2', h3.move (fun b hb' => hb') (fun b hb' => hg.block b (Nat.lt_trans hb' h.lt) (fun e => by have := hv _ e.symm; omega))⟩
  ok := h.ok
  few := h.few
  len := h.len
/-- nothing that was there has turned but block p -/
abbrev But (p : Nat) : World → World → Prop := OutO (fun b => b = p)
theorem But.low {p K : Nat} {w w' : World} (h : But p w w') (hp : K ≤ p) (hK : K ≤ w.heap.size) : Below K w w' :=
  ⟨h.os, h.tape, h.output, h.size, fun k hk => h.block k (by omega) (by omega)⟩
theorem But.grown {p : Nat} {w w4 w5 : World} {v : Value} (h : But p w w4) (hg : w4.grownBy w5 v.ownBlock) (hb : ∀ g, v.ownBlock = some g → w.heap.size ≤ g) : But p w w5 :=
  ⟨hg.os.trans h.os, hg.tape.trans h.tape, hg.output.trans h.output, Nat.le_trans h.size hg.size, fun k hk hp => (hg.block k (by have := h.size; omega) (fun e => by have := hb _ e.symm; omega)).trans (h.block k hk hp)⟩
theorem But.of_below {p : Nat} {w w' : World} (h : Below w.heap.size w w') : But p w w' := OutO.of_below h
/-- the first part is taken -/
theorem PtAt.tail {w : World} {p : Nat} {t : TokD} {ts : List TokD} {g o c : Nat} (h : PtAt w p (t :: ts)) (hblk : w.heap[p]? = some (.cells #[.slice (some ⟨g, o, none⟩) (ts.length + 1) c] 160 (0, 0))) :
    PtAt (w.setCell ⟨p, 0, none⟩ (.slice (some ⟨g, o + 1, none⟩) ts.length (c - 1))) p ts ∧ But p w (w.setCell ⟨p, 0, none⟩ (.slice (some ⟨g, o + 1, none⟩) ts.length (c - 1))) := by
  have g2 := grown_setO w p 0 (.slice (some ⟨g, o + 1, none⟩) ts.length (c - 1))
  have hO : But p w (w.setCell ⟨p, 0, none⟩ (.slice (some ⟨g, o + 1, none⟩) ts.length (c - 1))) := OutO.of_grown g2 (fun k e => by cases e; rfl)
  obtain ⟨A, c', h1, h2, h2', h3⟩ := h.blk
  rw [hblk] at h1
  simp only [Option.some.injEq, Obj.cells.injEq, Array.mk.injEq, List.cons.injEq, Value.slice.injEq, and_true] at h1
  obtain ⟨hA, hl, hc⟩ := h1
  subst hA hc
  refine ⟨⟨⟨some ⟨g, o + 1, none⟩, c - 1, ?_, by simp at h2; omega, by omega, ?_⟩, ?_, fun u hu => h.few u (by simp [hu]), by have := h.len; simp at this; omega⟩, hO⟩
  · rw [heap_setCell_same w p 0 _ _ _ hblk]; rfl
  · rcases h3 with h3 | ⟨g', o', e, hg, h3⟩
    · cases h3
    · simp only [Option.some.injEq, Addr.mk.injEq, and_true] at e
      obtain ⟨rfl, rfl⟩ := e
      have hk : ∀ b, b < p → (w.setCell ⟨p, 0, none⟩ (.slice (some ⟨g, o + 1, none⟩) ts.length (c - 1))).heap[b]? = w.heap[b]? := fun b hb => hO.block b (Nat.lt_trans hb h.lt) (by omega)
      refine .inr ⟨g, o + 1, rfl, hg, fun j hj => ?_⟩
      obtain ⟨a, q, cc, q1, q2, q2', q3, q4⟩ := h3 (j + 1) (by simpa using hj)
      simp only [List.getElem_cons_succ] at q1 q2 q4
      refine ⟨a, q, cc, ?_, q2, q2', q3, fun k hk' => (World.cell?_of_block (hk a q3)).trans (q4 k hk')⟩
      rw [World.cell?_of_block (hk g hg), show o + 1 + j = o + (j + 1) by omega]
      exact q1
  · have := h.ok
    unfold ToksOk at this
    exact this.2
/-- the last part is taken -/
theorem PtAt.last {w : World} {p : Nat} {t : TokD} {v : Value} (h : PtAt w p [t]) (hblk : w.heap[p]? = some (.cells #[v] 160 (0, 0))) (A : Option Addr) :
    PtAt (w.setCell ⟨p, 0, none⟩ (.slice A 0 0)) p [] ∧ But p w (w.setCell ⟨p, 0, none⟩ (.slice A 0 0)) := by
  have g2 := grown_setO w p 0 (.slice A 0 0)
  have hO : But p w (w.setCell ⟨p, 0, none⟩ (.slice A 0 0)) := OutO.of_grown g2 (fun k e => by cases e; rfl)
  refine ⟨⟨⟨A, 0, ?_, Nat.le_refl _, by omega, .inl rfl⟩, trivial, (fun u hu => by cases hu), by simp⟩, hO⟩
  rw [heap_setCell_same w p 0 _ _ _ hblk]; rfl
end Go.Proofs.YtbhdbglhejibbaaGreatDoor
namespace Go.Proofs.YtbhdbglhejibbaaGreatDoor
set_option maxRecDepth 100000
open Go.RowKit
set_option linter.unusedVariables false
/-- an item, as a row of its words, in a block other than p -/
def ItAt (w : World) (p : Nat) (t : TokD) (v : Value) : Prop := ∃ a q c, v = .slice (some ⟨a, q, none⟩) (flat t).length c ∧ (flat t).length ≤ c ∧ c ≤ 9223372036854775807 ∧ a ≠ p ∧ a < w.heap.size ∧ ∀ k, k < (flat t).length → w.cell? ⟨a, q + k, none⟩ = some (.string (wdK (flat t) k))
theorem ItAt.out {w w' : World} {p p' : Nat} {t : TokD} {v : Value} (h : ItAt w p t v) (hO : But p w w') (hp : ∀ a, a ≠ p → a < w.heap.size → a ≠ p') : ItAt w' p' t v := by
  obtain ⟨a, q, c, h1, h2, h3, h4, h5, h6⟩ := h
  exact ⟨a, q, c, h1, h2, h3, hp a h4 h5, by have := hO.size; omega, fun k hk => (World.cell?_of_block (hO.block a h5 h4)).trans (h6 k hk)⟩
theorem ItAt.below {w w' : World} {p : Nat} {t : TokD} {v : Value} (h : ItAt w p t v) (hb : Below w.heap.size w w') : ItAt w' p t v := by
  obtain ⟨a, q, c, h1, h2, h3, h4, h5, h6⟩ := h
  exact ⟨a, q, c, h1, h2, h3, h4, by have := hb.size; omega, fun k hk => (World.cell?_of_block (hb.block a h5)).trans (h6 k hk)⟩
def NextP (w : World) (p : Nat) (ts : List TokD) (e : Ending) (w' : World) : Prop := match ts with
  | [] => e = tlackP ∧ w = w'
  | t :: ts => ∃ v, e = .returned v ∧ ItAt w' p t v ∧ PtAt w' p ts ∧ But p w w'
set_option maxHeartbeats 1000000 in
theorem pnext_any (p : Nat) (ts : List TokD) (w : World) (h : PtAt w p ts) : Calls Tryz.prog 85 #[.pointer (some ⟨p, 0, none⟩)] w (NextP w p ts) := by
  obtain ⟨A, c, hblk, hc, hcx, hA⟩ := h.blk
  have x0 : w.cell? ⟨p, 0, none⟩ = some (.slice A ts.length c) := by rw [cell_of_row w p 0 _ _ _ hblk]; rfl
  have hf := frozen_of_row w p 0 _ _ hblk
  have hlt := h.lt
  cases ts with
  | nil =>
    rw [show ([] : List TokD).length = 0 from rfl] at x0
    clear h hblk hA hc
    go_enter Tryz.func85, Tryz.ntmps85
    go_wp2_with fail
    refine (twant_no _).mono ?_
    rintro e w2 ⟨rfl, rfl⟩
    exact ⟨rfl, rfl, rfl⟩
  | cons t us =>
    rcases hA with hA | ⟨g, o, rfl, hg, hA⟩
    · cases hA
    obtain ⟨a, q, cc, q1, q2, q3, q4, q5⟩ := hA 0 (by simp)
    simp only [List.getElem_cons_zero, Nat.add_zero] at q1 q2 q5
    have e1 : (t :: us).length = us.length + 1 := rfl
    rw [e1] at x0 hblk hc
    have HI := Lib.hid (show ItAt w p t (.slice (some ⟨a, q, none⟩) (flat t).length cc) from ⟨a, q, cc, rfl, q2, q3, by omega, Nat.lt_trans q4 hlt, q5⟩)
    have hl := h.len
    rw [e1] at hl
    have e2 : ((us.length + 1 : Nat) : Int) = (us.length : Int) + 1 := by omega
    by_cases hc0 : c = 1
    · subst hc0
      obtain rfl : us = [] := List.length_eq_zero_iff.1 (by omega)
      have HT := Lib.hid (h.last hblk (some ⟨g, o, none⟩))
      rw [show ([] : List TokD).length + 1 = 1 from rfl] at x0
      clear h hblk hA hg q2 q3 q4 q5 e1 hc hl e2
      go_enter Tryz.func85, Tryz.ntmps85
      go_wp2_with fail
      refine (twant_yes _).mono ?_
      rintro e w2 ⟨rfl, rfl⟩
      go_wp2
      go_ret
      exact ⟨_, rfl, HI.out.out HT.out.2 (fun a h _ => h), HT.out.1, HT.out.2⟩
    have HT := Lib.hid (h.tail hblk)
    have h1 : (0 : Int) < ((us.length + 1 : Nat) : Int) := by omega
    have hc1 : (1 : Int) ≤ (c : Int) := by omega
    clear h hblk hA hg q2 q3 q4 q5 e1
    go_enter Tryz.func85, Tryz.ntmps85
    go_wp2_with fail
    refine (twant_yes _).mono ?_
    rintro e w2 ⟨rfl, rfl⟩
    go_wp2
    go_ret
    exact ⟨_, rfl, HI.out.out HT.out.2 (fun a h _ => h), HT.out.1, HT.out.2⟩
/-- a word ahead, and what is left behind it -/
def wdF : List TokD → Option (ByteArray × List TokD)
  | .w s :: ts => some (s, ts)
  | _ => none
def WordP (w : World) (p : Nat) (ts : List TokD) (e : Ending) (w' : World) : Prop := But p w w' ∧ match wdF ts with
  | some x => e = .returned (.string x.1) ∧ PtAt w' p x.2
  | none => e = tlackP
theorem wdK_one (s : ByteArray) : wdK [s] 0 = s := rfl
set_option maxHeartbeats 1000000 in
theorem pword_any (p : Nat) (ts : List TokD) (w : World) (h : PtAt w p ts) : Calls Tryz.prog 81 #[.pointer (some ⟨p, 0, none⟩)] w (WordP w p ts) := by
  have HN := Lib.hid (pnext_any p ts w h)
  have HF := Lib.hid h
  clear h
  go_enter Tryz.func81, Tryz.ntmps81
  go_wp2_with fail
  refine HN.out.mono ?_
  intro e w2 h2
  cases ts with
  | nil =>
    obtain ⟨rfl, rfl⟩ := h2
    exact ⟨rfl, OutO.of_below (Below.refl _ _), rfl⟩
  | cons t us =>
    obtain ⟨v, rfl, ⟨a, q, c, rfl, h3, h4, h5, h6, h7⟩, h8, h9⟩ := h2
    have HP := Lib.hid (And.intro h8 h9)
    have hb := (HF.out.few t (by simp)).1
    cases t with
    | w s =>
      have x0 := h7 0 (by simp [flat])
      rw [show wdK (flat (.w s)) 0 = s from rfl, Nat.add_zero] at x0
      rw [show (flat (.w s)).length = 1 from rfl] at h3 ⊢
      have hc : (1 : Int) ≤ c := by omega
      clear h7 h8 h9 hb
      go_wp2_with fail
      refine (twant_yes _).mono ?_
      rintro e w3 ⟨rfl, rfl⟩
      go_wp2
      go_ret
      exact ⟨HP.out.2, rfl, HP.out.1⟩
    | l ts' =>
      have hl : 2 ≤ (flat (.l ts')).length := by simp [flat]
      have h1 : (((flat (.l ts')).length : Int) == 1) = false := by rw [beq_eq_false_iff_ne]; omega
      generalize (flat (.l ts')).length = m at *
      clear h7 h8 h9
      go_wp2_with fail
      refine (twant_no _).mono ?_
      rintro e w3 ⟨rfl, rfl⟩
      exact ⟨rfl, HP.out.2, rfl⟩
/-- a count ahead -/
def cnF (ts : List TokD) : Option (Int × List TokD) := match wdF ts with
  | some x => if numB x.1 = true ∧ numV x.1 ≤ 64 then some (numV x.1, x.2) else none
  | none => none
def CountP (w : World) (p : Nat) (ts : List TokD) (e : Ending) (w' : World) : Prop := But p w w' ∧ match cnF ts with
  | some x => e = .returned (.int .i64 x.1) ∧ PtAt w' p x.2
  | none => e = tlackP
theorem numV_low (s : ByteArray) : 0 ≤ numV s := by
  unfold numV
  cases numP s.data.toList with
  | none => simp
  | some n => simp
theorem numV_high (s : ByteArray) : numV s < 18446744073709551616 := by
  unfold numV
  cases h : numP s.data.toList with
  | none => simp
  | some n =>
    have := (numP_some h).2
    simp only
    omega
set_option maxHeartbeats 1000000 in
theorem pcount_any (R : RdC) (p : Nat) (ts : List TokD) (w : World) (hR : RdIs R w) (hp : R.top ≤ p) (h : PtAt w p ts) : Calls Tryz.prog 82 #[.pointer (some ⟨p, 0, none⟩)] w (CountP w p ts) := by
  have HN := Lib.hid (pword_any p ts w h)
  have HR := Lib.hid (And.intro hR hp)
  have HF := Lib.hid h
  clear h hR hp
  go_enter Tryz.func82, Tryz.ntmps82
  go_wp2_with fail
  refine HN.out.mono ?_
  rintro e w2 ⟨hO, h2⟩
  cases hw : wdF ts with
  | none =>
    rw [hw] at h2
    have h2 : e = tlackP := h2
    subst h2
    exact ⟨rfl, hO, by unfold cnF; rw [hw]; rfl⟩
  | some x =>
    obtain ⟨s, us⟩ := x
    rw [hw] at h2
    obtain ⟨rfl, hP⟩ := h2
    have hs : s.size ≤ 100000 := by
      cases ts with
      | nil => cases hw
      | cons t ts' =>
        cases t with
        | l l' => cases hw
        | w s' =>
          have e1 : s' = s := by simp only [wdF, Option.some.injEq, Prod.mk.injEq] at hw; exact hw.1
          subst e1
          exact (HF.out.few (.w s') (by simp)).2.1 s' (by simp [flat])
    have HR2 := Lib.hid (HR.out.1.move (hO.low HR.out.2 HR.out.1.top))
    have HNu := Lib.hid (lexnum_any s (by omega) w2 HR2.out.libs)
    have HC := Lib.hid (show cnF ts = if numB s = true ∧ numV s ≤ 64 then some (numV s, us) else none from by unfold cnF; rw [hw])
    have HO := Lib.hid hO
    have HP := Lib.hid hP
    have hl := numV_low s
    have hh := numV_high s
    clear hO hP hw
    go_wp2_with fail
    refine HNu.out.mono ?_
    rintro e w3 ⟨rfl, hb⟩
    have HO3 := Lib.hid (HO.out.trans (But.of_below (p := p) hb))
    have HP3 := Lib.hid (HP.out.below hb)
    clear hb
    generalize numV s = n at *
    cases hn : numB s with
    | false =>
      have HC2 := Lib.hid (show cnF ts = none from by rw [HC.out, if_neg (by rw [hn]; simp)])
      go_wp2_with fail
      refine (twant_no _).mono ?_
      rintro e w4 ⟨rfl, rfl⟩
      exact ⟨rfl, HO3.out, by rw [HC2.out]; rfl⟩
    | true =>
      by_cases h64 : n ≤ 64
      · have HC2 := Lib.hid (show cnF ts = some (n, us) from by rw [HC.out, if_pos ⟨hn, h64⟩])
        go_wp2_with fail
        refine (twant_yes _).mono ?_
        rintro e w4 ⟨rfl, rfl⟩
        go_wp2
        go_ret
        exact ⟨HO3.out, by rw [HC2.out]; exact ⟨rfl, HP3.out⟩⟩
      · have HC2 := Lib.hid (show cnF ts = none from by rw [HC.out, if_neg (fun e => h64 e.2)])
        have h1 : decide (n ≤ 64) = false := decide_eq_false h64
        go_wp2_with fail
        refine (twant_no _).mono ?_
        rintro e w4 ⟨rfl, rfl⟩
        exact ⟨rfl, HO3.out, by rw [HC2.out]; rfl⟩
end Go.Proofs.YtbhdbglhejibbaaGreatDoor
namespace Go.Proofs.YtbhdbglhejibbaaGreatDoor
set_option maxRecDepth 100000
open Go.RowKit
set_option linter.unusedVariables false
/-- an item, as an argument -/
def ItemV (w : World) (t : TokD) (v : Value) : Prop := ∃ a q c, v = .slice (some ⟨a, q, none⟩) (flat t).length c ∧ (flat t).length ≤ c ∧ c ≤ 9223372036854775807 ∧ a < w.heap.size ∧ ∀ k, k < (flat t).length → w.cell? ⟨a, q + k, none⟩ = some (.string (wdK (flat t) k))
theorem ItAt.arg {w : World} {p : Nat} {t : TokD} {v : Value} (h : ItAt w p t v) : ItemV w t v := by
  obtain ⟨a, q, c, h1, h2, h3, _, h5, h6⟩ := h
  exact ⟨a, q, c, h1, h2, h3, h5, h6⟩
theorem ItemV.below {w w' : World} {t : TokD} {v : Value} (h : ItemV w t v) (hb : Below w.heap.size w w') : ItemV w' t v := by
  obtain ⟨a, q, c, h1, h2, h3, h5, h6⟩ := h
  exact ⟨a, q, c, h1, h2, h3, by have := hb.size; omega, fun k hk => (World.cell?_of_block (hb.block a h5)).trans (h6 k hk)⟩
theorem inside_no (s : ByteArray) (v : Value) (w : World) (h : ItemV w (.w s) v) : Calls Tryz.prog 91 #[v] w fun e w' => e = tlackP ∧ w = w' := by
  obtain ⟨a, q, c, rfl, h2, h3, h5, h6⟩ := h
  rw [show (flat (.w s)).length = 1 from rfl]
  clear h2 h3 h5 h6
  go_enter Tryz.func91, Tryz.ntmps91
  go_wp2_with fail
  refine (twant_no _).mono ?_
  rintro e w2 ⟨rfl, rfl⟩
  exact ⟨rfl, rfl, rfl⟩
/-- the rows that Items makes, as trees -/
theorem RowsOwn.toks {B : Nat} {w : World} {ts : List TokD} {A : Option Addr} {n c : Nat} (h : RowsOwn B w (ts.map flat) (.slice A n c)) (hn : n = ts.length) : n ≤ c ∧ c ≤ 9223372036854775807 ∧ ToksAt w (fun b => B ≤ b ∧ b < w.heap.size) ts A := by
  obtain ⟨vs, h1, h2⟩ := h
  rw [List.length_map] at h1 h2
  subst hn
  rcases h1.2 with ⟨e, h0⟩ | ⟨g, cap, cur, e, hB, hg, hc1, hc2, hc3, hc4⟩
  · simp only [Value.slice.injEq] at e
    have : ts = [] := List.length_eq_zero_iff.1 h0
    subst this
    exact ⟨by simp, by have := e.2.2; omega, .inl rfl⟩
  · simp only [Value.slice.injEq] at e
    obtain ⟨rfl, _, rfl⟩ := e
    refine ⟨hc1, by unfold maxLen at hc2; omega, .inr ⟨g, 0, rfl, ⟨hB, (Array.getElem?_eq_some_iff.1 hg).1⟩, fun j hj => ?_⟩⟩
    obtain ⟨A', c', q1, q2⟩ := h2 j hj
    have er : rwK (ts.map flat) j = flat ts[j] := by unfold rwK; simp [hj]
    rw [er] at q1 q2
    have q3 := h1.cells (g := g) rfl j _ q1
    rw [addO] at q3
    rcases q2.2 with ⟨e2, h0⟩ | ⟨a, cap', cur', e2, hB', hg', hd1, hd2, hd3, hd4⟩
    · exfalso
      have := flat_pos ts[j]
      omega
    · simp only [Value.slice.injEq] at e2
      obtain ⟨rfl, _, rfl⟩ := e2
      refine ⟨a, 0, c', q3, hd1, by unfold maxLen at hd2; omega, ⟨hB', (Array.getElem?_eq_some_iff.1 hg').1⟩, fun k hk => ?_⟩
      have := q2.wd
      rcases this with h0 | ⟨b, o, e3, hcell⟩
      · rw [h0] at hk; simp at hk
      · simp only [Option.some.injEq, Addr.mk.injEq, and_true] at e3
        obtain ⟨rfl, rfl⟩ := e3
        exact hcell k hk
set_option maxHeartbeats 1000000 in
theorem inside_yes (ts : List TokD) (v : Value) (hT : TokOk (.l ts)) (hB : TokB (.l ts)) (w : World) (h : ItemV w (.l ts) v) :
    Calls Tryz.prog 91 #[v] w fun e w' => ∃ p, e = .returned (.pointer (some ⟨p, 0, none⟩)) ∧ w.heap.size ≤ p ∧ PtAt w' p ts ∧ Below w.heap.size w w' := by
  obtain ⟨a, q, c, rfl, h2, h3, h5, h6⟩ := h
  have hcnt := hB.count
  have hfl : (flat (.l ts)).length = (flats ts).length + 2 := by simp [flat]
  have hwd : WdAt w (some ⟨a, q + 1, none⟩) (flats ts) := by
    refine .inr ⟨a, q + 1, rfl, fun k hk => ?_⟩
    have := h6 (k + 1) (by omega)
    rw [show q + 1 + k = q + (k + 1) by omega, this]
    unfold wdK flat
    simp [List.getD, List.getElem?_append_left hk]
  have hTk : ToksOk ts := hT
  have hdp : tdeps ts ≤ 24 := by have := hB.2.2; unfold tdep at this; omega
  have hnst := (nst_deps hTk).2 hdp
  have HI := Lib.hid (items_any (flats ts) (some ⟨a, q + 1, none⟩) (flats ts).length (c - 1) rfl (by omega) (by omega) (by omega) w hwd)
  have HE := Lib.hid (And.intro hnst (itm_toks ts hTk))
  have HK := Lib.hid (And.intro hTk (And.intro hB hcnt.1))
  rw [hfl] at h2 ⊢
  generalize (flats ts).length = m at *
  have e1 : ((m + 2 : Nat) : Int) = (m : Int) + 2 := by omega
  have hm1 : (m : Int) + 2 ≤ c := by omega
  have hm2 : (m : Int) ≤ 100000 := by omega
  have hm3 : decide ((1 : Int) < (m : Int) + 2) = true := decide_eq_true (by omega)
  clear h6 hwd hTk hdp hnst hT hB hcnt hfl
  go_enter Tryz.func91, Tryz.ntmps91
  go_wp2_with fail
  refine (twant_yes _).mono ?_
  rintro e w2 ⟨rfl, rfl⟩
  go_wp2_with fail
  refine HI.out.mono ?_
  rintro e w2 ⟨hb, hx⟩
  rcases hx with ⟨hx, _⟩ | ⟨_, A, c2, rfl, hr⟩
  · have := HE.out.1; rw [this] at hx; cases hx
  have hlen : (itmP (flats ts) 0 []).length = ts.length := by rw [HE.out.2, List.length_map]
  rw [hlen] at hr ⊢
  rw [HE.out.2] at hr
  obtain ⟨r1, r2, r3⟩ := hr.toks rfl
  have HR := Lib.hid (And.intro r1 (And.intro r2 r3))
  have HB := Lib.hid hb
  clear hb hr r1 r2 r3 hlen
  go_wp2
  go_ret
  refine ⟨w2.heap.size, rfl, HB.out.size, ⟨⟨A, c2, heap_alloc_new _ _, HR.out.1, HR.out.2.1, HR.out.2.2.move (fun b hb => hb.2) (fun b hb => heap_alloc_old _ _ hb.2)⟩, HK.out.1, fun t ht => HK.out.2.1.of ht, HK.out.2.2⟩, HB.out.alloc HB.out.size _⟩
end Go.Proofs.YtbhdbglhejibbaaGreatDoor
namespace Go.Proofs.YtbhdbglhejibbaaGreatDoor
set_option maxRecDepth 100000
open Go.RowKit
set_option linter.unusedVariables false
/-- blocks made since, that are rows -/
def NewS (B : Nat) (w : World) (b : Nat) : Prop := B ≤ b ∧ PlB w b
theorem PlB.lt {w : World} {b : Nat} (h : PlB w b) : b < w.heap.size := by obtain ⟨cs, T, e⟩ := h; exact (Array.getElem?_eq_some_iff.1 e).1
theorem PlB.move {w w' : World} {b : Nat} (h : PlB w b) (hk : w'.heap[b]? = w.heap[b]?) : PlB w' b := by obtain ⟨cs, T, e⟩ := h; exact ⟨cs, T, hk.trans e⟩
abbrev ElT (α : Type) := World → (Nat → Prop) → α → List Value → Prop
structure ElOk {α : Type} (El : ElT α) (sz : Nat) : Prop where
  move : ∀ {w w' : World} {S S' : Nat → Prop} {x : α} {cs : List Value}, El w S x cs → (∀ b, S b → S' b) → (∀ b, S b → w'.heap[b]? = w.heap[b]?) → El w' S' x cs
  len : ∀ {w : World} {S : Nat → Prop} {x : α} {cs : List Value}, El w S x cs → cs.length = sz
  one : ∀ {w : World} {S : Nat → Prop} {x : α} {cs : List Value}, El w S x cs → ∀ u ∈ cs, u.oneCell' = true
def RowS (B : Nat) (w : World) (v : Value) (b : Nat) : Prop := B ≤ b ∧ PlB w b ∧ some b ≠ v.ownBlock
/-- a row that grows, and what its elements lead to -/
structure RowG {α : Type} (El : ElT α) (T : TypeId) (sz : Nat) (w : World) (B : Nat) (v : Value) (xs : List α) (css : List (List Value)) : Prop where
  len : css.length = xs.length
  row : w.ownsRow B T sz v xs.length css.flatten
  els : ∀ (j : Nat) (hj : j < xs.length), ∃ cs, css[j]? = some cs ∧ El w (RowS B w v) xs[j] cs
section
variable {α : Type} {El : ElT α} {T : TypeId} {sz : Nat} {w w' : World} {B : Nat} {v v' : Value} {xs : List α} {css : List (List Value)} {x : α} {cs : List Value}
theorem RowG.nil : RowG El T sz w B (.slice none 0 0) [] [] := ⟨rfl, World.ownsRow_nil _ _ _ _, fun j hj => by simp at hj⟩
theorem RowG.move (h : RowG El T sz w B v xs css) (ok : ElOk El sz) (hr : w'.ownsRow B T sz v xs.length css.flatten) (hk : ∀ b, B ≤ b → b < w.heap.size → w'.heap[b]? = w.heap[b]?) : RowG El T sz w' B v xs css where
  len := h.len
  row := hr
  els := fun j hj => by
    obtain ⟨cs, h1, h2⟩ := h.els j hj
    exact ⟨cs, h1, ok.move h2 (fun b hb => ⟨hb.1, hb.2.1.move (hk b hb.1 hb.2.1.lt), hb.2.2⟩) (fun b hb => hk b hb.1 hb.2.1.lt)⟩
theorem RowG.below (h : RowG El T sz w B v xs css) (ok : ElOk El sz) (hb : Below w.heap.size w w') : RowG El T sz w' B v xs css := h.move ok (rowO_below h.row hb) (fun b _ hlt => hb.block b hlt)
theorem RowG.but {p : Nat} (h : RowG El T sz w B v xs css) (ok : ElOk El sz) (hO : But p w w') (hp : p < B) : RowG El T sz w' B v xs css := by
  refine h.move ok ⟨h.row.1, ?_⟩ (fun b hb hlt => hO.block b hlt (by omega))
  rcases h.row.2 with h | ⟨g, cap, cur, h0, h1, h2, h3⟩
  · exact .inl h
  · exact .inr ⟨g, cap, cur, h0, h1, (hO.block g (Array.getElem?_eq_some_iff.1 h2).1 (by omega)).trans h2, h3⟩
theorem RowG.push (h : RowG El T sz w B v xs css) (ok : ElOk El sz) (hx : El w (RowS B w v) x cs) (hr : w'.ownsRow B T sz v' (xs.length + 1) (css.flatten ++ cs)) (hg : w.grownBy w' v.ownBlock) (hv : v'.ownBlock = v.ownBlock ∨ v'.ownBlock = some w.heap.size) : RowG El T sz w' B v' (xs ++ [x]) (css ++ [cs]) where
  len := by simp [h.len]
  row := by simpa using hr
  els := fun j hj => by
    have hS : ∀ b, RowS B w v b → RowS B w' v' b := fun b hb => by
      have hk := hg.block b hb.2.1.lt hb.2.2
      refine ⟨hb.1, hb.2.1.move hk, ?_⟩
      rcases hv with e | e
      · rw [e]; exact hb.2.2
      · rw [e]; intro e2; have := Option.some.inj e2; have := hb.2.1.lt; omega
    have hk : ∀ b, RowS B w v b → w'.heap[b]? = w.heap[b]? := fun b hb => hg.block b hb.2.1.lt hb.2.2
    by_cases hj2 : j < xs.length
    · obtain ⟨c1, h1, h2⟩ := h.els j hj2
      refine ⟨c1, by rw [List.getElem?_append_left (by rw [h.len]; exact hj2)]; exact h1, ?_⟩
      rw [List.getElem_append_left hj2]
      exact ok.move h2 hS hk
    · have hj3 : j = xs.length := by simp at hj; omega
      subst hj3
      refine ⟨cs, by rw [List.getElem?_append_right (by rw [h.len]; exact Nat.le_refl _), h.len]; simp, ?_⟩
      rw [List.getElem_append_right (Nat.le_refl _)]
      simp only [Nat.sub_self, List.getElem_cons_zero]
      exact ok.move hx hS hk
theorem flatten_at : ∀ {css : List (List Value)} {j i : Nat} {cs : List Value}, (∀ c ∈ css, c.length = sz) → css[j]? = some cs → i < sz → css.flatten[j * sz + i]? = cs[i]?
  | [], j, i, cs, _, h, _ => by simp at h
  | c :: css, 0, i, cs, hl, h, hi => by
    simp only [List.getElem?_cons_zero, Option.some.injEq] at h
    subst h
    rw [List.flatten_cons, Nat.zero_mul, Nat.zero_add, List.getElem?_append_left (by rw [hl c (by simp)]; exact hi)]
  | c :: css, j + 1, i, cs, hl, h, hi => by
    rw [List.flatten_cons, List.getElem?_append_right (by rw [hl c (by simp), Nat.add_mul]; omega), hl c (by simp)]
    rw [show (j + 1) * sz + i - sz = j * sz + i by rw [Nat.add_mul]; omega]
    exact flatten_at (fun d hd => hl d (by simp [hd])) (by simpa using h) hi
/-- what a row comes to, once it grows no more -/
theorem RowG.fin (h : RowG El T sz w B v xs css) (ok : ElOk El sz) (hsz : 0 < sz) : ∃ A c, v = .slice A xs.length c ∧ xs.length ≤ c ∧ c ≤ maxLen ∧ (xs = [] ∨ ∃ g, A = some ⟨g, 0, none⟩ ∧ NewS B w g ∧ ∀ (j : Nat) (hj : j < xs.length), ∃ cs, El w (NewS B w) xs[j] cs ∧ ∀ i, i < sz → w.cell? ⟨g, 0 + j * sz + i, none⟩ = cs[i]?) := by
  have hl : ∀ c ∈ css, c.length = sz := fun c hc => by
    obtain ⟨j, hj, rfl⟩ := List.mem_iff_getElem.1 hc
    obtain ⟨cs, h1, h2⟩ := h.els j (by rw [← h.len]; exact hj)
    rw [List.getElem?_eq_getElem hj] at h1
    cases h1
    exact ok.len h2
  rcases h.row.2 with ⟨rfl, h0⟩ | ⟨g, cap, cur, rfl, h1, h2, h3, h4, h5, h6⟩
  · have : xs = [] := List.length_eq_zero_iff.1 h0
    subst this
    exact ⟨none, 0, rfl, Nat.le_refl _, Nat.zero_le _, .inl rfl⟩
  · refine ⟨some ⟨g, 0, none⟩, cap, rfl, h3, h4, .inr ⟨g, rfl, ⟨h1, cur, T, h2⟩, fun j hj => ?_⟩⟩
    obtain ⟨cs, q1, q2⟩ := h.els j hj
    refine ⟨cs, ok.move q2 (fun b hb => ⟨hb.1, hb.2.1⟩) (fun b _ => rfl), fun i hi => ?_⟩
    have q3 := flatten_at hl q1 hi
    have hlen := ok.len q2
    have q4 : cs[i]? = some cs[i] := List.getElem?_eq_getElem (by omega)
    rw [q4] at q3 ⊢
    have q5 := h.row.cells (g := g) rfl _ _ q3
    rw [addO, Nat.zero_add] at q5
    rw [Nat.zero_add]
    exact q5
end
/-- an expression's four cells, as a value -/
def ElE : ElT ExprD := fun w S e cs => match e with
  | .mk k n s args => ∃ A c, cs = [.int .i64 k, .int .u64 n, .string s, .slice A args.length c] ∧ args.length ≤ c ∧ ExprsAt w S args A ∧ ExprW (.mk k n s args)
theorem elE_ok : ElOk ElE 4 where
  move := fun {w w' S S' x cs} h hl hk => by
    obtain ⟨k, n, s, args⟩ := x
    obtain ⟨A, c, h1, h2, h3, h4⟩ := h
    exact ⟨A, c, h1, h2, h3.move hl hk, h4⟩
  len := fun {w S x cs} h => by
    obtain ⟨k, n, s, args⟩ := x
    obtain ⟨A, c, rfl, _⟩ := h
    rfl
  one := fun {w S x cs} h => by
    obtain ⟨k, n, s, args⟩ := x
    obtain ⟨A, c, rfl, _⟩ := h
    intro u hu
    simp only [List.mem_cons, List.not_mem_nil, or_false] at hu
    rcases hu with rfl | rfl | rfl | rfl <;> rfl
/-- what a list of expressions comes to -/
def LsE (B : Nat) (w : World) (xs : List ExprD) (v : Value) : Prop := ∃ A c, v = .slice A xs.length c ∧ xs.length ≤ c ∧ c ≤ maxLen ∧ ExprsAt w (NewS B w) xs A ∧ ExprsW xs
theorem RowG.lsE {w : World} {B : Nat} {v : Value} {xs : List ExprD} {css : List (List Value)} (h : RowG ElE 42 4 w B v xs css) : LsE B w xs v := by
  obtain ⟨A, c, h1, h2, h3, h4⟩ := h.fin elE_ok (by omega)
  have hw : ExprsW xs := exprsW_iff.2 fun e he => by
    obtain ⟨j, hj, rfl⟩ := List.mem_iff_getElem.1 he
    obtain ⟨cs, _, q2⟩ := h.els j hj
    generalize xs[j] = e at q2
    obtain ⟨k, n, s, args⟩ := e
    obtain ⟨A', c', _, _, _, q⟩ := q2
    exact q
  refine ⟨A, c, h1, h2, h3, ?_, hw⟩
  rcases h4 with rfl | ⟨g, rfl, hg, h5⟩
  · exact .inl rfl
  · refine .inr ⟨g, 0, rfl, hg, exprsIn_of xs g 0 fun i hi => ?_⟩
    obtain ⟨cs, q1, q2⟩ := h5 i hi
    generalize xs[i] = e at q1
    obtain ⟨k, n, s, args⟩ := e
    obtain ⟨A', c', rfl, q3, q4, _⟩ := q1
    unfold ExprAt
    exact ⟨q2 0 (by omega), q2 1 (by omega), q2 2 (by omega), A', c', q2 3 (by omega), q3, q4⟩
end Go.Proofs.YtbhdbglhejibbaaGreatDoor
namespace Go.Proofs.YtbhdbglhejibbaaGreatDoor
set_option maxRecDepth 100000
open Go.RowKit
set_option linter.unusedVariables false
def sliceN (v : Value) : Nat := match v with
  | .slice _ n _ => n
  | _ => 0
theorem news_of {w : World} {cs : List Value} {T : TypeId} : ∀ (j : Nat) (u : Value), cs[j]? = some u → (w.alloc (.cells cs.toArray T)).cell? ((⟨w.heap.size, 0, none⟩ : Addr).add j) = some u := fun j u h => by
  rw [addO, cell_of_row _ _ _ _ _ _ (heap_alloc_new w (.cells cs.toArray T)), Nat.zero_add]
  simpa using h
theorem allO_cons {α : Type} {x : Option α} {l : List (Option α)} : allO (x :: l) = match x with
    | none => none
    | some y => (allO l).map (y :: ·) := by
  cases x <;> rfl
theorem allO_stop {α β : Type} {f : α → Option β} {l : List α} {i : Nat} (h : i < l.length) (hn : f l[i] = none) : allO (l.map f) = none :=
  allO_none (List.mem_map.2 ⟨l[i], List.getElem_mem h, hn⟩)
theorem allO_done {α β : Type} {f : α → Option β} {l : List α} {xs : List β} (h : l.map f = xs.map some) : allO (l.map f) = some xs := by rw [h, allO_some]
/-- what an expression's reading comes to -/
def ExprP (B : Nat) (w' : World) (r : Option ExprD) (e : Ending) : Prop := match r with
  | none => e = tlackP
  | some x => ∃ cs : List Value, e = .returned (.agg cs.toArray) ∧ ElE w' (NewS B w') x cs
def RdE (R : RdC) (t : TokD) : Prop := TokOk t → TokB t → ∀ (w : World) (v : Value), RdIs R w → ItemV w t v →
  Calls Tryz.prog 84 #[.pointer (some ⟨R.r, 0, none⟩), v] w fun e w' => Below w.heap.size w w' ∧ ExprP w.heap.size w' (pE t) e
def ListEP (w : World) (p : Nat) (r : Option (List ExprD)) (e : Ending) (w' : World) : Prop := But p w w' ∧ match r with
  | none => e = tlackP
  | some xs => ∃ v, e = .returned v ∧ LsE w.heap.size w' xs v ∧ PtAt w' p []
set_option maxHeartbeats 4000000 in
theorem listE_of (R : RdC) (ts : List TokD) (hl : ∀ t ∈ ts, RdE R t) (p : Nat) (w : World) (hR : RdIs R w) (hp : R.top ≤ p) (h : PtAt w p ts) :
    Calls Tryz.prog 89 #[.pointer (some ⟨p, 0, none⟩), .func (.func 84) #[.pointer (some ⟨R.r, 0, none⟩)] #[]] w (ListEP w p (allO (ts.map pE))) := by
  have hcf : ∀ (args : Array Value) (w : World), (callFunc 84 args).run Tryz.prog w = .ok (.enter 84 args) w := fun args w => by kernel_rfl
  have HL := Lib.hid hl
  have HO := Lib.hid (show But p w w from OutO.of_below (Below.refl _ _))
  have HP := Lib.hid (show PtAt w p (ts.drop 0) from h)
  have HR := Lib.hid (And.intro hR hp)
  have hlt := h.lt
  have hts := h.len
  have HF := Lib.hid h
  obtain ⟨i0, hi, hz0, hz1, hz2⟩ := info_parts infoEx
  clear hl h hR hp
  go_enter Tryz.func89, Tryz.ntmps89
  go_wp2
  go_loopw [5] (fun v5 wr => ∃ (k c : Nat) (A : Option Addr), k ≤ ts.length ∧ v5 = .slice A k c ∧ Hid (∃ (xs : List ExprD) (css : List (List Value)), (ts.take k).map pE = xs.map some ∧ RowG ElE 42 4 wr w.heap.size (.slice A k c) xs css) ∧ Hid (PtAt wr p (ts.drop k)) ∧ Hid (But p w wr)) (fun v5 _ => ts.length - sliceN v5)
  case atStart => exact ⟨0, 0, none, by omega, rfl, Lib.hid ⟨[], [], rfl, RowG.nil⟩, HP, HO⟩
  case round =>
    obtain ⟨k, c, A, hk, rfl, HX, HP, HO⟩ := hrel
    obtain ⟨xs, css, hx1, hx2⟩ := HX.out
    have hxl : xs.length = k := by
      have := congrArg List.length hx1
      simp at this
      omega
    obtain ⟨Ap, cp, hblk, _⟩ := HP.out.blk
    have x0 : wr.cell? ⟨p, 0, none⟩ = some (.slice Ap (ts.drop k).length cp) := by rw [cell_of_row wr p 0 _ _ _ hblk]; rfl
    by_cases hlt2 : k < ts.length
    · have hd : ts.drop k = ts[k] :: ts.drop (k + 1) := List.drop_eq_getElem_cons hlt2
      have hdl : (ts.drop k).length = ts.length - k := List.length_drop
      have h1 : (0 : Int) < ((ts.length - k : Nat) : Int) := by omega
      rw [hdl] at x0
      have HN := Lib.hid (pnext_any p (ts.drop k) wr HP.out)
      rw [hd] at HN
      have hE := HL.out ts[k] (List.getElem_mem hlt2)
      have hok := (toksOk_iff.1 HF.out.ok) _ (List.getElem_mem hlt2)
      have hfew := HF.out.few _ (List.getElem_mem hlt2)
      have HS := Lib.hid (show ∀ x, pE ts[k] = some x → (ts.take (k + 1)).map pE = (xs ++ [x]).map some from fun x hx => by
        rw [List.take_succ_eq_append_getElem hlt2, List.map_append, List.map_append, hx1]; simp [hx])
      have HNo := Lib.hid (show pE ts[k] = none → allO (ts.map pE) = none from fun hn => allO_stop hlt2 hn)
      generalize ts[k] = t at *
      have HG := Lib.hid hx2
      have HE := Lib.hid (fun (w2 : World) (v : Value) (h1 : But p wr w2) (h2 : ItemV w2 t v) => hE hok hfew w2 v (HR.out.1.move (But.low (HO.out.trans h1) HR.out.2 HR.out.1.top)) h2)
      clear hx1 hx2 hblk hE hok hfew hd hdl HX HP
      go_wp2_with fail
      refine HN.out.mono ?_
      rintro e w2 ⟨v, rfl, hi2, hp2, ho2⟩
      have HI2 := Lib.hid (HE.out w2 v ho2 hi2.arg)
      have HP2 := Lib.hid hp2
      have HO2 := Lib.hid (HO.out.trans ho2)
      have HG2 := Lib.hid (HG.out.but elE_ok ho2 hlt)
      obtain ⟨a, q, cq, rfl, _⟩ := hi2
      clear hp2 ho2 HE HG
      go_wp2_with fail
      refine HI2.out.mono ?_
      rintro e w3 ⟨hb3, hx3⟩
      cases hr : pE t with
      | none =>
        rw [hr] at hx3
        have hx3 : e = tlackP := hx3
        subst hx3
        exact ⟨rfl, HO2.out.trans (But.of_below hb3), by rw [HNo.out hr]; rfl⟩
      | some x =>
        rw [hr] at hx3
        obtain ⟨cs, rfl, hel⟩ := hx3
        have HS2 := Lib.hid (HS.out x hr)
        have hcs : ∃ u0 u1 u2 A4 n4 c4, cs = [u0, u1, u2, .slice A4 n4 c4] := by
          obtain ⟨kx, nx, sx, ax⟩ := x
          obtain ⟨A', c', e1, _⟩ := hel
          exact ⟨_, _, _, _, _, _, e1⟩
        obtain ⟨u0, u1, u2, A4, n4, c4, rfl⟩ := hcs
        have H1 := Lib.hid (elE_ok.one hel)
        have hbx := (Below.refl w3.heap.size w3).alloc (Nat.le_refl _) (.cells #[u0, u1, u2, .slice A4 n4 c4] 42)
        have HG4 := Lib.hid ((HG2.out.below elE_ok hb3).below elE_ok hbx)
        have HO4 := Lib.hid ((HO2.out.trans (But.of_below hb3)).trans (But.of_below hbx))
        have HP4 := Lib.hid ((HP2.out.below hb3).below hbx)
        have HNw := Lib.hid (news_of (w := w3) (cs := [u0, u1, u2, .slice A4 n4 c4]) (T := 42))
        have HEl := Lib.hid (show ElE (w3.alloc (.cells #[u0, u1, u2, .slice A4 n4 c4] 42)) (RowS w.heap.size (w3.alloc (.cells #[u0, u1, u2, .slice A4 n4 c4] 42)) (.slice A k c)) x [u0, u1, u2, .slice A4 n4 c4] from
          elE_ok.move hel (fun b hb => ⟨by have := HO2.out.size; have := hb.1; omega, hb.2.move (hbx.block b hb.2.lt), fun e => by
            have h8 := (ownO_lt HG2.out.row e.symm).1
            have := hb.1
            omega⟩) (fun b hb => hbx.block b hb.2.lt))
        have HM := Lib.hid (show k + 1 ≤ maxLen from by unfold maxLen; omega)
        have HBy := Lib.hid (show (k + 1) * 56 ≤ 140737488355328 from by omega)
        have HZ := Lib.hid (show w.heap.size ≤ (w3.alloc (.cells #[u0, u1, u2, .slice A4 n4 c4] 42)).heap.size from by have := HO4.out.size; omega)
        have HRw := Lib.hid (show (w3.alloc (.cells #[u0, u1, u2, .slice A4 n4 c4] 42)).ownsRow w.heap.size 42 4 (.slice A k c) k css.flatten from by rw [← hxl]; have := HG4.out.row; rw [hxl] at this ⊢; exact this)
        clear hel hb3 hbx HG2 HO2 HP2 hr
        go_wp2_with (at_builtin; (refine wpList_append_at6 rfl _ _ 40 rfl w.heap.size 42 i0 (.agg #[.int .i64 0, .int .u64 0, .string ⟨#[]⟩, .slice none 0 0]) 4 56 Tryz.underlying40 hi hz0 hz1 hz2 rfl (by decide) (.slice A k c) k css.flatten ?hs HRw.out ⟨w3.heap.size, 0, none⟩ 1 1 [u0, u1, u2, .slice A4 n4 c4] ?hx rfl HNw.out H1.out HM.out HBy.out HZ.out ?_; (case hs => rfl); (case hx => rfl); intro v' w5 hr hg hv'; obtain ⟨A5, c5, rfl⟩ := ownO_slice hr; have HX5 := Lib.hid (show ∃ (xs' : List ExprD) (css' : List (List Value)), (ts.take (k + 1)).map pE = xs'.map some ∧ RowG ElE 42 4 w5 w.heap.size (.slice A5 (k + 1) c5) xs' css' from ⟨xs ++ [x], css ++ [[u0, u1, u2, .slice A4 n4 c4]], HS2.out, HG4.out.push elE_ok HEl.out (by rw [hxl]; exact hr) hg hv'⟩); have HO5 := Lib.hid (show But p w w5 from But.grown HO4.out hg (fun g e => (ownO_lt HG4.out.row e).2.1)); have HP5 := Lib.hid (show PtAt w5 p (ts.drop (k + 1)) from HP4.out.grown hg (fun g e => by have := (ownO_lt HG4.out.row e).2.1; omega)); clear hr hg hv'))
        go_roundw
        case rel => exact ⟨k + 1, c5, A5, by omega, rfl, HX5, HP5, HO5⟩
        case measure => simp [sliceN]; omega
    · have hkn : k = ts.length := by omega
      subst hkn
      rw [List.drop_length] at x0
      have HX2 := Lib.hid (show ∃ xs, allO (ts.map pE) = some xs ∧ LsE w.heap.size wr xs (.slice A ts.length c) from by
        rw [List.take_length] at hx1
        exact ⟨xs, allO_done hx1, hx2.lsE⟩)
      have HP2 := Lib.hid (show PtAt wr p [] from by have := HP.out; rw [List.drop_length] at this; exact this)
      clear hx1 hx2 hblk HX HP
      rw [show ([] : List TokD).length = 0 from rfl] at x0
      go_wp2
      go_ret
      obtain ⟨xs', h1, h2⟩ := HX2.out
      exact ⟨HO.out, by rw [h1]; exact ⟨_, rfl, h2, HP2.out⟩⟩
end Go.Proofs.YtbhdbglhejibbaaGreatDoor
namespace Go.Proofs.YtbhdbglhejibbaaGreatDoor
set_option maxRecDepth 100000
open Go.RowKit
set_option linter.unusedVariables false
theorem res_cell4 {fn : Func} {T : Array Value} {j b : Nat} {W : World} {v0 v1 v2 v3 : Value} {ty : TypeId} (hf : fn.results = #[.cell j 42]) (h2 : T[j]? = some (.pointer (some ⟨b, 0, none⟩))) (hr : W.heap[b]? = some (.cells #[v0, v1, v2, v3] ty (0, 0))) :
    (results fn T).run Tryz.prog W = .ok (.agg #[v0, v1, v2, v3]) W := by
  have y0 := cell_of_row W b 0 _ _ _ hr
  have y1 := cell_of_row W b 1 _ _ _ hr
  have y2 := cell_of_row W b 2 _ _ _ hr
  have y3 := cell_of_row W b 3 _ _ _ hr
  simp only [List.getElem?_toArray, List.getElem?_cons_zero, List.getElem?_cons_succ] at y0 y1 y2 y3
  simp [results, hf, go_sem, h2, y0, y1, y2, y3]
theorem sfill4 {W : World} {b : Nat} {a0 a1 a2 a3 : Value} {T : TypeId} (h : W.heap[b]? = some (.cells #[a0, a1, a2, a3] T (0, 0))) (v0 v1 v2 v3 : Value) :
    ((((W.setCell ⟨b, 0, none⟩ v0).setCell ⟨b, 1, none⟩ v1).setCell ⟨b, 2, none⟩ v2).setCell ⟨b, 3, none⟩ v3).heap[b]? = some (.cells #[v0, v1, v2, v3] T (0, 0)) := by
  rw [heap_setCell_same _ b 3 _ _ _ (heap_setCell_same _ b 2 _ _ _ (heap_setCell_same _ b 1 _ _ _ (heap_setCell_same W b 0 _ _ _ h)))]
  rfl
theorem bset4 {w W : World} {b : Nat} (h : Below w.heap.size w W) (hb : w.heap.size ≤ b) (v0 v1 v2 v3 : Value) : Below w.heap.size w ((((W.setCell ⟨b, 0, none⟩ v0).setCell ⟨b, 1, none⟩ v1).setCell ⟨b, 2, none⟩ v2).setCell ⟨b, 3, none⟩ v3) :=
  tbelow_set (tbelow_set (tbelow_set (tbelow_set h hb) hb) hb) hb
theorem elE_word {w : World} {S : Nat → Prop} {s : ByteArray} (hs : s.size ≤ 100000) : ∃ cs : List Value, ElE w S (wrdE s) cs ∧ cs = (if numB s = true then [.int .i64 0, .int .u64 (numV s), .string ⟨#[]⟩, .slice none 0 0] else [.int .i64 1, .int .u64 0, .string s, .slice none 0 0]) := by
  have h1 := numV_low s
  have h2 := numV_high s
  unfold wrdE
  by_cases h : numB s = true
  · rw [if_pos h, if_pos h]
    refine ⟨_, ⟨none, 0, rfl, Nat.le_refl _, .inl rfl, ?_⟩, rfl⟩
    unfold ExprW fitsI fitsU
    refine ⟨by omega, by omega, Nat.zero_le _, by unfold maxLen; simp, trivial⟩
  · rw [if_neg h, if_neg h]
    refine ⟨_, ⟨none, 0, rfl, Nat.le_refl _, .inl rfl, ?_⟩, rfl⟩
    unfold ExprW fitsI fitsU
    refine ⟨by omega, by omega, by unfold maxLen; omega, by unfold maxLen; simp, trivial⟩
set_option maxHeartbeats 1000000 in
theorem wordExpr_any (s : ByteArray) (hs : s.size ≤ 100000) (w : World) (hL : LxT w) :
    Calls Tryz.prog 109 #[.string s] w fun e w' => Below w.heap.size w w' ∧ ExprP w.heap.size w' (some (wrdE s)) e := by
  have hb := (Below.refl w.heap.size w).alloc (Nat.le_refl _) (.cells #[.int .i64 0, .int .u64 0, .string ⟨#[]⟩, .slice none 0 0] 42)
  have h0 := heap_alloc_new w (.cells #[.int .i64 0, .int .u64 0, .string ⟨#[]⟩, .slice none 0 0] 42)
  have HN := Lib.hid (lexnum_any s (by omega) _ (hL.below hb))
  have HB := Lib.hid hb
  have HX := Lib.hid h0
  have HS := Lib.hid hs
  clear hb h0 hL hs
  cases hn : numB s with
  | true =>
    have HE := Lib.hid (show ∀ (w' : World), ExprP w.heap.size w' (some (wrdE s)) (.returned (.agg #[.int .i64 0, .int .u64 (numV s), .string ⟨#[]⟩, .slice none 0 0])) from fun w' => by
      obtain ⟨cs, h1, h2⟩ := elE_word (w := w') (S := NewS w.heap.size w') HS.out
      rw [if_pos hn] at h2
      subst h2
      exact ⟨_, rfl, h1⟩)
    go_enter Tryz.func109, Tryz.ntmps109
    go_wp2_with fail
    refine HN.out.mono ?_
    rintro e w2 ⟨rfl, hb⟩
    rw [hn]
    have hX2 := (hb.block _ (Array.getElem?_eq_some_iff.1 HX.out).1).trans HX.out
    have HX2 := Lib.hid hX2
    have HB2 := Lib.hid (HB.out.trans (hb.mono HB.out.size))
    have y0 := cell_of_row w2 w.heap.size 0 _ _ _ hX2
    have y1 := cell_of_row w2 w.heap.size 1 _ _ _ hX2
    have y2 := cell_of_row w2 w.heap.size 2 _ _ _ hX2
    have y3 := cell_of_row w2 w.heap.size 3 _ _ _ hX2
    simp only [List.getElem?_toArray, List.getElem?_cons_zero, List.getElem?_cons_succ] at y0 y1 y2 y3
    have f0 := frozen_of_row w2 w.heap.size 0 _ _ hX2
    have f1 := frozen_of_row w2 w.heap.size 1 _ _ hX2
    have f2 := frozen_of_row w2 w.heap.size 2 _ _ hX2
    have f3 := frozen_of_row w2 w.heap.size 3 _ _ hX2
    clear hb hX2 hn
    generalize numV s = n at *
    go_wp2
    exact bodyPost_ret (v := .agg #[.int .i64 0, .int .u64 n, .string ⟨#[]⟩, .slice none 0 0]) (res_cell4 (j := 2) (b := w.heap.size) rfl rfl (sfill4 HX2.out _ _ _ _)) rfl ⟨bset4 HB2.out (Nat.le_refl _) _ _ _ _, HE.out _⟩
  | false =>
    have HE := Lib.hid (show ∀ (w' : World), ExprP w.heap.size w' (some (wrdE s)) (.returned (.agg #[.int .i64 1, .int .u64 0, .string s, .slice none 0 0])) from fun w' => by
      obtain ⟨cs, h1, h2⟩ := elE_word (w := w') (S := NewS w.heap.size w') HS.out
      rw [if_neg (by rw [hn]; simp)] at h2
      subst h2
      exact ⟨_, rfl, h1⟩)
    go_enter Tryz.func109, Tryz.ntmps109
    go_wp2_with fail
    refine HN.out.mono ?_
    rintro e w2 ⟨rfl, hb⟩
    rw [hn]
    have hX2 := (hb.block _ (Array.getElem?_eq_some_iff.1 HX.out).1).trans HX.out
    have HX2 := Lib.hid hX2
    have HB2 := Lib.hid (HB.out.trans (hb.mono HB.out.size))
    have y0 := cell_of_row w2 w.heap.size 0 _ _ _ hX2
    have y1 := cell_of_row w2 w.heap.size 1 _ _ _ hX2
    have y2 := cell_of_row w2 w.heap.size 2 _ _ _ hX2
    have y3 := cell_of_row w2 w.heap.size 3 _ _ _ hX2
    simp only [List.getElem?_toArray, List.getElem?_cons_zero, List.getElem?_cons_succ] at y0 y1 y2 y3
    have f0 := frozen_of_row w2 w.heap.size 0 _ _ hX2
    have f1 := frozen_of_row w2 w.heap.size 1 _ _ hX2
    have f2 := frozen_of_row w2 w.heap.size 2 _ _ hX2
    have f3 := frozen_of_row w2 w.heap.size 3 _ _ hX2
    clear hb hX2 hn
    generalize numV s = n at *
    go_wp2
    exact bodyPost_ret (v := .agg #[.int .i64 1, .int .u64 0, .string s, .slice none 0 0]) (res_cell4 (j := 2) (b := w.heap.size) rfl rfl (sfill4 HX2.out _ _ _ _)) rfl ⟨bset4 HB2.out (Nat.le_refl _) _ _ _ _, HE.out _⟩
theorem three_boxes (w : World) (o0 o1 o2 : Obj) : (((w.alloc o0).alloc o1).alloc o2).heap[w.heap.size]? = some o0 ∧ (((w.alloc o0).alloc o1).alloc o2).heap[w.heap.size + 1]? = some o1 ∧ (((w.alloc o0).alloc o1).alloc o2).heap[w.heap.size + 1 + 1]? = some o2 ∧ Below w.heap.size w (((w.alloc o0).alloc o1).alloc o2) ∧ (((w.alloc o0).alloc o1).alloc o2).heap.size = w.heap.size + 3 := by
  have s1 : (w.alloc o0).heap.size = w.heap.size + 1 := by simp
  have s2 : ((w.alloc o0).alloc o1).heap.size = w.heap.size + 1 + 1 := by simp
  have g0 := heap_alloc_new w o0
  have g1 := heap_alloc_new (w.alloc o0) o1
  have g2 := heap_alloc_new ((w.alloc o0).alloc o1) o2
  rw [s1] at g1
  rw [s2] at g2
  refine ⟨?_, ?_, g2, ((((Below.refl _ w).alloc (Nat.le_refl _) _).alloc (by omega) _).alloc (by omega) _), by simp⟩
  · rw [heap_alloc_old _ _ (by omega), heap_alloc_old _ _ (by omega)]; exact g0
  · rw [heap_alloc_old _ _ (by omega)]; exact g1
theorem PtAt.keep {w w' : World} {p : Nat} {ts : List TokD} (h : PtAt w p ts) (hk : ∀ b, b ≤ p → w'.heap[b]? = w.heap[b]?) : PtAt w' p ts where
  blk := by
    obtain ⟨A, c, h1, h2, h2', h3⟩ := h.blk
    exact ⟨A, c, (hk p (Nat.le_refl _)).trans h1, h2, h2', h3.move (fun b hb' => hb') (fun b hb' => hk b (Nat.le_of_lt hb'))⟩
  ok := h.ok
  few := h.few
  len := h.len
theorem But.set {p b o : Nat} {w w1 : World} {v : Value} (h : But p w w1) (hb : w.heap.size ≤ b) : But p w (w1.setCell ⟨b, o, none⟩ v) := by
  have g := grown_setO w1 b o v
  exact ⟨g.os.trans h.os, g.tape.trans h.tape, g.output.trans h.output, Nat.le_trans h.size g.size, fun k hk hp => (g.block k (by have := h.size; omega) (fun e => by have := Option.some.inj e; omega)).trans (h.block k hk hp)⟩
theorem heap_set_off {W : World} {b g o : Nat} {v : Value} (h : b ≠ g) : (W.setCell ⟨g, o, none⟩ v).heap[b]? = W.heap[b]? := by
  by_cases hb : b < W.heap.size
  · exact (grown_setO W g o v).block b hb (fun e => h (Option.some.inj e))
  · have hs : (W.setCell ⟨g, o, none⟩ v).heap.size = W.heap.size := by simp
    rw [Array.getElem?_eq_none (by omega), Array.getElem?_eq_none (by omega)]
theorem sfill4_off {W : World} {b g : Nat} (h : b ≠ g) (v0 v1 v2 v3 : Value) : ((((W.setCell ⟨g, 0, none⟩ v0).setCell ⟨g, 1, none⟩ v1).setCell ⟨g, 2, none⟩ v2).setCell ⟨g, 3, none⟩ v3).heap[b]? = W.heap[b]? := by
  rw [heap_set_off h, heap_set_off h, heap_set_off h, heap_set_off h]
theorem exfin {w w3 : World} {p g1 g2 B2 : Nat} {k n : Int} {s : ByteArray} {A : Option Addr} {xs : List ExprD} {c : Nat} {a0 a1 a2 a3 : Value} {T : TypeId} (hO : But p w w3) (hp : p < w.heap.size) (hg1 : w.heap.size ≤ g1) (hg : g1 < g2) (hB2 : g2 < B2) (h1 : w3.heap[g1]? = some (.cells #[a0, a1, a2, a3] T (0, 0))) (hls : LsE B2 w3 xs (.slice A xs.length c)) (hpt : PtAt w3 p []) (hk : fitsI k) (hn : fitsU n) (hs : s.size ≤ 100000) :
    (((((w3.setCell ⟨g2, 3, none⟩ (.slice A xs.length c)).setCell ⟨g1, 0, none⟩ (.int .i64 k)).setCell ⟨g1, 1, none⟩ (.int .u64 n)).setCell ⟨g1, 2, none⟩ (.string s)).setCell ⟨g1, 3, none⟩ (.slice A xs.length c)).heap[g1]? = some (.cells #[.int .i64 k, .int .u64 n, .string s, .slice A xs.length c] T (0, 0)) ∧
    But p w (((((w3.setCell ⟨g2, 3, none⟩ (.slice A xs.length c)).setCell ⟨g1, 0, none⟩ (.int .i64 k)).setCell ⟨g1, 1, none⟩ (.int .u64 n)).setCell ⟨g1, 2, none⟩ (.string s)).setCell ⟨g1, 3, none⟩ (.slice A xs.length c)) ∧
    ElE (((((w3.setCell ⟨g2, 3, none⟩ (.slice A xs.length c)).setCell ⟨g1, 0, none⟩ (.int .i64 k)).setCell ⟨g1, 1, none⟩ (.int .u64 n)).setCell ⟨g1, 2, none⟩ (.string s)).setCell ⟨g1, 3, none⟩ (.slice A xs.length c)) (NewS w.heap.size (((((w3.setCell ⟨g2, 3, none⟩ (.slice A xs.length c)).setCell ⟨g1, 0, none⟩ (.int .i64 k)).setCell ⟨g1, 1, none⟩ (.int .u64 n)).setCell ⟨g1, 2, none⟩ (.string s)).setCell ⟨g1, 3, none⟩ (.slice A xs.length c))) (.mk k n s xs) [.int .i64 k, .int .u64 n, .string s, .slice A xs.length c] ∧
    PtAt (((((w3.setCell ⟨g2, 3, none⟩ (.slice A xs.length c)).setCell ⟨g1, 0, none⟩ (.int .i64 k)).setCell ⟨g1, 1, none⟩ (.int .u64 n)).setCell ⟨g1, 2, none⟩ (.string s)).setCell ⟨g1, 3, none⟩ (.slice A xs.length c)) p [] := by
  have hoff : ∀ b, b ≠ g1 → b ≠ g2 → (((((w3.setCell ⟨g2, 3, none⟩ (.slice A xs.length c)).setCell ⟨g1, 0, none⟩ (.int .i64 k)).setCell ⟨g1, 1, none⟩ (.int .u64 n)).setCell ⟨g1, 2, none⟩ (.string s)).setCell ⟨g1, 3, none⟩ (.slice A xs.length c)).heap[b]? = w3.heap[b]? := fun b e1 e2 => by
    rw [sfill4_off e1, heap_set_off e2]
  refine ⟨sfill4 (by rw [heap_set_off (by omega)]; exact h1) _ _ _ _, ((((hO.set (by omega)).set hg1).set hg1).set hg1).set hg1, ?_, hpt.keep fun b hb => hoff b (by omega) (by omega)⟩
  obtain ⟨A', c', e, q1, q2, q3, q4⟩ := hls
  simp only [Value.slice.injEq, true_and] at e
  obtain ⟨rfl, rfl⟩ := e
  refine ⟨A, c, rfl, q1, q3.move (fun b hb => ⟨by have := hb.1; omega, hb.2.move (hoff b (by have := hb.1; omega) (by have := hb.1; omega))⟩) (fun b hb => hoff b (by have := hb.1; omega) (by have := hb.1; omega)), ?_⟩
  unfold ExprW
  exact ⟨hk, hn, by unfold maxLen; omega, by omega, q4⟩
theorem rdE_none {k n : Int} {ts : List TokD} {rs : List (Option ExprD)} (h : wdF ts = none) : rdE k n true ts rs = none := by
  unfold rdE
  rw [if_pos rfl]
  match ts, h with
  | [], _ => rfl
  | .l us :: ts, _ => rfl
theorem wdF_some {ts us : List TokD} {s : ByteArray} (h : wdF ts = some (s, us)) : ts = .w s :: us := by
  match ts, h with
  | .w s' :: ts, h =>
    simp only [wdF, Option.some.injEq, Prod.mk.injEq] at h
    rw [h.1, h.2]
theorem rdE_named {k n : Int} {s : ByteArray} {us : List TokD} : rdE k n true (.w s :: us) ((TokD.w s :: us).map pE) = (allO (us.map pE)).map (.mk k n s ·) := by
  unfold rdE
  rw [if_pos rfl]
  rfl
theorem rdE_plain {k n : Int} {ts : List TokD} {rs : List (Option ExprD)} : rdE k n false ts rs = (allO rs).map (.mk k n ⟨#[]⟩ ·) := by
  unfold rdE
  rw [if_neg (by simp)]
def ReadEP (w : World) (p : Nat) (r : Option ExprD) (e : Ending) (w' : World) : Prop := But p w w' ∧ match r with
  | none => e = tlackP
  | some x => ∃ cs : List Value, e = .returned (.agg cs.toArray) ∧ ElE w' (NewS w.heap.size w') x cs ∧ PtAt w' p []
set_option maxHeartbeats 4000000 in
theorem exread_of (R : RdC) (ts : List TokD) (hl : ∀ t ∈ ts, RdE R t) (k n : Int) (nm : Bool) (hk : fitsI k) (hn : fitsU n) (p : Nat) (w : World) (hR : RdIs R w) (hp : R.top ≤ p) (h : PtAt w p ts) :
    Calls Tryz.prog 56 #[exV8 R.r (k, n, nm), .pointer (some ⟨p, 0, none⟩)] w (ReadEP w p (rdE k n nm ts (ts.map pE))) := by
  have hmf : ∀ (fn : Fn) (first cap : Array Value) (w : World), (Instr.makeFunc fn first cap).run Tryz.prog w = .ok (.func fn first cap) w := fun _ _ _ _ => rfl
  unfold exV8
  simp only
  have HE := Lib.hid (three_boxes w (.cells #[.pointer (some ⟨R.r, 0, none⟩), .int .i64 k, .int .u64 n, .bool nm] 121) (.cells #[.int .i64 0, .int .u64 0, .string ⟨#[]⟩, .slice none 0 0] 42) (.cells #[.int .i64 k, .int .u64 n, .string ⟨#[]⟩, .slice none 0 0] 42))
  have HR := Lib.hid (And.intro (hR.below HE.out.2.2.2.1) hp)
  have HP := Lib.hid (h.below HE.out.2.2.2.1)
  have HK := Lib.hid (And.intro hk hn)
  have HL := Lib.hid hl
  have hlt := h.lt
  clear hl hR hp h hk hn
  cases nm with
  | true =>
    go_enter Tryz.func56, Tryz.ntmps56
    go_upto_region 2 with fail
    generalize (((w.alloc (.cells #[.pointer (some ⟨R.r, 0, none⟩), .int .i64 k, .int .u64 n, .bool true] 121)).alloc (.cells #[.int .i64 0, .int .u64 0, .string ⟨#[]⟩, .slice none 0 0] 42)).alloc (.cells #[.int .i64 k, .int .u64 n, .string ⟨#[]⟩, .slice none 0 0] 42)) = W at *
    have HW := Lib.hid (pword_any p ts W HP.out)
    have x3 : W.cell? ⟨w.heap.size, 3, none⟩ = some (.bool true) := by rw [cell_of_row W _ 3 _ _ _ HE.out.1]; rfl
    go_wp2_with fail
    refine HW.out.mono ?_
    rintro e w2 ⟨hO, h2⟩
    cases hw : wdF ts with
    | none =>
      rw [hw] at h2
      have h2 : e = tlackP := h2
      subst h2
      exact ⟨rfl, (But.of_below HE.out.2.2.2.1).trans hO, by rw [rdE_none hw]; rfl⟩
    | some sx =>
    obtain ⟨s, us⟩ := sx
    rw [hw] at h2
    obtain ⟨rfl, hP2⟩ := h2
    have hts := wdF_some hw
    have HS := Lib.hid (show s.size ≤ 100000 from (HP.out.few (.w s) (by rw [hts]; simp)).2.1 s (by simp [flat]))
    have HRD := Lib.hid (show rdE k n true ts (ts.map pE) = (allO (us.map pE)).map (.mk k n s ·) from by rw [hts]; exact rdE_named)
    have hg0 := (hO.block _ (Array.getElem?_eq_some_iff.1 HE.out.1).1 (by omega)).trans HE.out.1
    have hg1 := (hO.block _ (Array.getElem?_eq_some_iff.1 HE.out.2.1).1 (by omega)).trans HE.out.2.1
    have hg2 := (hO.block _ (Array.getElem?_eq_some_iff.1 HE.out.2.2.1).1 (by omega)).trans HE.out.2.2.1
    have HOA := Lib.hid (But.set (b := w.heap.size + 1 + 1) (o := 2) (v := .string s) ((But.of_below (p := p) HE.out.2.2.2.1).trans hO) (by omega))
    have HE2 := Lib.hid (show (w2.setCell ⟨w.heap.size + 1 + 1, 2, none⟩ (.string s)).heap[w.heap.size + 1]? = some (.cells #[.int .i64 0, .int .u64 0, .string ⟨#[]⟩, .slice none 0 0] 42 (0, 0)) ∧ (w2.setCell ⟨w.heap.size + 1 + 1, 2, none⟩ (.string s)).heap[w.heap.size + 1 + 1]? = some (.cells #[.int .i64 k, .int .u64 n, .string s, .slice none 0 0] 42 (0, 0)) from
      ⟨by rw [heap_set_off (by omega)]; exact hg1, by rw [heap_setCell_same _ _ 2 _ _ _ hg2]; rfl⟩)
    have HB2 := Lib.hid (show w.heap.size + 1 + 1 < (w2.setCell ⟨w.heap.size + 1 + 1, 2, none⟩ (.string s)).heap.size from (Array.getElem?_eq_some_iff.1 HE2.out.2).1)
    have HLs := Lib.hid (listE_of R us (fun t ht => HL.out t (by rw [hts]; simp [ht])) p (w2.setCell ⟨w.heap.size + 1 + 1, 2, none⟩ (.string s)) (HR.out.1.move ((But.low hO HR.out.2 HR.out.1.top).setCell (p := ⟨w.heap.size + 1 + 1, 2, none⟩) (by have := HR.out.2; show R.top ≤ w.heap.size + 1 + 1; omega) _)) HR.out.2 (hP2.keep fun b hb => heap_set_off (by omega)))
    have y2 := cell_of_row w2 _ 2 _ _ _ hg2
    have f2 := frozen_of_row w2 _ 2 _ _ hg2
    have x0 := cell_of_row w2 _ 0 _ _ _ hg0
    simp only [List.getElem?_toArray, List.getElem?_cons_zero, List.getElem?_cons_succ] at y2 x0
    clear hO hP2 hg0 hg1 hg2 hw hts x3
    go_wp2_with fail
    refine HLs.out.mono ?_
    rintro e w3 ⟨hO, h3⟩
    cases hr : allO (us.map pE) with
    | none =>
      rw [hr] at h3
      have h3 : e = tlackP := h3
      subst h3
      exact ⟨rfl, HOA.out.trans hO, by rw [HRD.out, hr]; rfl⟩
    | some xs =>
      rw [hr] at h3
      obtain ⟨v, rfl, hls, hpt⟩ := h3
      have hg1 := (hO.block _ (Array.getElem?_eq_some_iff.1 HE2.out.1).1 (by omega)).trans HE2.out.1
      have hg2 := (hO.block _ (Array.getElem?_eq_some_iff.1 HE2.out.2).1 (by omega)).trans HE2.out.2
      obtain ⟨A, c, rfl, hc1, hc2, hA, hWx⟩ := hls
      have HF := Lib.hid (exfin (g2 := w.heap.size + 1 + 1) (HOA.out.trans hO) hlt (Nat.le_succ _) (by omega) HB2.out hg1 ⟨A, c, rfl, hc1, hc2, hA, hWx⟩ hpt HK.out.1 HK.out.2 HS.out)
      have HRr := Lib.hid (HRD.out.trans (congrArg _ hr))
      have y0 := cell_of_row w3 _ 0 _ _ _ hg2
      have y1 := cell_of_row w3 _ 1 _ _ _ hg2
      have y2 := cell_of_row w3 _ 2 _ _ _ hg2
      have y3 := cell_of_row w3 _ 3 _ _ _ hg2
      have z0 := cell_of_row w3 _ 0 _ _ _ hg1
      have z1 := cell_of_row w3 _ 1 _ _ _ hg1
      have z2 := cell_of_row w3 _ 2 _ _ _ hg1
      have z3 := cell_of_row w3 _ 3 _ _ _ hg1
      simp only [List.getElem?_toArray, List.getElem?_cons_zero, List.getElem?_cons_succ] at y0 y1 y2 y3 z0 z1 z2 z3
      have f3 := frozen_of_row w3 _ 3 _ _ hg2
      have q0 := frozen_of_row w3 _ 0 _ _ hg1
      have q1 := frozen_of_row w3 _ 1 _ _ hg1
      have q2 := frozen_of_row w3 _ 2 _ _ hg1
      have q3 := frozen_of_row w3 _ 3 _ _ hg1
      clear hO hpt hg1 hg2 hc1 hc2 hA hWx hr
      go_wp2
      refine bodyPost_ret (v := .agg #[.int .i64 k, .int .u64 n, .string s, .slice A xs.length c]) (res_cell4 (j := 4) (b := w.heap.size + 1) rfl rfl HF.out.1) rfl ⟨HF.out.2.1, ?_⟩
      rw [HRr.out]
      exact ⟨_, rfl, HF.out.2.2.1, HF.out.2.2.2⟩
  | false =>
    go_enter Tryz.func56, Tryz.ntmps56
    go_upto_region 2 with fail
    generalize (((w.alloc (.cells #[.pointer (some ⟨R.r, 0, none⟩), .int .i64 k, .int .u64 n, .bool false] 121)).alloc (.cells #[.int .i64 0, .int .u64 0, .string ⟨#[]⟩, .slice none 0 0] 42)).alloc (.cells #[.int .i64 k, .int .u64 n, .string ⟨#[]⟩, .slice none 0 0] 42)) = W at *
    have HLs := Lib.hid (listE_of R ts HL.out p W HR.out.1 HR.out.2 HP.out)
    have HS := Lib.hid (show (⟨#[]⟩ : ByteArray).size ≤ 100000 from Nat.zero_le _)
    have HRD := Lib.hid (show rdE k n false ts (ts.map pE) = (allO (ts.map pE)).map (.mk k n ⟨#[]⟩ ·) from rdE_plain)
    have HOA := Lib.hid (But.of_below (p := p) HE.out.2.2.2.1)
    have HE2 := Lib.hid (And.intro HE.out.2.1 HE.out.2.2.1)
    have HB2 := Lib.hid (show w.heap.size + 1 + 1 < W.heap.size from by have := HE.out.2.2.2.2; omega)
    have x0 : W.cell? ⟨w.heap.size, 0, none⟩ = some (.pointer (some ⟨R.r, 0, none⟩)) := by rw [cell_of_row W _ 0 _ _ _ HE.out.1]; rfl
    have x3 : W.cell? ⟨w.heap.size, 3, none⟩ = some (.bool false) := by rw [cell_of_row W _ 3 _ _ _ HE.out.1]; rfl
    go_wp2_with fail
    refine HLs.out.mono ?_
    rintro e w3 ⟨hO, h3⟩
    cases hr : allO (ts.map pE) with
    | none =>
      rw [hr] at h3
      have h3 : e = tlackP := h3
      subst h3
      exact ⟨rfl, HOA.out.trans hO, by rw [HRD.out, hr]; rfl⟩
    | some xs =>
      rw [hr] at h3
      obtain ⟨v, rfl, hls, hpt⟩ := h3
      have hg1 := (hO.block _ (Array.getElem?_eq_some_iff.1 HE2.out.1).1 (by omega)).trans HE2.out.1
      have hg2 := (hO.block _ (Array.getElem?_eq_some_iff.1 HE2.out.2).1 (by omega)).trans HE2.out.2
      obtain ⟨A, c, rfl, hc1, hc2, hA, hWx⟩ := hls
      have HF := Lib.hid (exfin (g2 := w.heap.size + 1 + 1) (HOA.out.trans hO) hlt (Nat.le_succ _) (by omega) HB2.out hg1 ⟨A, c, rfl, hc1, hc2, hA, hWx⟩ hpt HK.out.1 HK.out.2 HS.out)
      have HRr := Lib.hid (HRD.out.trans (congrArg _ hr))
      have y0 := cell_of_row w3 _ 0 _ _ _ hg2
      have y1 := cell_of_row w3 _ 1 _ _ _ hg2
      have y2 := cell_of_row w3 _ 2 _ _ _ hg2
      have y3 := cell_of_row w3 _ 3 _ _ _ hg2
      have z0 := cell_of_row w3 _ 0 _ _ _ hg1
      have z1 := cell_of_row w3 _ 1 _ _ _ hg1
      have z2 := cell_of_row w3 _ 2 _ _ _ hg1
      have z3 := cell_of_row w3 _ 3 _ _ _ hg1
      simp only [List.getElem?_toArray, List.getElem?_cons_zero, List.getElem?_cons_succ] at y0 y1 y2 y3 z0 z1 z2 z3
      have f3 := frozen_of_row w3 _ 3 _ _ hg2
      have q0 := frozen_of_row w3 _ 0 _ _ hg1
      have q1 := frozen_of_row w3 _ 1 _ _ hg1
      have q2 := frozen_of_row w3 _ 2 _ _ hg1
      have q3 := frozen_of_row w3 _ 3 _ _ hg1
      clear hO hpt hg1 hg2 hc1 hc2 hA hWx hr
      go_wp2
      refine bodyPost_ret (v := .agg #[.int .i64 k, .int .u64 n, .string ⟨#[]⟩, .slice A xs.length c]) (res_cell4 (j := 4) (b := w.heap.size + 1) rfl rfl HF.out.1) rfl ⟨HF.out.2.1, ?_⟩
      rw [HRr.out]
      exact ⟨_, rfl, HF.out.2.2.1, HF.out.2.2.2⟩
end Go.Proofs.YtbhdbglhejibbaaGreatDoor
namespace Go.Proofs.YtbhdbglhejibbaaGreatDoor
set_option maxRecDepth 100000
open Go.RowKit
set_option linter.unusedVariables false
theorem kinL_fits : ∀ y ∈ kinL, fitsI y.2.1 ∧ fitsU y.2.2.1 := by
  unfold fitsI fitsU
  decide +kernel
theorem kinE_fits {s : ByteArray} {x : Int × Int × Bool} (h : kinE s = some x) : fitsI x.1 ∧ fitsU x.2.1 := by
  unfold kinE at h
  cases hf : kinL.find? (fun x => decide (x.1 = s)) with
  | none => rw [hf] at h; cases h
  | some y =>
    rw [hf] at h
    cases h
    exact kinL_fits y (List.mem_of_find?_eq_some hf)
def becE : TokD → Option ExprD
  | .w _ => none
  | .l ts => match wdF ts with
    | some x => match kinE x.1 with
      | some y => rdE y.1 y.2.1 y.2.2 x.2 (x.2.map pE)
      | none => none
    | none => none
theorem pE_l (ts : List TokD) : pE (.l ts) = (becE (.l ts)).bind chkE := by
  match ts with
  | [] => rw [pE_nil]; rfl
  | .l us :: ts => rw [pE_nohead]; rfl
  | .w h :: ts =>
    rw [pE_head]
    unfold becE
    simp only [wdF]
    cases kinE h <;> rfl
theorem becE_l (ts : List TokD) : becE (.l ts) = match wdF ts with
    | some x => match kinE x.1 with
      | some y => rdE y.1 y.2.1 y.2.2 x.2 (x.2.map pE)
      | none => none
    | none => none := rfl
theorem zeroF (w : World) : (zeroValue 119).run Tryz.prog w = .ok .nilFunc w := by kernel_rfl
set_option maxHeartbeats 4000000 in
theorem becomeE_of (R : RdC) (t : TokD) (hok : TokOk t) (hB : TokB t) (ih : ∀ ts, t = .l ts → ∀ u ∈ ts, RdE R u) (w : World) (v : Value) (hR : RdIs R w) (hv : ItemV w t v) :
    Calls Tryz.prog 108 #[.map (some R.re), v] w fun e w' => Below w.heap.size w w' ∧ ExprP w.heap.size w' (becE t) e := by
  have hb := (Below.refl w.heap.size w).alloc (Nat.le_refl _) (.cells #[.int .i64 0, .int .u64 0, .string ⟨#[]⟩, .slice none 0 0] 42)
  have h0 := heap_alloc_new w (.cells #[.int .i64 0, .int .u64 0, .string ⟨#[]⟩, .slice none 0 0] 42)
  have hv1 := hv.below hb
  have HR := Lib.hid (hR.below hb)
  have HB := Lib.hid hb
  have HX := Lib.hid h0
  have hsz : (w.alloc (.cells #[.int .i64 0, .int .u64 0, .string ⟨#[]⟩, .slice none 0 0] 42)).heap.size = w.heap.size + 1 := by simp
  have HV := Lib.hid hv
  obtain ⟨a0, q0, c0, rfl, _⟩ := hv
  cases t with
  | w s =>
    have HI := Lib.hid (inside_no s _ _ hv1)
    clear hv1 hb h0 hR
    go_enter Tryz.func108, Tryz.ntmps108
    go_wp2_with fail
    refine HI.out.mono ?_
    rintro e w2 ⟨rfl, rfl⟩
    exact ⟨rfl, HB.out, rfl⟩
  | l ts =>
    have HI := Lib.hid (inside_yes ts _ hok hB _ hv1)
    have HIh := Lib.hid (ih ts rfl)
    have HTb := Lib.hid hB
    clear hv1 hb h0 hR ih
    go_enter Tryz.func108, Tryz.ntmps108
    go_wp2_with fail
    generalize (w.alloc (.cells #[.int .i64 0, .int .u64 0, .string ⟨#[]⟩, .slice none 0 0] 42)) = W at *
    refine HI.out.mono ?_
    rintro e w2 ⟨p, rfl, hp, hpt, hb2⟩
    have HR2 := Lib.hid (HR.out.below hb2)
    have HB2 := Lib.hid (HB.out.trans (hb2.mono HB.out.size))
    have HX2 := Lib.hid ((hb2.block _ (Array.getElem?_eq_some_iff.1 HX.out).1).trans HX.out)
    have HP := Lib.hid (And.intro hp (Nat.le_trans HR.out.top hp))
    have HW := Lib.hid (pword_any p ts w2 hpt)
    have HPt := Lib.hid hpt
    have hpg : w.heap.size < p := by omega
    clear hb2 hpt hp
    go_wp2_with fail
    refine HW.out.mono ?_
    rintro e w3 ⟨hO, h3⟩
    have HO3 := Lib.hid hO
    have HB3 := Lib.hid (HB2.out.trans (But.low hO (by omega) HB2.out.size))
    have HR3 := Lib.hid (HR2.out.move (But.low hO HP.out.2 HR2.out.top))
    have HX3 := Lib.hid ((hO.block _ (Array.getElem?_eq_some_iff.1 HX2.out).1 (by omega)).trans HX2.out)
    clear hO
    cases hw : wdF ts with
    | none =>
      rw [hw] at h3
      have h3 : e = tlackP := h3
      subst h3
      exact ⟨rfl, HB3.out, by rw [becE_l, hw]; rfl⟩
    | some sx =>
    obtain ⟨s, us⟩ := sx
    rw [hw] at h3
    obtain ⟨rfl, hP3⟩ := h3
    have hts := wdF_some hw
    have hlk := HR3.out.exprs.look Tryz.underlying102 Tryz.underlying9 (zeroF w3) s
    rw [exprsL_find] at hlk
    cases hk : kinE s with
    | none =>
      have HN := Lib.hid (show becE (.l ts) = none from by rw [becE_l, hw]; simp only; rw [hk])
      rw [hk] at hlk
      simp only [Option.map_none, Option.getD_none, Option.isSome_none] at hlk
      clear hP3 hw hts hk
      go_wp2_with fail
      refine (twant_no _).mono ?_
      rintro e w4 ⟨rfl, rfl⟩
      exact ⟨rfl, HB3.out, by rw [HN.out]; rfl⟩
    | some y =>
      have HN := Lib.hid (show becE (.l ts) = rdE y.1 y.2.1 y.2.2 us (us.map pE) from by rw [becE_l, hw]; simp only; rw [hk])
      have hfit := kinE_fits hk
      rw [hk] at hlk
      simp only [Option.map_some, Option.getD_some, Option.isSome_some] at hlk
      have hcf : ∀ (args : Array Value) (w : World), (callFunc 56 args).run Tryz.prog w = .ok (.enter 56 args) w := fun args w => by kernel_rfl
      obtain ⟨yk, yn, ym⟩ := y
      have HRd := Lib.hid (exread_of R us (fun u hu => HIh.out u (by rw [hts]; simp [hu])) yk yn ym hfit.1 hfit.2 p w3 HR3.out HP.out.2 hP3)
      unfold exV8 at hlk HRd
      simp only at hlk HRd
      clear hP3 hw hts hk hfit
      go_wp2_with fail
      refine (twant_yes _).mono ?_
      rintro e w4 ⟨rfl, rfl⟩
      go_wp2_with fail
      refine HRd.out.mono ?_
      rintro e w4 ⟨hO, h4⟩
      have HB4 := Lib.hid (HB3.out.trans (But.low hO (by omega) HB3.out.size))
      have hX4 := (hO.block _ (Array.getElem?_eq_some_iff.1 HX3.out).1 (by omega)).trans HX3.out
      have HX4 := Lib.hid hX4
      cases hr : rdE yk yn ym us (us.map pE) with
      | none =>
        rw [hr] at h4
        have h4 : e = tlackP := h4
        subst h4
        exact ⟨rfl, HB4.out, by rw [HN.out, hr]; rfl⟩
      | some x =>
        rw [hr] at h4
        obtain ⟨cs, rfl, hel, hpt⟩ := h4
        have HNx := Lib.hid (HN.out.trans hr)
        have hcs : ∃ kx nx sx A4 n4 c4, cs = [.int .i64 kx, .int .u64 nx, .string sx, .slice A4 n4 c4] := by
          obtain ⟨kx, nx, sx, ax⟩ := x
          obtain ⟨A', c', e1, _⟩ := hel
          exact ⟨_, _, _, _, _, _, e1⟩
        obtain ⟨vk, vn, vs, A4, n4, c4, rfl⟩ := hcs
        obtain ⟨Ap, cp, hblk, _⟩ := hpt.blk
        have hbx := (Below.refl w4.heap.size w4).alloc (Nat.le_refl _) (.cells #[(.int .i64 vk), (.int .u64 vn), (.string vs), .slice A4 n4 c4] 42)
        have hblk2 := (hbx.block p (Array.getElem?_eq_some_iff.1 hblk).1).trans hblk
        have hX5 := (hbx.block _ (Array.getElem?_eq_some_iff.1 hX4).1).trans hX4
        have xp := cell_of_row _ p 0 _ _ _ hblk2
        have z0 := cell_of_row _ _ 0 _ _ _ hX5
        have z1 := cell_of_row _ _ 1 _ _ _ hX5
        have z2 := cell_of_row _ _ 2 _ _ _ hX5
        have z3 := cell_of_row _ _ 3 _ _ _ hX5
        simp only [List.getElem?_toArray, List.getElem?_cons_zero, List.getElem?_cons_succ] at xp z0 z1 z2 z3
        rw [show ([] : List TokD).length = 0 from rfl] at xp
        have q0 := frozen_of_row _ _ 0 _ _ hX5
        have q1 := frozen_of_row _ _ 1 _ _ hX5
        have q2 := frozen_of_row _ _ 2 _ _ hX5
        have q3 := frozen_of_row _ _ 3 _ _ hX5
        have HX5 := Lib.hid hX5
        have HB5 := Lib.hid (HB4.out.trans (hbx.mono HB4.out.size))
        have HEl := Lib.hid (show ElE (((((w4.alloc (.cells #[(.int .i64 vk), (.int .u64 vn), (.string vs), .slice A4 n4 c4] 42)).setCell ⟨w.heap.size, 0, none⟩ (.int .i64 vk)).setCell ⟨w.heap.size, 1, none⟩ (.int .u64 vn)).setCell ⟨w.heap.size, 2, none⟩ (.string vs)).setCell ⟨w.heap.size, 3, none⟩ (.slice A4 n4 c4)) (NewS w.heap.size (((((w4.alloc (.cells #[(.int .i64 vk), (.int .u64 vn), (.string vs), .slice A4 n4 c4] 42)).setCell ⟨w.heap.size, 0, none⟩ (.int .i64 vk)).setCell ⟨w.heap.size, 1, none⟩ (.int .u64 vn)).setCell ⟨w.heap.size, 2, none⟩ (.string vs)).setCell ⟨w.heap.size, 3, none⟩ (.slice A4 n4 c4))) x [(.int .i64 vk), (.int .u64 vn), (.string vs), .slice A4 n4 c4] from by
          have h3s : w.heap.size < w3.heap.size := by have := (Array.getElem?_eq_some_iff.1 HX3.out).1; omega
          have hk : ∀ b, NewS w3.heap.size w4 b → (((((w4.alloc (.cells #[(.int .i64 vk), (.int .u64 vn), (.string vs), .slice A4 n4 c4] 42)).setCell ⟨w.heap.size, 0, none⟩ (.int .i64 vk)).setCell ⟨w.heap.size, 1, none⟩ (.int .u64 vn)).setCell ⟨w.heap.size, 2, none⟩ (.string vs)).setCell ⟨w.heap.size, 3, none⟩ (.slice A4 n4 c4)).heap[b]? = w4.heap[b]? := fun b hb => by
            have := hb.1
            rw [sfill4_off (by omega), hbx.block b hb.2.lt]
          exact elE_ok.move hel (fun b hb => ⟨by have := hb.1; omega, hb.2.move (hk b hb)⟩) hk)
        clear hO hel hpt hblk hbx hblk2 hX4 hX5 hr
        go_wp2_with fail
        refine (twant_yes _).mono ?_
        rintro e w5 ⟨rfl, rfl⟩
        go_wp2
        refine bodyPost_ret (v := .agg #[(.int .i64 vk), (.int .u64 vn), (.string vs), .slice A4 n4 c4]) (res_cell4 (j := 4) (b := w.heap.size) rfl rfl (sfill4 HX5.out _ _ _ _)) rfl ⟨bset4 HB5.out (Nat.le_refl _) _ _ _ _, ?_⟩
        rw [HNx.out]
        exact ⟨_, rfl, HEl.out⟩
end Go.Proofs.YtbhdbglhejibbaaGreatDoor
namespace Go.Proofs.YtbhdbglhejibbaaGreatDoor
set_option maxRecDepth 100000
open Go.RowKit
set_option linter.unusedVariables false
theorem chkE_yes {k n : Int} {s : ByteArray} {args : List ExprD} (h : exB k n s args.length = true) : chkE (.mk k n s args) = some (.mk k n s args) := by
  show (if exB k n s args.length = true then some (ExprD.mk k n s args) else none) = _
  rw [if_pos h]
theorem chkE_no {k n : Int} {s : ByteArray} {args : List ExprD} (h : exB k n s args.length = false) : chkE (.mk k n s args) = none := by
  show (if exB k n s args.length = true then some (ExprD.mk k n s args) else none) = _
  rw [if_neg (by rw [h]; simp)]
theorem two_new (w : World) (o0 o1 : Obj) : ((w.alloc o0).alloc o1).heap[w.heap.size]? = some o0 ∧ ((w.alloc o0).alloc o1).heap[w.heap.size + 1]? = some o1 ∧ Below w.heap.size w ((w.alloc o0).alloc o1) ∧ ((w.alloc o0).alloc o1).heap.size = w.heap.size + 1 + 1 := by
  have s1 : (w.alloc o0).heap.size = w.heap.size + 1 := by simp
  have g0 := heap_alloc_new w o0
  have g1 := heap_alloc_new (w.alloc o0) o1
  rw [s1] at g1
  refine ⟨?_, g1, (((Below.refl _ w).alloc (Nat.le_refl _) _).alloc (by omega) _), by simp⟩
  rw [heap_alloc_old _ _ (by omega)]; exact g0
set_option maxHeartbeats 8000000 in
theorem rdExpr_any (R : RdC) : ∀ t, RdE R t := by
  refine TokD.ind ?_ ?_
  · intro s hok hB w v hR hv
    obtain ⟨h1, h2, hbl, hsz⟩ := two_new w (.cells #[.int .i64 0, .int .u64 0, .string ⟨#[]⟩, .slice none 0 0] 42) (.cells #[.int .i64 0, .int .u64 0, .string ⟨#[]⟩, .slice none 0 0] 42)
    have HX := Lib.hid (And.intro h1 h2)
    have HB := Lib.hid hbl
    have HR := Lib.hid (hR.below hbl)
    have HTop := Lib.hid hR.top
    have HSz := Lib.hid hsz
    have hv1 := hv.below hbl
    have HS := Lib.hid (show s.size ≤ 100000 from hB.2.1 s (by simp [flat]))
    have HWd := Lib.hid (wordExpr_any s HS.out _ (hR.below hbl).libs)
    obtain ⟨a, q, c, rfl, hc0, hc1, hlt, hcell⟩ := hv1
    have i0 := hcell 0 (by simp [flat])
    rw [show wdK (flat (.w s)) 0 = s from rfl, Nat.add_zero] at i0
    rw [show (flat (.w s)).length = 1 from rfl] at hc0 ⊢
    have hcc : (1 : Int) ≤ c := by omega
    clear h1 h2 hbl hsz hR hv hcell hok hB
    go_enter Tryz.func84, Tryz.ntmps84
    go_wp2_with fail
    generalize ((w.alloc (.cells #[.int .i64 0, .int .u64 0, .string ⟨#[]⟩, .slice none 0 0] 42)).alloc (.cells #[.int .i64 0, .int .u64 0, .string ⟨#[]⟩, .slice none 0 0] 42)) = W at *
    refine HWd.out.mono ?_
    rintro e w2 ⟨hb, hx⟩
    obtain ⟨cs, rfl, hel⟩ := hx
    rw [HSz.out] at hel
    have hpe : pE (.w s) = chkE (wrdE s) := by simp only [pE]
    generalize wrdE s = x at hel hpe

    obtain ⟨kx, nx, sx, ax⟩ := x
    obtain ⟨A4, c4, rfl, hc4, hA4, hWx⟩ := hel
    have HA := Lib.hid (And.intro hc4 (And.intro hA4 hWx))
    have HPE := Lib.hid (show pE (.w s) = chkE (.mk kx nx sx ax) from hpe)
    have hg1 := (hb.block _ (Array.getElem?_eq_some_iff.1 HX.out.1).1).trans HX.out.1
    have hg2 := (hb.block _ (Array.getElem?_eq_some_iff.1 HX.out.2).1).trans HX.out.2
    have HX2 := Lib.hid (And.intro hg1 hg2)
    have HB2 := Lib.hid (HB.out.trans (hb.mono HB.out.size))
    have HR2 := Lib.hid (HR.out.below hb)
    have y0 := cell_of_row w2 _ 0 _ _ _ hg2
    have y1 := cell_of_row w2 _ 1 _ _ _ hg2
    have y2 := cell_of_row w2 _ 2 _ _ _ hg2
    have y3 := cell_of_row w2 _ 3 _ _ _ hg2
    simp only [List.getElem?_toArray, List.getElem?_cons_zero, List.getElem?_cons_succ] at y0 y1 y2 y3
    have f0 := frozen_of_row w2 _ 0 _ _ hg2
    have f1 := frozen_of_row w2 _ 1 _ _ hg2
    have f2 := frozen_of_row w2 _ 2 _ _ hg2
    have f3 := frozen_of_row w2 _ 3 _ _ hg2
    have hfl := sfill4 hg2 (.int .i64 kx) (.int .u64 nx) (.string sx) (.slice A4 ax.length c4)
    have HFl := Lib.hid hfl
    have HB3 := Lib.hid (bset4 (b := w.heap.size + 1) HB2.out (by omega) (.int .i64 kx) (.int .u64 nx) (.string sx) (.slice A4 ax.length c4))
    have HR3 := Lib.hid (show RdIs R ((((w2.setCell ⟨w.heap.size + 1, 0, none⟩ (.int .i64 kx)).setCell ⟨w.heap.size + 1, 1, none⟩ (.int .u64 nx)).setCell ⟨w.heap.size + 1, 2, none⟩ (.string sx)).setCell ⟨w.heap.size + 1, 3, none⟩ (.slice A4 ax.length c4)) from by
      have ht := HTop.out
      exact HR2.out.move (((((Below.refl R.top w2).setCell (p := ⟨w.heap.size + 1, 0, none⟩) (by show R.top ≤ w.heap.size + 1; omega) _).setCell (p := ⟨w.heap.size + 1, 1, none⟩) (by show R.top ≤ w.heap.size + 1; omega) _).setCell (p := ⟨w.heap.size + 1, 2, none⟩) (by show R.top ≤ w.heap.size + 1; omega) _).setCell (p := ⟨w.heap.size + 1, 3, none⟩) (by show R.top ≤ w.heap.size + 1; omega) _))
    have HM := Lib.hid (mayExpr_any kx nx sx A4 ax.length c4 ((((w2.setCell ⟨w.heap.size + 1, 0, none⟩ (.int .i64 kx)).setCell ⟨w.heap.size + 1, 1, none⟩ (.int .u64 nx)).setCell ⟨w.heap.size + 1, 2, none⟩ (.string sx)).setCell ⟨w.heap.size + 1, 3, none⟩ (.slice A4 ax.length c4)) HR3.out.tabs)
    have HW2s := Lib.hid (show w.heap.size + 1 + 1 ≤ w2.heap.size from by have := (Array.getElem?_eq_some_iff.1 hg2).1; omega)
    clear hb hc4 hA4 hWx hg1 hg2 hfl
    go_wp2_with fail
    refine HM.out.mono ?_
    rintro e w4 ⟨rfl, hb4⟩
    have hg1 := (hb4.block w.heap.size (by have := HW2s.out; simp; omega)).trans ((sfill4_off (by omega) _ _ _ _).trans HX2.out.1)
    have hg2 := (hb4.block _ (Array.getElem?_eq_some_iff.1 HFl.out).1).trans HFl.out
    have HX4 := Lib.hid hg1
    have HB4 := Lib.hid (HB3.out.trans (hb4.mono HB3.out.size))
    cases hx : exB kx nx sx ax.length with
    | false =>
      have HN := Lib.hid (show pE (.w s) = none from HPE.out.trans (chkE_no hx))
      clear hb4 hg1 hg2 y0 y1 y2 y3 f0 f1 f2 f3 hx
      go_wp2_with fail
      refine (twant_no _).mono ?_
      rintro e w5 ⟨rfl, rfl⟩
      exact ⟨rfl, HB4.out, by rw [HN.out]; rfl⟩
    | true =>
      have HN := Lib.hid (show pE (.w s) = some (.mk kx nx sx ax) from HPE.out.trans (chkE_yes hx))
      have hk : ∀ b, NewS (w.heap.size + 1 + 1) w2 b → ((((w4.setCell ⟨w.heap.size, 0, none⟩ (.int .i64 kx)).setCell ⟨w.heap.size, 1, none⟩ (.int .u64 nx)).setCell ⟨w.heap.size, 2, none⟩ (.string sx)).setCell ⟨w.heap.size, 3, none⟩ (.slice A4 ax.length c4)).heap[b]? = w2.heap[b]? := fun b hb => by
        have := hb.1
        have hlt := hb.2.lt
        rw [sfill4_off (by omega), hb4.block b (by simp; omega), sfill4_off (by omega)]
      have HEl := Lib.hid (show ElE ((((w4.setCell ⟨w.heap.size, 0, none⟩ (.int .i64 kx)).setCell ⟨w.heap.size, 1, none⟩ (.int .u64 nx)).setCell ⟨w.heap.size, 2, none⟩ (.string sx)).setCell ⟨w.heap.size, 3, none⟩ (.slice A4 ax.length c4)) (NewS w.heap.size ((((w4.setCell ⟨w.heap.size, 0, none⟩ (.int .i64 kx)).setCell ⟨w.heap.size, 1, none⟩ (.int .u64 nx)).setCell ⟨w.heap.size, 2, none⟩ (.string sx)).setCell ⟨w.heap.size, 3, none⟩ (.slice A4 ax.length c4))) (.mk kx nx sx ax) [.int .i64 kx, .int .u64 nx, .string sx, .slice A4 ax.length c4] from
        ⟨A4, c4, rfl, HA.out.1, HA.out.2.1.move (fun b hb => ⟨by have := hb.1; omega, hb.2.move (hk b hb)⟩) hk, HA.out.2.2⟩)
      have z0 := cell_of_row w4 _ 0 _ _ _ hg1
      have z1 := cell_of_row w4 _ 1 _ _ _ hg1
      have z2 := cell_of_row w4 _ 2 _ _ _ hg1
      have z3 := cell_of_row w4 _ 3 _ _ _ hg1
      have x0 := cell_of_row w4 _ 0 _ _ _ hg2
      have x1 := cell_of_row w4 _ 1 _ _ _ hg2
      have x2 := cell_of_row w4 _ 2 _ _ _ hg2
      have x3 := cell_of_row w4 _ 3 _ _ _ hg2
      simp only [List.getElem?_toArray, List.getElem?_cons_zero, List.getElem?_cons_succ] at z0 z1 z2 z3 x0 x1 x2 x3
      have q0 := frozen_of_row w4 _ 0 _ _ hg1
      have q1 := frozen_of_row w4 _ 1 _ _ hg1
      have q2 := frozen_of_row w4 _ 2 _ _ hg1
      have q3 := frozen_of_row w4 _ 3 _ _ hg1
      clear hb4 hg1 hg2 y0 y1 y2 y3 f0 f1 f2 f3 hx hk
      go_wp2_with fail
      refine (twant_yes _).mono ?_
      rintro e w5 ⟨rfl, rfl⟩
      go_wp2
      refine bodyPost_ret (v := .agg #[.int .i64 kx, .int .u64 nx, .string sx, .slice A4 ax.length c4]) (res_cell4 (j := 4) (b := w.heap.size) rfl rfl (sfill4 HX4.out _ _ _ _)) rfl ⟨bset4 HB4.out (Nat.le_refl _) _ _ _ _, ?_⟩
      rw [HN.out]
      exact ⟨_, rfl, HEl.out⟩
  · intro ts ih hok hB w v hR hv
    obtain ⟨h1, h2, hbl, hsz⟩ := two_new w (.cells #[.int .i64 0, .int .u64 0, .string ⟨#[]⟩, .slice none 0 0] 42) (.cells #[.int .i64 0, .int .u64 0, .string ⟨#[]⟩, .slice none 0 0] 42)
    have HX := Lib.hid (And.intro h1 h2)
    have HB := Lib.hid hbl
    have HR := Lib.hid (hR.below hbl)
    have HTop := Lib.hid hR.top
    have HSz := Lib.hid hsz
    have hv1 := hv.below hbl
    have HBc := Lib.hid (becomeE_of R (.l ts) hok hB (fun ts' e u hu => by cases e; exact ih u hu) _ v (hR.below hbl) hv1)
    have i0 : (((w.alloc (.cells #[.int .i64 0, .int .u64 0, .string ⟨#[]⟩, .slice none 0 0] 42)).alloc (.cells #[.int .i64 0, .int .u64 0, .string ⟨#[]⟩, .slice none 0 0] 42))).cell? ⟨R.r, 3, none⟩ = some (.map (some R.re)) := by rw [cell_of_row _ _ 3 _ _ _ (hR.below hbl).blk]; rfl
    obtain ⟨a, q, c, rfl, hc0, hc1, hlt, hcell⟩ := hv1
    have hfl : (flat (.l ts)).length = (flats ts).length + 2 := by simp [flat]
    have hgt : (1 : Int) < (((flats ts).length + 2 : Nat) : Int) := by omega
    rw [hfl] at HBc ⊢
    generalize (flats ts).length = m at *
    clear h1 h2 hbl hsz hR hv hcell hok hB hfl ih hc0
    go_enter Tryz.func84, Tryz.ntmps84
    go_wp2_with fail
    generalize ((w.alloc (.cells #[.int .i64 0, .int .u64 0, .string ⟨#[]⟩, .slice none 0 0] 42)).alloc (.cells #[.int .i64 0, .int .u64 0, .string ⟨#[]⟩, .slice none 0 0] 42)) = W at *
    refine HBc.out.mono ?_
    rintro e w2 ⟨hb, hx⟩
    cases hbe : becE (.l ts) with
    | none =>
      rw [hbe] at hx
      have hx : e = tlackP := hx
      subst hx
      exact ⟨rfl, HB.out.trans (hb.mono HB.out.size), by rw [pE_l, hbe]; rfl⟩
    | some x =>
    rw [hbe] at hx
    obtain ⟨cs, rfl, hel⟩ := hx
    rw [HSz.out] at hel
    have hpe : pE (.l ts) = chkE x := by rw [pE_l, hbe]; rfl

    obtain ⟨kx, nx, sx, ax⟩ := x
    obtain ⟨A4, c4, rfl, hc4, hA4, hWx⟩ := hel
    have HA := Lib.hid (And.intro hc4 (And.intro hA4 hWx))
    have HPE := Lib.hid (show pE (.l ts) = chkE (.mk kx nx sx ax) from hpe)
    have hg1 := (hb.block _ (Array.getElem?_eq_some_iff.1 HX.out.1).1).trans HX.out.1
    have hg2 := (hb.block _ (Array.getElem?_eq_some_iff.1 HX.out.2).1).trans HX.out.2
    have HX2 := Lib.hid (And.intro hg1 hg2)
    have HB2 := Lib.hid (HB.out.trans (hb.mono HB.out.size))
    have HR2 := Lib.hid (HR.out.below hb)
    have y0 := cell_of_row w2 _ 0 _ _ _ hg2
    have y1 := cell_of_row w2 _ 1 _ _ _ hg2
    have y2 := cell_of_row w2 _ 2 _ _ _ hg2
    have y3 := cell_of_row w2 _ 3 _ _ _ hg2
    simp only [List.getElem?_toArray, List.getElem?_cons_zero, List.getElem?_cons_succ] at y0 y1 y2 y3
    have f0 := frozen_of_row w2 _ 0 _ _ hg2
    have f1 := frozen_of_row w2 _ 1 _ _ hg2
    have f2 := frozen_of_row w2 _ 2 _ _ hg2
    have f3 := frozen_of_row w2 _ 3 _ _ hg2
    have hfl := sfill4 hg2 (.int .i64 kx) (.int .u64 nx) (.string sx) (.slice A4 ax.length c4)
    have HFl := Lib.hid hfl
    have HB3 := Lib.hid (bset4 (b := w.heap.size + 1) HB2.out (by omega) (.int .i64 kx) (.int .u64 nx) (.string sx) (.slice A4 ax.length c4))
    have HR3 := Lib.hid (show RdIs R ((((w2.setCell ⟨w.heap.size + 1, 0, none⟩ (.int .i64 kx)).setCell ⟨w.heap.size + 1, 1, none⟩ (.int .u64 nx)).setCell ⟨w.heap.size + 1, 2, none⟩ (.string sx)).setCell ⟨w.heap.size + 1, 3, none⟩ (.slice A4 ax.length c4)) from by
      have ht := HTop.out
      exact HR2.out.move (((((Below.refl R.top w2).setCell (p := ⟨w.heap.size + 1, 0, none⟩) (by show R.top ≤ w.heap.size + 1; omega) _).setCell (p := ⟨w.heap.size + 1, 1, none⟩) (by show R.top ≤ w.heap.size + 1; omega) _).setCell (p := ⟨w.heap.size + 1, 2, none⟩) (by show R.top ≤ w.heap.size + 1; omega) _).setCell (p := ⟨w.heap.size + 1, 3, none⟩) (by show R.top ≤ w.heap.size + 1; omega) _))
    have HM := Lib.hid (mayExpr_any kx nx sx A4 ax.length c4 ((((w2.setCell ⟨w.heap.size + 1, 0, none⟩ (.int .i64 kx)).setCell ⟨w.heap.size + 1, 1, none⟩ (.int .u64 nx)).setCell ⟨w.heap.size + 1, 2, none⟩ (.string sx)).setCell ⟨w.heap.size + 1, 3, none⟩ (.slice A4 ax.length c4)) HR3.out.tabs)
    have HW2s := Lib.hid (show w.heap.size + 1 + 1 ≤ w2.heap.size from by have := (Array.getElem?_eq_some_iff.1 hg2).1; omega)
    clear hb hc4 hA4 hWx hg1 hg2 hfl
    go_wp2_with fail
    refine HM.out.mono ?_
    rintro e w4 ⟨rfl, hb4⟩
    have hg1 := (hb4.block w.heap.size (by have := HW2s.out; simp; omega)).trans ((sfill4_off (by omega) _ _ _ _).trans HX2.out.1)
    have hg2 := (hb4.block _ (Array.getElem?_eq_some_iff.1 HFl.out).1).trans HFl.out
    have HX4 := Lib.hid hg1
    have HB4 := Lib.hid (HB3.out.trans (hb4.mono HB3.out.size))
    cases hx : exB kx nx sx ax.length with
    | false =>
      have HN := Lib.hid (show pE (.l ts) = none from HPE.out.trans (chkE_no hx))
      clear hb4 hg1 hg2 y0 y1 y2 y3 f0 f1 f2 f3 hx
      go_wp2_with fail
      refine (twant_no _).mono ?_
      rintro e w5 ⟨rfl, rfl⟩
      exact ⟨rfl, HB4.out, by rw [HN.out]; rfl⟩
    | true =>
      have HN := Lib.hid (show pE (.l ts) = some (.mk kx nx sx ax) from HPE.out.trans (chkE_yes hx))
      have hk : ∀ b, NewS (w.heap.size + 1 + 1) w2 b → ((((w4.setCell ⟨w.heap.size, 0, none⟩ (.int .i64 kx)).setCell ⟨w.heap.size, 1, none⟩ (.int .u64 nx)).setCell ⟨w.heap.size, 2, none⟩ (.string sx)).setCell ⟨w.heap.size, 3, none⟩ (.slice A4 ax.length c4)).heap[b]? = w2.heap[b]? := fun b hb => by
        have := hb.1
        have hlt := hb.2.lt
        rw [sfill4_off (by omega), hb4.block b (by simp; omega), sfill4_off (by omega)]
      have HEl := Lib.hid (show ElE ((((w4.setCell ⟨w.heap.size, 0, none⟩ (.int .i64 kx)).setCell ⟨w.heap.size, 1, none⟩ (.int .u64 nx)).setCell ⟨w.heap.size, 2, none⟩ (.string sx)).setCell ⟨w.heap.size, 3, none⟩ (.slice A4 ax.length c4)) (NewS w.heap.size ((((w4.setCell ⟨w.heap.size, 0, none⟩ (.int .i64 kx)).setCell ⟨w.heap.size, 1, none⟩ (.int .u64 nx)).setCell ⟨w.heap.size, 2, none⟩ (.string sx)).setCell ⟨w.heap.size, 3, none⟩ (.slice A4 ax.length c4))) (.mk kx nx sx ax) [.int .i64 kx, .int .u64 nx, .string sx, .slice A4 ax.length c4] from
        ⟨A4, c4, rfl, HA.out.1, HA.out.2.1.move (fun b hb => ⟨by have := hb.1; omega, hb.2.move (hk b hb)⟩) hk, HA.out.2.2⟩)
      have z0 := cell_of_row w4 _ 0 _ _ _ hg1
      have z1 := cell_of_row w4 _ 1 _ _ _ hg1
      have z2 := cell_of_row w4 _ 2 _ _ _ hg1
      have z3 := cell_of_row w4 _ 3 _ _ _ hg1
      have x0 := cell_of_row w4 _ 0 _ _ _ hg2
      have x1 := cell_of_row w4 _ 1 _ _ _ hg2
      have x2 := cell_of_row w4 _ 2 _ _ _ hg2
      have x3 := cell_of_row w4 _ 3 _ _ _ hg2
      simp only [List.getElem?_toArray, List.getElem?_cons_zero, List.getElem?_cons_succ] at z0 z1 z2 z3 x0 x1 x2 x3
      have q0 := frozen_of_row w4 _ 0 _ _ hg1
      have q1 := frozen_of_row w4 _ 1 _ _ hg1
      have q2 := frozen_of_row w4 _ 2 _ _ hg1
      have q3 := frozen_of_row w4 _ 3 _ _ hg1
      clear hb4 hg1 hg2 y0 y1 y2 y3 f0 f1 f2 f3 hx hk
      go_wp2_with fail
      refine (twant_yes _).mono ?_
      rintro e w5 ⟨rfl, rfl⟩
      go_wp2
      refine bodyPost_ret (v := .agg #[.int .i64 kx, .int .u64 nx, .string sx, .slice A4 ax.length c4]) (res_cell4 (j := 4) (b := w.heap.size) rfl rfl (sfill4 HX4.out _ _ _ _)) rfl ⟨bset4 HB4.out (Nat.le_refl _) _ _ _ _, ?_⟩
      rw [HN.out]
      exact ⟨_, rfl, HEl.out⟩
end Go.Proofs.YtbhdbglhejibbaaGreatDoor
