/- Layer 10: two trees held against each other, plainly: what the lists that wait lead to. No condition.
   Layer 10: a matcher as it lies: the rows of pairs that wait, the maps of those that are known. No condition.
   Layer 10: two lists are let wait: put. Condition: the trees' blocks are plain.
   Layer 10: two lists of one length are let wait. Condition: the trees' blocks are plain.
   Layer 10: two expressions held against each other. Condition: the trees' blocks are plain.
   Layer 10: two statements held against each other, where they are alike. Condition: the trees' blocks are plain. -/
import Derived.Test.YtbhdbglhejibbaaGreatDoorTraE
namespace Go.Proofs.YtbhdbglhejibbaaGreatDoor
set_option maxRecDepth 100000
open Go.RowKit
set_option linter.unusedVariables false
def exHead : ExprD → Int × Int × ByteArray
  | .mk k n s _ => (k, n, s)
def exArgs : ExprD → List ExprD
  | .mk _ _ _ a => a
def stHead : StmtD → Int × ByteArray × Int
  | .mk k s n _ _ _ => (k, s, n)
def stArgs : StmtD → List ExprD
  | .mk _ _ _ a _ _ => a
def stOne : StmtD → List StmtD
  | .mk _ _ _ _ a _ => a
def stTwo : StmtD → List StmtD
  | .mk _ _ _ _ _ a => a
theorem ex_eq {x y : ExprD} (h : exHead x = exHead y) (ha : exArgs x = exArgs y) : x = y := by
  obtain ⟨k, n, s, a⟩ := x
  obtain ⟨k', n', s', a'⟩ := y
  simp only [exHead, exArgs, Prod.mk.injEq] at h ha
  obtain ⟨rfl, rfl, rfl⟩ := h
  rw [ha]
theorem st_eq {x y : StmtD} (h : stHead x = stHead y) (ha : stArgs x = stArgs y) (h1 : stOne x = stOne y) (h2 : stTwo x = stTwo y) : x = y := by
  obtain ⟨k, s, n, a, b, c⟩ := x
  obtain ⟨k', s', n', a', b', c'⟩ := y
  simp only [stHead, stArgs, stOne, stTwo, Prod.mk.injEq] at h ha h1 h2
  obtain ⟨rfl, rfl, rfl⟩ := h
  rw [ha, h1, h2]
mutual
/-- how many lists hang on an expression -/
def exNz : ExprD → Nat
  | .mk _ _ _ args => exsNz args
def exsNz : List ExprD → Nat
  | [] => 1
  | e :: es => exNz e + exsNz es
end
mutual
def stNz : StmtD → Nat
  | .mk _ _ _ args one two => exsNz args + (stsNz one + stsNz two)
def stsNz : List StmtD → Nat
  | [] => 1
  | e :: es => stNz e + stsNz es
end
theorem exNz_eq (e : ExprD) : exNz e = exsNz (exArgs e) := by cases e; unfold exNz; rfl
theorem stNz_eq (e : StmtD) : stNz e = exsNz (stArgs e) + (stsNz (stOne e) + stsNz (stTwo e)) := by cases e; unfold stNz; rfl
theorem exsNz_pos : ∀ l : List ExprD, 1 ≤ exsNz l
  | [] => by unfold exsNz; omega
  | e :: es => by unfold exsNz; have := exsNz_pos es; omega
theorem stsNz_pos : ∀ l : List StmtD, 1 ≤ stsNz l
  | [] => by unfold stsNz; omega
  | e :: es => by unfold stsNz; have := stsNz_pos es; omega
theorem exsNz_snoc : ∀ (l : List ExprD) (e : ExprD), exsNz (l ++ [e]) = exsNz l + exNz e
  | [], e => by simp only [List.nil_append, exsNz]; omega
  | x :: l, e => by simp only [List.cons_append, exsNz, exsNz_snoc l e]; omega
theorem stsNz_snoc : ∀ (l : List StmtD) (e : StmtD), stsNz (l ++ [e]) = stsNz l + stNz e
  | [], e => by simp only [List.nil_append, stsNz]; omega
  | x :: l, e => by simp only [List.cons_append, stsNz, stsNz_snoc l e]; omega
theorem exsNz_mem : ∀ {l : List ExprD} {e : ExprD}, e ∈ l → exNz e < exsNz l
  | x :: l, e, h => by
    unfold exsNz
    rcases List.mem_cons.1 h with rfl | h
    · have := exsNz_pos l; omega
    · have := exsNz_mem h; omega
theorem stsNz_mem : ∀ {l : List StmtD} {e : StmtD}, e ∈ l → stNz e < stsNz l
  | x :: l, e, h => by
    unfold stsNz
    rcases List.mem_cons.1 h with rfl | h
    · have := stsNz_pos l; omega
    · have := stsNz_mem h; omega
/-- a pair of lists by where they lie: block and place of each, and how long both are -/
abbrev TwK := Nat × Nat × Nat × Nat × Nat
abbrev TwL (α : Type) := List (TwK × List α × List α)
def InV {α : Type} (V : TwL α) (a b : List α) : Prop := ∃ k, (k, a, b) ∈ V
def EqV {α : Type} (V : TwL α) : Prop := ∀ x ∈ V, x.2.1 = x.2.2
/-- two lists are equally long, and empty or known -/
def PutOk {α : Type} (V : TwL α) (a b : List α) : Prop := a.length = b.length ∧ (a = [] ∨ InV V a b)
def ExOk (V : TwL ExprD) (x y : ExprD) : Prop := exHead x = exHead y ∧ PutOk V (exArgs x) (exArgs y)
def StOk (V : TwL ExprD) (U : TwL StmtD) (x y : StmtD) : Prop := stHead x = stHead y ∧ PutOk V (stArgs x) (stArgs y) ∧ PutOk U (stOne x) (stOne y) ∧ PutOk U (stTwo x) (stTwo y)
/-- alike, element by element -/
def AllOk {α : Type} (R : α → α → Prop) (a b : List α) : Prop := a.length = b.length ∧ ∀ i (h : i < a.length) (h' : i < b.length), R a[i] b[i]
theorem InV.mono {α : Type} {V V' : TwL α} {a b : List α} (hs : ∀ x ∈ V, x ∈ V') (h : InV V a b) : InV V' a b := by obtain ⟨k, h⟩ := h; exact ⟨k, hs _ h⟩
theorem PutOk.mono {α : Type} {V V' : TwL α} {a b : List α} (hs : ∀ x ∈ V, x ∈ V') (h : PutOk V a b) : PutOk V' a b := ⟨h.1, h.2.imp id (InV.mono hs)⟩
theorem ExOk.mono {V V' : TwL ExprD} {x y : ExprD} (hs : ∀ x ∈ V, x ∈ V') (h : ExOk V x y) : ExOk V' x y := ⟨h.1, h.2.mono hs⟩
theorem StOk.mono {V V' : TwL ExprD} {U U' : TwL StmtD} {x y : StmtD} (hs : ∀ x ∈ V, x ∈ V') (hu : ∀ x ∈ U, x ∈ U') (h : StOk V U x y) : StOk V' U' x y := ⟨h.1, h.2.1.mono hs, h.2.2.1.mono hu, h.2.2.2.mono hu⟩
theorem AllOk.mono {α : Type} {R R' : α → α → Prop} {a b : List α} (hr : ∀ x y, R x y → R' x y) (h : AllOk R a b) : AllOk R' a b := ⟨h.1, fun i h1 h2 => hr _ _ (h.2 i h1 h2)⟩
/-- all pairs of expressions are gone through: so they are alike -/
theorem same_of_done {V : TwL ExprD} (h : ∀ x ∈ V, AllOk (ExOk V) x.2.1 x.2.2) : ∀ (n : Nat) (a b : List ExprD), exsNz a ≤ n → AllOk (ExOk V) a b → a = b
  | 0, a, b, hn, _ => by have := exsNz_pos a; omega
  | n + 1, a, b, hn, hk => by
    refine List.ext_getElem hk.1 fun i h1 h2 => ?_
    obtain ⟨g1, g2, g3⟩ := hk.2 i h1 h2
    refine ex_eq g1 ?_
    rcases g3 with e | ⟨k, hm⟩
    · rw [e] at g2 ⊢
      exact (List.length_eq_zero_iff.1 (by simpa using g2.symm)).symm
    · have := exsNz_mem (List.getElem_mem h1)
      rw [exNz_eq] at this
      exact same_of_done h n _ _ (by omega) (h _ hm)
theorem put_eqE {V : TwL ExprD} (h : ∀ x ∈ V, AllOk (ExOk V) x.2.1 x.2.2) {a b : List ExprD} (hp : PutOk V a b) : a = b := by
  rcases hp with ⟨g2, e | ⟨k, hm⟩⟩
  · subst e
    exact (List.length_eq_zero_iff.1 (by simpa using g2.symm)).symm
  · exact same_of_done h _ _ _ (Nat.le_refl _) (h _ hm)
theorem same_of_doneS {V : TwL ExprD} {U : TwL StmtD} (hV : ∀ x ∈ V, AllOk (ExOk V) x.2.1 x.2.2) (h : ∀ x ∈ U, AllOk (StOk V U) x.2.1 x.2.2) : ∀ (n : Nat) (a b : List StmtD), stsNz a ≤ n → AllOk (StOk V U) a b → a = b
  | 0, a, b, hn, _ => by have := stsNz_pos a; omega
  | n + 1, a, b, hn, hk => by
    refine List.ext_getElem hk.1 fun i h1 h2 => ?_
    obtain ⟨g1, g2, g3, g4⟩ := hk.2 i h1 h2
    have hz := stsNz_mem (List.getElem_mem h1)
    rw [stNz_eq] at hz
    have he := exsNz_pos (stArgs a[i])
    have hp := stsNz_pos (stOne a[i])
    have hq := stsNz_pos (stTwo a[i])
    refine st_eq g1 (put_eqE hV g2) ?_ ?_
    · rcases g3 with ⟨g3, e | ⟨k, hm⟩⟩
      · rw [e] at g3 ⊢
        exact (List.length_eq_zero_iff.1 (by simpa using g3.symm)).symm
      · exact same_of_doneS hV h n _ _ (by omega) (h _ hm)
    · rcases g4 with ⟨g3, e | ⟨k, hm⟩⟩
      · rw [e] at g3 ⊢
        exact (List.length_eq_zero_iff.1 (by simpa using g3.symm)).symm
      · exact same_of_doneS hV h n _ _ (by omega) (h _ hm)
theorem put_eqS {V : TwL ExprD} {U : TwL StmtD} (hV : ∀ x ∈ V, AllOk (ExOk V) x.2.1 x.2.2) (h : ∀ x ∈ U, AllOk (StOk V U) x.2.1 x.2.2) {a b : List StmtD} (hp : PutOk U a b) : a = b := by
  rcases hp with ⟨g2, e | ⟨k, hm⟩⟩
  · subst e
    exact (List.length_eq_zero_iff.1 (by simpa using g2.symm)).symm
  · exact same_of_doneS hV h _ _ _ (Nat.le_refl _) (h _ hm)
/-! ### what is known, and what waits -/
abbrev WtL (α : Type) := List (TwK × (Nat × Nat) × List α × List α)
structure McS where
  vs : TwL StmtD
  ws : WtL StmtD
  ve : TwL ExprD
  we : WtL ExprD
def phS (l : WtL StmtD) : Nat := (l.map fun x => stsNz x.2.2.1).sum
def phE (l : WtL ExprD) : Nat := (l.map fun x => exsNz x.2.2.1).sum
theorem phS_snoc (l : WtL StmtD) (x : TwK × (Nat × Nat) × List StmtD × List StmtD) : phS (l ++ [x]) = phS l + stsNz x.2.2.1 := by unfold phS; simp
theorem phE_snoc (l : WtL ExprD) (x : TwK × (Nat × Nat) × List ExprD × List ExprD) : phE (l ++ [x]) = phE l + exsNz x.2.2.1 := by unfold phE; simp
theorem phS_len : ∀ l : WtL StmtD, l.length ≤ phS l
  | [] => Nat.zero_le _
  | x :: l => by
    have h := phS_len l
    have := stsNz_pos x.2.2.1
    unfold phS at h ⊢
    rw [List.length_cons, List.map_cons, List.sum_cons]
    omega
theorem phE_len : ∀ l : WtL ExprD, l.length ≤ phE l
  | [] => Nat.zero_le _
  | x :: l => by
    have h := phE_len l
    have := exsNz_pos x.2.2.1
    unfold phE at h ⊢
    rw [List.length_cons, List.map_cons, List.sum_cons]
    omega
def McS.phi (σ : McS) : Nat := phS σ.ws + phE σ.we
/-- more is known, and what is new waits; where G holds it is alike -/
structure Grow (G : Prop) (σ τ : McS) : Prop where
  sv : ∀ x ∈ σ.vs, x ∈ τ.vs
  ev : ∀ x ∈ σ.ve, x ∈ τ.ve
  sw : ∀ x ∈ σ.ws, x ∈ τ.ws
  ew : ∀ x ∈ σ.we, x ∈ τ.we
  sn : ∀ x ∈ τ.vs, x ∈ σ.vs ∨ ∃ c, (x.1, c, x.2) ∈ τ.ws
  en : ∀ x ∈ τ.ve, x ∈ σ.ve ∨ ∃ c, (x.1, c, x.2) ∈ τ.we
  sq : ∀ x ∈ τ.vs, x ∈ σ.vs ∨ (G → x.2.1 = x.2.2)
  eq : ∀ x ∈ τ.ve, x ∈ σ.ve ∨ (G → x.2.1 = x.2.2)
theorem Grow.refl (G : Prop) (σ : McS) : Grow G σ σ := ⟨fun _ h => h, fun _ h => h, fun _ h => h, fun _ h => h, fun _ h => .inl h, fun _ h => .inl h, fun _ h => .inl h, fun _ h => .inl h⟩
theorem Grow.trans {G : Prop} {σ τ υ : McS} (h : Grow G σ τ) (k : Grow G τ υ) : Grow G σ υ where
  sv := fun x hx => k.sv x (h.sv x hx)
  ev := fun x hx => k.ev x (h.ev x hx)
  sw := fun x hx => k.sw x (h.sw x hx)
  ew := fun x hx => k.ew x (h.ew x hx)
  sn := fun x hx => by
    rcases k.sn x hx with g | g
    · rcases h.sn x g with g | ⟨c, g⟩
      · exact .inl g
      · exact .inr ⟨c, k.sw _ g⟩
    · exact .inr g
  en := fun x hx => by
    rcases k.en x hx with g | g
    · rcases h.en x g with g | ⟨c, g⟩
      · exact .inl g
      · exact .inr ⟨c, k.ew _ g⟩
    · exact .inr g
  sq := fun x hx => by
    rcases k.sq x hx with g | g
    · exact h.sq x g
    · exact .inr g
  eq := fun x hx => by
    rcases k.eq x hx with g | g
    · exact h.eq x g
    · exact .inr g
def putS (σ : McS) (k : TwK) (c : Nat × Nat) (a b : List StmtD) : McS := if k ∈ σ.vs.map (·.1) then σ else { σ with vs := σ.vs ++ [(k, a, b)], ws := σ.ws ++ [(k, c, a, b)] }
def putE (σ : McS) (k : TwK) (c : Nat × Nat) (a b : List ExprD) : McS := if k ∈ σ.ve.map (·.1) then σ else { σ with ve := σ.ve ++ [(k, a, b)], we := σ.we ++ [(k, c, a, b)] }
theorem putS_grow {G : Prop} {σ : McS} {k : TwK} {c : Nat × Nat} {a b : List StmtD} (hq : G → a = b) : Grow G σ (putS σ k c a b) := by
  unfold putS
  split
  · exact Grow.refl G σ
  · refine ⟨fun x h => List.mem_append_left _ h, fun x h => h, fun x h => List.mem_append_left _ h, fun x h => h, fun x h => ?_, fun x h => .inl h, fun x h => ?_, fun x h => .inl h⟩
    · rcases List.mem_append.1 h with h | h
      · exact .inl h
      · rw [List.mem_singleton] at h
        subst h
        exact .inr ⟨c, List.mem_append_right _ (List.mem_singleton.2 rfl)⟩
    · rcases List.mem_append.1 h with h | h
      · exact .inl h
      · rw [List.mem_singleton] at h
        subst h
        exact .inr hq
theorem putE_grow {G : Prop} {σ : McS} {k : TwK} {c : Nat × Nat} {a b : List ExprD} (hq : G → a = b) : Grow G σ (putE σ k c a b) := by
  unfold putE
  split
  · exact Grow.refl G σ
  · refine ⟨fun x h => h, fun x h => List.mem_append_left _ h, fun x h => h, fun x h => List.mem_append_left _ h, fun x h => .inl h, fun x h => ?_, fun x h => .inl h, fun x h => ?_⟩
    · rcases List.mem_append.1 h with h | h
      · exact .inl h
      · rw [List.mem_singleton] at h
        subst h
        exact .inr ⟨c, List.mem_append_right _ (List.mem_singleton.2 rfl)⟩
    · rcases List.mem_append.1 h with h | h
      · exact .inl h
      · rw [List.mem_singleton] at h
        subst h
        exact .inr hq
theorem putS_phi (σ : McS) (k : TwK) (c : Nat × Nat) (a b : List StmtD) : (putS σ k c a b).phi ≤ σ.phi + stsNz a := by
  unfold putS
  split
  · omega
  · unfold McS.phi
    simp only [phS_snoc]
    omega
theorem putE_phi (σ : McS) (k : TwK) (c : Nat × Nat) (a b : List ExprD) : (putE σ k c a b).phi ≤ σ.phi + exsNz a := by
  unfold putE
  split
  · omega
  · unfold McS.phi
    simp only [phE_snoc]
    omega
/-! ### what lies at one place is one list -/
section
variable {w : World} {S : Nat → Prop}
mutual
theorem ExprAt.det : ∀ (e e' : ExprD) {b o : Nat}, ExprAt w S e b o → ExprAt w S e' b o → e = e'
  | .mk k n s args, .mk k' n' s' args', b, o, h, h' => by
    unfold ExprAt at h h'
    obtain ⟨g0, g1, g2, A, c, g3, g4, g5⟩ := h
    obtain ⟨q0, q1, q2, A', c', q3, q4, q5⟩ := h'
    rw [g0] at q0; rw [g1] at q1; rw [g2] at q2; rw [g3] at q3
    cases q0; cases q1; cases q2
    have hA : A = A' ∧ args.length = args'.length := by
      have := Option.some.inj q3
      simp only [Value.slice.injEq] at this
      exact ⟨this.1, by omega⟩
    obtain ⟨rfl, hl⟩ := hA
    have : args = args' := by
      rcases g5 with e | ⟨b1, o1, e, _, g6⟩
      · subst e
        exact (List.length_eq_zero_iff.1 (by simpa using hl.symm)).symm
      · rcases q5 with e2 | ⟨b2, o2, e2, _, q6⟩
        · subst e2
          exact List.length_eq_zero_iff.1 (by simpa using hl)
        · rw [e] at e2
          cases e2
          exact ExprsIn.det args args' hl g6 q6
    rw [this]
theorem ExprsIn.det : ∀ (l l' : List ExprD) {b o : Nat}, l.length = l'.length → ExprsIn w S l b o → ExprsIn w S l' b o → l = l'
  | [], [], _, _, _, _, _ => rfl
  | e :: es, e' :: es', b, o, hl, h, h' => by
    rw [ExprAt.det e e' h.1 h'.1, ExprsIn.det es es' (by simpa using hl) h.2 h'.2]
end
theorem ExprsAt.det {l l' : List ExprD} {A : Option Addr} (hl : l.length = l'.length) (h : ExprsAt w S l A) (h' : ExprsAt w S l' A) : l = l' := by
  rcases h with e | ⟨b, o, e, _, g⟩
  · subst e
    exact (List.length_eq_zero_iff.1 (by simpa using hl.symm)).symm
  · rcases h' with e2 | ⟨b2, o2, e2, _, q⟩
    · subst e2
      exact List.length_eq_zero_iff.1 (by simpa using hl)
    · rw [e] at e2
      cases e2
      exact ExprsIn.det l l' hl g q
mutual
theorem StmtAt.det : ∀ (e e' : StmtD) {b o : Nat}, StmtAt w S e b o → StmtAt w S e' b o → e = e'
  | .mk k s n args one two, .mk k' s' n' args' one' two', b, o, h, h' => by
    unfold StmtAt at h h'
    obtain ⟨g0, g1, g2, ⟨A, c, g3, g4, g5⟩, ⟨A1, c1, g6, g7, g8⟩, A2, c2, g9, g10, g11⟩ := h
    obtain ⟨q0, q1, q2, ⟨B, d, q3, q4, q5⟩, ⟨B1, d1, q6, q7, q8⟩, B2, d2, q9, q10, q11⟩ := h'
    rw [g0] at q0; rw [g1] at q1; rw [g2] at q2; rw [g3] at q3; rw [g6] at q6; rw [g9] at q9
    cases q0; cases q1; cases q2
    have hA : A = B ∧ args.length = args'.length := by
      have := Option.some.inj q3
      simp only [Value.slice.injEq] at this
      exact ⟨this.1, by omega⟩
    have hA1 : A1 = B1 ∧ one.length = one'.length := by
      have := Option.some.inj q6
      simp only [Value.slice.injEq] at this
      exact ⟨this.1, by omega⟩
    have hA2 : A2 = B2 ∧ two.length = two'.length := by
      have := Option.some.inj q9
      simp only [Value.slice.injEq] at this
      exact ⟨this.1, by omega⟩
    obtain ⟨rfl, hl⟩ := hA
    obtain ⟨rfl, hl1⟩ := hA1
    obtain ⟨rfl, hl2⟩ := hA2
    have e1 : one = one' := by
      rcases g8 with e | ⟨b1, o1, e, _, g⟩
      · subst e
        exact (List.length_eq_zero_iff.1 (by simpa using hl1.symm)).symm
      · rcases q8 with e2 | ⟨b2, o2, e2, _, q⟩
        · subst e2
          exact List.length_eq_zero_iff.1 (by simpa using hl1)
        · rw [e] at e2
          cases e2
          exact StmtsIn.det one one' hl1 g q
    have e2 : two = two' := by
      rcases g11 with e | ⟨b1, o1, e, _, g⟩
      · subst e
        exact (List.length_eq_zero_iff.1 (by simpa using hl2.symm)).symm
      · rcases q11 with e2 | ⟨b2, o2, e2, _, q⟩
        · subst e2
          exact List.length_eq_zero_iff.1 (by simpa using hl2)
        · rw [e] at e2
          cases e2
          exact StmtsIn.det two two' hl2 g q
    rw [ExprsAt.det hl g5 q5, e1, e2]
theorem StmtsIn.det : ∀ (l l' : List StmtD) {b o : Nat}, l.length = l'.length → StmtsIn w S l b o → StmtsIn w S l' b o → l = l'
  | [], [], _, _, _, _, _ => rfl
  | e :: es, e' :: es', b, o, hl, h, h' => by
    rw [StmtAt.det e e' h.1 h'.1, StmtsIn.det es es' (by simpa using hl) h.2 h'.2]
end
end
end Go.Proofs.YtbhdbglhejibbaaGreatDoor
namespace Go.Proofs.YtbhdbglhejibbaaGreatDoor
set_option maxRecDepth 100000
open Go.RowKit
set_option linter.unusedVariables false
/-- where a matcher stands: the world in which both trees lie, their blocks, the matcher's block, its rows', their maps' -/
structure McC where
  w0 : World
  S : Nat → Prop
  p : Nat
  rs : Nat
  re : Nat
  ms : Nat
  me : Nat
  B : Nat
def twV (k : TwK) : Value := .agg #[.pointer (some ⟨k.1, k.2.1, none⟩), .pointer (some ⟨k.2.2.1, k.2.2.2.1, none⟩), .int .i64 k.2.2.2.2]
def prC {α : Type} (x : TwK × (Nat × Nat) × List α × List α) : List Value := [.slice (some ⟨x.1.1, x.1.2.1, none⟩) x.1.2.2.2.2 x.2.1.1, .slice (some ⟨x.1.2.2.1, x.1.2.2.2.1, none⟩) x.1.2.2.2.2 x.2.1.2]
def LayS (w : World) (S : Nat → Prop) (x : TwK × List StmtD × List StmtD) : Prop := S x.1.1 ∧ S x.1.2.2.1 ∧ 0 < x.1.2.2.2.2 ∧ x.2.1.length = x.1.2.2.2.2 ∧ x.2.2.length = x.1.2.2.2.2 ∧ StmtsIn w S x.2.1 x.1.1 x.1.2.1 ∧ StmtsIn w S x.2.2 x.1.2.2.1 x.1.2.2.2.1
def LayE (w : World) (S : Nat → Prop) (x : TwK × List ExprD × List ExprD) : Prop := S x.1.1 ∧ S x.1.2.2.1 ∧ 0 < x.1.2.2.2.2 ∧ x.2.1.length = x.1.2.2.2.2 ∧ x.2.2.length = x.1.2.2.2.2 ∧ ExprsIn w S x.2.1 x.1.1 x.1.2.1 ∧ ExprsIn w S x.2.2 x.1.2.2.1 x.1.2.2.2.1
structure McOk (C : McC) : Prop where
  flat : ∀ b, C.S b → PlB C.w0 b
  order : C.p < C.B ∧ C.rs < C.B ∧ C.re < C.B ∧ C.ms < C.B ∧ C.me < C.B
  apart : C.p ≠ C.rs ∧ C.p ≠ C.re ∧ C.p ≠ C.ms ∧ C.p ≠ C.me ∧ C.rs ≠ C.re ∧ C.rs ≠ C.ms ∧ C.rs ≠ C.me ∧ C.re ≠ C.ms ∧ C.re ≠ C.me ∧ C.ms ≠ C.me
theorem PlB.ltU {w : World} {b : Nat} (h : PlB w b) : b < w.heap.size := by obtain ⟨cs, T, e⟩ := h; exact (Array.getElem?_eq_some_iff.1 e).1
structure McV (C : McC) (F : Nat → Prop) (w : World) (σ : McS) (us ue : Value) : Prop where
  ok : McOk C
  blk : w.heap[C.p]? = some (.cells #[.pointer (some ⟨C.rs, 0, none⟩), .pointer (some ⟨C.re, 0, none⟩)] 132 (0, 0))
  blS : w.heap[C.rs]? = some (.cells #[us, .map (some C.ms)] 164 (0, 0))
  blE : w.heap[C.re]? = some (.cells #[ue, .map (some C.me)] 168 (0, 0))
  rowS : w.ownsRow C.B 174 2 us σ.ws.length (σ.ws.flatMap prC)
  rowE : w.ownsRow C.B 177 2 ue σ.we.length (σ.we.flatMap prC)
  mapS : SetAt twV w C.ms (σ.vs.map (·.1))
  mapE : SetAt twV w C.me (σ.ve.map (·.1))
  layS : ∀ x ∈ σ.vs, LayS C.w0 C.S x
  layE : ∀ x ∈ σ.ve, LayE C.w0 C.S x
  inS : ∀ x ∈ σ.ws, (x.1, x.2.2) ∈ σ.vs
  inE : ∀ x ∈ σ.we, (x.1, x.2.2) ∈ σ.ve
  off : ∀ b, us.ownBlock = some b → ue.ownBlock ≠ some b
  fp : F C.rs ∧ F C.re ∧ F C.ms ∧ F C.me
  fs : ∀ b, us.ownBlock = some b → F b
  fe : ∀ b, ue.ownBlock = some b → F b
  fn : ∀ b, w.heap.size ≤ b → F b
  fk : ∀ b, F b → C.w0.heap.size ≤ b
  base : Below C.w0.heap.size C.w0 w
  bound : C.B ≤ w.heap.size
def McIs (C : McC) (F : Nat → Prop) (w : World) (σ : McS) : Prop := ∃ us ue, McV C F w σ us ue
section
variable {C : McC} {F : Nat → Prop} {w w1 w2 w' : World} {σ : McS} {us ue : Value}
theorem McV.big (h : McV C F w σ us ue) : C.w0.heap.size ≤ w.heap.size := h.base.size
theorem McV.ltP (h : McV C F w σ us ue) : C.p < w.heap.size := (Array.getElem?_eq_some_iff.1 h.blk).1
theorem McV.ltS (h : McV C F w σ us ue) : C.rs < w.heap.size := (Array.getElem?_eq_some_iff.1 h.blS).1
theorem McV.ltE (h : McV C F w σ us ue) : C.re < w.heap.size := (Array.getElem?_eq_some_iff.1 h.blE).1
theorem McV.cp0 (h : McV C F w σ us ue) : w.cell? ⟨C.p, 0, none⟩ = some (.pointer (some ⟨C.rs, 0, none⟩)) := by rw [cell_of_row w C.p 0 _ _ _ h.blk]; rfl
theorem McV.cp1 (h : McV C F w σ us ue) : w.cell? ⟨C.p, 1, none⟩ = some (.pointer (some ⟨C.re, 0, none⟩)) := by rw [cell_of_row w C.p 1 _ _ _ h.blk]; rfl
theorem McV.cs0 (h : McV C F w σ us ue) : w.cell? ⟨C.rs, 0, none⟩ = some us := by rw [cell_of_row w C.rs 0 _ _ _ h.blS]; rfl
theorem McV.cs1 (h : McV C F w σ us ue) : w.cell? ⟨C.rs, 1, none⟩ = some (.map (some C.ms)) := by rw [cell_of_row w C.rs 1 _ _ _ h.blS]; rfl
theorem McV.ce0 (h : McV C F w σ us ue) : w.cell? ⟨C.re, 0, none⟩ = some ue := by rw [cell_of_row w C.re 0 _ _ _ h.blE]; rfl
theorem McV.ce1 (h : McV C F w σ us ue) : w.cell? ⟨C.re, 1, none⟩ = some (.map (some C.me)) := by rw [cell_of_row w C.re 1 _ _ _ h.blE]; rfl
theorem McV.zs (h : McV C F w σ us ue) (i : Nat) : w.frozen? ⟨C.rs, i, none⟩ = false := frozen_of_row w C.rs i _ _ h.blS
theorem McV.ze (h : McV C F w σ us ue) (i : Nat) : w.frozen? ⟨C.re, i, none⟩ = false := frozen_of_row w C.re i _ _ h.blE
theorem McV.flat (h : McV C F w σ us ue) {b : Nat} (hb : C.S b) : PlB w b := by
  obtain ⟨cs, T, e⟩ := h.ok.flat b hb
  exact ⟨cs, T, (h.base.block b (h.ok.flat b hb).ltU).trans e⟩
/-- what lies in the trees' blocks lies there still -/
theorem McV.keep (h : McV C F w σ us ue) (b : Nat) (hb : C.S b) : w.heap[b]? = C.w0.heap[b]? := h.base.block b (h.ok.flat b hb).ltU
theorem McV.below (h : McV C F w σ us ue) (hb : Below w.heap.size w w') : McV C F w' σ us ue :=
  { h with
    blk := (hb.block _ h.ltP).trans h.blk
    blS := (hb.block _ h.ltS).trans h.blS
    blE := (hb.block _ h.ltE).trans h.blE
    rowS := rowO_below h.rowS hb
    rowE := rowO_below h.rowE hb
    mapS := h.mapS.move (hb.block _ h.mapS.lt)
    mapE := h.mapE.move (hb.block _ h.mapE.lt)
    fn := fun b h' => h.fn b (Nat.le_trans hb.size h')
    base := h.base.trans (hb.mono h.big)
    bound := Nat.le_trans h.bound hb.size }
theorem McIs.below (h : McIs C F w σ) (hb : Below w.heap.size w w') : McIs C F w' σ := by obtain ⟨us, ue, h⟩ := h; exact ⟨us, ue, h.below hb⟩
theorem McIs.box (h : McIs C F w σ) (x : Obj) : McIs C (NBo F w.heap.size) (w.alloc x) σ := by
  obtain ⟨us, ue, h⟩ := h
  have hb := h.below ((Below.refl w.heap.size w).alloc (Nat.le_refl _) x)
  have h1 := h.ltS
  have h2 := h.ltE
  have h3 := h.mapS.lt
  have h4 := h.mapE.lt
  refine ⟨us, ue, { hb with fp := ⟨⟨hb.fp.1, by omega⟩, ⟨hb.fp.2.1, by omega⟩, ⟨hb.fp.2.2.1, by omega⟩, hb.fp.2.2.2, by omega⟩, fs := fun b e => ⟨hb.fs b e, ?_⟩, fe := fun b e => ⟨hb.fe b e, ?_⟩, fn := fun b e => ⟨hb.fn b e, ?_⟩, fk := fun b e => hb.fk b e.1 }⟩
  · have := (ownO_lt h.rowS e).1; omega
  · have := (ownO_lt h.rowE e).1; omega
  · simp at e; omega
theorem McIs.unbox {g : Nat} (h : McIs C (NBo F g) w σ) (hf : ∀ b, F b → C.w0.heap.size ≤ b) : McIs C F w σ := by
  obtain ⟨us, ue, h⟩ := h
  exact ⟨us, ue, { h with fp := ⟨h.fp.1.1, h.fp.2.1.1, h.fp.2.2.1.1, h.fp.2.2.2.1⟩, fs := fun b e => (h.fs b e).1, fe := fun b e => (h.fe b e).1, fn := fun b e => (h.fn b e).1, fk := hf }⟩
/-- one key more is known: the map has turned -/
theorem McV.knowS (h : McV C F w σ us ue) {V : TwL StmtD} (hs : SetAt twV w' C.ms (V.map (·.1))) (hg : w.grownBy w' (some C.ms)) (hV : ∀ x ∈ V, LayS C.w0 C.S x) (hv : ∀ x ∈ σ.vs, x ∈ V) : McV C F w' { σ with vs := V } us ue ∧ OutO F w w' := by
  have ho := h.ok.order
  have ha := h.ok.apart
  have hO : OutO F w w' := OutO.of_grown hg (fun g e => by cases e; exact h.fp.2.2.1)
  refine ⟨{ h with
    blk := (hg.block C.p h.ltP (fun e => by have := Option.some.inj e; omega)).trans h.blk
    blS := (hg.block C.rs h.ltS (fun e => by have := Option.some.inj e; omega)).trans h.blS
    blE := (hg.block C.re h.ltE (fun e => by have := Option.some.inj e; omega)).trans h.blE
    rowS := rowO_kept h.rowS hg (fun b hb e => by have := (ownO_lt h.rowS hb).2.1; have := Option.some.inj e; omega)
    rowE := rowO_kept h.rowE hg (fun b hb e => by have := (ownO_lt h.rowE hb).2.1; have := Option.some.inj e; omega)
    mapS := hs
    mapE := h.mapE.move (hg.block C.me h.mapE.lt (fun e => by have := Option.some.inj e; omega))
    layS := hV
    inS := fun x hx => hv _ (h.inS x hx)
    fn := fun b hb => h.fn b (Nat.le_trans hg.size hb)
    base := hO.low h.fk h.base h.big
    bound := Nat.le_trans h.bound hg.size }, hO⟩
/-- the row of those that wait is another one: stored -/
theorem McV.waitS (h : McV C F w σ us ue) {W : WtL StmtD} {u' : Value} (hr : w2.ownsRow C.B 174 2 u' W.length (W.flatMap prC)) (hg : w.grownBy w2 us.ownBlock) (hv : u'.ownBlock = us.ownBlock ∨ u'.ownBlock = some w.heap.size) (hW : ∀ x ∈ W, (x.1, x.2.2) ∈ σ.vs) :
    McV C F (w2.setCell ⟨C.rs, 0, none⟩ u') { σ with ws := W } u' ue ∧ OutO F w (w2.setCell ⟨C.rs, 0, none⟩ u') := by
  have ho := h.ok.order
  have ha := h.ok.apart
  have hB : ∀ b, us.ownBlock = some b → C.B ≤ b := fun b e => (ownO_lt h.rowS e).2.1
  have hK : ∀ b, b < w.heap.size → b < C.B → w2.heap[b]? = w.heap[b]? := fun b h1 h2 => hg.block b h1 (fun e => by have := hB _ e.symm; omega)
  have g2 := grown_setO w2 C.rs 0 u'
  have hO : OutO F w (w2.setCell ⟨C.rs, 0, none⟩ u') := (OutO.of_grown hg (fun g e => h.fs g e)).trans (OutO.of_grown g2 (fun g e => by cases e; exact h.fp.1))
  have hK2 : ∀ b, b < w.heap.size → b < C.B → b ≠ C.rs → (w2.setCell ⟨C.rs, 0, none⟩ u').heap[b]? = w.heap[b]? := fun b h1 h2 h3 => (g2.block b (by have := hg.size; omega) (fun e => h3 (Option.some.inj e))).trans (hK b h1 h2)
  have hS : w2.heap[C.rs]? = some (.cells #[us, .map (some C.ms)] 164 (0, 0)) := (hK _ h.ltS (by omega)).trans h.blS
  refine ⟨{ h with
    blk := (hK2 _ h.ltP (by omega) (by omega)).trans h.blk
    blS := by rw [heap_setCell_same w2 C.rs 0 _ _ _ hS]; rfl
    blE := (hK2 _ h.ltE (by omega) (by omega)).trans h.blE
    rowS := rowO_kept hr g2 (fun b hb e => by have := (ownO_lt hr hb).2.1; have := Option.some.inj e; omega)
    rowE := rowO_kept (rowO_kept h.rowE hg (fun b hb e => h.off b e.symm hb)) g2 (fun b hb e => by have := (ownO_lt h.rowE hb).2.1; have := Option.some.inj e; omega)
    mapS := h.mapS.move (hK2 _ h.mapS.lt (by omega) (by omega))
    mapE := h.mapE.move (hK2 _ h.mapE.lt (by omega) (by omega))
    inS := hW
    off := fun b e e2 => ?_
    fs := fun b hb => ?_
    fn := fun b hb => h.fn b ?_
    base := hO.low h.fk h.base h.big
    bound := Nat.le_trans h.bound hO.size }, hO⟩
  · rcases hv with g | g
    · exact h.off b (g ▸ e) e2
    · rw [g] at e; cases e
      have := (ownO_lt h.rowE e2).1; omega
  · rcases hv with e | e
    · rw [e] at hb; exact h.fs b hb
    · rw [e] at hb; cases hb; exact h.fn _ (Nat.le_refl _)
  · have := hg.size; have hb : w2.heap.size ≤ b := by simpa [World.setCell] using hb
    omega
/-- one key more is known: the map has turned -/
theorem McV.knowE (h : McV C F w σ us ue) {V : TwL ExprD} (hs : SetAt twV w' C.me (V.map (·.1))) (hg : w.grownBy w' (some C.me)) (hV : ∀ x ∈ V, LayE C.w0 C.S x) (hv : ∀ x ∈ σ.ve, x ∈ V) : McV C F w' { σ with ve := V } us ue ∧ OutO F w w' := by
  have ho := h.ok.order
  have ha := h.ok.apart
  have hO : OutO F w w' := OutO.of_grown hg (fun g e => by cases e; exact h.fp.2.2.2)
  refine ⟨{ h with
    blk := (hg.block C.p h.ltP (fun e => by have := Option.some.inj e; omega)).trans h.blk
    blE := (hg.block C.re h.ltE (fun e => by have := Option.some.inj e; omega)).trans h.blE
    blS := (hg.block C.rs h.ltS (fun e => by have := Option.some.inj e; omega)).trans h.blS
    rowE := rowO_kept h.rowE hg (fun b hb e => by have := (ownO_lt h.rowE hb).2.1; have := Option.some.inj e; omega)
    rowS := rowO_kept h.rowS hg (fun b hb e => by have := (ownO_lt h.rowS hb).2.1; have := Option.some.inj e; omega)
    mapE := hs
    mapS := h.mapS.move (hg.block C.ms h.mapS.lt (fun e => by have := Option.some.inj e; omega))
    layE := hV
    inE := fun x hx => hv _ (h.inE x hx)
    fn := fun b hb => h.fn b (Nat.le_trans hg.size hb)
    base := hO.low h.fk h.base h.big
    bound := Nat.le_trans h.bound hg.size }, hO⟩
/-- the row of those that wait is another one: stored -/
theorem McV.waitE (h : McV C F w σ us ue) {W : WtL ExprD} {u' : Value} (hr : w2.ownsRow C.B 177 2 u' W.length (W.flatMap prC)) (hg : w.grownBy w2 ue.ownBlock) (hv : u'.ownBlock = ue.ownBlock ∨ u'.ownBlock = some w.heap.size) (hW : ∀ x ∈ W, (x.1, x.2.2) ∈ σ.ve) :
    McV C F (w2.setCell ⟨C.re, 0, none⟩ u') { σ with we := W } us u' ∧ OutO F w (w2.setCell ⟨C.re, 0, none⟩ u') := by
  have ho := h.ok.order
  have ha := h.ok.apart
  have hB : ∀ b, ue.ownBlock = some b → C.B ≤ b := fun b e => (ownO_lt h.rowE e).2.1
  have hK : ∀ b, b < w.heap.size → b < C.B → w2.heap[b]? = w.heap[b]? := fun b h1 h2 => hg.block b h1 (fun e => by have := hB _ e.symm; omega)
  have g2 := grown_setO w2 C.re 0 u'
  have hO : OutO F w (w2.setCell ⟨C.re, 0, none⟩ u') := (OutO.of_grown hg (fun g e => h.fe g e)).trans (OutO.of_grown g2 (fun g e => by cases e; exact h.fp.2.1))
  have hK2 : ∀ b, b < w.heap.size → b < C.B → b ≠ C.re → (w2.setCell ⟨C.re, 0, none⟩ u').heap[b]? = w.heap[b]? := fun b h1 h2 h3 => (g2.block b (by have := hg.size; omega) (fun e => h3 (Option.some.inj e))).trans (hK b h1 h2)
  have hS : w2.heap[C.re]? = some (.cells #[ue, .map (some C.me)] 168 (0, 0)) := (hK _ h.ltE (by omega)).trans h.blE
  refine ⟨{ h with
    blk := (hK2 _ h.ltP (by omega) (by omega)).trans h.blk
    blE := by rw [heap_setCell_same w2 C.re 0 _ _ _ hS]; rfl
    blS := (hK2 _ h.ltS (by omega) (by omega)).trans h.blS
    rowE := rowO_kept hr g2 (fun b hb e => by have := (ownO_lt hr hb).2.1; have := Option.some.inj e; omega)
    rowS := rowO_kept (rowO_kept h.rowS hg (fun b hb e => h.off b hb e.symm)) g2 (fun b hb e => by have := (ownO_lt h.rowS hb).2.1; have := Option.some.inj e; omega)
    mapE := h.mapE.move (hK2 _ h.mapE.lt (by omega) (by omega))
    mapS := h.mapS.move (hK2 _ h.mapS.lt (by omega) (by omega))
    inE := hW
    off := fun b e2 e => ?_
    fe := fun b hb => ?_
    fn := fun b hb => h.fn b ?_
    base := hO.low h.fk h.base h.big
    bound := Nat.le_trans h.bound hO.size }, hO⟩
  · rcases hv with g | g
    · exact h.off b e2 (g ▸ e)
    · rw [g] at e; cases e
      have := (ownO_lt h.rowS e2).1; omega
  · rcases hv with e | e
    · rw [e] at hb; exact h.fe b hb
    · rw [e] at hb; cases hb; exact h.fn _ (Nat.le_refl _)
  · have := hg.size; have hb : w2.heap.size ≤ b := by simpa [World.setCell] using hb
    omega
end
end Go.Proofs.YtbhdbglhejibbaaGreatDoor
namespace Go.Proofs.YtbhdbglhejibbaaGreatDoor
set_option maxRecDepth 100000
open Go.RowKit
set_option linter.unusedVariables false
theorem tw_inj {x y : TwK} : x = y ↔ ((⟨x.1, x.2.1, none⟩ : Addr) = ⟨y.1, y.2.1, none⟩ ∧ (⟨x.2.2.1, x.2.2.2.1, none⟩ : Addr) = ⟨y.2.2.1, y.2.2.2.1, none⟩ ∧ (x.2.2.2.2 : Int) = y.2.2.2.2) := by
  obtain ⟨a, b, c, d, n⟩ := x
  obtain ⟨a', b', c', d', n'⟩ := y
  simp [Int.natCast_inj, and_assoc]
def TwB (w : World) (k : TwK) : Prop := PlB w k.1 ∧ PlB w k.2.2.1
theorem eqTwS (x y : TwK) (w : World) (hx : TwB w x) (hy : TwB w y) : (Op.equal 171 (twV x) (twV y)).run Tryz.prog w = .ok (decide (x = y)) w := by
  obtain ⟨i0, hi, hz0, hz1, hz2⟩ := info_parts infoSt
  have hpt := eq_ptr Tryz.underlying169 hi (by rw [hz1]; decide) 9998 ⟨x.1, x.2.1, none⟩ ⟨y.1, y.2.1, none⟩ w hx.1 hy.1
  have hpu := eq_ptr Tryz.underlying169 hi (by rw [hz1]; decide) 9998 ⟨x.2.2.1, x.2.2.2.1, none⟩ ⟨y.2.2.1, y.2.2.2.1, none⟩ w hx.2 hy.2
  have ai := Tryz.isAgg3
  have ui := Tryz.underlying3
  have ap : ∀ w, (isAgg 169).run Tryz.prog w = .ok false w := fun w => by kernel_rfl
  have hS : Tryz.prog.underlying 171 = some (.struct (Tryz.prog.fieldsOf 171)) := by kernel_rfl
  have hh : Tryz.prog.stoodInHeld 171 = false := by kernel_rfl
  unfold Op.equal Op.maxDepth twV
  rw [show (10000 : Nat) = 9999 + 1 from rfl, run_equalIn_agg w 9999 _ _ _ hS hh]
  simp only [Program.fieldsOf, Tryz.underlying171]
  rw [show (9999 : Nat) = 9998 + 1 from rfl]
  simp only [Op.eqFields]
  clear hx hy
  obtain ⟨a, b, c, d, n⟩ := x
  obtain ⟨a', b', c', d', n'⟩ := y
  simp only at hpt hpu ⊢
  go_simp
  by_cases h1 : a = a' <;> by_cases h2 : b = b' <;> by_cases h3 : c = c' <;> by_cases h4 : d = d' <;> by_cases h5 : n = n' <;> simp [h1, h2, h3, h4, h5, Int.natCast_inj]
theorem chkTwS (em : Bool) (x : TwK) (w : World) : (Instr.checkKey em 10000 171 (twV x)).run Tryz.prog w = .ok () w := by
  have ai := Tryz.isAgg3
  have ui := Tryz.underlying3
  have up := Tryz.underlying169
  have ap : ∀ w, (isAgg 169).run Tryz.prog w = .ok false w := fun w => by kernel_rfl
  unfold twV
  rw [show (10000 : Nat) = 9998 + 1 + 1 from rfl]
  unfold Instr.checkKey
  simp only [Sem.run_bind, run_underlying Tryz.underlying171, Result.andThen_ok]
  rw [← Array.forIn_toList]
  simp only [List.forIn_cons, List.forIn_nil]
  unfold Instr.checkKey
  go_simp
/-- what is known holds just one pair of lists at a key -/
theorem McV.oneS {C : McC} {F : Nat → Prop} {w : World} {σ : McS} {us ue : Value} (h : McV C F w σ us ue) {k : TwK} {a b : List StmtD} (hl : LayS C.w0 C.S (k, a, b)) (hk : k ∈ σ.vs.map (·.1)) : InV σ.vs a b := by
  obtain ⟨⟨k', a', b'⟩, hm, e⟩ := List.mem_map.1 hk
  simp only at e
  subst e
  obtain ⟨_, _, _, h1, h2, h3, h4⟩ := h.layS _ hm
  obtain ⟨_, _, _, g1, g2, g3, g4⟩ := hl
  simp only at h1 h2 h3 h4 g1 g2 g3 g4
  obtain rfl := StmtsIn.det a a' (g1.trans h1.symm) g3 h3
  obtain rfl := StmtsIn.det b b' (g2.trans h2.symm) g4 h4
  exact ⟨_, hm⟩
/-- what letting two lists wait leaves -/
def PutSP (C : McC) (F : Nat → Prop) (G : Prop) (w : World) (σ : McS) (a b : List StmtD) (e : Ending) (w' : World) : Prop :=
  e = .returned (.bool (decide (a.length = b.length))) ∧ ∃ τ, McIs C F w' τ ∧ OutO F w w' ∧ Grow G σ τ ∧ τ.phi ≤ σ.phi + stsNz a ∧ (a.length = b.length → PutOk τ.vs a b) ∧ τ.we = σ.we
theorem LayS.twB {C : McC} {F : Nat → Prop} {w : World} {σ : McS} {us ue : Value} (h : McV C F w σ us ue) {x : TwK × List StmtD × List StmtD} (hl : LayS C.w0 C.S x) : TwB w x.1 := ⟨h.flat hl.1, h.flat hl.2.1⟩
theorem McV.twS {C : McC} {F : Nat → Prop} {w : World} {σ : McS} {us ue : Value} (h : McV C F w σ us ue) : ∀ k ∈ σ.vs.map (·.1), TwB w k := fun k hk => by
  obtain ⟨x, hx, rfl⟩ := List.mem_map.1 hk
  exact (h.layS x hx).twB h
set_option maxHeartbeats 2000000 in
theorem putS_none (C : McC) (F : Nat → Prop) (G : Prop) (σ : McS) (a b : List StmtD) (A B : Option Addr) (ca cb : Nat) (w : World) (h : McIs C F w σ) (hn : a.length ≠ b.length ∨ a = []) :
    Calls Tryz.prog 63 #[.pointer (some ⟨C.rs, 0, none⟩), .slice A a.length ca, .slice B b.length cb] w (PutSP C F G w σ a b) := by
  have HR := Lib.hid (show ∀ r, r = decide (a.length = b.length) → PutSP C F G w σ a b (.returned (.bool r)) w from fun r hr => ⟨by rw [hr], σ, h, OutO.refl F w, Grow.refl G σ, by omega, fun hl => ⟨hl, .inl (by rcases hn with hn | hn; exact absurd hl hn; exact hn)⟩, rfl⟩)
  have HN := Lib.hid hn
  clear h hn
  by_cases hl : a.length = b.length
  · have h0 : a.length = 0 := by rcases HN.out with h | h; exact absurd hl h; rw [h]; rfl
    rw [← hl, h0]
    rw [← hl, h0] at HR
    go_enter Tryz.func63, Tryz.ntmps63
    go_wp2
    go_ret
    exact HR.out _ (by simp)
  · have hne : ((a.length : Int) == (b.length : Int)) = false := by rw [beq_eq_false_iff_ne]; omega
    have hne2 : ((a.length : Int) != (b.length : Int)) = true := by rw [bne_iff_ne]; omega
    generalize a.length = n at *
    generalize b.length = m at *
    go_enter Tryz.func63, Tryz.ntmps63
    go_wp2
    go_ret
    exact HR.out _ (by simp [hl])
theorem eqTwE (x y : TwK) (w : World) (hx : TwB w x) (hy : TwB w y) : (Op.equal 197 (twV x) (twV y)).run Tryz.prog w = .ok (decide (x = y)) w := by
  obtain ⟨i0, hi, hz0, hz1, hz2⟩ := info_parts infoEx
  have hpt := eq_ptr Tryz.underlying195 hi (by rw [hz1]; decide) 9998 ⟨x.1, x.2.1, none⟩ ⟨y.1, y.2.1, none⟩ w hx.1 hy.1
  have hpu := eq_ptr Tryz.underlying195 hi (by rw [hz1]; decide) 9998 ⟨x.2.2.1, x.2.2.2.1, none⟩ ⟨y.2.2.1, y.2.2.2.1, none⟩ w hx.2 hy.2
  have ai := Tryz.isAgg3
  have ui := Tryz.underlying3
  have ap : ∀ w, (isAgg 195).run Tryz.prog w = .ok false w := fun w => by kernel_rfl
  have hS : Tryz.prog.underlying 197 = some (.struct (Tryz.prog.fieldsOf 197)) := by kernel_rfl
  have hh : Tryz.prog.stoodInHeld 197 = false := by kernel_rfl
  unfold Op.equal Op.maxDepth twV
  rw [show (10000 : Nat) = 9999 + 1 from rfl, run_equalIn_agg w 9999 _ _ _ hS hh]
  simp only [Program.fieldsOf, Tryz.underlying197]
  rw [show (9999 : Nat) = 9998 + 1 from rfl]
  simp only [Op.eqFields]
  clear hx hy
  obtain ⟨a, b, c, d, n⟩ := x
  obtain ⟨a', b', c', d', n'⟩ := y
  simp only at hpt hpu ⊢
  go_simp
  by_cases h1 : a = a' <;> by_cases h2 : b = b' <;> by_cases h3 : c = c' <;> by_cases h4 : d = d' <;> by_cases h5 : n = n' <;> simp [h1, h2, h3, h4, h5, Int.natCast_inj]
theorem chkTwE (em : Bool) (x : TwK) (w : World) : (Instr.checkKey em 10000 197 (twV x)).run Tryz.prog w = .ok () w := by
  have ai := Tryz.isAgg3
  have ui := Tryz.underlying3
  have up := Tryz.underlying195
  have ap : ∀ w, (isAgg 195).run Tryz.prog w = .ok false w := fun w => by kernel_rfl
  unfold twV
  rw [show (10000 : Nat) = 9998 + 1 + 1 from rfl]
  unfold Instr.checkKey
  simp only [Sem.run_bind, run_underlying Tryz.underlying197, Result.andThen_ok]
  rw [← Array.forIn_toList]
  simp only [List.forIn_cons, List.forIn_nil]
  unfold Instr.checkKey
  go_simp
/-- what is known holds just one pair of lists at a key -/
theorem McV.oneE {C : McC} {F : Nat → Prop} {w : World} {σ : McS} {us ue : Value} (h : McV C F w σ us ue) {k : TwK} {a b : List ExprD} (hl : LayE C.w0 C.S (k, a, b)) (hk : k ∈ σ.ve.map (·.1)) : InV σ.ve a b := by
  obtain ⟨⟨k', a', b'⟩, hm, e⟩ := List.mem_map.1 hk
  simp only at e
  subst e
  obtain ⟨_, _, _, h1, h2, h3, h4⟩ := h.layE _ hm
  obtain ⟨_, _, _, g1, g2, g3, g4⟩ := hl
  simp only at h1 h2 h3 h4 g1 g2 g3 g4
  obtain rfl := ExprsIn.det a a' (g1.trans h1.symm) g3 h3
  obtain rfl := ExprsIn.det b b' (g2.trans h2.symm) g4 h4
  exact ⟨_, hm⟩
/-- what letting two lists wait leaves -/
def PutEP (C : McC) (F : Nat → Prop) (G : Prop) (w : World) (σ : McS) (a b : List ExprD) (e : Ending) (w' : World) : Prop :=
  e = .returned (.bool (decide (a.length = b.length))) ∧ ∃ τ, McIs C F w' τ ∧ OutO F w w' ∧ Grow G σ τ ∧ τ.phi ≤ σ.phi + exsNz a ∧ (a.length = b.length → PutOk τ.ve a b) ∧ τ.ws = σ.ws
theorem LayE.twB {C : McC} {F : Nat → Prop} {w : World} {σ : McS} {us ue : Value} (h : McV C F w σ us ue) {x : TwK × List ExprD × List ExprD} (hl : LayE C.w0 C.S x) : TwB w x.1 := ⟨h.flat hl.1, h.flat hl.2.1⟩
theorem McV.twE {C : McC} {F : Nat → Prop} {w : World} {σ : McS} {us ue : Value} (h : McV C F w σ us ue) : ∀ k ∈ σ.ve.map (·.1), TwB w k := fun k hk => by
  obtain ⟨x, hx, rfl⟩ := List.mem_map.1 hk
  exact (h.layE x hx).twB h
set_option maxHeartbeats 2000000 in
theorem putE_none (C : McC) (F : Nat → Prop) (G : Prop) (σ : McS) (a b : List ExprD) (A B : Option Addr) (ca cb : Nat) (w : World) (h : McIs C F w σ) (hn : a.length ≠ b.length ∨ a = []) :
    Calls Tryz.prog 93 #[.pointer (some ⟨C.re, 0, none⟩), .slice A a.length ca, .slice B b.length cb] w (PutEP C F G w σ a b) := by
  have HR := Lib.hid (show ∀ r, r = decide (a.length = b.length) → PutEP C F G w σ a b (.returned (.bool r)) w from fun r hr => ⟨by rw [hr], σ, h, OutO.refl F w, Grow.refl G σ, by omega, fun hl => ⟨hl, .inl (by rcases hn with hn | hn; exact absurd hl hn; exact hn)⟩, rfl⟩)
  have HN := Lib.hid hn
  clear h hn
  by_cases hl : a.length = b.length
  · have h0 : a.length = 0 := by rcases HN.out with h | h; exact absurd hl h; rw [h]; rfl
    rw [← hl, h0]
    rw [← hl, h0] at HR
    go_enter Tryz.func93, Tryz.ntmps93
    go_wp2
    go_ret
    exact HR.out _ (by simp)
  · have hne : ((a.length : Int) == (b.length : Int)) = false := by rw [beq_eq_false_iff_ne]; omega
    have hne2 : ((a.length : Int) != (b.length : Int)) = true := by rw [bne_iff_ne]; omega
    generalize a.length = n at *
    generalize b.length = m at *
    go_enter Tryz.func93, Tryz.ntmps93
    go_wp2
    go_ret
    exact HR.out _ (by simp [hl])
end Go.Proofs.YtbhdbglhejibbaaGreatDoor
namespace Go.Proofs.YtbhdbglhejibbaaGreatDoor
set_option maxRecDepth 100000
open Go.RowKit
set_option linter.unusedVariables false
theorem row3c {W : World} {b : Nat} {v0 v1 v2 : Value} {T : TypeId} (h : W.heap[b]? = some (.cells #[v0, v1, v2] T (0, 0))) : W.cell? ⟨b, 0, none⟩ = some v0 ∧ W.cell? ⟨b, 1, none⟩ = some v1 ∧ W.cell? ⟨b, 2, none⟩ = some v2 := by
  refine ⟨?_, ?_, ?_⟩ <;> rw [cell_of_row W b _ _ _ _ h] <;> rfl
theorem prC_snoc {α : Type} (W : WtL α) (x : TwK × (Nat × Nat) × List α × List α) : (W ++ [x]).flatMap prC = W.flatMap prC ++ prC x := by simp
theorem addG_map {α : Type} {V : TwL α} {k : TwK} {a b : List α} (h : k ∉ V.map (·.1)) : addG (V.map (·.1)) k = (V ++ [(k, a, b)]).map (·.1) := by unfold addG; rw [if_neg h]; simp
theorem putS_new {σ : McS} {k : TwK} {c : Nat × Nat} {a b : List StmtD} (h : k ∉ σ.vs.map (·.1)) : putS σ k c a b = { σ with vs := σ.vs ++ [(k, a, b)], ws := σ.ws ++ [(k, c, a, b)] } := by unfold putS; rw [if_neg h]
theorem McV.lookS {C : McC} {F : Nat → Prop} {w : World} {σ : McS} {us ue : Value} (h : McV C F w σ us ue) {k : TwK} (hk : TwB w k) :
    (Instr.lookup 161 (.map (some C.ms)) (twV k) true).run Tryz.prog w = .ok (.tuple #[.agg #[], .bool (memG (σ.vs.map (·.1)) k)]) w :=
  h.mapS.look (K := TwB w) Tryz.underlying161 ⟨_, Tryz.underlying171⟩ (by kernel_rfl) (fun y hy => eqTwS _ _ _ hk hy) (fun em => chkTwS _ _ _) h.twS
theorem infoPrS : (Tryz.prog.info? 174).map (fun i => (i.zero, i.size, i.bytes)) = some (some (.agg #[.slice none 0 0, .slice none 0 0]), 2, 48) := by kernel_rfl
set_option maxHeartbeats 4000000 in
theorem putS_some (C : McC) (F : Nat → Prop) (G : Prop) (σ : McS) (a b : List StmtD) (b1 o1 b2 o2 n ca cb : Nat) (w : World) (h : McIs C F w σ) (hl : LayS C.w0 C.S ((b1, o1, b2, o2, n), a, b)) (hq : G → a = b) (hp : σ.phi ≤ 1000000) :
    Calls Tryz.prog 63 #[.pointer (some ⟨C.rs, 0, none⟩), .slice (some ⟨b1, o1, none⟩) n ca, .slice (some ⟨b2, o2, none⟩) n cb] w (PutSP C F G w σ a b) := by
  obtain ⟨us, ue, hV⟩ := h
  have hlen : a.length = b.length := hl.2.2.2.1.trans hl.2.2.2.2.1.symm
  have hn : 0 < n := hl.2.2.1
  have hb1 := ((Below.refl w.heap.size w).alloc (Nat.le_refl _) (.cells #[.pointer (some ⟨b1, o1, none⟩), .pointer (some ⟨b2, o2, none⟩), .int .i64 n] 171)).drew
  have hV1 := hV.below hb1
  have x1 : ((w.alloc (.cells #[.pointer (some ⟨b1, o1, none⟩), .pointer (some ⟨b2, o2, none⟩), .int .i64 n] 171)).drew).heap[w.heap.size]? = some (.cells #[.pointer (some ⟨b1, o1, none⟩), .pointer (some ⟨b2, o2, none⟩), .int .i64 n] 171 (0, 0)) := heap_alloc_new w _
  have h0 : ((n : Int) == 0) = false := by rw [beq_eq_false_iff_ne]; omega
  have h1 : (0 : Int) < n := by omega
  have HV1 := Lib.hid hV1
  have HX1 := Lib.hid x1
  have HB1 := Lib.hid hb1
  have HL := Lib.hid hl
  have HQ := Lib.hid hq
  have HP := Lib.hid hp
  have HE := Lib.hid hlen
  clear hV1 hV hb1 hl hq hp x1 hlen
  go_enter Tryz.func63, Tryz.ntmps63
  go_wp2
  go_region
  generalize (w.alloc (.cells #[.pointer (some ⟨b1, o1, none⟩), .pointer (some ⟨b2, o2, none⟩), .int .i64 n] 171)).drew = W at *
  have hd1 := (Below.refl W.heap.size W).drew
  have hd2 := ((Below.refl W.heap.size W).alloc (Nat.le_refl _) (.cells #[] 85)).drew
  have l1 := (HV1.out.below hd1).lookS (HL.out.twB (HV1.out.below hd1))
  have l2 := (HV1.out.below hd2).lookS (HL.out.twB (HV1.out.below hd2))
  have l3 : (Instr.lookup 161 (.map (some C.ms)) (twV (b1, o1, b2, o2, n)) true).run Tryz.prog (W.drew.alloc (.cells #[] 85)) = .ok (.tuple #[.agg #[], .bool (memG (σ.vs.map (·.1)) (b1, o1, b2, o2, n))]) (W.drew.alloc (.cells #[] 85)) := l2
  have c1 := HV1.out.cs1
  obtain ⟨y0, y1, y2⟩ := row3c HX1.out
  obtain ⟨z0, z1, z2⟩ := row3c (W := (W.alloc (.cells #[] 85)).drew) ((hd2.block _ (Array.getElem?_eq_some_iff.1 HX1.out).1).trans HX1.out)
  have c2 := (HV1.out.below hd2).cs1
  unfold twV at l1 l2 l3
  simp only at l1 l2 l3
  have HT := Lib.hid (HL.out.twB (HV1.out.below hd2))
  have HV2 := Lib.hid (HV1.out.below hd2)
  have HB2 := Lib.hid (HB1.out.trans (hd2.mono HB1.out.size))
  cases hm : memG (σ.vs.map (·.1)) (b1, o1, b2, o2, n) with
  | true =>
    rw [hm] at l1 l2 l3
    have HR := Lib.hid (show PutSP C F G w σ a b (.returned (.bool true)) (W.alloc (.cells #[] 85)).drew from
      ⟨by rw [decide_eq_true HE.out], σ, ⟨us, ue, HV2.out⟩, OutO.of_below HB2.out, Grow.refl G σ, by omega, fun _ => ⟨HE.out, .inr (HV2.out.oneS HL.out (memG_iff.1 hm))⟩, rfl⟩)
    clear hm
    go_wp2
    go_region
    all_goals go_wp2
    all_goals go_ret
    all_goals exact HR.out
  | false =>
    rw [hm] at l1 l2 l3
    have hnm : (b1, o1, b2, o2, n) ∉ σ.vs.map (·.1) := fun h => by rw [memG_iff.2 h] at hm; cases hm
    have hd3 := (Below.refl (W.alloc (.cells #[] 85)).drew.heap.size (W.alloc (.cells #[] 85)).drew).drew
    have hV3 := HV2.out.below hd3
    obtain ⟨w3, hup, hs3, hg3⟩ := hV3.mapS.put (K := TwB (W.alloc (.cells #[] 85)).drew.drew) (x := (b1, o1, b2, o2, n)) Tryz.underlying161 ⟨_, Tryz.underlying171⟩ (fun y hy => eqTwS _ _ _ (HL.out.twB hV3) hy) (fun em => chkTwS _ _ _) (by simp [twV, Instr.sameBits]) hV3.twS
    rw [addG_map (a := a) (b := b) hnm] at hs3
    obtain ⟨hV4, hO4⟩ := hV3.knowS hs3 hg3 (fun x hx => by rcases List.mem_append.1 hx with hx | hx; exact hV3.layS x hx; rw [List.mem_singleton] at hx; subst hx; exact HL.out) (fun x hx => List.mem_append_left _ hx)
    have HV4 := Lib.hid hV4
    have HO4 := Lib.hid ((OutO.of_below (F := F) (HB2.out.trans (hd3.mono HB2.out.size))).trans hO4)
    have HNM := Lib.hid hnm
    have q1 := hV4.cs0
    have q2 := hV4.zs 0
    unfold twV at hup
    simp only at hup
    clear hV4 hO4 hV3 hd3 hs3 hg3 hm hnm
    have hb5 := (Below.refl w3.heap.size w3).alloc (Nat.le_refl _) (.cells #[.slice (some ⟨b1, o1, none⟩) n ca, .slice (some ⟨b2, o2, none⟩) n cb] 174)
    have hV5 := HV4.out.below hb5
    have HO5 := Lib.hid (HO4.out.trans (OutO.of_below (F := F) hb5))
    have HV5 := Lib.hid hV5
    have HOw := Lib.hid (show (w3.alloc (.cells #[.slice (some ⟨b1, o1, none⟩) n ca, .slice (some ⟨b2, o2, none⟩) n cb] 174)).ownsRow C.B 174 2 us σ.ws.length (σ.ws.flatMap prC) from hV5.rowS)
    have HRz := Lib.hid hV5.bound
    have HNa := Lib.hid (show ∀ (j : Nat) (u : Value), (prC ((b1, o1, b2, o2, n), (ca, cb), a, b))[j]? = some u → (w3.alloc (.cells #[.slice (some ⟨b1, o1, none⟩) n ca, .slice (some ⟨b2, o2, none⟩) n cb] 174)).cell? (Addr.add ⟨w3.heap.size, 0, none⟩ j) = some u from fun j u hu => by
      rw [addO, cell_of_row _ w3.heap.size _ _ _ _ (heap_alloc_new w3 _)]
      match j, hu with
      | 0, hu => exact hu
      | 1, hu => exact hu
      | j + 2, hu => simp [prC] at hu)
    have H1s := Lib.hid (show ∀ u ∈ prC ((b1, o1, b2, o2, n), (ca, cb), a, b), u.oneCell' = true from fun u hu => by
      unfold prC at hu
      simp only [List.mem_cons, List.not_mem_nil, or_false] at hu
      rcases hu with rfl | rfl <;> rfl)
    have hwl : σ.ws.length ≤ 1000000 := by have := phS_len σ.ws; have := HP.out; unfold McS.phi at this; omega
    have HMl := Lib.hid (show σ.ws.length + 1 ≤ maxLen by unfold maxLen; omega)
    have HBy := Lib.hid (show (σ.ws.length + 1) * 48 ≤ 140737488355328 by omega)
    obtain ⟨i0, hi0, hz0, hz1, hz2⟩ := info_parts infoPrS
    obtain ⟨A0, c0, rfl⟩ := ownO_slice HOw.out
    have HFin := Lib.hid (show ∀ (v' : Value) (w6 : World), w6.ownsRow C.B 174 2 v' (σ.ws.length + 1) (σ.ws.flatMap prC ++ prC ((b1, o1, b2, o2, n), (ca, cb), a, b)) → (w3.alloc (.cells #[.slice (some ⟨b1, o1, none⟩) n ca, .slice (some ⟨b2, o2, none⟩) n cb] 174)).grownBy w6 (Value.slice A0 σ.ws.length c0).ownBlock → (v'.ownBlock = (Value.slice A0 σ.ws.length c0).ownBlock ∨ v'.ownBlock = some (w3.alloc (.cells #[.slice (some ⟨b1, o1, none⟩) n ca, .slice (some ⟨b2, o2, none⟩) n cb] 174)).heap.size) →
        w6.cell? ⟨C.rs, 0, none⟩ = some (.slice A0 σ.ws.length c0) ∧ w6.frozen? ⟨C.rs, 0, none⟩ = false ∧ PutSP C F G w σ a b (.returned (.bool true)) (w6.setCell ⟨C.rs, 0, none⟩ v') from fun v' w6 hr hg hv' => by
      have hne : ∀ g, (Value.slice A0 σ.ws.length c0).ownBlock = some g → C.B ≤ g := fun g e => (ownO_lt HOw.out e).2.1
      have hoo := HV5.out.ok.order
      have hk := hg.block C.rs HV5.out.ltS (fun e => by have := hne _ e.symm; omega)
      have hw : ∀ x ∈ σ.ws ++ [((b1, o1, b2, o2, n), (ca, cb), a, b)], (x.1, x.2.2) ∈ σ.vs ++ [((b1, o1, b2, o2, n), a, b)] := fun x hx => by
        rcases List.mem_append.1 hx with hx | hx
        · exact HV5.out.inS x hx
        · rw [List.mem_singleton] at hx
          subst hx
          exact List.mem_append_right _ (List.mem_singleton.2 rfl)
      obtain ⟨hV6, hO6⟩ := HV5.out.waitS (W := σ.ws ++ [((b1, o1, b2, o2, n), (ca, cb), a, b)]) (u' := v') (by rw [prC_snoc]; simpa using hr) hg hv' hw
      refine ⟨by rw [World.cell?_of_block hk]; exact HV5.out.cs0, by rw [World.frozen?_of_block hk]; exact HV5.out.zs 0, by rw [decide_eq_true HE.out], putS σ (b1, o1, b2, o2, n) (ca, cb) a b, ?_, HO5.out.trans hO6, putS_grow HQ.out, putS_phi _ _ _ _ _, fun _ => ⟨HE.out, .inr ⟨(b1, o1, b2, o2, n), ?_⟩⟩, by rw [putS_new HNM.out]⟩
      · rw [putS_new HNM.out]
        exact ⟨v', ue, hV6⟩
      · rw [putS_new HNM.out]
        exact List.mem_append_right _ (List.mem_singleton.2 rfl))
    clear hb5 hV5 hwl
    go_wp2
    go_region
    all_goals go_wp2
    all_goals go_region
    all_goals go_wp2_with (at_builtin; (refine wpList_append_at6 rfl _ _ 162 rfl C.B 174 i0 (.agg #[.slice none 0 0, .slice none 0 0]) 2 48 Tryz.underlying162 hi0 hz0 hz1 hz2 rfl (by decide) (.slice A0 σ.ws.length c0) σ.ws.length (σ.ws.flatMap prC) ?hs HOw.out ⟨w3.heap.size, 0, none⟩ 1 1 (prC ((b1, o1, b2, o2, n), (ca, cb), a, b)) ?hx rfl HNa.out H1s.out HMl.out HBy.out HRz.out ?_; (case hs => rfl); (case hx => rfl); intro v' w6 hr hg hv'; obtain ⟨hc6, hf6, hR6⟩ := HFin.out v' w6 hr hg hv'; obtain ⟨A3, c3, rfl⟩ := ownO_slice hr; have HR6 := Lib.hid hR6; clear hR6 hr hg hv'))
    all_goals go_ret
    all_goals exact HR6.out
theorem putS_any (C : McC) (F : Nat → Prop) (G : Prop) (σ : McS) (a b : List StmtD) (A B : Option Addr) (ca cb : Nat) (w : World) (h : McIs C F w σ) (ha : StmtsAt C.w0 C.S a A) (hb : StmtsAt C.w0 C.S b B) (hq : G → a = b) (hp : σ.phi ≤ 1000000) :
    Calls Tryz.prog 63 #[.pointer (some ⟨C.rs, 0, none⟩), .slice A a.length ca, .slice B b.length cb] w (PutSP C F G w σ a b) := by
  by_cases hl : a.length = b.length
  · rcases ha with ha | ⟨b1, o1, rfl, s1, h1⟩
    · exact putS_none C F G σ a b A B ca cb w h (.inr ha)
    · by_cases ha0 : a = []
      · exact putS_none C F G σ a b _ B ca cb w h (.inr ha0)
      · have hpos : 0 < a.length := List.length_pos_iff.2 ha0
        rcases hb with hb | ⟨b2, o2, rfl, s2, h2⟩
        · rw [hb] at hl
          simp only [List.length_nil] at hl
          omega
        · rw [← hl]
          exact putS_some C F G σ a b b1 o1 b2 o2 a.length ca cb w h ⟨s1, s2, hpos, rfl, hl.symm, h1, h2⟩ hq hp
  · exact putS_none C F G σ a b A B ca cb w h (.inl hl)
theorem putE_new {σ : McS} {k : TwK} {c : Nat × Nat} {a b : List ExprD} (h : k ∉ σ.ve.map (·.1)) : putE σ k c a b = { σ with ve := σ.ve ++ [(k, a, b)], we := σ.we ++ [(k, c, a, b)] } := by unfold putE; rw [if_neg h]
theorem McV.lookE {C : McC} {F : Nat → Prop} {w : World} {σ : McS} {us ue : Value} (h : McV C F w σ us ue) {k : TwK} (hk : TwB w k) :
    (Instr.lookup 165 (.map (some C.me)) (twV k) true).run Tryz.prog w = .ok (.tuple #[.agg #[], .bool (memG (σ.ve.map (·.1)) k)]) w :=
  h.mapE.look (K := TwB w) Tryz.underlying165 ⟨_, Tryz.underlying197⟩ (by kernel_rfl) (fun y hy => eqTwE _ _ _ hk hy) (fun em => chkTwE _ _ _) h.twE
theorem infoPrE : (Tryz.prog.info? 177).map (fun i => (i.zero, i.size, i.bytes)) = some (some (.agg #[.slice none 0 0, .slice none 0 0]), 2, 48) := by kernel_rfl
set_option maxHeartbeats 4000000 in
theorem putE_some (C : McC) (F : Nat → Prop) (G : Prop) (σ : McS) (a b : List ExprD) (b1 o1 b2 o2 n ca cb : Nat) (w : World) (h : McIs C F w σ) (hl : LayE C.w0 C.S ((b1, o1, b2, o2, n), a, b)) (hq : G → a = b) (hp : σ.phi ≤ 1000000) :
    Calls Tryz.prog 93 #[.pointer (some ⟨C.re, 0, none⟩), .slice (some ⟨b1, o1, none⟩) n ca, .slice (some ⟨b2, o2, none⟩) n cb] w (PutEP C F G w σ a b) := by
  obtain ⟨us, ue, hV⟩ := h
  have hlen : a.length = b.length := hl.2.2.2.1.trans hl.2.2.2.2.1.symm
  have hn : 0 < n := hl.2.2.1
  have hb1 := ((Below.refl w.heap.size w).alloc (Nat.le_refl _) (.cells #[.pointer (some ⟨b1, o1, none⟩), .pointer (some ⟨b2, o2, none⟩), .int .i64 n] 197)).drew
  have hV1 := hV.below hb1
  have x1 : ((w.alloc (.cells #[.pointer (some ⟨b1, o1, none⟩), .pointer (some ⟨b2, o2, none⟩), .int .i64 n] 197)).drew).heap[w.heap.size]? = some (.cells #[.pointer (some ⟨b1, o1, none⟩), .pointer (some ⟨b2, o2, none⟩), .int .i64 n] 197 (0, 0)) := heap_alloc_new w _
  have h0 : ((n : Int) == 0) = false := by rw [beq_eq_false_iff_ne]; omega
  have h1 : (0 : Int) < n := by omega
  have HV1 := Lib.hid hV1
  have HX1 := Lib.hid x1
  have HB1 := Lib.hid hb1
  have HL := Lib.hid hl
  have HQ := Lib.hid hq
  have HP := Lib.hid hp
  have HE := Lib.hid hlen
  clear hV1 hV hb1 hl hq hp x1 hlen
  go_enter Tryz.func93, Tryz.ntmps93
  go_wp2
  go_region
  generalize (w.alloc (.cells #[.pointer (some ⟨b1, o1, none⟩), .pointer (some ⟨b2, o2, none⟩), .int .i64 n] 197)).drew = W at *
  have hd1 := (Below.refl W.heap.size W).drew
  have hd2 := ((Below.refl W.heap.size W).alloc (Nat.le_refl _) (.cells #[] 85)).drew
  have l1 := (HV1.out.below hd1).lookE (HL.out.twB (HV1.out.below hd1))
  have l2 := (HV1.out.below hd2).lookE (HL.out.twB (HV1.out.below hd2))
  have l3 : (Instr.lookup 165 (.map (some C.me)) (twV (b1, o1, b2, o2, n)) true).run Tryz.prog (W.drew.alloc (.cells #[] 85)) = .ok (.tuple #[.agg #[], .bool (memG (σ.ve.map (·.1)) (b1, o1, b2, o2, n))]) (W.drew.alloc (.cells #[] 85)) := l2
  have c1 := HV1.out.ce1
  obtain ⟨y0, y1, y2⟩ := row3c HX1.out
  obtain ⟨z0, z1, z2⟩ := row3c (W := (W.alloc (.cells #[] 85)).drew) ((hd2.block _ (Array.getElem?_eq_some_iff.1 HX1.out).1).trans HX1.out)
  have c2 := (HV1.out.below hd2).ce1
  unfold twV at l1 l2 l3
  simp only at l1 l2 l3
  have HT := Lib.hid (HL.out.twB (HV1.out.below hd2))
  have HV2 := Lib.hid (HV1.out.below hd2)
  have HB2 := Lib.hid (HB1.out.trans (hd2.mono HB1.out.size))
  cases hm : memG (σ.ve.map (·.1)) (b1, o1, b2, o2, n) with
  | true =>
    rw [hm] at l1 l2 l3
    have HR := Lib.hid (show PutEP C F G w σ a b (.returned (.bool true)) (W.alloc (.cells #[] 85)).drew from
      ⟨by rw [decide_eq_true HE.out], σ, ⟨us, ue, HV2.out⟩, OutO.of_below HB2.out, Grow.refl G σ, by omega, fun _ => ⟨HE.out, .inr (HV2.out.oneE HL.out (memG_iff.1 hm))⟩, rfl⟩)
    clear hm
    go_wp2
    go_region
    all_goals go_wp2
    all_goals go_ret
    all_goals exact HR.out
  | false =>
    rw [hm] at l1 l2 l3
    have hnm : (b1, o1, b2, o2, n) ∉ σ.ve.map (·.1) := fun h => by rw [memG_iff.2 h] at hm; cases hm
    have hd3 := (Below.refl (W.alloc (.cells #[] 85)).drew.heap.size (W.alloc (.cells #[] 85)).drew).drew
    have hV3 := HV2.out.below hd3
    obtain ⟨w3, hup, hs3, hg3⟩ := hV3.mapE.put (K := TwB (W.alloc (.cells #[] 85)).drew.drew) (x := (b1, o1, b2, o2, n)) Tryz.underlying165 ⟨_, Tryz.underlying197⟩ (fun y hy => eqTwE _ _ _ (HL.out.twB hV3) hy) (fun em => chkTwE _ _ _) (by simp [twV, Instr.sameBits]) hV3.twE
    rw [addG_map (a := a) (b := b) hnm] at hs3
    obtain ⟨hV4, hO4⟩ := hV3.knowE hs3 hg3 (fun x hx => by rcases List.mem_append.1 hx with hx | hx; exact hV3.layE x hx; rw [List.mem_singleton] at hx; subst hx; exact HL.out) (fun x hx => List.mem_append_left _ hx)
    have HV4 := Lib.hid hV4
    have HO4 := Lib.hid ((OutO.of_below (F := F) (HB2.out.trans (hd3.mono HB2.out.size))).trans hO4)
    have HNM := Lib.hid hnm
    have q1 := hV4.ce0
    have q2 := hV4.ze 0
    unfold twV at hup
    simp only at hup
    clear hV4 hO4 hV3 hd3 hs3 hg3 hm hnm
    have hb5 := (Below.refl w3.heap.size w3).alloc (Nat.le_refl _) (.cells #[.slice (some ⟨b1, o1, none⟩) n ca, .slice (some ⟨b2, o2, none⟩) n cb] 177)
    have hV5 := HV4.out.below hb5
    have HO5 := Lib.hid (HO4.out.trans (OutO.of_below (F := F) hb5))
    have HV5 := Lib.hid hV5
    have HOw := Lib.hid (show (w3.alloc (.cells #[.slice (some ⟨b1, o1, none⟩) n ca, .slice (some ⟨b2, o2, none⟩) n cb] 177)).ownsRow C.B 177 2 ue σ.we.length (σ.we.flatMap prC) from hV5.rowE)
    have HRz := Lib.hid hV5.bound
    have HNa := Lib.hid (show ∀ (j : Nat) (u : Value), (prC ((b1, o1, b2, o2, n), (ca, cb), a, b))[j]? = some u → (w3.alloc (.cells #[.slice (some ⟨b1, o1, none⟩) n ca, .slice (some ⟨b2, o2, none⟩) n cb] 177)).cell? (Addr.add ⟨w3.heap.size, 0, none⟩ j) = some u from fun j u hu => by
      rw [addO, cell_of_row _ w3.heap.size _ _ _ _ (heap_alloc_new w3 _)]
      match j, hu with
      | 0, hu => exact hu
      | 1, hu => exact hu
      | j + 2, hu => simp [prC] at hu)
    have H1s := Lib.hid (show ∀ u ∈ prC ((b1, o1, b2, o2, n), (ca, cb), a, b), u.oneCell' = true from fun u hu => by
      unfold prC at hu
      simp only [List.mem_cons, List.not_mem_nil, or_false] at hu
      rcases hu with rfl | rfl <;> rfl)
    have hwl : σ.we.length ≤ 1000000 := by have := phE_len σ.we; have := HP.out; unfold McS.phi at this; omega
    have HMl := Lib.hid (show σ.we.length + 1 ≤ maxLen by unfold maxLen; omega)
    have HBy := Lib.hid (show (σ.we.length + 1) * 48 ≤ 140737488355328 by omega)
    obtain ⟨i0, hi0, hz0, hz1, hz2⟩ := info_parts infoPrE
    obtain ⟨A0, c0, rfl⟩ := ownO_slice HOw.out
    have HFin := Lib.hid (show ∀ (v' : Value) (w6 : World), w6.ownsRow C.B 177 2 v' (σ.we.length + 1) (σ.we.flatMap prC ++ prC ((b1, o1, b2, o2, n), (ca, cb), a, b)) → (w3.alloc (.cells #[.slice (some ⟨b1, o1, none⟩) n ca, .slice (some ⟨b2, o2, none⟩) n cb] 177)).grownBy w6 (Value.slice A0 σ.we.length c0).ownBlock → (v'.ownBlock = (Value.slice A0 σ.we.length c0).ownBlock ∨ v'.ownBlock = some (w3.alloc (.cells #[.slice (some ⟨b1, o1, none⟩) n ca, .slice (some ⟨b2, o2, none⟩) n cb] 177)).heap.size) →
        w6.cell? ⟨C.re, 0, none⟩ = some (.slice A0 σ.we.length c0) ∧ w6.frozen? ⟨C.re, 0, none⟩ = false ∧ PutEP C F G w σ a b (.returned (.bool true)) (w6.setCell ⟨C.re, 0, none⟩ v') from fun v' w6 hr hg hv' => by
      have hne : ∀ g, (Value.slice A0 σ.we.length c0).ownBlock = some g → C.B ≤ g := fun g e => (ownO_lt HOw.out e).2.1
      have hoo := HV5.out.ok.order
      have hk := hg.block C.re HV5.out.ltE (fun e => by have := hne _ e.symm; omega)
      have hw : ∀ x ∈ σ.we ++ [((b1, o1, b2, o2, n), (ca, cb), a, b)], (x.1, x.2.2) ∈ σ.ve ++ [((b1, o1, b2, o2, n), a, b)] := fun x hx => by
        rcases List.mem_append.1 hx with hx | hx
        · exact HV5.out.inE x hx
        · rw [List.mem_singleton] at hx
          subst hx
          exact List.mem_append_right _ (List.mem_singleton.2 rfl)
      obtain ⟨hV6, hO6⟩ := HV5.out.waitE (W := σ.we ++ [((b1, o1, b2, o2, n), (ca, cb), a, b)]) (u' := v') (by rw [prC_snoc]; simpa using hr) hg hv' hw
      refine ⟨by rw [World.cell?_of_block hk]; exact HV5.out.ce0, by rw [World.frozen?_of_block hk]; exact HV5.out.ze 0, by rw [decide_eq_true HE.out], putE σ (b1, o1, b2, o2, n) (ca, cb) a b, ?_, HO5.out.trans hO6, putE_grow HQ.out, putE_phi _ _ _ _ _, fun _ => ⟨HE.out, .inr ⟨(b1, o1, b2, o2, n), ?_⟩⟩, by rw [putE_new HNM.out]⟩
      · rw [putE_new HNM.out]
        exact ⟨us, v', hV6⟩
      · rw [putE_new HNM.out]
        exact List.mem_append_right _ (List.mem_singleton.2 rfl))
    clear hb5 hV5 hwl
    go_wp2
    go_region
    all_goals go_wp2
    all_goals go_region
    all_goals go_wp2_with (at_builtin; (refine wpList_append_at6 rfl _ _ 166 rfl C.B 177 i0 (.agg #[.slice none 0 0, .slice none 0 0]) 2 48 Tryz.underlying166 hi0 hz0 hz1 hz2 rfl (by decide) (.slice A0 σ.we.length c0) σ.we.length (σ.we.flatMap prC) ?hs HOw.out ⟨w3.heap.size, 0, none⟩ 1 1 (prC ((b1, o1, b2, o2, n), (ca, cb), a, b)) ?hx rfl HNa.out H1s.out HMl.out HBy.out HRz.out ?_; (case hs => rfl); (case hx => rfl); intro v' w6 hr hg hv'; obtain ⟨hc6, hf6, hR6⟩ := HFin.out v' w6 hr hg hv'; obtain ⟨A3, c3, rfl⟩ := ownO_slice hr; have HR6 := Lib.hid hR6; clear hR6 hr hg hv'))
    all_goals go_ret
    all_goals exact HR6.out
theorem putE_any (C : McC) (F : Nat → Prop) (G : Prop) (σ : McS) (a b : List ExprD) (A B : Option Addr) (ca cb : Nat) (w : World) (h : McIs C F w σ) (ha : ExprsAt C.w0 C.S a A) (hb : ExprsAt C.w0 C.S b B) (hq : G → a = b) (hp : σ.phi ≤ 1000000) :
    Calls Tryz.prog 93 #[.pointer (some ⟨C.re, 0, none⟩), .slice A a.length ca, .slice B b.length cb] w (PutEP C F G w σ a b) := by
  by_cases hl : a.length = b.length
  · rcases ha with ha | ⟨b1, o1, rfl, s1, h1⟩
    · exact putE_none C F G σ a b A B ca cb w h (.inr ha)
    · by_cases ha0 : a = []
      · exact putE_none C F G σ a b _ B ca cb w h (.inr ha0)
      · have hpos : 0 < a.length := List.length_pos_iff.2 ha0
        rcases hb with hb | ⟨b2, o2, rfl, s2, h2⟩
        · rw [hb] at hl
          simp only [List.length_nil] at hl
          omega
        · rw [← hl]
          exact putE_some C F G σ a b b1 o1 b2 o2 a.length ca cb w h ⟨s1, s2, hpos, rfl, hl.symm, h1, h2⟩ hq hp
  · exact putE_none C F G σ a b A B ca cb w h (.inl hl)
end Go.Proofs.YtbhdbglhejibbaaGreatDoor
namespace Go.Proofs.YtbhdbglhejibbaaGreatDoor
set_option maxRecDepth 100000
open Go.RowKit
set_option linter.unusedVariables false
/-- two boxes, and the matcher's -/
structure BxH (C : McC) (g1 g2 : Nat) (c1 c2 : Array Value) (T : TypeId) (w : World) : Prop where
  b1 : w.heap[g1]? = some (.cells c1 T (0, 0))
  b2 : w.heap[g2]? = some (.cells c2 T (0, 0))
  bp : w.heap[C.p]? = some (.cells #[.pointer (some ⟨C.rs, 0, none⟩), .pointer (some ⟨C.re, 0, none⟩)] 132 (0, 0))
theorem BxH.out {C : McC} {F : Nat → Prop} {g1 g2 : Nat} {c1 c2 : Array Value} {T : TypeId} {w w' : World} {τ : McS} (h : BxH C g1 g2 c1 c2 T w) (ho : OutO (NBo (NBo F g1) g2) w w') (hm : McIs C (NBo (NBo F g1) g2) w' τ) : BxH C g1 g2 c1 c2 T w' := by
  obtain ⟨us, ue, hm⟩ := hm
  exact ⟨(ho.block g1 (Array.getElem?_eq_some_iff.1 h.b1).1 (fun e => e.1.2 rfl)).trans h.b1, (ho.block g2 (Array.getElem?_eq_some_iff.1 h.b2).1 (fun e => e.2 rfl)).trans h.b2, hm.blk⟩
theorem McIs.fk {C : McC} {F : Nat → Prop} {w : World} {σ : McS} (h : McIs C F w σ) : ∀ b, F b → C.w0.heap.size ≤ b := by obtain ⟨us, ue, h⟩ := h; exact h.fk
theorem McIs.boxes {C : McC} {F : Nat → Prop} {w : World} {σ : McS} {c1 c2 : Array Value} {T : TypeId} (h : McIs C F w σ) :
    McIs C (NBo (NBo F w.heap.size) (w.heap.size + 1)) ((w.alloc (.cells c1 T)).alloc (.cells c2 T)).drew σ ∧ BxH C w.heap.size (w.heap.size + 1) c1 c2 T ((w.alloc (.cells c1 T)).alloc (.cells c2 T)).drew ∧ Below w.heap.size w ((w.alloc (.cells c1 T)).alloc (.cells c2 T)).drew := by
  have hb := ((Below.refl w.heap.size w).alloc (Nat.le_refl _) (.cells c1 T)).alloc (by simp) (.cells c2 T)
  have h1 := heap_alloc_new w (.cells c1 T)
  have h2 := heap_alloc_new (w.alloc (.cells c1 T)) (.cells c2 T)
  have hs : (w.alloc (.cells c1 T)).heap.size = w.heap.size + 1 := by simp
  rw [hs] at h2
  have h3 := (h.box (.cells c1 T)).box (.cells c2 T)
  rw [hs] at h3
  have h4 := h3.below (Below.refl _ _).drew
  refine ⟨h4, ⟨(heap_alloc_old (w.alloc (.cells c1 T)) (.cells c2 T) (by rw [hs]; omega)).trans h1, h2, ?_⟩, hb.drew⟩
  obtain ⟨us, ue, h4⟩ := h4
  exact h4.blk
theorem BxH.c1 {C : McC} {g1 g2 : Nat} {c1 c2 : Array Value} {T : TypeId} {w : World} (h : BxH C g1 g2 c1 c2 T w) (i : Nat) : w.cell? ⟨g1, i, none⟩ = c1[i]? := by rw [cell_of_row w g1 i _ _ _ h.b1]
theorem BxH.c2 {C : McC} {g1 g2 : Nat} {c1 c2 : Array Value} {T : TypeId} {w : World} (h : BxH C g1 g2 c1 c2 T w) (i : Nat) : w.cell? ⟨g2, i, none⟩ = c2[i]? := by rw [cell_of_row w g2 i _ _ _ h.b2]
theorem BxH.p0 {C : McC} {g1 g2 : Nat} {c1 c2 : Array Value} {T : TypeId} {w : World} (h : BxH C g1 g2 c1 c2 T w) : w.cell? ⟨C.p, 0, none⟩ = some (.pointer (some ⟨C.rs, 0, none⟩)) := by rw [cell_of_row w C.p 0 _ _ _ h.bp]; rfl
theorem BxH.p1 {C : McC} {g1 g2 : Nat} {c1 c2 : Array Value} {T : TypeId} {w : World} (h : BxH C g1 g2 c1 c2 T w) : w.cell? ⟨C.p, 1, none⟩ = some (.pointer (some ⟨C.re, 0, none⟩)) := by rw [cell_of_row w C.p 1 _ _ _ h.bp]; rfl
abbrev ExS (C : McC) (g1 g2 : Nat) (u0 u1 u2 u3 v0 v1 v2 v3 : Value) (T : TypeId) (w : World) : Prop :=
  (w.cell? ⟨g1, 0, none⟩ = some u0 ∧ w.cell? ⟨g1, 1, none⟩ = some u1 ∧ w.cell? ⟨g1, 2, none⟩ = some u2 ∧ w.cell? ⟨g1, 3, none⟩ = some u3 ∧
   w.cell? ⟨g2, 0, none⟩ = some v0 ∧ w.cell? ⟨g2, 1, none⟩ = some v1 ∧ w.cell? ⟨g2, 2, none⟩ = some v2 ∧ w.cell? ⟨g2, 3, none⟩ = some v3 ∧
   w.cell? ⟨C.p, 0, none⟩ = some (.pointer (some ⟨C.rs, 0, none⟩)) ∧ w.cell? ⟨C.p, 1, none⟩ = some (.pointer (some ⟨C.re, 0, none⟩))) ∧ BxH C g1 g2 #[u0, u1, u2, u3] #[v0, v1, v2, v3] T w
theorem exS_of {C : McC} {g1 g2 : Nat} {u0 u1 u2 u3 v0 v1 v2 v3 : Value} {T : TypeId} {w : World} (h : BxH C g1 g2 #[u0, u1, u2, u3] #[v0, v1, v2, v3] T w) : ExS C g1 g2 u0 u1 u2 u3 v0 v1 v2 v3 T w :=
  ⟨⟨h.c1 0, h.c1 1, h.c1 2, h.c1 3, h.c2 0, h.c2 1, h.c2 2, h.c2 3, h.p0, h.p1⟩, h⟩
def MexP (C : McC) (F : Nat → Prop) (G : Prop) (w : World) (σ : McS) (x y : ExprD) (e : Ending) (w' : World) : Prop :=
  ∃ r τ, e = .returned (.bool r) ∧ McIs C F w' τ ∧ OutO F w w' ∧ Grow G σ τ ∧ τ.phi ≤ σ.phi + exNz x ∧ (r = true → ExOk τ.ve x y) ∧ (r = false → ¬ G) ∧ τ.ws = σ.ws
set_option maxHeartbeats 4000000 in
theorem mexpr_any (C : McC) (F : Nat → Prop) (G : Prop) (σ : McS) (k n k' n' : Int) (s s' : ByteArray) (args args' : List ExprD) (A A' : Option Addr) (c c' : Nat) (w : World) (h : McIs C F w σ) (ha : ExprsAt C.w0 C.S args A) (hb : ExprsAt C.w0 C.S args' A')
    (hq : G → ExprD.mk k n s args = ExprD.mk k' n' s' args') (hp : σ.phi ≤ 1000000) :
    Calls Tryz.prog 67 #[.pointer (some ⟨C.p, 0, none⟩), .agg #[.int .i64 k, .int .u64 n, .string s, .slice A args.length c], .agg #[.int .i64 k', .int .u64 n', .string s', .slice A' args'.length c']] w (MexP C F G w σ (.mk k n s args) (.mk k' n' s' args')) := by
  obtain ⟨hM, hX, hB⟩ := h.boxes (c1 := #[.int .i64 k, .int .u64 n, .string s, .slice A args.length c]) (c2 := #[.int .i64 k', .int .u64 n', .string s', .slice A' args'.length c']) (T := 42)
  have HS := Lib.hid (exS_of hX)
  have HM := Lib.hid hM
  have HB := Lib.hid hB
  have HF := Lib.hid h.fk
  have HQ := Lib.hid hq
  have HNo := Lib.hid (show ∀ m : Nat, ¬ G → MexP C F G w σ (.mk k n s args) (.mk k' n' s' args') (.returned (.bool false)) (((w.alloc (.cells #[.int .i64 k, .int .u64 n, .string s, .slice A args.length c] 42)).alloc (.cells #[.int .i64 k', .int .u64 n', .string s', .slice A' args'.length c'] 42)).drewN m) from
    fun m hg => ⟨false, σ, rfl, h.below (hB.trans ⟨rfl, rfl, rfl, Nat.le_refl _, fun _ _ => rfl⟩), OutO.of_below (hB.trans ⟨rfl, rfl, rfl, Nat.le_refl _, fun _ _ => rfl⟩), Grow.refl G σ, by omega, fun e => (by cases e), fun _ => hg, rfl⟩)
  have HPut := Lib.hid (fun (w' : World) (h1 : ExS C w.heap.size (w.heap.size + 1) (.int .i64 k) (.int .u64 n) (.string s) (.slice A args.length c) (.int .i64 k') (.int .u64 n') (.string s') (.slice A' args'.length c') 42 w') (h2 : McIs C (NBo (NBo F w.heap.size) (w.heap.size + 1)) w' σ) =>
    (putE_any C (NBo (NBo F w.heap.size) (w.heap.size + 1)) G σ args args' A A' c c' w' h2 ha hb (fun g => by have := hq g; simp only [ExprD.mk.injEq] at this; exact this.2.2.2) hp).mono (fun e w2 h3 => show e = .returned (.bool (decide (args.length = args'.length))) ∧ (∃ τ, McIs C (NBo (NBo F w.heap.size) (w.heap.size + 1)) w2 τ ∧ OutO (NBo (NBo F w.heap.size) (w.heap.size + 1)) w' w2 ∧ Grow G σ τ ∧ τ.phi ≤ σ.phi + exsNz args ∧ (args.length = args'.length → PutOk τ.ve args args') ∧ τ.ws = σ.ws) ∧ ExS C w.heap.size (w.heap.size + 1) (.int .i64 k) (.int .u64 n) (.string s) (.slice A args.length c) (.int .i64 k') (.int .u64 n') (.string s') (.slice A' args'.length c') 42 w2 from by
      obtain ⟨e1, τ, m1, o1, g1, p1, q1, z1⟩ := h3
      exact ⟨e1, ⟨τ, m1, o1, g1, p1, q1, z1⟩, exS_of (h1.2.out o1 m1)⟩))
  clear hM hX hB hq h
  by_cases hk : k = k'
  · have tk : (k == k') = true := by rw [beq_iff_eq]; exact hk
    have HK := Lib.hid hk
    clear hk
    by_cases hn : n = n'
    · have tn : (n == n') = true := by rw [beq_iff_eq]; exact hn
      have HN := Lib.hid hn
      clear hn
      by_cases hs : s = s'
      · have ts : (s.toList == s'.toList) = true := by rw [str_eq, decide_eq_true_iff]; exact hs
        have HE := Lib.hid (And.intro HK.out (And.intro HN.out hs))
        clear hs
        by_cases hl : args.length = args'.length
        · have tl : decide (args.length = args'.length) = true := decide_eq_true hl
          rw [tl] at HPut
          have HL := Lib.hid hl
          clear hl tl
          have hS := HS.out
          have hM := HM.out
          generalize args.length = a at *
          generalize args'.length = a' at *
          go_enter Tryz.func67, Tryz.ntmps67
          go_wp2
          go_region_held3 (fun w' => ExS C w.heap.size (w.heap.size + 1) (.int .i64 k) (.int .u64 n) (.string s) (.slice A a c) (.int .i64 k') (.int .u64 n') (.string s') (.slice A' a' c') 42 w') (with_reducible assumption)
            (first
            | (go_at_call 93; (with_reducible refine (HPut.out _ ?hs ?hm).mono ?_); (case hs => (with_reducible assumption)); (case hm => (with_reducible assumption)); rintro e w' ⟨rfl, hτ, hh⟩))
          go_wp2
          go_ret
          obtain ⟨τ, m1, o1, g1, p1, q1, z1⟩ := hτ
          refine ⟨true, τ, rfl, (m1.unbox (fun b hb => HF.out b hb.1)).unbox HF.out, (OutO.of_below HB.out).trans o1.unbox.unbox, g1, by rw [exNz_eq]; exact p1, fun _ => ⟨?_, q1 HL.out⟩, fun e => (by cases e), z1⟩
          obtain ⟨rfl, rfl, rfl⟩ := HE.out
          rfl
        · have tl : decide (args.length = args'.length) = false := decide_eq_false hl
          rw [tl] at HPut
          have HL := Lib.hid (show ¬ G from fun g => hl (by have := HQ.out g; simp only [ExprD.mk.injEq] at this; rw [this.2.2.2]))
          clear hl tl
          have hS := HS.out
          have hM := HM.out
          generalize args.length = a at *
          generalize args'.length = a' at *
          go_enter Tryz.func67, Tryz.ntmps67
          go_wp2
          go_region_held3 (fun w' => ExS C w.heap.size (w.heap.size + 1) (.int .i64 k) (.int .u64 n) (.string s) (.slice A a c) (.int .i64 k') (.int .u64 n') (.string s') (.slice A' a' c') 42 w') (with_reducible assumption)
            (first
            | (go_at_call 93; (with_reducible refine (HPut.out _ ?hs ?hm).mono ?_); (case hs => (with_reducible assumption)); (case hm => (with_reducible assumption)); rintro e w' ⟨rfl, hτ, hh⟩))
          go_wp2
          go_ret
          obtain ⟨τ, m1, o1, g1, p1, q1, z1⟩ := hτ
          exact ⟨false, τ, rfl, (m1.unbox (fun b hb => HF.out b hb.1)).unbox HF.out, (OutO.of_below HB.out).trans o1.unbox.unbox, g1, by rw [exNz_eq]; exact p1, fun e => (by cases e), fun _ => HL.out, z1⟩
      · have ts : (s.toList == s'.toList) = false := by rw [str_eq, decide_eq_false_iff_not]; exact hs
        have HNE := Lib.hid hs
        clear hs HPut
        have hS := HS.out
        generalize args.length = a at *
        generalize args'.length = a' at *
        obtain ⟨⟨x0, x1, x2, x3, x4, x5, x6, x7, x8, x9⟩, _⟩ := hS
        go_enter Tryz.func67, Tryz.ntmps67
        go_wp2
        go_quiet (fail)
        go_wp2
        go_ret
        exact HNo.out _ (fun g => HNE.out (by have := HQ.out g; simp only [ExprD.mk.injEq] at this; exact this.2.2.1))
    · have tn : (n == n') = false := by rw [beq_eq_false_iff_ne]; exact hn
      have HNE := Lib.hid hn
      clear hn HPut
      have hS := HS.out
      generalize args.length = a at *
      generalize args'.length = a' at *
      obtain ⟨⟨x0, x1, x2, x3, x4, x5, x6, x7, x8, x9⟩, _⟩ := hS
      go_enter Tryz.func67, Tryz.ntmps67
      go_wp2
      go_quiet (fail)
      go_wp2
      go_ret
      exact HNo.out _ (fun g => HNE.out (by have := HQ.out g; simp only [ExprD.mk.injEq] at this; exact this.2.1))
  · have tk : (k == k') = false := by rw [beq_eq_false_iff_ne]; exact hk
    have HNE := Lib.hid hk
    clear hk HPut
    have hS := HS.out
    generalize args.length = a at *
    generalize args'.length = a' at *
    obtain ⟨⟨x0, x1, x2, x3, x4, x5, x6, x7, x8, x9⟩, _⟩ := hS
    go_enter Tryz.func67, Tryz.ntmps67
    go_wp2
    go_quiet (fail)
    go_wp2
    go_ret
    exact HNo.out _ (fun g => HNE.out (by have := HQ.out g; simp only [ExprD.mk.injEq] at this; exact this.1))
end Go.Proofs.YtbhdbglhejibbaaGreatDoor
namespace Go.Proofs.YtbhdbglhejibbaaGreatDoor
set_option maxRecDepth 100000
open Go.RowKit
set_option linter.unusedVariables false
abbrev StS (C : McC) (g1 g2 : Nat) (u0 u1 u2 u3 u4 u5 v0 v1 v2 v3 v4 v5 : Value) (T : TypeId) (w : World) : Prop :=
  (w.cell? ⟨g1, 0, none⟩ = some u0 ∧ w.cell? ⟨g1, 1, none⟩ = some u1 ∧ w.cell? ⟨g1, 2, none⟩ = some u2 ∧ w.cell? ⟨g1, 3, none⟩ = some u3 ∧ w.cell? ⟨g1, 4, none⟩ = some u4 ∧ w.cell? ⟨g1, 5, none⟩ = some u5 ∧
   w.cell? ⟨g2, 0, none⟩ = some v0 ∧ w.cell? ⟨g2, 1, none⟩ = some v1 ∧ w.cell? ⟨g2, 2, none⟩ = some v2 ∧ w.cell? ⟨g2, 3, none⟩ = some v3 ∧ w.cell? ⟨g2, 4, none⟩ = some v4 ∧ w.cell? ⟨g2, 5, none⟩ = some v5 ∧
   w.cell? ⟨C.p, 0, none⟩ = some (.pointer (some ⟨C.rs, 0, none⟩)) ∧ w.cell? ⟨C.p, 1, none⟩ = some (.pointer (some ⟨C.re, 0, none⟩))) ∧ BxH C g1 g2 #[u0, u1, u2, u3, u4, u5] #[v0, v1, v2, v3, v4, v5] T w
theorem stS_of {C : McC} {g1 g2 : Nat} {u0 u1 u2 u3 u4 u5 v0 v1 v2 v3 v4 v5 : Value} {T : TypeId} {w : World} (h : BxH C g1 g2 #[u0, u1, u2, u3, u4, u5] #[v0, v1, v2, v3, v4, v5] T w) : StS C g1 g2 u0 u1 u2 u3 u4 u5 v0 v1 v2 v3 v4 v5 T w :=
  ⟨⟨h.c1 0, h.c1 1, h.c1 2, h.c1 3, h.c1 4, h.c1 5, h.c2 0, h.c2 1, h.c2 2, h.c2 3, h.c2 4, h.c2 5, h.p0, h.p1⟩, h⟩
def MstP (C : McC) (F : Nat → Prop) (G : Prop) (w : World) (σ : McS) (x y : StmtD) (e : Ending) (w' : World) : Prop :=
  ∃ r τ, e = .returned (.bool r) ∧ McIs C F w' τ ∧ OutO F w w' ∧ Grow G σ τ ∧ τ.phi ≤ σ.phi + stNz x ∧ (r = true → StOk τ.ve τ.vs x y) ∧ (r = false → ¬ G)
set_option maxHeartbeats 8000000 in
theorem mstmt_same (C : McC) (F : Nat → Prop) (G : Prop) (σ : McS) (k n : Int) (s : ByteArray) (args : List ExprD) (one two : List StmtD) (A A1 A2 D D1 D2 : Option Addr) (c c1 c2 d d1 d2 : Nat) (w : World) (h : McIs C F w σ) (ha : ExprsAt C.w0 C.S args A) (ha1 : StmtsAt C.w0 C.S one A1) (ha2 : StmtsAt C.w0 C.S two A2) (hd : ExprsAt C.w0 C.S args D) (hd1 : StmtsAt C.w0 C.S one D1) (hd2 : StmtsAt C.w0 C.S two D2)
    (hp : σ.phi + stNz (.mk k s n args one two) ≤ 1000000) :
    Calls Tryz.prog 65 #[.pointer (some ⟨C.p, 0, none⟩), .agg #[.int .i64 k, .string s, .int .i64 n, .slice A args.length c, .slice A1 one.length c1, .slice A2 two.length c2], .agg #[.int .i64 k, .string s, .int .i64 n, .slice D args.length d, .slice D1 one.length d1, .slice D2 two.length d2]] w (MstP C F G w σ (.mk k s n args one two) (.mk k s n args one two)) := by
  obtain ⟨hM, hX, hB⟩ := h.boxes (c1 := #[.int .i64 k, .string s, .int .i64 n, .slice A args.length c, .slice A1 one.length c1, .slice A2 two.length c2]) (c2 := #[.int .i64 k, .string s, .int .i64 n, .slice D args.length d, .slice D1 one.length d1, .slice D2 two.length d2]) (T := 45)
  rw [stNz_eq] at hp
  simp only [stArgs, stOne, stTwo] at hp
  have HS := Lib.hid (stS_of hX)
  have HM := Lib.hid hM
  have HB := Lib.hid hB
  have HF := Lib.hid h.fk
  have HP := Lib.hid hp
  have HPa := Lib.hid (fun (w' : World) (υ : McS) (h0 : υ.phi ≤ 1000000) (h1 : StS C w.heap.size (w.heap.size + 1) (.int .i64 k) (.string s) (.int .i64 n) (.slice A args.length c) (.slice A1 one.length c1) (.slice A2 two.length c2) (.int .i64 k) (.string s) (.int .i64 n) (.slice D args.length d) (.slice D1 one.length d1) (.slice D2 two.length d2) 45 w') (h2 : McIs C (NBo (NBo F w.heap.size) (w.heap.size + 1)) w' υ) =>
    (putE_any C (NBo (NBo F w.heap.size) (w.heap.size + 1)) G υ args args A D c d w' h2 ha hd (fun _ => rfl) h0).mono (fun e w2 h3 => show e = .returned (.bool true) ∧ (∃ τ, McIs C (NBo (NBo F w.heap.size) (w.heap.size + 1)) w2 τ ∧ OutO (NBo (NBo F w.heap.size) (w.heap.size + 1)) w' w2 ∧ Grow G υ τ ∧ τ.phi ≤ υ.phi + exsNz args ∧ PutOk τ.ve args args) ∧ StS C w.heap.size (w.heap.size + 1) (.int .i64 k) (.string s) (.int .i64 n) (.slice A args.length c) (.slice A1 one.length c1) (.slice A2 two.length c2) (.int .i64 k) (.string s) (.int .i64 n) (.slice D args.length d) (.slice D1 one.length d1) (.slice D2 two.length d2) 45 w2 from by
      obtain ⟨e1, τ, m1, o1, g1, p1, q1, z1⟩ := h3
      rw [decide_eq_true rfl] at e1
      exact ⟨e1, ⟨τ, m1, o1, g1, p1, q1 rfl⟩, stS_of (h1.2.out o1 m1)⟩))
  have HPb := Lib.hid (fun (w' : World) (υ : McS) (h0 : υ.phi ≤ 1000000) (h1 : StS C w.heap.size (w.heap.size + 1) (.int .i64 k) (.string s) (.int .i64 n) (.slice A args.length c) (.slice A1 one.length c1) (.slice A2 two.length c2) (.int .i64 k) (.string s) (.int .i64 n) (.slice D args.length d) (.slice D1 one.length d1) (.slice D2 two.length d2) 45 w') (h2 : McIs C (NBo (NBo F w.heap.size) (w.heap.size + 1)) w' υ) =>
    (putS_any C (NBo (NBo F w.heap.size) (w.heap.size + 1)) G υ one one A1 D1 c1 d1 w' h2 ha1 hd1 (fun _ => rfl) h0).mono (fun e w2 h3 => show e = .returned (.bool true) ∧ (∃ τ, McIs C (NBo (NBo F w.heap.size) (w.heap.size + 1)) w2 τ ∧ OutO (NBo (NBo F w.heap.size) (w.heap.size + 1)) w' w2 ∧ Grow G υ τ ∧ τ.phi ≤ υ.phi + stsNz one ∧ PutOk τ.vs one one) ∧ StS C w.heap.size (w.heap.size + 1) (.int .i64 k) (.string s) (.int .i64 n) (.slice A args.length c) (.slice A1 one.length c1) (.slice A2 two.length c2) (.int .i64 k) (.string s) (.int .i64 n) (.slice D args.length d) (.slice D1 one.length d1) (.slice D2 two.length d2) 45 w2 from by
      obtain ⟨e1, τ, m1, o1, g1, p1, q1, z1⟩ := h3
      rw [decide_eq_true rfl] at e1
      exact ⟨e1, ⟨τ, m1, o1, g1, p1, q1 rfl⟩, stS_of (h1.2.out o1 m1)⟩))
  have HPc := Lib.hid (fun (w' : World) (υ : McS) (h0 : υ.phi ≤ 1000000) (h1 : StS C w.heap.size (w.heap.size + 1) (.int .i64 k) (.string s) (.int .i64 n) (.slice A args.length c) (.slice A1 one.length c1) (.slice A2 two.length c2) (.int .i64 k) (.string s) (.int .i64 n) (.slice D args.length d) (.slice D1 one.length d1) (.slice D2 two.length d2) 45 w') (h2 : McIs C (NBo (NBo F w.heap.size) (w.heap.size + 1)) w' υ) =>
    (putS_any C (NBo (NBo F w.heap.size) (w.heap.size + 1)) G υ two two A2 D2 c2 d2 w' h2 ha2 hd2 (fun _ => rfl) h0).mono (fun e w2 h3 => show e = .returned (.bool true) ∧ (∃ τ, McIs C (NBo (NBo F w.heap.size) (w.heap.size + 1)) w2 τ ∧ OutO (NBo (NBo F w.heap.size) (w.heap.size + 1)) w' w2 ∧ Grow G υ τ ∧ τ.phi ≤ υ.phi + stsNz two ∧ PutOk τ.vs two two) ∧ StS C w.heap.size (w.heap.size + 1) (.int .i64 k) (.string s) (.int .i64 n) (.slice A args.length c) (.slice A1 one.length c1) (.slice A2 two.length c2) (.int .i64 k) (.string s) (.int .i64 n) (.slice D args.length d) (.slice D1 one.length d1) (.slice D2 two.length d2) 45 w2 from by
      obtain ⟨e1, τ, m1, o1, g1, p1, q1, z1⟩ := h3
      rw [decide_eq_true rfl] at e1
      exact ⟨e1, ⟨τ, m1, o1, g1, p1, q1 rfl⟩, stS_of (h1.2.out o1 m1)⟩))
  have P0 := Lib.hid (show σ.phi ≤ 1000000 by omega)
  have tk : (k == k) = true := by simp
  have tn : (n == n) = true := by simp
  have ts : (s.toList == s.toList) = true := by rw [str_eq]; simp
  clear hM hX hB h hp ha ha1 ha2 hd hd1 hd2
  have hS := HS.out
  have hM := HM.out
  generalize args.length = la at *
  generalize one.length = l1 at *
  generalize two.length = l2 at *
  go_enter Tryz.func65, Tryz.ntmps65
  go_wp2
  go_region_held3 (fun w' => StS C w.heap.size (w.heap.size + 1) (.int .i64 k) (.string s) (.int .i64 n) (.slice A la c) (.slice A1 l1 c1) (.slice A2 l2 c2) (.int .i64 k) (.string s) (.int .i64 n) (.slice D la d) (.slice D1 l1 d1) (.slice D2 l2 d2) 45 w') (with_reducible assumption)
    (first
    | (go_at_call 93; (with_reducible refine (HPa.out _ _ P0.out ?hs ?hm).mono ?_); (case hs => (with_reducible assumption)); (case hm => (with_reducible assumption)); rintro e w1 ⟨rfl, ⟨τ1, m1, o1, g1, p1, q1⟩, hh1⟩; have P1 := Lib.hid (show τ1.phi ≤ 1000000 by have := HP.out; omega))
    | (go_at_call 63; (with_reducible refine (HPb.out w1 τ1 P1.out hh1 m1).mono ?_); rintro e w2 ⟨rfl, ⟨τ2, m2, o2, g2, p2, q2⟩, hh2⟩; have P2 := Lib.hid (show τ2.phi ≤ 1000000 by have := HP.out; omega))
    | (go_at_call 63; (with_reducible refine (HPc.out w2 τ2 P2.out hh2 m2).mono ?_); rintro e w3 ⟨rfl, ⟨τ3, m3, o3, g3, p3, q3⟩, hh3⟩))
  go_wp2
  go_ret
  refine ⟨true, τ3, rfl, (m3.unbox (fun b hb => HF.out b hb.1)).unbox HF.out, (OutO.of_below HB.out).trans (o1.unbox.unbox.trans (o2.unbox.unbox.trans o3.unbox.unbox)), g1.trans (g2.trans g3), by rw [stNz_eq]; simp only [stArgs, stOne, stTwo]; omega, fun _ => ⟨rfl, (q1.mono g2.ev).mono g3.ev, q2.mono g3.sv, q3⟩, fun e => by cases e⟩
end Go.Proofs.YtbhdbglhejibbaaGreatDoor
