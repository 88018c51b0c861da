/- Layer 6: what the map of things seen knows, object by object: plain mathematics. -/
import Derived.Test.YtfdpbogbnfkilaaDoorObjMayP
import Derived.Test.YtfdpbogbnfkilaaDoorObjFirst
namespace Go.Proofs.YtfdpbogbnfkilaaDoor
set_option maxRecDepth 100000
open Go.RowKit
set_option linter.unusedVariables false
structure SeenS (d : ObjD) (M : Th → Option Int) (ks kr ke : Nat) : Prop where
  sy : ∀ s, (M (0, s, 0) = none ↔ ∀ j, j < ks → (symAt d j).1 ≠ s)
  syI : ∀ s c, M (0, s, 0) = some c → ∃ j : Nat, j < ks ∧ c = j ∧ (symAt d j).1 = s
  re : ∀ a, (M (1, ⟨#[]⟩, a) = none ↔ ∀ j, j < kr → (relAt d j).1 ≠ a)
  en : ∀ s, (M (2, s, 0) = none ↔ ∀ j, j < ke → (entAt d j).1 ≠ s)
/-- one thing more -/
def putM (M : Th → Option Int) (t : Th) (i : Int) : Th → Option Int := fun x => if x = t then some i else M x
theorem SeenS.start (d : ObjD) : SeenS d (fun _ => none) 0 0 0 :=
  ⟨fun s => ⟨fun _ j hj => by omega, fun _ => rfl⟩, fun s c h => (nomatch h), fun a => ⟨fun _ j hj => by omega, fun _ => rfl⟩, fun s => ⟨fun _ j hj => by omega, fun _ => rfl⟩⟩
theorem putM_same (M : Th → Option Int) (t : Th) (i : Int) : putM M t i t = some i := by unfold putM; rw [if_pos rfl]
theorem putM_other (M : Th → Option Int) {t x : Th} (i : Int) (h : x ≠ t) : putM M t i x = M x := by unfold putM; rw [if_neg h]
theorem succ_iff {n : Nat} {p : Nat → Prop} : (∀ j, j < n + 1 → p j) ↔ (∀ j, j < n → p j) ∧ p n :=
  ⟨fun h => ⟨fun j hj => h j (by omega), h n (by omega)⟩, fun h j hj => by
    by_cases e : j = n
    · subst e; exact h.2
    · exact h.1 j (by omega)⟩
section
variable {d : ObjD} {M : Th → Option Int} {ks kr ke : Nat}
theorem SeenS.sym (h : SeenS d M ks kr ke) : SeenS d (putM M (0, (symAt d ks).1, 0) ks) (ks + 1) kr ke := by
  refine ⟨fun s => ?_, fun s c hc => ?_, fun a => ?_, fun s => ?_⟩
  · rw [succ_iff]
    by_cases e : s = (symAt d ks).1
    · subst e; rw [putM_same]; exact ⟨fun h => (by cases h), fun h => absurd rfl h.2⟩
    · rw [putM_other _ _ (by intro h; cases h; exact e rfl), h.sy]; exact ⟨fun h => ⟨h, fun h => e h.symm⟩, fun h => h.1⟩
  · by_cases e : s = (symAt d ks).1
    · subst e; rw [putM_same] at hc; cases hc; exact ⟨ks, by omega, rfl, rfl⟩
    · rw [putM_other _ _ (by intro h; cases h; exact e rfl)] at hc
      obtain ⟨j, h1, h2⟩ := h.syI s c hc
      exact ⟨j, by omega, h2⟩
  · rw [putM_other _ _ (by intro h; cases h), h.re]
  · rw [putM_other _ _ (by intro h; cases h), h.en]
theorem SeenS.rel (h : SeenS d M ks kr ke) (i : Int) : SeenS d (putM M (1, ⟨#[]⟩, (relAt d kr).1) i) ks (kr + 1) ke := by
  refine ⟨fun s => ?_, fun s c hc => ?_, fun a => ?_, fun s => ?_⟩
  · rw [putM_other _ _ (by intro h; cases h), h.sy]
  · rw [putM_other _ _ (by intro h; cases h)] at hc; exact h.syI s c hc
  · rw [succ_iff]
    by_cases e : a = (relAt d kr).1
    · subst e; rw [putM_same]; exact ⟨fun h => (by cases h), fun h => absurd rfl h.2⟩
    · rw [putM_other _ _ (by intro h; cases h; exact e rfl), h.re]; exact ⟨fun h => ⟨h, fun h => e h.symm⟩, fun h => h.1⟩
  · rw [putM_other _ _ (by intro h; cases h), h.en]
theorem SeenS.ent (h : SeenS d M ks kr ke) (i : Int) : SeenS d (putM M (2, (entAt d ke).1, 0) i) ks kr (ke + 1) := by
  refine ⟨fun s => ?_, fun s c hc => ?_, fun a => ?_, fun s => ?_⟩
  · rw [putM_other _ _ (by intro h; cases h), h.sy]
  · rw [putM_other _ _ (by intro h; cases h)] at hc; exact h.syI s c hc
  · rw [putM_other _ _ (by intro h; cases h), h.re]
  · rw [succ_iff]
    by_cases e : s = (entAt d ke).1
    · subst e; rw [putM_same]; exact ⟨fun h => (by cases h), fun h => absurd rfl h.2⟩
    · rw [putM_other _ _ (by intro h; cases h; exact e rfl), h.en]; exact ⟨fun h => ⟨h, fun h => e h.symm⟩, fun h => h.1⟩
theorem none_all {o : Option Int} {n : Nat} {p : Nat → Prop} [DecidablePred p] (h : o = none ↔ ∀ j, j < n → ¬ p j) : o.isNone = ((List.range n).all fun j => !decide (p j)) := by
  rw [Bool.eq_iff_iff, List.all_eq_true, Option.isNone_iff_eq_none, h]
  exact ⟨fun h j hj => by simpa using h j (List.mem_range.1 hj), fun h j hj => by simpa using h j (List.mem_range.2 hj)⟩
theorem SeenS.symB (h : SeenS d M ks kr ke) : Proofs.YtfdpbogbnfkilaaDoor.symB M d.text.length d.data.length (symAt d ks).1 (symAt d ks).2.1 (symAt d ks).2.2.1 = symOkB d ks := by
  unfold Proofs.YtfdpbogbnfkilaaDoor.symB symOkB
  rw [none_all (h.sy _)]
def relB (M : Th → Option Int) (ops : List Int) (r : RelD) : Bool :=
  r.1.tmod 4 == 0 && inB r.1 (4 * (ops.length : Int) - 1) && suitB r.2.1 (nth ops (r.1 / 4).toNat).toNat && (M (1, ⟨#[]⟩, r.1)).isNone && nameB (sB r.2.2.1) && decide (-65536 ≤ r.2.2.2) && decide (r.2.2.2 ≤ 65536)
theorem SeenS.relB (h : SeenS d M ks kr ke) : Proofs.YtfdpbogbnfkilaaDoor.relB M (opsL d.text) (relAt d kr) = relOkB d kr := by
  unfold Proofs.YtfdpbogbnfkilaaDoor.relB relOkB
  rw [none_all (h.re _), opsL_len]
/-- the looker's entry -/
def entB (M : Th → Option Int) (syms : List SymD) (e : EntD) : Bool :=
  match M (0, e.1, 0) with
  | none => false
  | some c => !(syms.getD c.toNat (ByteArray.empty, false, 0, false)).2.1 && (syms.getD c.toNat (ByteArray.empty, false, 0, false)).2.2.2 && (M (2, e.1, 0)).isNone && parB e.2
theorem names_apart (hs : symsB d = true) {i j : Nat} (hi : i < d.syms.length) (hj : j < d.syms.length) (h : (symAt d i).1 = (symAt d j).1) : i = j := by
  have key : ∀ {a b : Nat}, b < d.syms.length → a < b → (symAt d a).1 ≠ (symAt d b).1 := by
    intro a b hb hab e
    have h1 := range_all_of hs hb
    unfold symOkB at h1
    simp only [Bool.and_eq_true] at h1
    have h2 := range_all_of h1.1.1.2 hab
    simp [e] at h2
  rcases Nat.lt_trichotomy i j with h1 | h1 | h1
  · exact absurd h (key hj h1)
  · exact h1
  · exact absurd h.symm (key hi h1)
theorem SeenS.entB (hs : symsB d = true) (h : SeenS d M d.syms.length kr ke) : Proofs.YtfdpbogbnfkilaaDoor.entB M d.syms (entAt d ke) = entOkB d ke := by
  unfold Proofs.YtfdpbogbnfkilaaDoor.entB entOkB
  cases hM : M (0, (entAt d ke).1, 0) with
  | none =>
    have h1 := (h.sy _).1 hM
    have : (d.syms.any fun t => decide (t.1 = (entAt d ke).1) && !t.2.1 && t.2.2.2) = false := by
      rw [List.any_eq_false]
      intro t ht
      obtain ⟨j, hj, rfl⟩ := mem_getD (z := (ByteArray.empty, false, 0, false)) ht
      have := h1 j hj
      unfold symAt at this
      simp only [decide_eq_false this, Bool.false_and]
      exact Bool.false_ne_true
    rw [this]; rfl
  | some c =>
    obtain ⟨j, hj, rfl, hn⟩ := h.syI _ _ hM
    have ha : (d.syms.any fun t => decide (t.1 = (entAt d ke).1) && !t.2.1 && t.2.2.2) = (!(symAt d j).2.1 && (symAt d j).2.2.2) := by
      rw [Bool.eq_iff_iff, List.any_eq_true]
      constructor
      · rintro ⟨t, ht, hp⟩
        obtain ⟨i, hi, rfl⟩ := mem_getD (z := (ByteArray.empty, false, 0, false)) ht
        simp only [Bool.and_eq_true, decide_eq_true_eq] at hp
        have := names_apart hs hi hj (by rw [hn]; exact hp.1.1)
        subst this
        unfold symAt
        rw [hp.1.2, hp.2]; rfl
      · intro hp
        simp only [Bool.and_eq_true] at hp
        exact ⟨symAt d j, getD_mem hj, by simp [hn, hp.1, hp.2]⟩
    simp only [Int.toNat_natCast]
    rw [ha, none_all (h.en _)]
    rfl
end
end Go.Proofs.YtfdpbogbnfkilaaDoor
