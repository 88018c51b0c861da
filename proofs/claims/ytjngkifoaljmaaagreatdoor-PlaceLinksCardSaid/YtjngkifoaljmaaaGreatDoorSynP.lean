/- Layer 7: what Find tells, plainly. No condition. -/
import Derived.Test.YtjngkifoaljmaaaGreatDoorSymR
namespace Go.Proofs.YtjngkifoaljmaaaGreatDoor
set_option linter.unusedVariables false
/-- what a name means in object q, plainly: its own first, then the first that is Out -/
def findP (l : List ObjD) (q : Nat) (s : ByteArray) : Option (Int × Int) := match idxS (nAt l q).syms s false with
  | some j => some ((q : Int), j)
  | none => (List.range l.length).findSome? fun (k : Nat) => (idxS (nAt l k).syms s true).map fun j => ((k : Int), j)
theorem find_congr {α β : Type} {f g : α → Option β} : ∀ {xs : List α}, (∀ x ∈ xs, f x = g x) → xs.findSome? f = xs.findSome? g
  | [], _ => rfl
  | x :: xs, h => by
    rw [List.findSome?_cons, List.findSome?_cons, h x (by simp), find_congr (fun y hy => h y (List.mem_cons_of_mem _ hy))]
theorem name_at {l : List ObjD} {q : Nat} (hq : q < l.length) (s : ByteArray) (o : Bool) : wrL (fun t => decide (t = s)) l l.length (s, (q : Int), o) = idxS (nAt l q).syms s o := by
  have h := wrL_val (p := fun t => decide (t = s)) (l := l) s o (Nat.le_refl l.length) hq
  rw [nAt_get hq]
  simpa using h
theorem fnd_plain {l : List ObjD} {q : Nat} (hq : q < l.length) (s : ByteArray) : fndD l (q : Int) s = findP l q s := by
  unfold fndD
  rw [if_pos ⟨by omega, by omega⟩]
  unfold meanM findP
  rw [name_at hq]
  cases idxS (nAt l q).syms s false with
  | some j => rfl
  | none =>
    exact find_congr fun k hk => by rw [name_at (List.mem_range.1 hk)]
/-- the book of all names tells the same -/
theorem mean_plain {l : List ObjD} {q : Nat} (hq : q < l.length) (s : ByteArray) : meanM (bookM l) l.length (q : Int) s = findP l q s := by
  unfold meanM findP
  rw [book_at hq]
  cases idxS (nAt l q).syms s false with
  | some j => rfl
  | none =>
    exact find_congr fun k hk => by rw [book_at (List.mem_range.1 hk)]
theorem idx_spec {ss : List SymD} {s : ByteArray} {o : Bool} {j : Int} (h : idxS ss s o = some j) : ∃ (q : Nat) (hq : q < ss.length), j = q ∧ ss[q].1 = s ∧ (o = true → ss[q].2.2.2 = true) := by
  unfold idxS at h
  obtain ⟨q, hq, rfl⟩ : ∃ q : Nat, ss.findIdx? (mtS s o) = some q ∧ (q : Int) = j := by
    cases e : ss.findIdx? (mtS s o) with
    | none => rw [e] at h; cases h
    | some q => rw [e] at h; exact ⟨q, rfl, Option.some.inj h⟩
  rw [List.findIdx?_eq_some_iff_getElem] at hq
  obtain ⟨h1, h2, _⟩ := hq
  unfold mtS at h2
  simp only [Bool.and_eq_true, decide_eq_true_eq, Bool.or_eq_true, Bool.not_eq_true'] at h2
  refine ⟨q, h1, rfl, h2.1, fun ho => ?_⟩
  rcases h2.2 with h | h
  · rw [ho] at h; cases h
  · exact h
theorem idx_none {ss : List SymD} {s : ByteArray} {o : Bool} : idxS ss s o = none ↔ ss.any (mtS s o) = false := by
  rw [← idx_isSome]
  cases idxS ss s o <;> simp
/-- what is found is a Sym of that name, the object's own, or Out -/
theorem find_some {l : List ObjD} {q : Nat} (hq : q < l.length) {s : ByteArray} {x : Int × Int} (h : findP l q s = some x) : ∃ (k j : Nat) (hj : j < (nAt l k).syms.length), k < l.length ∧ x = ((k : Int), (j : Int)) ∧ (nAt l k).syms[j].1 = s ∧ (k = q ∨ (nAt l k).syms[j].2.2.2 = true) := by
  unfold findP at h
  cases e : idxS (nAt l q).syms s false with
  | some j =>
    rw [e] at h
    simp only [Option.some.injEq] at h
    subst h
    obtain ⟨m, hm, rfl, h1, _⟩ := idx_spec e
    exact ⟨q, m, hm, hq, rfl, h1, .inl rfl⟩
  | none =>
    rw [e] at h
    simp only at h
    obtain ⟨k, hk, hx⟩ := List.exists_of_findSome?_eq_some h
    rw [Option.map_eq_some_iff] at hx
    obtain ⟨j, hj, rfl⟩ := hx
    obtain ⟨m, hm, rfl, h1, h2⟩ := idx_spec hj
    exact ⟨k, m, hm, List.mem_range.1 hk, rfl, h1, .inr (h2 rfl)⟩
theorem find_some' {l : List ObjD} {q : Nat} (hq : q < l.length) {s : ByteArray} {x : Int × Int} (h : findP l q s = some x) : ∃ (k : Nat) (hk : k < l.length) (j : Nat) (hj : j < l[k].syms.length), x = ((k : Int), (j : Int)) ∧ l[k].syms[j].1 = s ∧ (k = q ∨ l[k].syms[j].2.2.2 = true) := by
  obtain ⟨k, j, hj, hk, e, h1, h2⟩ := find_some hq h
  have : ∃ hj : j < (nAt l k).syms.length, x = ((k : Int), (j : Int)) ∧ (nAt l k).syms[j].1 = s ∧ (k = q ∨ (nAt l k).syms[j].2.2.2 = true) := ⟨hj, e, h1, h2⟩
  rw [nAt_get hk] at this
  exact ⟨k, hk, j, this⟩
/-- a name that is Out anywhere means something everywhere -/
theorem find_out {l : List ObjD} {q k : Nat} (hq : q < l.length) (hk : k < l.length) {s : ByteArray} (h : outIn (nAt l k) s = true) : (findP l q s).isSome = true := by
  unfold findP
  cases e : idxS (nAt l q).syms s false with
  | some j => rfl
  | none =>
    rw [List.findSome?_isSome_iff]
    refine ⟨k, List.mem_range.2 hk, ?_⟩
    unfold outIn at h
    rw [← idx_isSome] at h
    rw [Option.isSome_map]; exact h
theorem own_find {l : List ObjD} {q : Nat} {s : ByteArray} {j : Int} (h : idxS (nAt l q).syms s false = some j) : findP l q s = some ((q : Int), j) := by
  unfold findP; rw [h]
end Go.Proofs.YtjngkifoaljmaaaGreatDoor
