/- Layer 7: what clashes and what means nothing, plainly; Check, reckoned. No condition.
   Layer 7: lists of one and of two objects that a caller lays. No condition.
   Layer 7: rows of Defs; Used, of a list with one use at most. Condition: the tables of package ins read as they should.
   Layer 7: Used, of a list with one use at most. Condition: the tables of package ins read as they should.
   Layer 7: rows that are sorted and have no two alike: names in their order, without those that follow their like. No condition.
   Layer 7: what the document fixes (awake). Condition: the tables of package ins read as they should.
   Layer 7: objects that a caller builds, Sym by Sym, in boxes. No condition. -/
import Derived.Test.YtjngkifoaljmaaaGreatDoorSymF
import Derived.Test.YtjngkifoaljmaaaGreatDoorSymA
import Derived.Test.YtjngkifoaljmaaaGreatDoorSymN
namespace Go.Proofs.YtjngkifoaljmaaaGreatDoor
set_option linter.unusedVariables false
def outIn (d : ObjD) (s : ByteArray) : Bool := d.syms.any (mtS s true)
def ownIn (d : ObjD) (s : ByteArray) : Bool := d.syms.any (mtS s false)
def relIn (d : ObjD) (s : ByteArray) : Bool := d.rels.any fun r => decide (r.2.2.1 = s)
def nAt (l : List ObjD) (q : Nat) : ObjD := l.getD q dNo
theorem nAt_get {l : List ObjD} {q : Nat} (h : q < l.length) : nAt l q = l[q] := by unfold nAt; simp [h]
theorem idx_isSome (ss : List SymD) (s : ByteArray) (o : Bool) : (idxS ss s o).isSome = ss.any (mtS s o) := by
  have h := List.findIdx?_isSome (xs := ss) (p := mtS s o)
  rw [← h]
  unfold idxS
  cases ss.findIdx? (mtS s o) <;> rfl
theorem book_at {l : List ObjD} {q : Nat} (hq : q < l.length) (s : ByteArray) (o : Bool) : bookM l (s, (q : Int), o) = idxS (nAt l q).syms s o := by
  have h := wrL_val (p := fun _ => true) (l := l) s o (Nat.le_refl l.length) hq
  rw [nAt_get hq]
  simpa using h
theorem book_out {l : List ObjD} {q : Nat} (hq : q < l.length) (s : ByteArray) : (bookM l (s, (q : Int), true)).isSome = outIn (nAt l q) s := by
  rw [book_at hq, idx_isSome]; rfl
theorem book_own {l : List ObjD} {q : Nat} (hq : q < l.length) (s : ByteArray) : (bookM l (s, (q : Int), false)).isSome = ownIn (nAt l q) s := by
  rw [book_at hq, idx_isSome]; rfl
theorem clash_plain {l : List ObjD} (hl : l.length ≤ 1000000) (s : ByteArray) : clashP (bookM l) s ↔ s.size ≤ maxLen ∧ ∃ a i : Nat, a < i ∧ i < l.length ∧ outIn (nAt l a) s = true ∧ outIn (nAt l i) s = true := by
  constructor
  · rintro ⟨i, h1, h2, a, h3, h4⟩
    obtain ⟨q, hq, e⟩ := wrL_dom h2
    simp only at e
    subst e
    have ha : a < q := by omega
    rw [book_out hq] at h2
    rw [book_out (by omega)] at h4
    exact ⟨h1.1, a, q, ha, hq, h4, h2⟩
  · rintro ⟨h1, a, i, h2, h3, h4, h5⟩
    refine ⟨i, ⟨h1, by simp only; omega, by simp only; omega⟩, ?_, a, by omega, ?_⟩
    · rw [book_out h3]; exact h5
    · rw [book_out (by omega)]; exact h4
theorem mean_void {l : List ObjD} {q : Nat} (hq : q < l.length) (s : ByteArray) : meanM (bookM l) l.length q s = none ↔ ownIn (nAt l q) s = false ∧ ∀ j, j < l.length → outIn (nAt l j) s = false := by
  constructor
  · intro h
    unfold meanM at h
    cases e : bookM l (s, (q : Int), false) with
    | some j => rw [e] at h; cases h
    | none =>
      rw [e] at h
      refine ⟨by rw [← book_own hq, e]; rfl, fun j hj => ?_⟩
      have := List.findSome?_eq_none_iff.1 h j (List.mem_range.2 hj)
      rw [← book_out hj]
      cases e2 : bookM l (s, (j : Int), true) with
      | none => rfl
      | some x => rw [e2] at this; cases this
  · rintro ⟨h1, h2⟩
    refine mean_none ?_ fun j hj => ?_
    · rw [← Option.not_isSome_iff_eq_none, book_own hq, h1]; simp
    · rw [← Option.not_isSome_iff_eq_none, book_out hj, h2 j hj]; simp
theorem voids_plain {l : List ObjD} (hl : l.length ≤ 1000000) (s : ByteArray) : voidsP (bookM l) l.length (usL l l.length) s ↔ s.size ≤ maxLen ∧ ∃ q : Nat, q < l.length ∧ relIn (nAt l q) s = true ∧ ownIn (nAt l q) s = false ∧ ∀ j, j < l.length → outIn (nAt l j) s = false := by
  constructor
  · rintro ⟨i, h1, h2, h3⟩
    obtain ⟨q, hq, _, rfl, r, hr, e⟩ := (usL_some (Nat.le_refl _)).1 h2
    obtain ⟨h4, h5⟩ := (mean_void hq s).1 h3
    refine ⟨h1.1, q, hq, ?_, h4, h5⟩
    unfold relIn
    rw [List.any_eq_true]
    exact ⟨r, by rw [nAt_get hq]; exact hr, decide_eq_true e⟩
  · rintro ⟨h1, q, hq, h2, h3⟩
    refine ⟨q, ⟨h1, by simp only; omega, by simp only; omega⟩, ?_, (mean_void hq s).2 h3⟩
    unfold relIn at h2
    rw [List.any_eq_true] at h2
    obtain ⟨r, hr, e⟩ := h2
    rw [nAt_get hq] at hr
    exact (usL_some (Nat.le_refl _)).2 ⟨q, hq, hq, rfl, r, hr, of_decide_eq_true e⟩
/-! ### reckoned -/
def clB (l : List ObjD) (s : ByteArray) : Bool := (List.range l.length).any fun i => outIn (nAt l i) s && (List.range i).any fun a => outIn (nAt l a) s
def vdB (l : List ObjD) (s : ByteArray) : Bool := (List.range l.length).any fun q => relIn (nAt l q) s && !ownIn (nAt l q) s && (List.range l.length).all fun j => !outIn (nAt l j) s
def symN (l : List ObjD) : List ByteArray := l.flatMap fun d => d.syms.map (·.1)
def relN (l : List ObjD) : List ByteArray := l.flatMap fun d => d.rels.map (·.2.2.1)
def clN (l : List ObjD) : List ByteArray := (symN l).filter (clB l)
def vdN (l : List ObjD) : List ByteArray := (relN l).filter (vdB l)
theorem clB_iff (l : List ObjD) (s : ByteArray) : clB l s = true ↔ ∃ a i : Nat, a < i ∧ i < l.length ∧ outIn (nAt l a) s = true ∧ outIn (nAt l i) s = true := by
  unfold clB
  simp only [List.any_eq_true, List.mem_range, Bool.and_eq_true]
  constructor
  · rintro ⟨i, h1, h2, a, h3, h4⟩; exact ⟨a, i, h3, h1, h4, h2⟩
  · rintro ⟨a, i, h1, h2, h3, h4⟩; exact ⟨i, h2, h4, a, h1, h3⟩
theorem vdB_iff (l : List ObjD) (s : ByteArray) : vdB l s = true ↔ ∃ q : Nat, q < l.length ∧ relIn (nAt l q) s = true ∧ ownIn (nAt l q) s = false ∧ ∀ j, j < l.length → outIn (nAt l j) s = false := by
  unfold vdB
  simp only [List.any_eq_true, List.all_eq_true, List.mem_range, Bool.and_eq_true, Bool.not_eq_true']
  constructor
  · rintro ⟨q, h1, ⟨h2, h3⟩, h4⟩; exact ⟨q, h1, h2, h3, h4⟩
  · rintro ⟨q, h1, h2, h3, h4⟩; exact ⟨q, h1, ⟨h2, h3⟩, h4⟩
theorem nAt_mem {l : List ObjD} {q : Nat} (h : q < l.length) : nAt l q ∈ l := by rw [nAt_get h]; exact List.getElem_mem h
theorem out_sym {d : ObjD} {s : ByteArray} (h : outIn d s = true) : ∃ t ∈ d.syms, t.1 = s ∧ t.2.2.2 = true := by
  unfold outIn at h
  rw [List.any_eq_true] at h
  obtain ⟨t, h1, h2⟩ := h
  unfold mtS at h2
  simp at h2
  exact ⟨t, h1, h2.1, h2.2⟩
theorem rel_rel {d : ObjD} {s : ByteArray} (h : relIn d s = true) : ∃ r ∈ d.rels, r.2.2.1 = s := by
  unfold relIn at h
  rw [List.any_eq_true] at h
  obtain ⟨t, h1, h2⟩ := h
  exact ⟨t, h1, of_decide_eq_true h2⟩
theorem mem_clN {l : List ObjD} (hW : ∀ d ∈ l, ObjW d) (hl : l.length ≤ 1000000) (s : ByteArray) : s ∈ clN l ↔ clashP (bookM l) s := by
  unfold clN
  rw [List.mem_filter, clB_iff, clash_plain hl]
  constructor
  · rintro ⟨h1, h2⟩
    obtain ⟨a, i, h3, h4, h5, h6⟩ := h2
    obtain ⟨t, ht, e, _⟩ := out_sym h6
    exact ⟨by rw [← e]; exact ((hW _ (nAt_mem h4)).syms t ht).1, a, i, h3, h4, h5, h6⟩
  · rintro ⟨h1, a, i, h3, h4, h5, h6⟩
    obtain ⟨t, ht, e, _⟩ := out_sym h6
    refine ⟨?_, a, i, h3, h4, h5, h6⟩
    unfold symN
    rw [List.mem_flatMap]
    exact ⟨_, nAt_mem h4, List.mem_map.2 ⟨t, ht, e⟩⟩
theorem mem_vdN {l : List ObjD} (hW : ∀ d ∈ l, ObjW d) (hl : l.length ≤ 1000000) (s : ByteArray) : s ∈ vdN l ↔ voidsP (bookM l) l.length (usL l l.length) s := by
  unfold vdN
  rw [List.mem_filter, vdB_iff, voids_plain hl]
  constructor
  · rintro ⟨h1, q, h3, h4, h5⟩
    obtain ⟨t, ht, e⟩ := rel_rel h4
    exact ⟨by rw [← e]; exact ((hW _ (nAt_mem h3)).rels t ht).2.2.1, q, h3, h4, h5⟩
  · rintro ⟨h1, q, h3, h4, h5⟩
    obtain ⟨t, ht, e⟩ := rel_rel h4
    refine ⟨?_, q, h3, h4, h5⟩
    unfold relN
    rw [List.mem_flatMap]
    exact ⟨_, nAt_mem h3, List.mem_map.2 ⟨t, ht, e⟩⟩
theorem least_fold (r : List ByteArray) : ∀ (names : List ByteArray) (x : ByteArray), LeastN names x → LeastN (names ++ r) (r.foldl Lib.minS x) := by
  induction r with
  | nil => intro names x h; simpa using h
  | cons y r ih =>
    intro names x h
    have := ih (names ++ [y]) (Lib.minS x y) h.more
    rw [List.append_assoc] at this
    exact this
def chkF (l : List ObjD) : ByteArray × Int :=
  if mayLs l = false then (⟨#[]⟩, 1) else match clN l with
    | x :: r => (r.foldl Lib.minS x, 6)
    | [] => match vdN l with
      | x :: r => (r.foldl Lib.minS x, 7)
      | [] => (⟨#[]⟩, 0)
theorem chk_eq {l : List ObjD} (hW : ∀ d ∈ l, ObjW d) (hl : l.length ≤ 1000000) {s : ByteArray} {c : Int} (h : ChkP l s c) : s = (chkF l).1 ∧ c = (chkF l).2 := by
  have e1 := mem_clN hW hl
  have e2 := mem_vdN hW hl
  unfold chkF
  rcases h with ⟨h1, rfl, rfl⟩ | ⟨h1, ⟨names, h2, h3⟩, rfl⟩ | ⟨h1, h2, ⟨names, h3, h4⟩, rfl⟩ | ⟨h1, h2, h3, rfl, rfl⟩
  · rw [if_pos h1]; exact ⟨rfl, rfl⟩
  · rw [if_neg (by rw [h1]; simp)]
    cases hc : clN l with
    | nil =>
      have := (e1 s).2 ((h2 s).1 h3.1)
      rw [hc] at this; cases this
    | cons x r =>
      refine ⟨h3.eq (least_fold r [x] x (LeastN.one x)) (fun t => ?_), rfl⟩
      rw [h2 t, ← e1 t, hc]; rfl
  · rw [if_neg (by rw [h1]; simp)]
    cases hc : clN l with
    | cons x r => exact absurd ((e1 x).1 (by rw [hc]; simp)) (h2 x)
    | nil =>
      cases hv : vdN l with
      | nil =>
        have := (e2 s).2 ((h3 s).1 h4.1)
        rw [hv] at this; cases this
      | cons x r =>
        refine ⟨h4.eq (least_fold r [x] x (LeastN.one x)) (fun t => ?_), rfl⟩
        rw [h3 t, ← e2 t, hv]; rfl
  · rw [if_neg (by rw [h1]; simp)]
    cases hc : clN l with
    | cons x r => exact absurd ((e1 x).1 (by rw [hc]; simp)) (h2 x)
    | nil =>
      cases hv : vdN l with
      | cons x r => exact absurd ((e2 x).1 (by rw [hv]; simp)) (h3 x)
      | nil => exact ⟨rfl, rfl⟩
end Go.Proofs.YtjngkifoaljmaaaGreatDoor
namespace Go.Proofs.YtjngkifoaljmaaaGreatDoor
set_option maxRecDepth 100000
open Go.RowKit
set_option linter.unusedVariables false
theorem alloc_keeps (w : World) (o : Obj) (b : Nat) (h : b < w.heap.size) : (w.alloc o).heap[b]? = w.heap[b]? :=
  ((Below.refl w.heap.size w).alloc (Nat.le_refl _) o).block b h
theorem objs_one {w : World} {lo hi : Nat} {d : ObjD} {v0 v1 v2 v3 v4 : Value} {T : TypeId} (hh : hi ≤ w.heap.size) (h : ObjAt w lo hi d (.agg #[v0, v1, v2, v3, v4])) :
    ObjsAt (w.alloc (.cells #[v0, v1, v2, v3, v4] T)) 0 (w.heap.size + 1) [d] (some ⟨w.heap.size, 0, none⟩) := by
  refine ⟨[v0, v1, v2, v3, v4], rfl, .inr ⟨w.heap.size, 0, rfl, Nat.zero_le _, Nat.lt_succ_self _, fun j v hj => ?_⟩, fun i hi_ => ?_⟩
  · rw [World.cell?_alloc_new, Nat.zero_add, ← Array.getElem?_toList]; exact hj
  · have hi0 : i = 0 := by simp at hi_; exact hi_
    subst hi0
    exact ⟨v0, v1, v2, v3, v4, ⟨rfl, rfl, rfl, rfl, rfl⟩, h.move (Nat.zero_le _) (by omega) (fun b _ hb => alloc_keeps w _ b (by omega))⟩
theorem objs_two {w : World} {lo hi : Nat} {d e : ObjD} {v0 v1 v2 v3 v4 u0 u1 u2 u3 u4 : Value} {T : TypeId} (hh : hi ≤ w.heap.size) (h : ObjAt w lo hi d (.agg #[v0, v1, v2, v3, v4])) (h' : ObjAt w lo hi e (.agg #[u0, u1, u2, u3, u4])) :
    ObjsAt (w.alloc (.cells #[v0, v1, v2, v3, v4, u0, u1, u2, u3, u4] T)) 0 (w.heap.size + 1) [d, e] (some ⟨w.heap.size, 0, none⟩) := by
  refine ⟨[v0, v1, v2, v3, v4, u0, u1, u2, u3, u4], rfl, .inr ⟨w.heap.size, 0, rfl, Nat.zero_le _, Nat.lt_succ_self _, fun j v hj => ?_⟩, fun i hi_ => ?_⟩
  · rw [World.cell?_alloc_new, Nat.zero_add, ← Array.getElem?_toList]; exact hj
  · have hi2 : i = 0 ∨ i = 1 := by simp at hi_; omega
    rcases hi2 with rfl | rfl
    · exact ⟨v0, v1, v2, v3, v4, ⟨rfl, rfl, rfl, rfl, rfl⟩, h.move (Nat.zero_le _) (by omega) (fun b _ hb => alloc_keeps w _ b (by omega))⟩
    · exact ⟨u0, u1, u2, u3, u4, ⟨rfl, rfl, rfl, rfl, rfl⟩, h'.move (Nat.zero_le _) (by omega) (fun b _ hb => alloc_keeps w _ b (by omega))⟩
end Go.Proofs.YtjngkifoaljmaaaGreatDoor
namespace Go.Proofs.YtjngkifoaljmaaaGreatDoor
set_option maxRecDepth 100000
open Go.RowKit Go.Maps
set_option linter.unusedVariables false
def encDef (x : Int × Int) : List Value := [.int .i64 x.1, .int .i64 x.2]
def DefsAt (w : World) (base : Nat) (ds : List (Int × Int)) (v : Value) : Prop := ∃ A c, v = .slice A ds.length c ∧ w.ownsRow base 27 2 v ds.length (ds.flatMap encDef)
theorem info_def : (Tryz.prog.info? 27).map (fun i => (i.zero, i.size, i.bytes)) = some (some (.agg #[.int .i64 0, .int .i64 0]), 2, 16) := by kernel_rfl
theorem one_def (x : Int × Int) : ∀ u ∈ encDef x, u.oneCell' = true := fun u hu => by
  unfold encDef at hu
  simp only [List.mem_cons, List.not_mem_nil, or_false] at hu
  rcases hu with rfl | rfl <;> rfl
def valD (M : Kn → Option Int) (nb : Nat) (t : Us) : Int × Int := (meanM M nb t.2 t.1).getD (0, 0)
theorem defV_val (M : Kn → Option Int) (nb : Nat) (t : Us) : defV (meanM M nb t.2 t.1) = .agg #[.int .i64 (valD M nb t).1, .int .i64 (valD M nb t).2] := by
  unfold valD
  cases meanM M nb t.2 t.1 <;> rfl
/-- what those keys that have gone by mean -/
def NmD (D : DataW Unit) (M : Kn → Option Int) (nb : Nat) (left : Lit → Bool) (ds : List (Int × Int)) : Prop :=
  ∀ x, x ∈ ds ↔ ∃ t, UsW t ∧ valD M nb t = x ∧ has D (uKey t) = true ∧ left (uKey t) = false
theorem NmD.start (D : DataW Unit) (M : Kn → Option Int) (nb : Nat) : NmD D M nb (has D) [] := fun s =>
  ⟨fun h => (by cases h), fun ⟨t, _, _, h1, h2⟩ => (by rw [h1] at h2; cases h2)⟩
theorem NmD.hit {D : DataW Unit} {M : Kn → Option Int} {nb : Nat} {left : Lit → Bool} {ds : List (Int × Int)} {t : Us} (h : NmD D M nb left ds) (ht : UsW t) (hd : has D (uKey t) = true) : NmD D M nb (fun z => left z && !z.sameKey (uKey t)) (ds ++ [valD M nb t]) := fun s => by
  rw [List.mem_append, List.mem_singleton, h s]
  constructor
  · rintro (⟨u, h1, h2, h3, h4⟩ | rfl)
    · exact ⟨u, h1, h2, h3, (leftU_next ht h1).2 (.inl h4)⟩
    · exact ⟨t, ht, rfl, hd, (leftU_next ht ht).2 (.inr rfl)⟩
  · rintro ⟨u, h1, h2, h3, h4⟩
    rcases (leftU_next ht h1).1 h4 with h | rfl
    · exact .inl ⟨u, h1, h2, h3, h⟩
    · exact .inr h2.symm
/-- a Def that some relocation's name means -/
def usedP (l : List ObjD) (x : Int × Int) : Prop := ∃ t : Us, UsW t ∧ (usL l l.length t).isSome = true ∧ valD (bookM l) l.length t = x
theorem used_iff {l : List ObjD} {D : DataW Unit} {left : Lit → Bool} {ds : List (Int × Int)} (h : NmD D (bookM l) l.length left ds) (hl : ∀ kl, left kl = false) (hat : AtU D (usL l l.length)) : ∀ x, x ∈ ds ↔ usedP l x := fun x => by
  rw [h x]
  constructor
  · rintro ⟨t, h1, h2, h3, _⟩
    refine ⟨t, h1, ?_, h2⟩
    cases hm : usL l l.length t with
    | none => rw [(hat t h1).1 hm] at h3; cases h3
    | some c => rfl
  · rintro ⟨t, h1, h2, h3⟩
    obtain ⟨c, hc⟩ := Option.isSome_iff_exists.1 h2
    exact ⟨t, h1, h3, ((hat _ h1).2 c hc).1, hl _⟩
theorem DefsAt.slice {w : World} {base : Nat} {ds : List (Int × Int)} {v : Value} (h : DefsAt w base ds v) : ∃ A c, v = .slice A ds.length c := by
  obtain ⟨A, c, h, _⟩ := h; exact ⟨A, c, h⟩
end Go.Proofs.YtjngkifoaljmaaaGreatDoor
namespace Go.Proofs.YtjngkifoaljmaaaGreatDoor
set_option maxRecDepth 100000
open Go.RowKit Go.Maps Go.Sort
set_option linter.unusedVariables false
def cfD (x y : Int × Int) : Int := orI (cmpI x.1 y.1) (cmpI x.2 y.2)
theorem grow_below (w : World) (n : Nat) (os : Array Obj) : Below w.heap.size w (Sort.grow (Sort.ahead w n) os) :=
  ⟨rfl, rfl, rfl, by simp [Sort.grow, Sort.ahead], fun k hk => Sort.heap_grow_old _ _ (by simpa [Sort.ahead] using hk)⟩
def UsedE (l : List ObjD) (w : World) (e : Ending) (w' : World) : Prop := ∃ ds v, e = .returned v ∧ DefsAt w' w.heap.size ds v ∧ (okL l → ∀ x, x ∈ ds ↔ usedP l x) ∧ (¬ okL l → ds = []) ∧ ds.length ≤ 1 ∧ Below w.heap.size w w'
end Go.Proofs.YtjngkifoaljmaaaGreatDoor
namespace Go.Proofs.YtjngkifoaljmaaaGreatDoor
set_option linter.unusedVariables false
section
variable {α : Type} [Inhabited α] [DecidableEq α] {lt : α → α → Prop}
/-- what is kept of a sorted row: strictly rising, the same elements -/
theorem compact_rises (hi : ∀ x, ¬ lt x x) (ht : ∀ x y z, lt x y → lt y z → lt x z) (h3 : ∀ x y, ¬ lt x y → x ≠ y → lt y x) (d : Array α) (hs : ∀ i j, i < j → j < d.size → ¬ lt d[j]! d[i]!) :
    ∀ m, m ≤ d.size → (∀ x, x ∈ Lib.compactUpTo d m ↔ ∃ j, j < m ∧ d[j]! = x) ∧ (Lib.compactUpTo d m).Pairwise lt := by
  intro m
  induction m with
  | zero => intro _; simp [Lib.compactUpTo]
  | succ m ih =>
    intro hm
    obtain ⟨h1, h2⟩ := ih (by omega)
    rw [Lib.compactUpTo_succ]
    cases hk : Lib.keeps d m
    case false =>
      rw [if_neg (by simp), List.append_nil]
      have hd : m ≠ 0 ∧ d[m]! = d[m - 1]! := by
        unfold Lib.keeps at hk
        simp at hk
        exact ⟨hk.1, hk.2⟩
      refine ⟨fun x => ?_, h2⟩
      rw [h1 x]
      constructor
      · rintro ⟨j, hj, e⟩; exact ⟨j, by omega, e⟩
      · rintro ⟨j, hj, e⟩
        by_cases hjm : j = m
        · subst hjm; exact ⟨j - 1, by omega, by rw [← e, hd.2]⟩
        · exact ⟨j, by omega, e⟩
    case true =>
      rw [if_pos rfl]
      refine ⟨fun x => ?_, ?_⟩
      · rw [List.mem_append, List.mem_singleton, h1 x]
        constructor
        · rintro (⟨j, hj, e⟩ | rfl)
          · exact ⟨j, by omega, e⟩
          · exact ⟨m, by omega, rfl⟩
        · rintro ⟨j, hj, e⟩
          by_cases hjm : j = m
          · subst hjm; exact .inr e.symm
          · exact .inl ⟨j, by omega, e⟩
      · rw [List.pairwise_append]
        refine ⟨h2, by simp, fun x hx y hy => ?_⟩
        rw [List.mem_singleton] at hy
        subst hy
        obtain ⟨j, hj, rfl⟩ := (h1 x).1 hx
        have hd : d[m]! ≠ d[m - 1]! := by
          unfold Lib.keeps at hk
          simp at hk
          rcases hk with h | h
          · omega
          · exact h
        have hl : lt d[m - 1]! d[m]! := h3 _ _ (hs (m - 1) m (by omega) (by omega)) hd
        by_cases hjm : j = m - 1
        · rw [hjm]; exact hl
        · have hle := hs j (m - 1) (by omega) (by omega)
          by_cases he : d[j]! = d[m - 1]!
          · rw [he]; exact hl
          · exact ht _ _ _ (h3 _ _ hle (fun e => he e.symm)) hl
omit [Inhabited α] [DecidableEq α] in
theorem rises_unique (hi : ∀ x, ¬ lt x x) (ht : ∀ x y z, lt x y → lt y z → lt x z) : ∀ {xs ys : List α}, xs.Pairwise lt → ys.Pairwise lt → (∀ x, x ∈ xs ↔ x ∈ ys) → xs = ys
  | [], [], _, _, _ => rfl
  | [], y :: ys, _, _, h => absurd ((h y).2 (by simp)) (by simp)
  | x :: xs, [], _, _, h => absurd ((h x).1 (by simp)) (by simp)
  | x :: xs, y :: ys, hx, hy, h => by
    rw [List.pairwise_cons] at hx hy
    have e : x = y := by
      rcases List.mem_cons.1 ((h x).1 (by simp)) with e | e
      · exact e
      · rcases List.mem_cons.1 ((h y).2 (by simp)) with e' | e'
        · exact e'.symm
        · exact absurd (ht _ _ _ (hy.1 x e) (hx.1 y e')) (hi _)
    subst e
    congr 1
    refine rises_unique hi ht hx.2 hy.2 fun z => ?_
    constructor
    · intro hz
      rcases List.mem_cons.1 ((h z).1 (List.mem_cons_of_mem _ hz)) with e | e
      · subst e; exact absurd (hx.1 z hz) (hi _)
      · exact e
    · intro hz
      rcases List.mem_cons.1 ((h z).2 (List.mem_cons_of_mem _ hz)) with e | e
      · subst e; exact absurd (hy.1 z hz) (hi _)
      · exact e
end
def ltB (x y : List UInt8) : Prop := x < y
theorem ltB_irr (x : List UInt8) : ¬ ltB x x := List.lt_irrefl x
theorem ltB_tr (x y z : List UInt8) (h1 : ltB x y) (h2 : ltB y z) : ltB x z := List.lt_trans h1 h2
theorem ltB_tri (x y : List UInt8) (h : ¬ ltB x y) (hne : x ≠ y) : ltB y x := lst_tri h hne
theorem srtB_sorted (ss : List (List UInt8)) : (srtB ss).Pairwise fun x y => ¬ ltB y x := by
  unfold srtB ltB
  have h := List.pairwise_mergeSort (le := fun (x y : List UInt8) => decide (x ≤ y)) (fun a b c h1 h2 => by simp at *; exact List.le_trans h1 h2) (fun a b => by simp; exact List.le_total a b) ss
  exact h.imp fun h => by simpa using h
/-- names, sorted and without those that follow their like: rising, the same names -/
theorem outs_rise (names : List ByteArray) : (rowsB (cmpN (srtN names))).Pairwise ltB ∧ ∀ s, s ∈ cmpN (srtN names) ↔ s ∈ names := by
  have hr : ∀ zs : List (List UInt8), rowsB (namesL zs) = zs := fun zs => by
    unfold rowsB namesL
    rw [List.map_map]
    conv => rhs; rw [← List.map_id zs]
    exact List.map_congr_left fun z _ => by simp
  have hs := srtB_sorted (rowsB names)
  have hc := compact_rises ltB_irr ltB_tr ltB_tri (srtB (rowsB names)).toArray (fun i j hij hj => by
    have hj' : j < (srtB (rowsB names)).length := by simpa using hj
    have := List.pairwise_iff_getElem.1 hs i j (by omega) hj' hij
    simpa [hj', show i < (srtB (rowsB names)).length by omega] using this) (srtB (rowsB names)).length (by simp)
  unfold cmpN
  rw [show rowsB (srtN names) = srtB (rowsB names) from by unfold srtN; exact hr _, hr]
  refine ⟨hc.2, fun s => ?_⟩
  have hm : ∀ z, z ∈ Lib.compact (srtB (rowsB names)) ↔ z ∈ rowsB names := fun z => by
    have h1 := hc.1 z
    unfold Lib.compact
    rw [h1]
    unfold srtB
    rw [← List.mem_mergeSort (le := fun x y => decide (x ≤ y)) (a := z) (l := rowsB names), List.mem_iff_getElem]
    constructor
    · rintro ⟨j, hj, e⟩; exact ⟨j, hj, by rw [← e, getElem!_pos _ j (by simpa using hj)]; simp⟩
    · rintro ⟨j, hj, e⟩; exact ⟨j, hj, by rw [← e, getElem!_pos _ j (by simpa using hj)]; simp⟩
  unfold namesL
  rw [List.mem_map]
  constructor
  · rintro ⟨z, hz, rfl⟩
    have := (hm z).1 hz
    unfold rowsB at this
    obtain ⟨t, ht, rfl⟩ := List.mem_map.1 this
    have e : (⟨t.data.toList.toArray⟩ : ByteArray) = t := ba_ext (by simp)
    rw [e]; exact ht
  · intro hs'
    exact ⟨s.data.toList, (hm _).2 (by unfold rowsB; exact List.mem_map.2 ⟨s, hs', rfl⟩), ba_ext (by simp)⟩
theorem rowsB_inj {a b : List ByteArray} (h : rowsB a = rowsB b) : a = b := by
  unfold rowsB at h
  exact (List.map_inj_right (fun x y e => ba_ext e)).1 h
/-- names that rise are told by which they are -/
theorem names_unique {a b : List ByteArray} (ha : (rowsB a).Pairwise ltB) (hb : (rowsB b).Pairwise ltB) (h : ∀ s, s ∈ a ↔ s ∈ b) : a = b := by
  refine rowsB_inj (rises_unique ltB_irr ltB_tr ha hb fun z => ?_)
  unfold rowsB
  constructor
  · intro hz; obtain ⟨t, ht, rfl⟩ := List.mem_map.1 hz; exact List.mem_map.2 ⟨t, (h t).1 ht, rfl⟩
  · intro hz; obtain ⟨t, ht, rfl⟩ := List.mem_map.1 hz; exact List.mem_map.2 ⟨t, (h t).2 ht, rfl⟩
end Go.Proofs.YtjngkifoaljmaaaGreatDoor
namespace Go.Proofs.YtjngkifoaljmaaaGreatDoor
set_option maxRecDepth 100000
open Go.RowKit
set_option linter.unusedVariables false
theorem row5 {W : World} {b : Nat} {v0 v1 v2 v3 v4 : Value} {T : TypeId} (h : W.heap[b]? = some (.cells #[v0, v1, v2, v3, v4] T (0, 0))) : W.cell? ⟨b, 0, none⟩ = some v0 ∧ W.cell? ⟨b, 1, none⟩ = some v1 ∧ W.cell? ⟨b, 2, none⟩ = some v2 ∧ W.cell? ⟨b, 3, none⟩ = some v3 ∧ W.cell? ⟨b, 4, none⟩ = some v4 ∧ ∀ o, W.frozen? ⟨b, o, none⟩ = false := by
  have y0 := cell_of_row W b 0 _ _ _ h
  have y1 := cell_of_row W b 1 _ _ _ h
  have y2 := cell_of_row W b 2 _ _ _ h
  have y3 := cell_of_row W b 3 _ _ _ h
  have y4 := cell_of_row W b 4 _ _ _ h
  simp only [List.getElem?_toArray, List.getElem?_cons_zero, List.getElem?_cons_succ] at y0 y1 y2 y3 y4
  exact ⟨y0, y1, y2, y3, y4, fun o => frozen_of_row W b o _ _ h⟩
def fD : ObjD := ⟨[1048691], [], [(⟨#[102]⟩, false, 0, true)], [], []⟩
def gD : ObjD := ⟨[111], [], [], [(0, 2, ⟨#[102]⟩, 0)], []⟩
theorem fD_w : ObjW fD where
  text := fun x hx => by simp only [fD, List.mem_singleton] at hx; subst hx; unfold IsW; omega
  data := by simp [fD]
  syms := fun x hx => by simp only [fD, List.mem_singleton] at hx; subst hx; exact ⟨show 1 ≤ maxLen from by unfold maxLen; omega, by unfold IsI; simp⟩
  rels := by simp [fD]
  ents := by simp [fD]
theorem gD_w : ObjW gD where
  text := fun x hx => by simp only [gD, List.mem_singleton] at hx; subst hx; unfold IsW; omega
  data := by simp [gD]
  syms := by simp [gD]
  rels := fun x hx => by simp only [gD, List.mem_singleton] at hx; subst hx; exact ⟨by unfold IsI; simp, by unfold IsI; simp, show 1 ≤ maxLen from by unfold maxLen; omega, by unfold IsI; simp⟩
  ents := by simp [gD]
theorem chk_ff : chkF [fD, fD] = (⟨#[102]⟩, 6) := by decide +kernel
theorem chk_g : chkF [gD] = (⟨#[102]⟩, 7) := by decide +kernel
theorem chk_gf : chkF [gD, fD] = (⟨#[]⟩, 0) := by decide +kernel
theorem find_gf : fndD [gD, fD] 0 ⟨#[102]⟩ = some (1, 0) := by decide +kernel
theorem rowC_one {w : World} {b : Nat} {cs : List Value} {T : TypeId} {K : Nat} (h : w.heap[b]? = some (.cells cs.toArray T (0, 0))) (hb : b < K) : RowC w 0 K (some ⟨b, 0, none⟩) cs :=
  .inr ⟨b, 0, rfl, Nat.zero_le _, hb, fun j v hj => by
    rw [cell_of_row w b (0 + j) _ _ _ h, Nat.zero_add, ← Array.getElem?_toList]; exact hj⟩
theorem f_at {w : World} {b1 b2 K : Nat} {T1 T2 : TypeId} (h1 : w.heap[b1]? = some (.cells #[.int .u32 1048691] T1 (0, 0))) (h2 : w.heap[b2]? = some (.cells #[.string ⟨#[102]⟩, .bool false, .int .i64 0, .bool true] T2 (0, 0))) (k1 : b1 < K) (k2 : b2 < K) :
    ObjAt w 0 K fD (.agg #[.slice (some ⟨b1, 0, none⟩) 1 1, .slice none 0 0, .slice (some ⟨b2, 0, none⟩) 1 1, .slice none 0 0, .slice none 0 0]) :=
  ⟨_, 1, none, 0, _, 1, none, 0, none, 0, [], rfl, rowC_one h1 k1, .inl rfl, rowC_one h2 k2, .inl rfl, .inl rfl, rfl⟩
theorem g_at {w : World} {b1 b2 K : Nat} {T1 T2 : TypeId} (h1 : w.heap[b1]? = some (.cells #[.int .u32 111] T1 (0, 0))) (h2 : w.heap[b2]? = some (.cells #[.int .i64 0, .int .i64 2, .string ⟨#[102]⟩, .int .i64 0] T2 (0, 0))) (k1 : b1 < K) (k2 : b2 < K) :
    ObjAt w 0 K gD (.agg #[.slice (some ⟨b1, 0, none⟩) 1 1, .slice none 0 0, .slice none 0 0, .slice (some ⟨b2, 0, none⟩) 1 1, .slice none 0 0]) :=
  ⟨_, 1, none, 0, none, 0, _, 1, none, 0, [], rfl, rowC_one h1 k1, .inl rfl, .inl rfl, rowC_one h2 k2, .inl rfl, rfl⟩
end Go.Proofs.YtjngkifoaljmaaaGreatDoor
namespace Go.Proofs.YtjngkifoaljmaaaGreatDoor
set_option maxRecDepth 100000
open Go.RowKit
set_option linter.unusedVariables false
theorem own_set7 {w : World} {base sz n b j : Nat} {ty : TypeId} {v u : Value} {cs : List Value} (h : w.ownsRow base ty sz v n cs) (hb : b < base) : (w.setCell ⟨b, j, none⟩ u).ownsRow base ty sz v n cs :=
  rowO_kept h (grown_setO w b j u) (fun g hg e => by cases e; have := (ownO_lt h hg).2.1; omega)
theorem size_set7 (w : World) (a : Addr) (v : Value) : (w.setCell a v).heap.size = w.heap.size := by simp
section
variable {w w' : World} {hi t b : Nat} {x : Int} {L : List SymD} {v v' : Value}
/-- box b: an object of one word (block t) whose Syms are a row of the call's own -/
structure Bx (w : World) (hi t b : Nat) (x : Int) (L : List SymD) (v : Value) : Prop where
  ft : w.heap[t]? = some (.cells #[.int .u32 x] 45 (0, 0))
  fo : w.heap[b]? = some (.cells #[.slice (some ⟨t, 0, none⟩) 1 1, .slice none 0 0, v, .slice none 0 0, .slice none 0 0] 59 (0, 0))
  fr : w.ownsRow hi 52 4 v L.length (L.flatMap encSym)
  th : t < hi
  bh : b < hi
  tb : t ≠ b
theorem Bx.keep {row : Option Nat} (h : Bx w hi t b x L v) (hg : w.grownBy w' row) (hr : ∀ g, row = some g → hi ≤ g) (hne : ∀ g, v.ownBlock = some g → some g ≠ row) : Bx w' hi t b x L v :=
  ⟨(hg.block _ (Array.getElem?_eq_some_iff.1 h.ft).1 (fun e => by have := hr _ e.symm; have := h.th; omega)).trans h.ft,
   (hg.block _ (Array.getElem?_eq_some_iff.1 h.fo).1 (fun e => by have := hr _ e.symm; have := h.bh; omega)).trans h.fo, rowO_kept h.fr hg hne, h.th, h.bh, h.tb⟩
theorem Bx.set {b' j : Nat} {u : Value} (h : Bx w hi t b x L v) (h1 : b' < hi) (h2 : b' ≠ t) (h3 : b' ≠ b) : Bx (w.setCell ⟨b', j, none⟩ u) hi t b x L v :=
  ⟨(heap_setCell_other w _ t u (by show t ≠ b'; omega)).trans h.ft, (heap_setCell_other w _ b u (by show b ≠ b'; omega)).trans h.fo, own_set7 h.fr h1, h.th, h.bh, h.tb⟩
theorem Bx.put {s : SymD} (h : Bx w hi t b x L v) (hg : w.grownBy w' v.ownBlock) (hr : w'.ownsRow hi 52 4 v' (L.length + 1) (L.flatMap encSym ++ encSym s)) : Bx (w'.setCell ⟨b, 2, none⟩ v') hi t b x (L ++ [s]) v' := by
  have ho := own_ge h.fr
  have th := h.th
  have bh := h.bh
  have tb := h.tb
  have h1 := (hg.block _ (Array.getElem?_eq_some_iff.1 h.ft).1 (fun e => by have := ho _ e.symm; omega)).trans h.ft
  have h2 := (hg.block _ (Array.getElem?_eq_some_iff.1 h.fo).1 (fun e => by have := ho _ e.symm; omega)).trans h.fo
  refine ⟨(heap_setCell_other w' _ t v' (by show t ≠ b; omega)).trans h1, heap_setCell_same w' _ 2 _ _ _ h2, ?_, th, bh, tb⟩
  rw [List.length_append, List.flatMap_append, List.flatMap_cons, List.flatMap_nil, List.append_nil]
  exact own_set7 hr bh
theorem Bx.box (h : Bx w hi t b x L v) (hg : w.grownBy w' v.ownBlock) : w'.heap[b]? = some (.cells #[.slice (some ⟨t, 0, none⟩) 1 1, .slice none 0 0, v, .slice none 0 0, .slice none 0 0] 59 (0, 0)) :=
  (hg.block _ (Array.getElem?_eq_some_iff.1 h.fo).1 (fun e => by have := own_ge h.fr _ e.symm; have := h.bh; omega)).trans h.fo
theorem Bx.at (h : Bx w hi t b x L v) (hh : hi ≤ w.heap.size) : ObjAt w 0 w.heap.size ⟨[x], [], L, [], []⟩ (.agg #[.slice (some ⟨t, 0, none⟩) 1 1, .slice none 0 0, v, .slice none 0 0, .slice none 0 0]) := by
  obtain ⟨A, c, rfl⟩ := ownO_slice h.fr
  exact ⟨_, 1, none, 0, A, c, none, 0, none, 0, [], rfl, rowC_one h.ft (Array.getElem?_eq_some_iff.1 h.ft).1, .inl rfl, (RowC.of_own h.fr).move (Nat.zero_le _) (Nat.le_refl _) (fun _ _ _ => rfl), .inl rfl, .inl rfl, rfl⟩
end
theorem one_sym7 (s : SymD) : ∀ u ∈ encSym s, u.oneCell' = true := fun u hu => by
  unfold encSym at hu
  simp only [List.mem_cons, List.not_mem_nil, or_false] at hu
  rcases hu with rfl | rfl | rfl | rfl <;> rfl
def nmK (c : Nat) : ByteArray := ⟨#[UInt8.ofNat (97 + c)]⟩
/-- three such boxes, and ten names -/
structure Tw (w0 : World) (n0 : Nat) (Lo Lp Lq : List SymD) (vo vp vq : Value) (w : World) : Prop where
  nm : w.heap[n0]? = some (.cells #[.string ⟨#[97]⟩, .string ⟨#[98]⟩, .string ⟨#[99]⟩, .string ⟨#[100]⟩, .string ⟨#[101]⟩, .string ⟨#[102]⟩, .string ⟨#[103]⟩, .string ⟨#[104]⟩, .string ⟨#[105]⟩, .string ⟨#[106]⟩] 9 (0, 0))
  o : Bx w (n0 + 7) (n0 + 1) (n0 + 1 + 1) 1048691 Lo vo
  p : Bx w (n0 + 7) (n0 + 1 + 1 + 1) (n0 + 1 + 1 + 1 + 1) 1048691 Lp vp
  q : Bx w (n0 + 7) (n0 + 1 + 1 + 1 + 1 + 1) (n0 + 1 + 1 + 1 + 1 + 1 + 1) 1048691 Lq vq
  op : ∀ g, vo.ownBlock = some g → vp.ownBlock ≠ some g
  oq : ∀ g, vo.ownBlock = some g → vq.ownBlock ≠ some g
  pq : ∀ g, vp.ownBlock = some g → vq.ownBlock ≠ some g
  b : Below w0.heap.size w0 w
  nb : w0.heap.size ≤ n0
  z : n0 + 7 ≤ w.heap.size
section
variable {w0 w w' : World} {n0 : Nat} {Lo Lp Lq : List SymD} {vo vp vq v' : Value} {s : SymD}
theorem Tw.below (h : Tw w0 n0 Lo Lp Lq vo vp vq w) (hb : Below w.heap.size w w') : Tw w0 n0 Lo Lp Lq vo vp vq w' :=
  ⟨(hb.block _ (Array.getElem?_eq_some_iff.1 h.nm).1).trans h.nm, h.o.keep (grown_below' hb) (fun _ e => by cases e) (fun _ _ e => by cases e), h.p.keep (grown_below' hb) (fun _ e => by cases e) (fun _ _ e => by cases e), h.q.keep (grown_below' hb) (fun _ e => by cases e) (fun _ _ e => by cases e),
   h.op, h.oq, h.pq, h.b.trans (hb.mono h.b.size), h.nb, Nat.le_trans h.z hb.size⟩
theorem Tw.cell (h : Tw w0 n0 Lo Lp Lq vo vp vq w) {c : Nat} (hc : c < 10) : w.cell? ⟨n0, c, none⟩ = some (.string (nmK c)) := by
  have := cell_of_row w n0 c _ _ _ h.nm
  rw [this]
  rcases (by omega : c = 0 ∨ c = 1 ∨ c = 2 ∨ c = 3 ∨ c = 4 ∨ c = 5 ∨ c = 6 ∨ c = 7 ∨ c = 8 ∨ c = 9) with rfl | rfl | rfl | rfl | rfl | rfl | rfl | rfl | rfl | rfl <;> rfl
theorem Tw.rest (h : Tw w0 n0 Lo Lp Lq vo vp vq w) {row : Option Nat} {b j : Nat} {u : Value} (hg : w.grownBy w' row) (hr : ∀ g, row = some g → n0 + 7 ≤ g) (hb : n0 < b) : (w'.setCell ⟨b, j, none⟩ u).heap[n0]? = w.heap[n0]? ∧ Below w0.heap.size w0 (w'.setCell ⟨b, j, none⟩ u) ∧ n0 + 7 ≤ (w'.setCell ⟨b, j, none⟩ u).heap.size := by
  have h1 := h.b.grown hg h.b.size (fun g e => by have := hr g e; have := h.nb; omega)
  refine ⟨(heap_setCell_other w' _ n0 u (by show n0 ≠ b; omega)).trans (hg.block _ (Array.getElem?_eq_some_iff.1 h.nm).1 (fun e => by have := hr _ e.symm; omega)), h1.grown (grown_setO w' b j u) h1.size (fun g e => by cases e; have := h.nb; omega), ?_⟩
  rw [size_set7]
  exact Nat.le_trans h.z hg.size
theorem ne_new {base : Nat} {L : List SymD} {v : Value} (hr : w.ownsRow base 52 4 v L.length (L.flatMap encSym)) {u : Value} (h : ∀ g, u.ownBlock = some g → v.ownBlock ≠ some g) (hv : v'.ownBlock = u.ownBlock ∨ v'.ownBlock = some w.heap.size) : ∀ g, v'.ownBlock = some g → v.ownBlock ≠ some g := fun g hg e => by
  rcases hv with hv | hv
  · exact h g (by rw [← hv, hg]) e
  · rw [hv] at hg; cases hg
    have := (ownO_lt hr e).1
    omega
theorem Tw.setNew {w4 : World} {b j : Nat} {u : Value} (h : Tw w0 n0 Lo Lp Lq vo vp vq w) (h4 : Tw w0 n0 Lo Lp Lq vo vp vq w4) (hb : w4.heap.size ≤ b) : Tw w0 n0 Lo Lp Lq vo vp vq (w.setCell ⟨b, j, none⟩ u) := by
  have hg := grown_setO w b j u
  have hz := h4.z
  have hr : ∀ g, some b = some g → n0 + 7 ≤ g := fun g e => by cases e; omega
  have hn := h.nb
  refine ⟨(heap_setCell_other w _ n0 u (by show n0 ≠ b; omega)).trans h.nm, h.o.keep hg hr (fun g e e' => ?_), h.p.keep hg hr (fun g e e' => ?_), h.q.keep hg hr (fun g e e' => ?_), h.op, h.oq, h.pq, h.b.grown hg h.b.size (fun g e => by cases e; omega), h.nb, by rw [size_set7]; exact h.z⟩
  · cases e'; have := (ownO_lt h4.o.fr e).1; omega
  · cases e'; have := (ownO_lt h4.p.fr e).1; omega
  · cases e'; have := (ownO_lt h4.q.fr e).1; omega
theorem Tw.box2 {w4 : World} {b : Nat} {x y x' y' : Value} {T : TypeId} (h : Tw w0 n0 Lo Lp Lq vo vp vq w) (h4 : Tw w0 n0 Lo Lp Lq vo vp vq w4) (hb : w4.heap.size ≤ b) (hd : w.heap[b]? = some (.cells #[x, y] T (0, 0))) : ((w.setCell ⟨b, 0, none⟩ x').setCell ⟨b, 1, none⟩ y').heap[b]? = some (.cells #[x', y'] T (0, 0)) ∧ Tw w0 n0 Lo Lp Lq vo vp vq ((w.setCell ⟨b, 0, none⟩ x').setCell ⟨b, 1, none⟩ y') := by
  refine ⟨?_, (h.setNew h4 hb).setNew h4 hb⟩
  have h1 : (w.setCell ⟨b, 0, none⟩ x').heap[b]? = some (.cells #[x', y] T (0, 0)) := heap_setCell_same w _ 0 _ _ _ hd
  exact heap_setCell_same _ _ 1 _ _ _ h1
theorem Tw.stepO (h : Tw w0 n0 Lo Lp Lq vo vp vq w) (hr : w'.ownsRow (n0 + 7) 52 4 v' (Lo.length + 1) (Lo.flatMap encSym ++ encSym s)) (hg : w.grownBy w' vo.ownBlock) (hv : v'.ownBlock = vo.ownBlock ∨ v'.ownBlock = some w.heap.size) : Tw w0 n0 (Lo ++ [s]) Lp Lq v' vp vq (w'.setCell ⟨n0 + 1 + 1, 2, none⟩ v') := by
  have ho := own_ge h.o.fr
  obtain ⟨h1, h2, h3⟩ := h.rest (b := n0 + 1 + 1) (j := 2) (u := v') hg ho (by omega)
  exact ⟨h1.trans h.nm, h.o.put hg hr, (h.p.keep hg ho (fun g e e' => h.op g e'.symm e)).set (by omega) (by omega) (by omega), (h.q.keep hg ho (fun g e e' => h.oq g e'.symm e)).set (by omega) (by omega) (by omega),
    ne_new h.p.fr h.op hv, ne_new h.q.fr h.oq hv, h.pq, h2, h.nb, h3⟩
theorem Tw.stepP (h : Tw w0 n0 Lo Lp Lq vo vp vq w) (hr : w'.ownsRow (n0 + 7) 52 4 v' (Lp.length + 1) (Lp.flatMap encSym ++ encSym s)) (hg : w.grownBy w' vp.ownBlock) (hv : v'.ownBlock = vp.ownBlock ∨ v'.ownBlock = some w.heap.size) : Tw w0 n0 Lo (Lp ++ [s]) Lq vo v' vq (w'.setCell ⟨n0 + 1 + 1 + 1 + 1, 2, none⟩ v') := by
  have ho := own_ge h.p.fr
  obtain ⟨h1, h2, h3⟩ := h.rest (b := n0 + 1 + 1 + 1 + 1) (j := 2) (u := v') hg ho (by omega)
  exact ⟨h1.trans h.nm, (h.o.keep hg ho (fun g e e' => h.op g e e'.symm)).set (by omega) (by omega) (by omega), h.p.put hg hr, (h.q.keep hg ho (fun g e e' => h.pq g e'.symm e)).set (by omega) (by omega) (by omega),
    fun g e e' => ne_new h.o.fr (fun g e e' => h.op g e' e) hv g e' e, h.oq, ne_new h.q.fr h.pq hv, h2, h.nb, h3⟩
theorem Tw.stepQ (h : Tw w0 n0 Lo Lp Lq vo vp vq w) (hr : w'.ownsRow (n0 + 7) 52 4 v' (Lq.length + 1) (Lq.flatMap encSym ++ encSym s)) (hg : w.grownBy w' vq.ownBlock) (hv : v'.ownBlock = vq.ownBlock ∨ v'.ownBlock = some w.heap.size) : Tw w0 n0 Lo Lp (Lq ++ [s]) vo vp v' (w'.setCell ⟨n0 + 1 + 1 + 1 + 1 + 1 + 1, 2, none⟩ v') := by
  have ho := own_ge h.q.fr
  obtain ⟨h1, h2, h3⟩ := h.rest (b := n0 + 1 + 1 + 1 + 1 + 1 + 1) (j := 2) (u := v') hg ho (by omega)
  exact ⟨h1.trans h.nm, (h.o.keep hg ho (fun g e e' => h.oq g e e'.symm)).set (by omega) (by omega) (by omega), (h.p.keep hg ho (fun g e e' => h.pq g e e'.symm)).set (by omega) (by omega) (by omega), h.q.put hg hr,
    h.op, fun g e e' => ne_new h.o.fr (fun g e e' => h.oq g e' e) hv g e' e, fun g e e' => ne_new h.p.fr (fun g e e' => h.pq g e' e) hv g e' e, h2, h.nb, h3⟩
end
def syL (f : Nat → Bool) (c : Nat) : List SymD := ((List.range 10).drop c).reverse.map fun i => (nmK i, false, 0, f i)
theorem syL_go (f : Nat → Bool) {c : Nat} (hc : c < 10) : syL f c = syL f (c + 1) ++ [(nmK c, false, 0, f c)] := by
  unfold syL
  rcases (by omega : c = 0 ∨ c = 1 ∨ c = 2 ∨ c = 3 ∨ c = 4 ∨ c = 5 ∨ c = 6 ∨ c = 7 ∨ c = 8 ∨ c = 9) with rfl | rfl | rfl | rfl | rfl | rfl | rfl | rfl | rfl | rfl <;> rfl
def syD (f : Nat → Bool) : ObjD := ⟨[1048691], [], syL f 0, [], []⟩
theorem syD_w (f : Nat → Bool) : ObjW (syD f) where
  text := fun x hx => by simp only [syD, List.mem_singleton] at hx; subst hx; unfold IsW; omega
  data := by simp [syD]
  syms := fun x hx => by
    simp only [syD, syL, List.mem_map] at hx
    obtain ⟨i, _, rfl⟩ := hx
    exact ⟨show 1 ≤ maxLen from by unfold maxLen; omega, by unfold IsI; simp⟩
  rels := by simp [syD]
  ents := by simp [syD]
theorem syD_w2 (f g : Nat → Bool) : ∀ d ∈ [syD f, syD g], ObjW d := fun d hd => by
  simp only [List.mem_cons, List.not_mem_nil, or_false] at hd
  rcases hd with rfl | rfl <;> exact syD_w _
theorem chk_op : ∀ k, k < 11 → chkF [syD fun _ => true, syD fun i => decide (k ≤ i)] = if k = 10 then (⟨#[]⟩, 0) else (nmK k, 6) := by decide +kernel
theorem chk_oq : chkF [syD fun _ => true, syD fun _ => false] = (⟨#[]⟩, 0) := by decide +kernel
theorem find_oq : ∀ m : Nat, m < 10 → fndD [syD fun _ => true, syD fun _ => false] 1 (nmK m) = some (1, 9 - (m : Int)) := by decide +kernel
end Go.Proofs.YtjngkifoaljmaaaGreatDoor
