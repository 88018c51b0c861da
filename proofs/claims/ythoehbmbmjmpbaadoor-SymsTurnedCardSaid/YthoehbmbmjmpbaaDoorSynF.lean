/- Layer 7: an object with others behind it, as a caller appends them. No condition. -/
import Derived.Test.YthoehbmbmjmpbaaDoorSymY
import Derived.Test.YthoehbmbmjmpbaaDoorSynQ
namespace Go.Proofs.YthoehbmbmjmpbaaDoor
set_option maxRecDepth 100000
open Go.RowKit
set_option linter.unusedVariables false
def encXs (p : Nat × Nat) : List Value := [.slice (some ⟨p.1, 0, none⟩) 1 1, .slice none 0 0, .slice (some ⟨p.2, 0, none⟩) 2 2, .slice none 0 0, .slice none 0 0]
theorem one_xs (p : Nat × Nat) : ∀ u ∈ encXs p, u.oneCell' = true := fun u hu => by
  unfold encXs at hu
  simp only [List.mem_cons, List.not_mem_nil, or_false] at hu
  rcases hu with rfl | rfl | rfl | rfl | rfl <;> rfl
def xRow (w : World) (p : Nat × Nat) : Prop :=
  w.heap[p.1]? = some (.cells #[.int .u32 1048691] 48 (0, 0)) ∧
  w.heap[p.2]? = some (.cells #[.string ⟨#[102]⟩, .bool false, .int .i64 0, .bool false, .string ⟨#[111, 119, 110]⟩, .bool false, .int .i64 0, .bool false] 47 (0, 0))
theorem xRow.below {w w' : World} {p : Nat × Nat} (h : xRow w p) (hb : Below w.heap.size w w') : xRow w' p :=
  ⟨(hb.block _ (Array.getElem?_eq_some_iff.1 h.1).1).trans h.1, (hb.block _ (Array.getElem?_eq_some_iff.1 h.2).1).trans h.2⟩
theorem xRow.at {w : World} {p : Nat × Nat} (h : xRow w p) : ObjAt w 0 w.heap.size xD (.agg #[.slice (some ⟨p.1, 0, none⟩) 1 1, .slice none 0 0, .slice (some ⟨p.2, 0, none⟩) 2 2, .slice none 0 0, .slice none 0 0]) :=
  ⟨_, 1, none, 0, _, 2, none, 0, none, 0, [], rfl, rowC_one h.1 (Array.getElem?_eq_some_iff.1 h.1).1, .inl rfl, rowC_one h.2 (Array.getElem?_eq_some_iff.1 h.2).1, .inl rfl, .inl rfl, rfl⟩
/-- a list of k objects behind one, in a row of the call's own -/
structure AlB (w : World) (B : Nat) (o5 : List Value) (k : Nat) (v : Value) (ts : List (Nat × Nat)) : Prop where
  len : ts.length = k
  rows : ∀ p ∈ ts, xRow w p
  own : w.ownsRow B 31 5 v (k + 1) (o5 ++ ts.flatMap encXs)
section
variable {w w' : World} {B k : Nat} {o5 : List Value} {v v' : Value} {ts : List (Nat × Nat)}
theorem AlB.below (h : AlB w B o5 k v ts) (hb : Below w.heap.size w w') : AlB w' B o5 k v ts :=
  ⟨h.len, fun p hp => (h.rows p hp).below hb, rowO_below h.own hb⟩
theorem xRow.grown {p : Nat × Nat} (h : xRow w p) {n : Nat} {xs : List Value} (ho : w.ownsRow B 31 5 v n xs) (hg : w.grownBy w' v.ownBlock) : xRow w' p := by
  have hne : ∀ (b : Nat) (cs : Array Value) (ty : TypeId), ty ≠ 31 → w.heap[b]? = some (.cells cs ty (0, 0)) → some b ≠ v.ownBlock := fun b cs ty hty hb e => by
    obtain ⟨_, _, cur, hc⟩ := ownO_lt ho e.symm
    rw [hb] at hc
    injection hc with hc
    injection hc with _ h2 _
    exact hty h2
  exact ⟨(hg.block _ (Array.getElem?_eq_some_iff.1 h.1).1 (hne _ _ _ (by decide) h.1)).trans h.1, (hg.block _ (Array.getElem?_eq_some_iff.1 h.2).1 (hne _ _ _ (by decide) h.2)).trans h.2⟩
theorem AlB.put (h : AlB w B o5 k v ts) {p : Nat × Nat} (hp : xRow w p) (hr : w'.ownsRow B 31 5 v' (k + 1 + 1) ((o5 ++ ts.flatMap encXs) ++ encXs p)) (hg : w.grownBy w' v.ownBlock) : AlB w' B o5 (k + 1) v' (ts ++ [p]) := by
  refine ⟨by rw [List.length_append, h.len]; rfl, fun q hq => ?_, ?_⟩
  · rcases List.mem_append.1 hq with hq | hq
    · exact (h.rows q hq).grown h.own hg
    · rw [List.mem_singleton.1 hq]; exact hp.grown h.own hg
  · rw [List.flatMap_append, List.flatMap_cons, List.flatMap_nil, List.append_nil, ← List.append_assoc]
    exact hr
theorem AlB.objs {K : Nat} {D : ObjD} {x0 x1 x2 x3 x4 : Value} (h : AlB w B [x0, x1, x2, x3, x4] k v ts) (hO : ObjAt w 0 K D (.agg #[x0, x1, x2, x3, x4])) (hK : K ≤ w.heap.size) :
    ∃ A c, v = .slice A (k + 1) c ∧ ObjsAt w 0 w.heap.size (alD D k) A := by
  obtain ⟨A, c, rfl⟩ := ownO_slice h.own
  refine ⟨A, c, rfl, [x0, x1, x2, x3, x4] ++ ts.flatMap encXs, ?_, (RowC.of_own h.own).move (Nat.zero_le _) (Nat.le_refl _) (fun _ _ _ => rfl), fun i hi => ?_⟩
  · rw [List.length_append, flat_len (enc := encXs) (sz := 5) (fun _ => rfl), h.len, al_len]
    simp; omega
  · rw [al_len] at hi
    rcases i with _ | i
    · exact ⟨x0, x1, x2, x3, x4, ⟨rfl, rfl, rfl, rfl, rfl⟩, hO.move (Nat.le_refl _) hK (fun _ _ _ => rfl)⟩
    · have hi' : i < ts.length := by rw [h.len]; omega
      have hx := (h.rows _ (List.getElem_mem hi')).at
      have e : (alD D k)[i + 1]'(by rw [al_len]; exact hi) = xD := by simp [alD]
      have hc : ∀ j, j < 5 → ([x0, x1, x2, x3, x4] ++ ts.flatMap encXs)[(i + 1) * 5 + j]? = (encXs ts[i])[j]? := fun j hj => by
        rw [List.getElem?_append_right (by simp; omega)]
        have := flat_get (enc := encXs) (sz := 5) (xs := ts) (fun _ => rfl) (i := j) hi' hj
        rw [← this]
        congr 1
        simp; omega
      refine ⟨_, _, _, _, _, ⟨(hc 0 (by omega)).trans rfl, (hc 1 (by omega)).trans rfl, (hc 2 (by omega)).trans rfl, (hc 3 (by omega)).trans rfl, (hc 4 (by omega)).trans rfl⟩, ?_⟩
      rw [e]; exact hx
end
theorem DefsAt.below {w w' : World} {b : Nat} {ds : List (Int × Int)} {v : Value} (h : DefsAt w b ds v) (hb : Below w.heap.size w w') : DefsAt w' b ds v := by
  obtain ⟨A, c, e, h⟩ := h; exact ⟨A, c, e, rowO_below h hb⟩
theorem defs_grown {w w' : World} {b B n : Nat} {ds : List (Int × Int)} {v u : Value} {xs : List Value} (h : DefsAt w b ds v) (ho : w.ownsRow B 31 5 u n xs) (hg : w.grownBy w' u.ownBlock) : DefsAt w' b ds v := by
  obtain ⟨A, c, e, hr⟩ := h
  refine ⟨A, c, e, rowO_kept hr hg fun g h1 h2 => ?_⟩
  obtain ⟨_, _, c1, e1⟩ := ownO_lt hr h1
  obtain ⟨_, _, c2, e2⟩ := ownO_lt ho h2.symm
  rw [e1] at e2
  injection e2 with e2
  injection e2 with _ h3 _
  exact absurd h3 (by decide)
theorem xD_w : ObjW xD where
  text := fun x hx => by simp only [xD, List.mem_singleton] at hx; subst hx; unfold IsW; omega
  data := by simp [xD]
  syms := fun x hx => by
    simp only [xD, List.mem_cons, List.not_mem_nil, or_false] at hx
    rcases hx with rfl | rfl
    · exact ⟨show 1 ≤ maxLen from by unfold maxLen; omega, by unfold IsI; simp⟩
    · exact ⟨show 3 ≤ maxLen from by unfold maxLen; omega, by unfold IsI; simp⟩
  rels := by simp [xD]
  ents := by simp [xD]
theorem al_w {D : ObjD} (h : ObjW D) (k : Nat) : ∀ d ∈ alD D k, ObjW d := fun d hd => by
  rcases List.mem_cons.1 hd with rfl | hd
  · exact h
  · rw [List.eq_of_mem_replicate hd]; exact xD_w
theorem info_obj : (Tryd.prog.info? 31).map (fun i => (i.zero, i.size, i.bytes)) = some (some (.agg #[.slice none 0 0, .slice none 0 0, .slice none 0 0, .slice none 0 0, .slice none 0 0]), 5, 120) := by kernel_rfl
end Go.Proofs.YthoehbmbmjmpbaaDoor
