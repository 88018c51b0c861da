/- Layer 7: a list of objects, appended one by one from its end, as a caller turns it round. No condition. -/
import Derived.Test.YthoehbmbmjmpbaaDoorSynF
import Derived.Test.YthoehbmbmjmpbaaDoorSynB
namespace Go.Proofs.YthoehbmbmjmpbaaDoor
set_option maxRecDepth 100000
open Go.RowKit
set_option linter.unusedVariables false
/-- a list's objects from its end down to number c, in a row of the call's own; what they hold lies below the world w0's size -/
def RvAt (w0 w : World) (l : List ObjD) (B : Nat) (c : Nat) (v : Value) : Prop :=
  ∃ cs : List Value, w.ownsRow B 31 5 v (l.length - c) cs ∧ ∀ i, i < l.length - c → ∃ v0 v1 v2 v3 v4, (cs[i * 5]? = some v0 ∧ cs[i * 5 + 1]? = some v1 ∧ cs[i * 5 + 2]? = some v2 ∧ cs[i * 5 + 3]? = some v3 ∧ cs[i * 5 + 4]? = some v4) ∧ ObjAt w0 0 w0.heap.size (nAt l (l.length - 1 - i)) (.agg #[v0, v1, v2, v3, v4])
section
variable {w0 w w' : World} {l : List ObjD} {B c : Nat} {v v' : Value}
theorem RvAt.start (w0 w : World) (l : List ObjD) (B : Nat) : RvAt w0 w l B l.length (.slice none 0 0) :=
  ⟨[], by rw [Nat.sub_self]; exact World.ownsRow_nil _ _ _ _, fun i hi => by omega⟩
theorem RvAt.below (h : RvAt w0 w l B c v) (hb : Below w.heap.size w w') : RvAt w0 w' l B c v := by
  obtain ⟨cs, h1, h2⟩ := h
  exact ⟨cs, rowO_below h1 hb, h2⟩
theorem RvAt.slice (h : RvAt w0 w l B c v) : ∃ A k, v = .slice A (l.length - c) k := by
  obtain ⟨cs, h1, _⟩ := h
  exact ownO_slice h1
theorem rv_put {cs : List Value} {x0 x1 x2 x3 x4 : Value} (hc : c < l.length) (hlen : cs.length = (l.length - (c + 1)) * 5) (h2 : ∀ i, i < l.length - (c + 1) → ∃ v0 v1 v2 v3 v4, (cs[i * 5]? = some v0 ∧ cs[i * 5 + 1]? = some v1 ∧ cs[i * 5 + 2]? = some v2 ∧ cs[i * 5 + 3]? = some v3 ∧ cs[i * 5 + 4]? = some v4) ∧ ObjAt w0 0 w0.heap.size (nAt l (l.length - 1 - i)) (.agg #[v0, v1, v2, v3, v4]))
    (hO : ObjAt w0 0 w0.heap.size (nAt l c) (.agg #[x0, x1, x2, x3, x4])) (hr : w'.ownsRow B 31 5 v' (l.length - (c + 1) + 1) (cs ++ [x0, x1, x2, x3, x4])) : RvAt w0 w' l B c v' := by
  refine ⟨cs ++ [x0, x1, x2, x3, x4], by rw [show l.length - c = l.length - (c + 1) + 1 by omega]; exact hr, fun i hi => ?_⟩
  by_cases e : i < l.length - (c + 1)
  · obtain ⟨v0, v1, v2, v3, v4, ⟨c0, c1, c2, c3, c4⟩, ho⟩ := h2 i e
    refine ⟨v0, v1, v2, v3, v4, ⟨?_, ?_, ?_, ?_, ?_⟩, ho⟩
    · rw [List.getElem?_append_left (by omega)]; exact c0
    · rw [List.getElem?_append_left (by omega)]; exact c1
    · rw [List.getElem?_append_left (by omega)]; exact c2
    · rw [List.getElem?_append_left (by omega)]; exact c3
    · rw [List.getElem?_append_left (by omega)]; exact c4
  · have hi2 : i = l.length - (c + 1) := by omega
    have hci : l.length - 1 - i = c := by omega
    have hat : ∀ j, (cs ++ [x0, x1, x2, x3, x4])[i * 5 + j]? = [x0, x1, x2, x3, x4][j]? := fun j => by
      rw [List.getElem?_append_right (by rw [hlen, hi2]; omega)]
      congr 1
      rw [hlen, hi2]; omega
    refine ⟨x0, x1, x2, x3, x4, ⟨hat 0, hat 1, hat 2, hat 3, hat 4⟩, ?_⟩
    rw [hci]; exact hO
theorem RvAt.objs (h : RvAt w0 w l B 0 v) (hb : Below w0.heap.size w0 w) : ∃ A k, v = .slice A l.length k ∧ ObjsAt w 0 w.heap.size l.reverse A := by
  obtain ⟨cs, h1, h2⟩ := h
  rw [Nat.sub_zero] at h1 h2
  obtain ⟨A, k, rfl⟩ := ownO_slice h1
  refine ⟨A, k, rfl, cs, by rw [h1.1, List.length_reverse], (RowC.of_own h1).move (Nat.zero_le _) (Nat.le_refl _) (fun _ _ _ => rfl), fun i hi => ?_⟩
  rw [List.length_reverse] at hi
  obtain ⟨v0, v1, v2, v3, v4, hc, ho⟩ := h2 i hi
  refine ⟨v0, v1, v2, v3, v4, hc, ?_⟩
  rw [nAt_get (by omega)] at ho
  rw [List.getElem_reverse]
  exact ho.move (Nat.le_refl _) hb.size (fun b _ hb' => hb.block b hb')
end
theorem rev_w {l : List ObjD} (h : ∀ d ∈ l, ObjW d) : ∀ d ∈ l.reverse, ObjW d := fun d hd => h d (List.mem_reverse.1 hd)
theorem sumS_rev (l : List ObjD) : sumS l.reverse l.reverse.length = sumS l l.length := by
  unfold sumS
  rw [List.take_length, List.take_length, List.map_reverse, List.sum_reverse]
theorem entL_sum (l : List ObjD) : (entL l l.length).length = sumE l := by
  rw [entL_len _ _ (Nat.le_refl _), List.take_length]; rfl
end Go.Proofs.YthoehbmbmjmpbaaDoor
