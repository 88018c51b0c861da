/- Layer 6: the map of what was seen: keys that are things (a kind, a name, a place), values that are numbers. -/
import Derived.Test.YtfdpbogbnfkilaaDoorObjName
import Derived.Maps.OwnSet
import Derived.Maps.OwnOps
import Derived.Maps.Views
import Derived.DeepKeys4
namespace Go.Proofs.YtfdpbogbnfkilaaDoor
set_option maxRecDepth 100000
open Go.RowKit Go.Maps
set_option linter.unusedVariables false
theorem laidAllO : laidOutB Tryd.prog = true := by kernel_rfl
theorem rowThing : (175 : TypeId) < Tryd.prog.types.size := of_decide_eq_true (by kernel_rfl)
theorem wideThing : (match Tryd.prog.underlying 175 with | some (.array _ _) | some (.struct _) => true | _ => false) = true := by rw [Tryd.underlying175]
theorem lawThing : Keyed Tryd.prog 175 := Keyed.of_law (deep_law_laid laidAllO (m := 3) (by omega) rowThing (by kernel_rfl) wideThing)
theorem zeroIntO (w : World) : (zeroValue 3).run Tryd.prog w = .ok (.int .i64 0) w := by kernel_rfl
/-- a thing: its kind, its name, its place -/
abbrev Th := Int × ByteArray × Int
def ThW (t : Th) : Prop := (-9223372036854775808 ≤ t.1 ∧ t.1 ≤ 9223372036854775807) ∧ t.2.1.size ≤ maxLen ∧ (-9223372036854775808 ≤ t.2.2 ∧ t.2.2 ≤ 9223372036854775807)
def thV (t : Th) : Value := .agg #[.int .i64 t.1, .string t.2.1, .int .i64 t.2.2]
def oKey (t : Th) : Lit := .string (keyBytes [.int .i64 t.1, .string t.2.1.data.toList, .int .i64 t.2.2])
theorem oKey_of {t : Th} (h : ThW t) : keyOf Tryd.prog 175 (thV t) = some (oKey t) := by
  obtain ⟨⟨o0, o1⟩, hs, ⟨p0, p1⟩⟩ := h
  unfold thV
  have wo : (Lit.int .i64 t.1).wf = true := WalkArith.wf_i64 ⟨by omega, by omega⟩
  have wp : (Lit.int .i64 t.2.2).wf = true := WalkArith.wf_i64 ⟨by omega, by omega⟩
  have h1 : Tryd.prog.keyType 175 = true := by kernel_rfl
  have hc : Tryd.prog.cellsOf 175 = 3 := by kernel_rfl
  have h2 : (Value.agg #[.int .i64 t.1, .string t.2.1, .int .i64 t.2.2]).formed Tryd.prog 175 = true := by
    simp [Value.formed, Tryd.underlying175, hc]
  have hci : Tryd.prog.cellsOf 3 = 1 := by kernel_rfl
  have hcs : Tryd.prog.cellsOf 9 = 1 := by kernel_rfl
  have ht : 175 < Tryd.prog.types.size := rowThing
  have e : Tryd.prog.types.size + 1 = (Tryd.prog.types.size - 1) + 1 + 1 := by generalize Tryd.prog.types.size = q at ht; omega
  have h3 : ∀ d, Tryd.prog.keyLits (d + 1 + 1) 175 [.int .i64 t.1, .string t.2.1, .int .i64 t.2.2] = some [.int .i64 t.1, .string t.2.1.data.toList, .int .i64 t.2.2] := fun d => by
    simp [Program.keyLits, Tryd.underlying175, Tryd.underlying9, Tryd.underlying3, hc, hci, hcs, wo, wp, hs]
  unfold keyOf
  rw [Tryd.underlying175]
  simp only [h1, h2, Bool.and_self, if_true]
  show Option.map _ (Tryd.prog.keyLits (Tryd.prog.types.size + 1) 175 [.int .i64 t.1, .string t.2.1, .int .i64 t.2.2]) = _
  rw [e, h3]
  rfl
theorem oKey_inj {r s : Th} (hr : ThW r) (hs : ThW s) (h : oKey r = oKey s) : r = s := by
  have a := oKey_of hr
  have b := oKey_of hs
  rw [h] at a
  have := lawThing.inj a b
  unfold thV at this
  simp only [Value.agg.injEq, Array.mk.injEq, List.cons.injEq, Value.int.injEq, Value.string.injEq, true_and, and_true] at this
  obtain ⟨h0, h1, h2⟩ := this
  exact Prod.ext h0 (Prod.ext h1 h2)
theorem isKey_t (t : Th) : WideAt.IsKeyLit (oKey t) := trivial
/-- block b is a map of at most n entries, which knows what M knows -/
def SeenK (w : World) (b n : Nat) (M : Th → Option Int) : Prop :=
  ∃ D : DataW Unit, w.ownsMap Tryd.prog 175 (plainElem Tryd.prog 3) b n D ∧ IsMap D ∧ ∀ t, ThW t → (M t = none → has D (oKey t) = false) ∧ ∀ c, M t = some c → has D (oKey t) = true ∧ ∀ z, D.atKey (oKey t) z = .lit (.int .i64 c)
theorem SeenK.lt {w : World} {b n : Nat} {M : Th → Option Int} (h : SeenK w b n M) : b < w.heap.size := by obtain ⟨D, h, _⟩ := h; exact h.lt
theorem SeenK.kept {w w' : World} {b n : Nat} {M : Th → Option Int} {row : Option Nat} (h : SeenK w b n M) (hg : w.grownBy w' row) (hne : some b ≠ row) : SeenK w' b n M := by
  obtain ⟨D, h1, h2⟩ := h
  exact ⟨D, h1.kept hg hne, h2⟩
theorem SeenK.below {w w' : World} {b n : Nat} {M : Th → Option Int} (h : SeenK w b n M) (hb : Below w.heap.size w w') : SeenK w' b n M := by
  obtain ⟨D, ⟨es, clock, q1, q2⟩, q3⟩ := h
  exact ⟨D, ⟨es, clock, (hb.block b (Array.getElem?_eq_some_iff.1 q1).1).trans q1, q2⟩, q3⟩
theorem SeenK.made (w : World) : SeenK (w.alloc (.map #[] 0)) w.heap.size 0 (fun _ => none) :=
  ⟨.map [], World.ownsMap_made _ _ _ _, isMap_empty, fun t _ => ⟨fun _ => rfl, fun c h => by cases h⟩⟩
/-- what a look-up answers -/
def seenV (M : Th → Option Int) (t : Th) : Value := .tuple #[.int .i64 ((M t).getD 0), .bool (M t).isSome]
theorem SeenK.look {w : World} {b n : Nat} {M : Th → Option Int} (h : SeenK w b n M) {t : Th} (ht : ThW t) :
    (Instr.lookup 90 (.map (some b)) (thV t) true).run Tryd.prog w = .ok (seenV M t) w := by
  obtain ⟨D, h1, _, h3⟩ := h
  obtain ⟨v, ps, hrun, hv⟩ := h1.look_ok lawThing Tryd.underlying90 (zeroIntO w) (plainElem_int Tryd.underlying3 (by decide)) (oKey_of ht)
  obtain ⟨c, rfl, hc, _⟩ := plainElem_int_inv Tryd.underlying3 hv
  simp only [Prod.mk.injEq] at hc
  obtain ⟨k1, k2⟩ := h3 t ht
  rw [hrun]
  unfold seenV
  cases hM : M t with
  | none =>
    have hh := k1 hM
    rw [atKey_of_not_has hh] at hc
    have hc := hc.1
    simp only [DataW.lit.injEq, Lit.int.injEq, true_and] at hc
    rw [hh, ← hc]
    rfl
  | some d =>
    obtain ⟨hh, ha⟩ := k2 d hM
    rw [ha] at hc
    have hc := hc.1
    simp only [DataW.lit.injEq, Lit.int.injEq, true_and] at hc
    rw [hh, ← hc]
    rfl
theorem SeenK.put {w : World} {b n : Nat} {M : Th → Option Int} (h : SeenK w b n M) (hn : n < 1000000) {t : Th} (ht : ThW t) (c : Int) (hc0 : 0 ≤ c) (hc1 : c ≤ 1000000) :
    ∃ w', (Instr.mapUpdate 90 (.map (some b)) (thV t) (.int .i64 c)).run Tryd.prog w = .ok () w' ∧ SeenK w' b (n + 1) (fun u => if u = t then some c else M u) ∧ w.grownBy w' (some b) := by
  obtain ⟨D, h1, h2, h3⟩ := h
  obtain ⟨w', hr, hown, hg⟩ := h1.update lawThing Tryd.underlying90 (by unfold maxLen; omega) (oKey_of ht) (plainElem_int (H := Unit) (q := .i64) (a := c) Tryd.underlying3 (WalkArith.wf_i64 ⟨by omega, by omega⟩))
  refine ⟨w', hr, ⟨_, hown, h2.put _ _, fun u hu => ?_⟩, hg⟩
  by_cases e : u = t
  · subst e
    simp only [if_true]
    exact ⟨(fun h => by cases h), (fun d hd => by cases hd; exact ⟨has_put_same h2 (isKey_t u) _, fun z => atKey_put_same h2 (isKey_t u) _ _⟩)⟩
  · simp only [if_neg e]
    have hne : oKey u ≠ oKey t := fun h => e (oKey_inj hu ht h)
    obtain ⟨k1, k2⟩ := h3 u hu
    exact ⟨fun h => by rw [has_put_other hne]; exact k1 h, fun d hd => by rw [has_put_other hne]; exact ⟨(k2 d hd).1, fun z => by rw [atKey_put_other hne]; exact (k2 d hd).2 z⟩⟩
end Go.Proofs.YtfdpbogbnfkilaaDoor
