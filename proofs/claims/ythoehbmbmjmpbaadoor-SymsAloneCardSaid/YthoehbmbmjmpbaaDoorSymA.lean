/- Layer 7: the map of package syms whose keys are names in objects: look-up, update. No condition. -/
import Derived.Test.YthoehbmbmjmpbaaDoorObjA
namespace Go.Proofs.YthoehbmbmjmpbaaDoor
set_option maxRecDepth 100000
open Go.RowKit Go.Maps
set_option linter.unusedVariables false
theorem rowKn : (87 : TypeId) < Tryd.prog.types.size := of_decide_eq_true (by kernel_rfl)
theorem wideKn : (match Tryd.prog.underlying 87 with | some (.array _ _) | some (.struct _) => true | _ => false) = true := by rw [Tryd.underlying87]
theorem lawKn : Keyed Tryd.prog 87 := Keyed.of_law (deep_law_laid laidAllO (m := 3) (by omega) rowKn (by kernel_rfl) wideKn)
/-- a name in an object: the name, the object, whether it is Out -/
abbrev Kn := ByteArray × Int × Bool
def KnW (t : Kn) : Prop := t.1.size ≤ maxLen ∧ (-9223372036854775808 ≤ t.2.1 ∧ t.2.1 ≤ 9223372036854775807)
def knV (t : Kn) : Value := .agg #[.string t.1, .int .i64 t.2.1, .bool t.2.2]
def kKey (t : Kn) : Lit := .string (keyBytes [.string t.1.data.toList, .int .i64 t.2.1, .bool t.2.2])
theorem kKey_of {t : Kn} (h : KnW t) : keyOf Tryd.prog 87 (knV t) = some (kKey t) := by
  obtain ⟨hs, ⟨o0, o1⟩⟩ := h
  unfold knV
  have wo : (Lit.int .i64 t.2.1).wf = true := WalkArith.wf_i64 ⟨by omega, by omega⟩
  have h1 : Tryd.prog.keyType 87 = true := by kernel_rfl
  have hc : Tryd.prog.cellsOf 87 = 3 := by kernel_rfl
  have h2 : (Value.agg #[.string t.1, .int .i64 t.2.1, .bool t.2.2]).formed Tryd.prog 87 = true := by
    simp [Value.formed, Tryd.underlying87, hc]
  have hci : Tryd.prog.cellsOf 3 = 1 := by kernel_rfl
  have hcs : Tryd.prog.cellsOf 9 = 1 := by kernel_rfl
  have hcb : Tryd.prog.cellsOf 4 = 1 := by kernel_rfl
  have ht : 87 < Tryd.prog.types.size := rowKn
  have e : Tryd.prog.types.size + 1 = (Tryd.prog.types.size - 1) + 1 + 1 := by generalize Tryd.prog.types.size = q at ht; omega
  have h3 : ∀ d, Tryd.prog.keyLits (d + 1 + 1) 87 [.string t.1, .int .i64 t.2.1, .bool t.2.2] = some [.string t.1.data.toList, .int .i64 t.2.1, .bool t.2.2] := fun d => by
    simp [Program.keyLits, Tryd.underlying87, Tryd.underlying9, Tryd.underlying3, Tryd.underlying4, hc, hci, hcs, hcb, wo, hs]
  unfold keyOf
  rw [Tryd.underlying87]
  simp only [h1, h2, Bool.and_self, if_true]
  show Option.map _ (Tryd.prog.keyLits (Tryd.prog.types.size + 1) 87 [.string t.1, .int .i64 t.2.1, .bool t.2.2]) = _
  rw [e, h3]
  rfl
theorem kKey_inj {r s : Kn} (hr : KnW r) (hs : KnW s) (h : kKey r = kKey s) : r = s := by
  have a := kKey_of hr
  have b := kKey_of hs
  rw [h] at a
  have := lawKn.inj a b
  unfold knV at this
  simp only [Value.agg.injEq, Array.mk.injEq, List.cons.injEq, Value.int.injEq, Value.string.injEq, Value.bool.injEq, true_and, and_true] at this
  obtain ⟨h0, h1, h2⟩ := this
  exact Prod.ext h0 (Prod.ext h1 h2)
theorem isKey_kn (t : Kn) : WideAt.IsKeyLit (kKey t) := trivial
/-- block b is a map of at most n entries, which knows what M knows -/
def KnK (w : World) (b n : Nat) (M : Kn → Option Int) : Prop :=
  ∃ D : DataW Unit, w.ownsMap Tryd.prog 87 (plainElem Tryd.prog 3) b n D ∧ IsMap D ∧ (∀ key, has D key = true → ∃ t, KnW t ∧ key = kKey t) ∧ ∀ t, KnW t → (M t = none → has D (kKey t) = false) ∧ ∀ c, M t = some c → has D (kKey t) = true ∧ ∀ z, D.atKey (kKey t) z = .lit (.int .i64 c)
theorem KnK.lt {w : World} {b n : Nat} {M : Kn → Option Int} (h : KnK w b n M) : b < w.heap.size := by obtain ⟨D, h, _⟩ := h; exact h.lt
theorem KnK.kept {w w' : World} {b n : Nat} {M : Kn → Option Int} {row : Option Nat} (h : KnK w b n M) (hg : w.grownBy w' row) (hne : some b ≠ row) : KnK w' b n M := by
  obtain ⟨D, h1, h2⟩ := h
  exact ⟨D, h1.kept hg hne, h2⟩
theorem KnK.below {w w' : World} {b n : Nat} {M : Kn → Option Int} (h : KnK w b n M) (hb : Below w.heap.size w w') : KnK w' b n M := by
  obtain ⟨D, ⟨es, clock, q1, q2⟩, q3⟩ := h
  exact ⟨D, ⟨es, clock, (hb.block b (Array.getElem?_eq_some_iff.1 q1).1).trans q1, q2⟩, q3⟩
theorem KnK.made (w : World) : KnK (w.alloc (.map #[] 0)) w.heap.size 0 (fun _ => none) :=
  ⟨.map [], World.ownsMap_made _ _ _ _, isMap_empty, (fun key h => by cases h), fun t _ => ⟨fun _ => rfl, fun c h => by cases h⟩⟩
/-- what a look-up answers -/
def knA (M : Kn → Option Int) (t : Kn) : Value := .tuple #[.int .i64 ((M t).getD 0), .bool (M t).isSome]
theorem KnK.look {w : World} {b n : Nat} {M : Kn → Option Int} (h : KnK w b n M) {t : Kn} (ht : KnW t) :
    (Instr.lookup 76 (.map (some b)) (knV t) true).run Tryd.prog w = .ok (knA M t) w := by
  obtain ⟨D, h1, _, _, h3⟩ := h
  obtain ⟨v, ps, hrun, hv⟩ := h1.look_ok lawKn Tryd.underlying76 (zeroIntO w) (plainElem_int Tryd.underlying3 (by decide)) (kKey_of ht)
  obtain ⟨c, rfl, hc, _⟩ := plainElem_int_inv Tryd.underlying3 hv
  simp only [Prod.mk.injEq] at hc
  obtain ⟨k1, k2⟩ := h3 t ht
  rw [hrun]
  unfold knA
  cases hM : M t with
  | none =>
    have hh := k1 hM
    rw [atKey_of_not_has hh] at hc
    have hc := hc.1
    simp only [DataW.lit.injEq, Lit.int.injEq, true_and] at hc
    rw [hh, ← hc]
    rfl
  | some d =>
    obtain ⟨hh, ha⟩ := k2 d hM
    rw [ha] at hc
    have hc := hc.1
    simp only [DataW.lit.injEq, Lit.int.injEq, true_and] at hc
    rw [hh, ← hc]
    rfl
theorem KnK.put {w : World} {b n : Nat} {M : Kn → Option Int} (h : KnK w b n M) (hn : n < 1000000) {t : Kn} (ht : KnW t) (c : Int) (hc0 : 0 ≤ c) (hc1 : c ≤ 1000000) :
    ∃ w', (Instr.mapUpdate 76 (.map (some b)) (knV t) (.int .i64 c)).run Tryd.prog w = .ok () w' ∧ KnK w' b (n + 1) (fun u => if u = t then some c else M u) ∧ w.grownBy w' (some b) := by
  obtain ⟨D, h1, h2, hd, h3⟩ := h
  obtain ⟨w', hr, hown, hg⟩ := h1.update lawKn Tryd.underlying76 (by unfold maxLen; omega) (kKey_of ht) (plainElem_int (H := Unit) (q := .i64) (a := c) Tryd.underlying3 (WalkArith.wf_i64 ⟨by omega, by omega⟩))
  refine ⟨w', hr, ⟨_, hown, h2.put _ _, (fun key hk => ?_), fun u hu => ?_⟩, hg⟩
  · by_cases e : key = kKey t
    · exact ⟨t, ht, e⟩
    · rw [has_put_other e] at hk
      exact hd key hk
  · by_cases e : u = t
    · subst e
      simp only [if_true]
      exact ⟨(fun h => by cases h), (fun d hd => by cases hd; exact ⟨has_put_same h2 (isKey_kn u) _, fun z => atKey_put_same h2 (isKey_kn u) _ _⟩)⟩
    · simp only [if_neg e]
      have hne : kKey u ≠ kKey t := fun h => e (kKey_inj hu ht h)
      obtain ⟨k1, k2⟩ := h3 u hu
      exact ⟨fun h => by rw [has_put_other hne]; exact k1 h, fun d hd => by rw [has_put_other hne]; exact ⟨(k2 d hd).1, fun z => by rw [atKey_put_other hne]; exact (k2 d hd).2 z⟩⟩
theorem rowUs : (92 : TypeId) < Tryd.prog.types.size := of_decide_eq_true (by kernel_rfl)
theorem wideUs : (match Tryd.prog.underlying 92 with | some (.array _ _) | some (.struct _) => true | _ => false) = true := by rw [Tryd.underlying92]
theorem lawUs : Keyed Tryd.prog 92 := Keyed.of_law (deep_law_laid laidAllO (m := 2) (by omega) rowUs (by kernel_rfl) wideUs)
/-- a name that relocations of an object have -/
abbrev Us := ByteArray × Int
def UsW (t : Us) : Prop := t.1.size ≤ maxLen ∧ (-9223372036854775808 ≤ t.2 ∧ t.2 ≤ 9223372036854775807)
def usV (t : Us) : Value := .agg #[.string t.1, .int .i64 t.2]
def uKey (t : Us) : Lit := .string (keyBytes [.string t.1.data.toList, .int .i64 t.2])
theorem uKey_of {t : Us} (h : UsW t) : keyOf Tryd.prog 92 (usV t) = some (uKey t) := by
  obtain ⟨hs, ⟨o0, o1⟩⟩ := h
  unfold usV
  have wo : (Lit.int .i64 t.2).wf = true := WalkArith.wf_i64 ⟨by omega, by omega⟩
  have h1 : Tryd.prog.keyType 92 = true := by kernel_rfl
  have hc : Tryd.prog.cellsOf 92 = 2 := by kernel_rfl
  have h2 : (Value.agg #[.string t.1, .int .i64 t.2]).formed Tryd.prog 92 = true := by
    simp [Value.formed, Tryd.underlying92, hc]
  have hci : Tryd.prog.cellsOf 3 = 1 := by kernel_rfl
  have hcs : Tryd.prog.cellsOf 9 = 1 := by kernel_rfl
  have ht : 92 < Tryd.prog.types.size := rowUs
  have e : Tryd.prog.types.size + 1 = (Tryd.prog.types.size - 1) + 1 + 1 := by generalize Tryd.prog.types.size = q at ht; omega
  have h3 : ∀ d, Tryd.prog.keyLits (d + 1 + 1) 92 [.string t.1, .int .i64 t.2] = some [.string t.1.data.toList, .int .i64 t.2] := fun d => by
    simp [Program.keyLits, Tryd.underlying92, Tryd.underlying9, Tryd.underlying3, hc, hci, hcs, wo, hs]
  unfold keyOf
  rw [Tryd.underlying92]
  simp only [h1, h2, Bool.and_self, if_true]
  show Option.map _ (Tryd.prog.keyLits (Tryd.prog.types.size + 1) 92 [.string t.1, .int .i64 t.2]) = _
  rw [e, h3]
  rfl
theorem uKey_inj {r s : Us} (hr : UsW r) (hs : UsW s) (h : uKey r = uKey s) : r = s := by
  have a := uKey_of hr
  have b := uKey_of hs
  rw [h] at a
  have := lawUs.inj a b
  unfold usV at this
  simp only [Value.agg.injEq, Array.mk.injEq, List.cons.injEq, Value.int.injEq, Value.string.injEq, true_and, and_true] at this
  obtain ⟨h0, h1⟩ := this
  exact Prod.ext h0 h1
theorem isKey_us (t : Us) : WideAt.IsKeyLit (uKey t) := trivial
/-- block b is a map of at most n entries, which knows what M knows -/
def UsK (w : World) (b n : Nat) (M : Us → Option Int) : Prop :=
  ∃ D : DataW Unit, w.ownsMap Tryd.prog 92 (plainElem Tryd.prog 3) b n D ∧ IsMap D ∧ (∀ key, has D key = true → ∃ t, UsW t ∧ key = uKey t) ∧ ∀ t, UsW t → (M t = none → has D (uKey t) = false) ∧ ∀ c, M t = some c → has D (uKey t) = true ∧ ∀ z, D.atKey (uKey t) z = .lit (.int .i64 c)
theorem UsK.lt {w : World} {b n : Nat} {M : Us → Option Int} (h : UsK w b n M) : b < w.heap.size := by obtain ⟨D, h, _⟩ := h; exact h.lt
theorem UsK.kept {w w' : World} {b n : Nat} {M : Us → Option Int} {row : Option Nat} (h : UsK w b n M) (hg : w.grownBy w' row) (hne : some b ≠ row) : UsK w' b n M := by
  obtain ⟨D, h1, h2⟩ := h
  exact ⟨D, h1.kept hg hne, h2⟩
theorem UsK.below {w w' : World} {b n : Nat} {M : Us → Option Int} (h : UsK w b n M) (hb : Below w.heap.size w w') : UsK w' b n M := by
  obtain ⟨D, ⟨es, clock, q1, q2⟩, q3⟩ := h
  exact ⟨D, ⟨es, clock, (hb.block b (Array.getElem?_eq_some_iff.1 q1).1).trans q1, q2⟩, q3⟩
theorem UsK.made (w : World) : UsK (w.alloc (.map #[] 0)) w.heap.size 0 (fun _ => none) :=
  ⟨.map [], World.ownsMap_made _ _ _ _, isMap_empty, (fun key h => by cases h), fun t _ => ⟨fun _ => rfl, fun c h => by cases h⟩⟩
/-- what a look-up answers -/
def usA (M : Us → Option Int) (t : Us) : Value := .tuple #[.int .i64 ((M t).getD 0), .bool (M t).isSome]
theorem UsK.look {w : World} {b n : Nat} {M : Us → Option Int} (h : UsK w b n M) {t : Us} (ht : UsW t) :
    (Instr.lookup 84 (.map (some b)) (usV t) true).run Tryd.prog w = .ok (usA M t) w := by
  obtain ⟨D, h1, _, _, h3⟩ := h
  obtain ⟨v, ps, hrun, hv⟩ := h1.look_ok lawUs Tryd.underlying84 (zeroIntO w) (plainElem_int Tryd.underlying3 (by decide)) (uKey_of ht)
  obtain ⟨c, rfl, hc, _⟩ := plainElem_int_inv Tryd.underlying3 hv
  simp only [Prod.mk.injEq] at hc
  obtain ⟨k1, k2⟩ := h3 t ht
  rw [hrun]
  unfold usA
  cases hM : M t with
  | none =>
    have hh := k1 hM
    rw [atKey_of_not_has hh] at hc
    have hc := hc.1
    simp only [DataW.lit.injEq, Lit.int.injEq, true_and] at hc
    rw [hh, ← hc]
    rfl
  | some d =>
    obtain ⟨hh, ha⟩ := k2 d hM
    rw [ha] at hc
    have hc := hc.1
    simp only [DataW.lit.injEq, Lit.int.injEq, true_and] at hc
    rw [hh, ← hc]
    rfl
theorem UsK.put {w : World} {b n : Nat} {M : Us → Option Int} (h : UsK w b n M) (hn : n < 1000000) {t : Us} (ht : UsW t) (c : Int) (hc0 : 0 ≤ c) (hc1 : c ≤ 1000000) :
    ∃ w', (Instr.mapUpdate 84 (.map (some b)) (usV t) (.int .i64 c)).run Tryd.prog w = .ok () w' ∧ UsK w' b (n + 1) (fun u => if u = t then some c else M u) ∧ w.grownBy w' (some b) := by
  obtain ⟨D, h1, h2, hd, h3⟩ := h
  obtain ⟨w', hr, hown, hg⟩ := h1.update lawUs Tryd.underlying84 (by unfold maxLen; omega) (uKey_of ht) (plainElem_int (H := Unit) (q := .i64) (a := c) Tryd.underlying3 (WalkArith.wf_i64 ⟨by omega, by omega⟩))
  refine ⟨w', hr, ⟨_, hown, h2.put _ _, (fun key hk => ?_), fun u hu => ?_⟩, hg⟩
  · by_cases e : key = uKey t
    · exact ⟨t, ht, e⟩
    · rw [has_put_other e] at hk
      exact hd key hk
  · by_cases e : u = t
    · subst e
      simp only [if_true]
      exact ⟨(fun h => by cases h), (fun d hd => by cases hd; exact ⟨has_put_same h2 (isKey_us u) _, fun z => atKey_put_same h2 (isKey_us u) _ _⟩)⟩
    · simp only [if_neg e]
      have hne : uKey u ≠ uKey t := fun h => e (uKey_inj hu ht h)
      obtain ⟨k1, k2⟩ := h3 u hu
      exact ⟨fun h => by rw [has_put_other hne]; exact k1 h, fun d hd => by rw [has_put_other hne]; exact ⟨(k2 d hd).1, fun z => by rw [atKey_put_other hne]; exact (k2 d hd).2 z⟩⟩
end Go.Proofs.YthoehbmbmjmpbaaDoor
