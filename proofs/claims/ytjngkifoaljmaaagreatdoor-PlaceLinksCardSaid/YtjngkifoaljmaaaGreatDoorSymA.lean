/- Layer 7: the map of package syms whose keys are names in objects: look-up, update. No condition.
   Layer 7: what a name means, looked up in the book; a Sym written down. No condition.
   Layer 7: a list of objects as it lies; whether it may be. Condition: the tables of package ins read as they should.
   Layer 7: the book, written: of all names, or of one alone. No condition.
   Layer 7: Find. No condition. -/
import Derived.Test.YtjngkifoaljmaaaGreatDoorObjA
import Derived.Test.YtjngkifoaljmaaaGreatDoorObjE
import Derived.Deep.DeepCutAuto
namespace Go.Proofs.YtjngkifoaljmaaaGreatDoor
set_option maxRecDepth 100000
open Go.RowKit Go.Maps
set_option linter.unusedVariables false
theorem rowKn : (108 : TypeId) < Tryz.prog.types.size := of_decide_eq_true (by kernel_rfl)
theorem wideKn : (match Tryz.prog.underlying 108 with | some (.array _ _) | some (.struct _) => true | _ => false) = true := by rw [Tryz.underlying108]
theorem lawKn : Keyed Tryz.prog 108 := Keyed.of_law (deep_law_laid laidAllO (m := 3) (by omega) rowKn (by kernel_rfl) wideKn)
/-- a name in an object: the name, the object, whether it is Out -/
abbrev Kn := ByteArray × Int × Bool
def KnW (t : Kn) : Prop := t.1.size ≤ maxLen ∧ (-9223372036854775808 ≤ t.2.1 ∧ t.2.1 ≤ 9223372036854775807)
def knV (t : Kn) : Value := .agg #[.string t.1, .int .i64 t.2.1, .bool t.2.2]
def kKey (t : Kn) : Lit := .string (keyBytes [.string t.1.data.toList, .int .i64 t.2.1, .bool t.2.2])
theorem kKey_of {t : Kn} (h : KnW t) : keyOf Tryz.prog 108 (knV t) = some (kKey t) := by
  obtain ⟨hs, ⟨o0, o1⟩⟩ := h
  unfold knV
  have wo : (Lit.int .i64 t.2.1).wf = true := WalkArith.wf_i64 ⟨by omega, by omega⟩
  have h1 : Tryz.prog.keyType 108 = true := by kernel_rfl
  have hc : Tryz.prog.cellsOf 108 = 3 := by kernel_rfl
  have h2 : (Value.agg #[.string t.1, .int .i64 t.2.1, .bool t.2.2]).formed Tryz.prog 108 = true := by
    simp [Value.formed, Tryz.underlying108, hc]
  have hci : Tryz.prog.cellsOf 3 = 1 := by kernel_rfl
  have hcs : Tryz.prog.cellsOf 9 = 1 := by kernel_rfl
  have hcb : Tryz.prog.cellsOf 4 = 1 := by kernel_rfl
  have ht : 108 < Tryz.prog.types.size := rowKn
  have e : Tryz.prog.types.size + 1 = (Tryz.prog.types.size - 1) + 1 + 1 := by generalize Tryz.prog.types.size = q at ht; omega
  have h3 : ∀ d, Tryz.prog.keyLits (d + 1 + 1) 108 [.string t.1, .int .i64 t.2.1, .bool t.2.2] = some [.string t.1.data.toList, .int .i64 t.2.1, .bool t.2.2] := fun d => by
    simp [Program.keyLits, Tryz.underlying108, Tryz.underlying9, Tryz.underlying3, Tryz.underlying4, hc, hci, hcs, hcb, wo, hs]
  unfold keyOf
  rw [Tryz.underlying108]
  simp only [h1, h2, Bool.and_self, if_true]
  show Option.map _ (Tryz.prog.keyLits (Tryz.prog.types.size + 1) 108 [.string t.1, .int .i64 t.2.1, .bool t.2.2]) = _
  rw [e, h3]
  rfl
theorem kKey_inj {r s : Kn} (hr : KnW r) (hs : KnW s) (h : kKey r = kKey s) : r = s := by
  have a := kKey_of hr
  have b := kKey_of hs
  rw [h] at a
  have := lawKn.inj a b
  unfold knV at this
  simp only [Value.agg.injEq, Array.mk.injEq, List.cons.injEq, Value.int.injEq, Value.string.injEq, Value.bool.injEq, true_and, and_true] at this
  obtain ⟨h0, h1, h2⟩ := this
  exact Prod.ext h0 (Prod.ext h1 h2)
theorem isKey_kn (t : Kn) : WideAt.IsKeyLit (kKey t) := trivial
/-- block b is a map of at most n entries, which knows what M knows -/
def KnK (w : World) (b n : Nat) (M : Kn → Option Int) : Prop :=
  ∃ D : DataW Unit, w.ownsMap Tryz.prog 108 (plainElem Tryz.prog 3) b n D ∧ IsMap D ∧ (∀ key, has D key = true → ∃ t, KnW t ∧ key = kKey t) ∧ ∀ t, KnW t → (M t = none → has D (kKey t) = false) ∧ ∀ c, M t = some c → has D (kKey t) = true ∧ ∀ z, D.atKey (kKey t) z = .lit (.int .i64 c)
theorem KnK.lt {w : World} {b n : Nat} {M : Kn → Option Int} (h : KnK w b n M) : b < w.heap.size := by obtain ⟨D, h, _⟩ := h; exact h.lt
theorem KnK.kept {w w' : World} {b n : Nat} {M : Kn → Option Int} {row : Option Nat} (h : KnK w b n M) (hg : w.grownBy w' row) (hne : some b ≠ row) : KnK w' b n M := by
  obtain ⟨D, h1, h2⟩ := h
  exact ⟨D, h1.kept hg hne, h2⟩
theorem KnK.below {w w' : World} {b n : Nat} {M : Kn → Option Int} (h : KnK w b n M) (hb : Below w.heap.size w w') : KnK w' b n M := by
  obtain ⟨D, ⟨es, clock, q1, q2⟩, q3⟩ := h
  exact ⟨D, ⟨es, clock, (hb.block b (Array.getElem?_eq_some_iff.1 q1).1).trans q1, q2⟩, q3⟩
theorem KnK.made (w : World) : KnK (w.alloc (.map #[] 0)) w.heap.size 0 (fun _ => none) :=
  ⟨.map [], World.ownsMap_made _ _ _ _, isMap_empty, (fun key h => by cases h), fun t _ => ⟨fun _ => rfl, fun c h => by cases h⟩⟩
/-- what a look-up answers -/
def knA (M : Kn → Option Int) (t : Kn) : Value := .tuple #[.int .i64 ((M t).getD 0), .bool (M t).isSome]
theorem KnK.look {w : World} {b n : Nat} {M : Kn → Option Int} (h : KnK w b n M) {t : Kn} (ht : KnW t) :
    (Instr.lookup 85 (.map (some b)) (knV t) true).run Tryz.prog w = .ok (knA M t) w := by
  obtain ⟨D, h1, _, _, h3⟩ := h
  obtain ⟨v, ps, hrun, hv⟩ := h1.look_ok lawKn Tryz.underlying85 (zeroIntO w) (plainElem_int Tryz.underlying3 (by decide)) (kKey_of ht)
  obtain ⟨c, rfl, hc, _⟩ := plainElem_int_inv Tryz.underlying3 hv
  simp only [Prod.mk.injEq] at hc
  obtain ⟨k1, k2⟩ := h3 t ht
  rw [hrun]
  unfold knA
  cases hM : M t with
  | none =>
    have hh := k1 hM
    rw [atKey_of_not_has hh] at hc
    have hc := hc.1
    simp only [DataW.lit.injEq, Lit.int.injEq, true_and] at hc
    rw [hh, ← hc]
    rfl
  | some d =>
    obtain ⟨hh, ha⟩ := k2 d hM
    rw [ha] at hc
    have hc := hc.1
    simp only [DataW.lit.injEq, Lit.int.injEq, true_and] at hc
    rw [hh, ← hc]
    rfl
theorem KnK.put {w : World} {b n : Nat} {M : Kn → Option Int} (h : KnK w b n M) (hn : n < 1000000) {t : Kn} (ht : KnW t) (c : Int) (hc0 : 0 ≤ c) (hc1 : c ≤ 1000000) :
    ∃ w', (Instr.mapUpdate 85 (.map (some b)) (knV t) (.int .i64 c)).run Tryz.prog w = .ok () w' ∧ KnK w' b (n + 1) (fun u => if u = t then some c else M u) ∧ w.grownBy w' (some b) := by
  obtain ⟨D, h1, h2, hd, h3⟩ := h
  obtain ⟨w', hr, hown, hg⟩ := h1.update lawKn Tryz.underlying85 (by unfold maxLen; omega) (kKey_of ht) (plainElem_int (H := Unit) (q := .i64) (a := c) Tryz.underlying3 (WalkArith.wf_i64 ⟨by omega, by omega⟩))
  refine ⟨w', hr, ⟨_, hown, h2.put _ _, (fun key hk => ?_), fun u hu => ?_⟩, hg⟩
  · by_cases e : key = kKey t
    · exact ⟨t, ht, e⟩
    · rw [has_put_other e] at hk
      exact hd key hk
  · by_cases e : u = t
    · subst e
      simp only [if_true]
      exact ⟨(fun h => by cases h), (fun d hd => by cases hd; exact ⟨has_put_same h2 (isKey_kn u) _, fun z => atKey_put_same h2 (isKey_kn u) _ _⟩)⟩
    · simp only [if_neg e]
      have hne : kKey u ≠ kKey t := fun h => e (kKey_inj hu ht h)
      obtain ⟨k1, k2⟩ := h3 u hu
      exact ⟨fun h => by rw [has_put_other hne]; exact k1 h, fun d hd => by rw [has_put_other hne]; exact ⟨(k2 d hd).1, fun z => by rw [atKey_put_other hne]; exact (k2 d hd).2 z⟩⟩
theorem rowUs : (111 : TypeId) < Tryz.prog.types.size := of_decide_eq_true (by kernel_rfl)
theorem wideUs : (match Tryz.prog.underlying 111 with | some (.array _ _) | some (.struct _) => true | _ => false) = true := by rw [Tryz.underlying111]
theorem lawUs : Keyed Tryz.prog 111 := Keyed.of_law (deep_law_laid laidAllO (m := 2) (by omega) rowUs (by kernel_rfl) wideUs)
/-- a name that relocations of an object have -/
abbrev Us := ByteArray × Int
def UsW (t : Us) : Prop := t.1.size ≤ maxLen ∧ (-9223372036854775808 ≤ t.2 ∧ t.2 ≤ 9223372036854775807)
def usV (t : Us) : Value := .agg #[.string t.1, .int .i64 t.2]
def uKey (t : Us) : Lit := .string (keyBytes [.string t.1.data.toList, .int .i64 t.2])
theorem uKey_of {t : Us} (h : UsW t) : keyOf Tryz.prog 111 (usV t) = some (uKey t) := by
  obtain ⟨hs, ⟨o0, o1⟩⟩ := h
  unfold usV
  have wo : (Lit.int .i64 t.2).wf = true := WalkArith.wf_i64 ⟨by omega, by omega⟩
  have h1 : Tryz.prog.keyType 111 = true := by kernel_rfl
  have hc : Tryz.prog.cellsOf 111 = 2 := by kernel_rfl
  have h2 : (Value.agg #[.string t.1, .int .i64 t.2]).formed Tryz.prog 111 = true := by
    simp [Value.formed, Tryz.underlying111, hc]
  have hci : Tryz.prog.cellsOf 3 = 1 := by kernel_rfl
  have hcs : Tryz.prog.cellsOf 9 = 1 := by kernel_rfl
  have ht : 111 < Tryz.prog.types.size := rowUs
  have e : Tryz.prog.types.size + 1 = (Tryz.prog.types.size - 1) + 1 + 1 := by generalize Tryz.prog.types.size = q at ht; omega
  have h3 : ∀ d, Tryz.prog.keyLits (d + 1 + 1) 111 [.string t.1, .int .i64 t.2] = some [.string t.1.data.toList, .int .i64 t.2] := fun d => by
    simp [Program.keyLits, Tryz.underlying111, Tryz.underlying9, Tryz.underlying3, hc, hci, hcs, wo, hs]
  unfold keyOf
  rw [Tryz.underlying111]
  simp only [h1, h2, Bool.and_self, if_true]
  show Option.map _ (Tryz.prog.keyLits (Tryz.prog.types.size + 1) 111 [.string t.1, .int .i64 t.2]) = _
  rw [e, h3]
  rfl
theorem uKey_inj {r s : Us} (hr : UsW r) (hs : UsW s) (h : uKey r = uKey s) : r = s := by
  have a := uKey_of hr
  have b := uKey_of hs
  rw [h] at a
  have := lawUs.inj a b
  unfold usV at this
  simp only [Value.agg.injEq, Array.mk.injEq, List.cons.injEq, Value.int.injEq, Value.string.injEq, true_and, and_true] at this
  obtain ⟨h0, h1⟩ := this
  exact Prod.ext h0 h1
theorem isKey_us (t : Us) : WideAt.IsKeyLit (uKey t) := trivial
/-- block b is a map of at most n entries, which knows what M knows -/
def UsK (w : World) (b n : Nat) (M : Us → Option Int) : Prop :=
  ∃ D : DataW Unit, w.ownsMap Tryz.prog 111 (plainElem Tryz.prog 3) b n D ∧ IsMap D ∧ (∀ key, has D key = true → ∃ t, UsW t ∧ key = uKey t) ∧ ∀ t, UsW t → (M t = none → has D (uKey t) = false) ∧ ∀ c, M t = some c → has D (uKey t) = true ∧ ∀ z, D.atKey (uKey t) z = .lit (.int .i64 c)
theorem UsK.lt {w : World} {b n : Nat} {M : Us → Option Int} (h : UsK w b n M) : b < w.heap.size := by obtain ⟨D, h, _⟩ := h; exact h.lt
theorem UsK.kept {w w' : World} {b n : Nat} {M : Us → Option Int} {row : Option Nat} (h : UsK w b n M) (hg : w.grownBy w' row) (hne : some b ≠ row) : UsK w' b n M := by
  obtain ⟨D, h1, h2⟩ := h
  exact ⟨D, h1.kept hg hne, h2⟩
theorem UsK.below {w w' : World} {b n : Nat} {M : Us → Option Int} (h : UsK w b n M) (hb : Below w.heap.size w w') : UsK w' b n M := by
  obtain ⟨D, ⟨es, clock, q1, q2⟩, q3⟩ := h
  exact ⟨D, ⟨es, clock, (hb.block b (Array.getElem?_eq_some_iff.1 q1).1).trans q1, q2⟩, q3⟩
theorem UsK.made (w : World) : UsK (w.alloc (.map #[] 0)) w.heap.size 0 (fun _ => none) :=
  ⟨.map [], World.ownsMap_made _ _ _ _, isMap_empty, (fun key h => by cases h), fun t _ => ⟨fun _ => rfl, fun c h => by cases h⟩⟩
/-- what a look-up answers -/
def usA (M : Us → Option Int) (t : Us) : Value := .tuple #[.int .i64 ((M t).getD 0), .bool (M t).isSome]
theorem UsK.look {w : World} {b n : Nat} {M : Us → Option Int} (h : UsK w b n M) {t : Us} (ht : UsW t) :
    (Instr.lookup 94 (.map (some b)) (usV t) true).run Tryz.prog w = .ok (usA M t) w := by
  obtain ⟨D, h1, _, _, h3⟩ := h
  obtain ⟨v, ps, hrun, hv⟩ := h1.look_ok lawUs Tryz.underlying94 (zeroIntO w) (plainElem_int Tryz.underlying3 (by decide)) (uKey_of ht)
  obtain ⟨c, rfl, hc, _⟩ := plainElem_int_inv Tryz.underlying3 hv
  simp only [Prod.mk.injEq] at hc
  obtain ⟨k1, k2⟩ := h3 t ht
  rw [hrun]
  unfold usA
  cases hM : M t with
  | none =>
    have hh := k1 hM
    rw [atKey_of_not_has hh] at hc
    have hc := hc.1
    simp only [DataW.lit.injEq, Lit.int.injEq, true_and] at hc
    rw [hh, ← hc]
    rfl
  | some d =>
    obtain ⟨hh, ha⟩ := k2 d hM
    rw [ha] at hc
    have hc := hc.1
    simp only [DataW.lit.injEq, Lit.int.injEq, true_and] at hc
    rw [hh, ← hc]
    rfl
theorem UsK.put {w : World} {b n : Nat} {M : Us → Option Int} (h : UsK w b n M) (hn : n < 1000000) {t : Us} (ht : UsW t) (c : Int) (hc0 : 0 ≤ c) (hc1 : c ≤ 1000000) :
    ∃ w', (Instr.mapUpdate 94 (.map (some b)) (usV t) (.int .i64 c)).run Tryz.prog w = .ok () w' ∧ UsK w' b (n + 1) (fun u => if u = t then some c else M u) ∧ w.grownBy w' (some b) := by
  obtain ⟨D, h1, h2, hd, h3⟩ := h
  obtain ⟨w', hr, hown, hg⟩ := h1.update lawUs Tryz.underlying94 (by unfold maxLen; omega) (uKey_of ht) (plainElem_int (H := Unit) (q := .i64) (a := c) Tryz.underlying3 (WalkArith.wf_i64 ⟨by omega, by omega⟩))
  refine ⟨w', hr, ⟨_, hown, h2.put _ _, (fun key hk => ?_), fun u hu => ?_⟩, hg⟩
  · by_cases e : key = uKey t
    · exact ⟨t, ht, e⟩
    · rw [has_put_other e] at hk
      exact hd key hk
  · by_cases e : u = t
    · subst e
      simp only [if_true]
      exact ⟨(fun h => by cases h), (fun d hd => by cases hd; exact ⟨has_put_same h2 (isKey_us u) _, fun z => atKey_put_same h2 (isKey_us u) _ _⟩)⟩
    · simp only [if_neg e]
      have hne : uKey u ≠ uKey t := fun h => e (uKey_inj hu ht h)
      obtain ⟨k1, k2⟩ := h3 u hu
      exact ⟨fun h => by rw [has_put_other hne]; exact k1 h, fun d hd => by rw [has_put_other hne]; exact ⟨(k2 d hd).1, fun z => by rw [atKey_put_other hne]; exact (k2 d hd).2 z⟩⟩
end Go.Proofs.YtjngkifoaljmaaaGreatDoor
namespace Go.Proofs.YtjngkifoaljmaaaGreatDoor
set_option maxRecDepth 100000
open Go.RowKit
set_option linter.unusedVariables false
/-- what is written first stays -/
def putK (M : Kn → Option Int) (t : Kn) (i : Int) : Kn → Option Int := fun u => if u = t then some ((M t).getD i) else M u
theorem putK_of_none {M : Kn → Option Int} {t : Kn} (h : M t = none) (i : Int) : putK M t i = fun u => if u = t then some i else M u := by
  unfold putK; rw [h]; rfl
theorem putK_of_some {M : Kn → Option Int} {t : Kn} {d : Int} (h : M t = some d) (i : Int) : putK M t i = M := by
  funext u
  unfold putK
  by_cases e : u = t
  · subst e; rw [if_pos rfl, h]; rfl
  · rw [if_neg e]
theorem KnK.mono {w : World} {b n m : Nat} {M : Kn → Option Int} (h : KnK w b n M) (hn : n ≤ m) : KnK w b m M := by
  obtain ⟨D, h1, h2⟩ := h
  exact ⟨D, h1.mono hn, h2⟩
set_option maxHeartbeats 1000000 in
theorem put_any (nb : Int) (b n : Nat) (M : Kn → Option Int) (t : Kn) (ht : KnW t) (i : Int) (hi0 : 0 ≤ i) (hi1 : i ≤ 1000000) (hn : n < 1000000) (w : World) (hK : KnK w b n M) :
    Calls Tryz.prog 61 #[.agg #[.int .i64 nb, .map (some b)], knV t, .int .i64 i] w fun e w' => e = .returned (.tuple #[]) ∧ KnK w' b (n + 1) (putK M t i) ∧ OutO (fun k => k = b) w w' := by
  have hb := ((Below.refl w.heap.size w).alloc (Nat.le_refl _) (.cells #[.int .i64 nb, .map (some b)] 87)).alloc (by simp) (.cells #[.string t.1, .int .i64 t.2.1, .bool t.2.2] 108)
  have hK2 := hK.below hb
  have hlk := hK2.look ht
  unfold knA at hlk
  cases hM : M t with
  | none =>
    obtain ⟨w3, hr, hs, hg⟩ := hK2.put hn ht i hi0 hi1
    have HS := Lib.hid hs
    have HG := Lib.hid ((OutO.of_below (F := fun k => k = b) hb).trans (OutO.of_grown hg (fun g e => by cases e; rfl)))
    have HP := Lib.hid (putK_of_none hM i)
    rw [hM] at hlk
    clear hK hK2 hs hg hb hM
    unfold knV at *
    simp only [Option.getD_none, Option.isSome_none] at hlk
    obtain ⟨tn, ti, tb⟩ := t
    simp only at *
    go_enter Tryz.func61, Tryz.ntmps61
    go_wp2
    go_end0
    exact ⟨rfl, by rw [HP.out]; exact HS.out, HG.out⟩
  | some d =>
    have HS := Lib.hid (hK2.mono (Nat.le_succ n))
    have HG := Lib.hid (OutO.of_below (F := fun k => k = b) hb)
    have HP := Lib.hid (putK_of_some hM i)
    rw [hM] at hlk
    clear hK hK2 hb hM
    unfold knV at *
    simp only [Option.getD_some, Option.isSome_some] at hlk
    obtain ⟨tn, ti, tb⟩ := t
    simp only at *
    go_enter Tryz.func61, Tryz.ntmps61
    go_wp2
    go_end0
    exact ⟨rfl, by rw [HP.out]; exact HS.out, HG.out⟩
/-- what a name means in an object: its own goes ahead of what is Out -/
def meanM (M : Kn → Option Int) (nb : Nat) (i : Int) (s : ByteArray) : Option (Int × Int) := match M (s, i, false) with
  | some j => some (i, j)
  | none => (List.range nb).findSome? fun (k : Nat) => (M (s, (k : Int), true)).map fun j => ((k : Int), j)
def defV : Option (Int × Int) → Value
  | some (o, j) => .agg #[.int .i64 o, .int .i64 j]
  | none => .agg #[.int .i64 0, .int .i64 0]
theorem mean_own {M : Kn → Option Int} {nb : Nat} {i j : Int} {s : ByteArray} (h : M (s, i, false) = some j) : meanM M nb i s = some (i, j) := by unfold meanM; rw [h]
theorem find_at {α : Type} {f : Nat → Option α} {x : α} : ∀ {k nb : Nat}, k < nb → (∀ j, j < k → f j = none) → f k = some x → (List.range nb).findSome? f = some x := by
  intro k nb hk hn hx
  obtain ⟨m, rfl⟩ : ∃ m, nb = k + 1 + m := ⟨nb - k - 1, by omega⟩
  rw [List.range_add, List.findSome?_append, List.range_succ, List.findSome?_append]
  have h1 : (List.range k).findSome? f = none := List.findSome?_eq_none_iff.2 fun j hj => hn j (List.mem_range.1 hj)
  rw [h1]
  simp [hx]
theorem find_none {α : Type} {f : Nat → Option α} {nb : Nat} (hn : ∀ j, j < nb → f j = none) : (List.range nb).findSome? f = none :=
  List.findSome?_eq_none_iff.2 fun j hj => hn j (List.mem_range.1 hj)
theorem mean_out {M : Kn → Option Int} {nb k : Nat} {i j : Int} {s : ByteArray} (h : M (s, i, false) = none) (hk : k < nb) (hn : ∀ q : Nat, q < k → M (s, (q : Int), true) = none) (hj : M (s, (k : Int), true) = some j) : meanM M nb i s = some ((k : Int), j) := by
  unfold meanM; rw [h]
  exact find_at hk (fun q hq => by rw [hn q hq]; rfl) (by rw [hj]; rfl)
theorem mean_none {M : Kn → Option Int} {nb : Nat} {i : Int} {s : ByteArray} (h : M (s, i, false) = none) (hn : ∀ q : Nat, q < nb → M (s, (q : Int), true) = none) : meanM M nb i s = none := by
  unfold meanM; rw [h]
  exact find_none (fun q hq => by rw [hn q hq]; rfl)
theorem res_mean {T : Array Value} {b : Nat} {c : Bool} {W : World} {v0 v1 : Value} {ty : TypeId} (h2 : T[6]? = some (.pointer (some ⟨b, 0, none⟩))) (h3 : T[7]? = some (.bool c)) (hr : W.heap[b]? = some (.cells #[v0, v1] ty (0, 0))) :
    (results Tryz.f62 T).run Tryz.prog W = .ok (.tuple #[.agg #[v0, v1], .bool c]) W := by
  have y0 := cell_of_row W b 0 _ _ _ hr
  have y1 := cell_of_row W b 1 _ _ _ hr
  simp only [List.getElem?_toArray, List.getElem?_cons_zero, List.getElem?_cons_succ] at y0 y1
  simp [results, Tryz.results62, go_sem, h2, h3, y0, y1]
theorem sfill2 {W : World} {b : Nat} {a0 a1 : Value} {T : TypeId} (h : W.heap[b]? = some (.cells #[a0, a1] T (0, 0))) (v0 v1 : Value) :
    ((W.setCell ⟨b, 0, none⟩ v0).setCell ⟨b, 1, none⟩ v1).heap[b]? = some (.cells #[v0, v1] T (0, 0)) := by
  rw [heap_setCell_same _ b 1 _ _ _ (heap_setCell_same W b 0 _ _ _ h)]
  rfl
set_option maxHeartbeats 2000000 in
theorem meaning_any (b n nb : Nat) (hnb : nb ≤ 1000000) (M : Kn → Option Int) (i : Int) (hi : IsI i) (s : ByteArray) (hs : s.size ≤ maxLen) (w : World) (hK : KnK w b n M) :
    Calls Tryz.prog 62 #[.agg #[.int .i64 nb, .map (some b)], .int .i64 i, .string s] w fun e w' => e = .returned (.tuple #[defV (meanM M nb i s), .bool (meanM M nb i s).isSome]) ∧ Below w.heap.size w w' := by
  have hb := ((Below.refl w.heap.size w).alloc (Nat.le_refl _) (.cells #[.int .i64 nb, .map (some b)] 87)).alloc (by simp) (.cells #[.int .i64 0, .int .i64 0] 27)
  have hK2 := hK.below hb
  have hlk := hK2.look (t := (s, i, false)) ⟨hs, by unfold IsI at hi; omega⟩
  have hlo := fun (k : Nat) (hk : k < nb) => hK2.look (t := (s, (k : Int), true)) ⟨hs, by show (-9223372036854775808 : Int) ≤ k ∧ (k : Int) ≤ 9223372036854775807; omega⟩
  unfold knA knV at hlk hlo
  simp only at hlk hlo
  have HDr := Lib.hid (show ∀ (x y : Value), ((w.alloc (.cells #[.int .i64 nb, .map (some b)] 87)).alloc (.cells #[x, y] 27)).heap[w.heap.size + 1]? = some (.cells #[x, y] 27 (0, 0)) from fun x y => by
    have h := heap_alloc_new (w.alloc (.cells #[.int .i64 nb, .map (some b)] 87)) (.cells #[x, y] 27)
    simpa using h)
  have HBd := Lib.hid (show ∀ (x y : Value), Below w.heap.size w ((w.alloc (.cells #[.int .i64 nb, .map (some b)] 87)).alloc (.cells #[x, y] 27)) from fun x y => ((Below.refl w.heap.size w).alloc (Nat.le_refl _) _).alloc (by simp) _)
  have HLo := Lib.hid hlo
  have HNb := Lib.hid hnb
  cases hM : M (s, i, false) with
  | some j =>
    rw [hM] at hlk
    simp only [Option.getD_some, Option.isSome_some] at hlk
    have HM := Lib.hid (mean_own (nb := nb) hM)
    clear hb hlo hK hK2 hi hs hM hnb
    go_enter Tryz.func62, Tryz.ntmps62
    go_wp2
    rw [HM.out]
    exact bodyPost_ret (v := .tuple #[.agg #[.int .i64 i, .int .i64 j], .bool true]) (res_mean (b := w.heap.size + 1) rfl rfl (HDr.out _ _)) rfl ⟨rfl, HBd.out _ _⟩
  | none =>
    rw [hM] at hlk
    simp only [Option.getD_none, Option.isSome_none] at hlk
    have HM := Lib.hid hM
    clear hb hlo hK hK2 hi hs hM
    go_enter Tryz.func62, Tryz.ntmps62
    go_wp2
    go_loopw [28] (fun i5 wr => ∃ k : Nat, k ≤ nb ∧ i5 = .int .i64 k ∧ wr = ((w.alloc (.cells #[.int .i64 nb, .map (some b)] 87)).alloc (.cells #[.int .i64 0, .int .i64 0] 27)) ∧ Hid (∀ q : Nat, q < k → M (s, (q : Int), true) = none)) (fun i5 _ => nb - (intOf i5).toNat)
    case atStart => exact ⟨0, by omega, rfl, rfl, Lib.hid (fun q hq => by omega)⟩
    case round =>
      obtain ⟨k, hk, rfl, rfl, HN⟩ := hrel
      by_cases hlt : k < nb
      · have k0 : (0 : Int) ≤ k := by omega
        have k1 : (k : Int) < nb := by omega
        have hlk := HLo.out k hlt
        cases hMk : M (s, (k : Int), true) with
        | some j =>
          rw [hMk] at hlk
          simp only [Option.getD_some, Option.isSome_some] at hlk
          have HE := Lib.hid (mean_out HM.out hlt HN.out hMk)
          clear hMk
          go_wp2
          rw [HE.out]
          exact bodyPost_ret (v := .tuple #[.agg #[.int .i64 k, .int .i64 j], .bool true]) (res_mean (b := w.heap.size + 1) rfl rfl (HDr.out _ _)) rfl ⟨rfl, HBd.out _ _⟩
        | none =>
          rw [hMk] at hlk
          simp only [Option.getD_none, Option.isSome_none] at hlk
          have HN2 := Lib.hid (show ∀ q : Nat, q < k + 1 → M (s, (q : Int), true) = none from fun q hq => by
            by_cases e : q = k
            · rw [e]; exact hMk
            · exact HN.out q (by omega))
          clear hMk HN
          go_wp2
          go_roundw
          case rel => exact ⟨k + 1, by omega, by go_num, trivial, HN2⟩
          case measure => simp [intOf]; omega
      · have hkn : k = nb := by omega
        have k1 : ¬ (k : Int) < nb := by omega
        have HE := Lib.hid (mean_none (nb := nb) HM.out (fun q hq => HN.out q (by omega)))
        clear hkn hlt
        go_wp2
        rw [HE.out]
        exact bodyPost_ret (v := .tuple #[.agg #[.int .i64 0, .int .i64 0], .bool false]) (res_mean (b := w.heap.size + 1) rfl rfl (HDr.out _ _)) rfl ⟨rfl, HBd.out _ _⟩
end Go.Proofs.YtjngkifoaljmaaaGreatDoor
namespace Go.Proofs.YtjngkifoaljmaaaGreatDoor
set_option maxRecDepth 100000
open Go.RowKit
set_option linter.unusedVariables false
/-- objects as they lie, one behind the other -/
def ObjsAt (w : World) (lo hi : Nat) (l : List ObjD) (A : Option Addr) : Prop :=
  ∃ cs : List Value, cs.length = l.length * 5 ∧ RowC w lo hi A cs ∧ ∀ (i : Nat) (h : i < l.length), ∃ v0 v1 v2 v3 v4, (cs[i * 5]? = some v0 ∧ cs[i * 5 + 1]? = some v1 ∧ cs[i * 5 + 2]? = some v2 ∧ cs[i * 5 + 3]? = some v3 ∧ cs[i * 5 + 4]? = some v4) ∧ ObjAt w lo hi l[i] (.agg #[v0, v1, v2, v3, v4])
theorem ObjsAt.move {w w' : World} {lo lo' hi hi' : Nat} {l : List ObjD} {A : Option Addr} (h : ObjsAt w lo hi l A) (hl : lo' ≤ lo) (hh : hi ≤ hi') (hk : ∀ b, lo ≤ b → b < hi → w'.heap[b]? = w.heap[b]?) : ObjsAt w' lo' hi' l A := by
  obtain ⟨cs, h1, h2, h3⟩ := h
  refine ⟨cs, h1, h2.move hl hh hk, fun i hi => ?_⟩
  obtain ⟨v0, v1, v2, v3, v4, hc, ho⟩ := h3 i hi
  exact ⟨v0, v1, v2, v3, v4, hc, ho.move hl hh hk⟩
theorem ObjsAt.below {w w' : World} {lo hi : Nat} {l : List ObjD} {A : Option Addr} (h : ObjsAt w lo hi l A) (hh : hi ≤ w.heap.size) (hb : Below w.heap.size w w') : ObjsAt w' lo hi l A :=
  h.move (Nat.le_refl _) (Nat.le_refl _) (fun b _ h2 => hb.block b (by omega))
theorem ObjsAt.at_ {w : World} {lo hi i : Nat} {l : List ObjD} {A : Option Addr} (h : ObjsAt w lo hi l A) (hi_ : i < l.length) : ∃ b o A1 n1 c1 A2 n2 c2 A3 n3 c3 A4 n4 c4 A5 n5 c5, A = some ⟨b, o, none⟩ ∧ b < hi ∧
    (w.cell? ⟨b, o + i * 5, none⟩ = some (.slice A1 n1 c1) ∧ w.cell? ⟨b, o + i * 5 + 1, none⟩ = some (.slice A2 n2 c2) ∧ w.cell? ⟨b, o + i * 5 + 2, none⟩ = some (.slice A3 n3 c3) ∧ w.cell? ⟨b, o + i * 5 + 3, none⟩ = some (.slice A4 n4 c4) ∧ w.cell? ⟨b, o + i * 5 + 4, none⟩ = some (.slice A5 n5 c5)) ∧ ObjAt w lo hi l[i] (.agg #[.slice A1 n1 c1, .slice A2 n2 c2, .slice A3 n3 c3, .slice A4 n4 c4, .slice A5 n5 c5]) ∧ l[i].syms.length = n3 ∧ l[i].rels.length = n4 ∧ l[i].ents.length = n5 := by
  obtain ⟨cs, h1, h2, h3⟩ := h
  obtain ⟨v0, v1, v2, v3, v4, ⟨c0, c1, c2, c3, c4⟩, ho⟩ := h3 i hi_
  have ho' := ho
  obtain ⟨A1, d1, A2, d2, A3, d3, A4, d4, A5, d5, es, e, _⟩ := ho'
  simp only [Value.agg.injEq, Array.mk.injEq, List.cons.injEq, and_true] at e
  obtain ⟨rfl, rfl, rfl, rfl, rfl⟩ := e
  rcases h2 with h2 | ⟨b, o, rfl, _, hb, hc⟩
  · rw [h2] at h1; simp at h1; omega
  · exact ⟨b, o, A1, _, d1, A2, _, d2, A3, _, d3, A4, _, d4, A5, _, d5, rfl, hb, ⟨hc _ _ c0, hc _ _ c1, hc _ _ c2, hc _ _ c3, hc _ _ c4⟩, ho, rfl, rfl, rfl⟩
def mayLs (l : List ObjD) : Bool := decide (l.length ≤ 16) && l.all mayO
theorem mayLs_far {l : List ObjD} (h : ¬ l.length ≤ 16) : mayLs l = false := by unfold mayLs; rw [decide_eq_false h]; rfl
theorem mayLs_no {l : List ObjD} {i : Nat} (hi : i < l.length) (h : mayO l[i] = false) : mayLs l = false := by
  have : l.all mayO = false := List.all_eq_false.2 ⟨l[i], List.getElem_mem hi, by rw [h]; exact Bool.false_ne_true⟩
  unfold mayLs; rw [this]; simp
theorem mayLs_yes {l : List ObjD} (h : l.length ≤ 16) (ha : ∀ (i : Nat) (hi : i < l.length), mayO l[i] = true) : mayLs l = true := by
  unfold mayLs
  rw [decide_eq_true h, List.all_eq_true.2 (fun x hx => by obtain ⟨i, hi, rfl⟩ := List.getElem_of_mem hx; exact ha i hi)]
  rfl
set_option maxHeartbeats 2000000 in
theorem mayBe_any (l : List ObjD) (hW : ∀ d ∈ l, ObjW d) (A : Option Addr) (n c lo hi : Nat) (hn : l.length = n) (hmx : n ≤ maxLen) (w : World) (hT : Tabs w) (hA : ObjsAt w lo hi l A) (hh : hi ≤ w.heap.size) :
    Calls Tryz.prog 41 #[.slice A n c] w fun e w' => e = .returned (.bool (mayLs l)) ∧ Below w.heap.size w w' := by
  have HW := Lib.hid hW
  have HN := Lib.hid hn
  have HT := Lib.hid hT
  have HA := Lib.hid hA
  have HH := Lib.hid hh
  unfold maxLen at hmx
  clear hW hn hT hA hh
  go_enter Tryz.func41, Tryz.ntmps41
  by_cases h16 : n ≤ 16
  case neg =>
    have h1 : (n : Int) > 16 := by omega
    have HR := Lib.hid (mayLs_far (l := l) (by rw [HN.out]; exact h16))
    go_wp2
    go_ret
    exact ⟨ret_bool HR.out.symm, Below.refl _ _⟩
  have h1 : ¬ (n : Int) > 16 := by omega
  go_wp2
  go_loopw [10] (fun i wr => ∃ k : Nat, k ≤ n ∧ i = .int .i64 k ∧ Hid (Below w.heap.size w wr) ∧ Hid (∀ (j : Nat) (hj : j < l.length), j < k → mayO l[j] = true)) (fun i _ => n - (intOf i).toNat)
  case atStart => exact ⟨0, by omega, rfl, Lib.hid (Below.refl _ _), Lib.hid (fun j _ hj => by omega)⟩
  case round =>
    obtain ⟨k, hk, rfl, HB, HY⟩ := hrel
    by_cases hlt : k < n
    · have k0 : (0 : Int) ≤ k := by omega
      have k1 : (k : Int) < n := by omega
      have HLk := Lib.hid (show k < l.length by rw [HN.out]; exact hlt)
      obtain ⟨b, o, A1, n1, c1, A2, n2, c2, A3, n3, c3, A4, n4, c4, A5, n5, c5, rfl, hb, ⟨x0, x1, x2, x3, x4⟩, ho, -⟩ := (HA.out.below HH.out HB.out).at_ HLk.out
      have HO := Lib.hid ho
      have HBx := Lib.hid ((Below.refl wr.heap.size wr).alloc (Nat.le_refl _) (.cells #[.slice A1 n1 c1, .slice A2 n2 c2, .slice A3 n3 c3, .slice A4 n4 c4, .slice A5 n5 c5] 59))
      clear ho
      go_wp2_with fail
      refine (may_obj _ (HW.out _ (List.getElem_mem HLk.out)) _ lo hi _ (HT.out.below (HB.out.trans (HBx.out.mono HB.out.size))) (HO.out.move (Nat.le_refl _) (Nat.le_refl _) (fun b _ h2 => HBx.out.block b (by have := HB.out.size; have := HH.out; omega))) (by have := HB.out.size; have := HBx.out.size; have := HH.out; omega)).mono ?_
      rintro e w2 ⟨rfl, hb2⟩
      have HB2 := Lib.hid ((HB.out.trans (HBx.out.mono HB.out.size)).trans (hb2.mono (HB.out.trans (HBx.out.mono HB.out.size)).size))
      clear hb2 x0 x1 x2 x3 x4
      cases hm : mayO l[k]
      case false =>
        have HR := Lib.hid (mayLs_no HLk.out hm)
        clear hm
        go_wp2
        go_ret
        exact ⟨ret_bool HR.out.symm, HB2.out⟩
      case true =>
        have HY2 := Lib.hid (show ∀ (j : Nat) (hj : j < l.length), j < k + 1 → mayO l[j] = true from fun j hj hjk => by
          by_cases e : j = k
          · subst e; exact hm
          · exact HY.out j hj (by omega))
        clear hm HY
        go_wp2
        go_roundw
        case rel => exact ⟨k + 1, by omega, by go_num, HB2, HY2⟩
        case measure => simp [intOf]; omega
    · have hkn : k = n := by omega
      have k1 : ¬ (k : Int) < n := by omega
      have HR := Lib.hid (mayLs_yes (l := l) (by rw [HN.out]; exact h16) (fun i hi => HY.out i hi (by rw [HN.out] at hi; omega)))
      clear hkn hlt
      go_wp2
      go_ret
      exact ⟨ret_bool HR.out.symm, HB.out⟩
end Go.Proofs.YtjngkifoaljmaaaGreatDoor
namespace Go.Proofs.YtjngkifoaljmaaaGreatDoor
set_option maxRecDepth 100000
open Go.RowKit
set_option linter.unusedVariables false
def dNo : ObjD := ⟨[], [], [], [], []⟩
theorem beq_str' (s t : ByteArray) : (s.toList == t.toList) = decide (s = t) := by
  by_cases h : s = t
  · subst h; simp
  · rw [decide_eq_false h, beq_eq_false_iff_ne]
    intro e
    refine h (ByteArray.ext (Array.toList_inj.1 ?_))
    rw [← bl_data, ← bl_data]
    exact e
theorem KnK.mapSet {w : World} {n B : Nat} {M : Kn → Option Int} (h : KnK w (B + 1) n M) (x y : Value) : KnK ((w.setCell ⟨B, 0, none⟩ x).setCell ⟨B, 1, none⟩ y) (B + 1) n M :=
  (h.kept (grown_setO w B 0 x) (fun e => by injection e with e; omega)).kept (grown_setO _ B 1 y) (fun e => by injection e with e; omega)
theorem below_set2 {w w' : World} (h : Below w.heap.size w w') (x y : Value) : Below w.heap.size w ((w'.setCell ⟨w.heap.size, 0, none⟩ x).setCell ⟨w.heap.size, 1, none⟩ y) :=
  below_setNew (below_setNew h (Nat.le_refl _)) (Nat.le_refl _)
theorem every_any (s : ByteArray) (w : World) : Calls Tryz.prog 43 #[.string s] w fun e w' => e = .returned (.bool true) ∧ w = w' := by
  go_enter Tryz.func43, Tryz.ntmps43
  go_wp2
  go_ret
  exact ⟨rfl, rfl⟩
theorem isname_any (bx : Nat) (nm s : ByteArray) (w : World) (h : w.cell? ⟨bx, 0, none⟩ = some (.string nm)) : Calls Tryz.prog 82 #[.string s, .pointer (some ⟨bx, 0, none⟩)] w fun e w' => e = .returned (.bool (decide (s = nm))) ∧ w = w' := by
  go_enter Tryz.func82, Tryz.ntmps82
  go_wp2
  go_ret
  exact ⟨ret_bool (beq_str' s nm), rfl⟩
/-- a Sym is written down -/
def putS (p : ByteArray → Bool) (i : Int) (M : Kn → Option Int) (j : Nat) (s : SymD) : Kn → Option Int :=
  if p s.1 then (if s.2.2.2 then putK (putK M (s.1, i, false) j) (s.1, i, true) j else putK M (s.1, i, false) j) else M
def wrS (p : ByteArray → Bool) (i : Int) (ss : List SymD) (M : Kn → Option Int) : Nat → Kn → Option Int
  | 0 => M
  | j + 1 => putS p i (wrS p i ss M j) j (ss.getD j (ByteArray.empty, false, 0, false))
def wrL (p : ByteArray → Bool) (l : List ObjD) : Nat → Kn → Option Int
  | 0 => fun _ => none
  | k + 1 => wrS p (k : Int) (l.getD k dNo).syms (wrL p l k) (l.getD k dNo).syms.length
def sumS (l : List ObjD) (k : Nat) : Nat := ((l.take k).map fun d => d.syms.length).sum
theorem sumS_go {l : List ObjD} {k : Nat} (h : k < l.length) : sumS l (k + 1) = sumS l k + l[k].syms.length := by
  unfold sumS
  rw [List.take_succ_eq_append_getElem h, List.map_append, List.sum_append]
  simp
theorem sumS_le (l : List ObjD) (k : Nat) : sumS l k ≤ sumS l l.length := by
  unfold sumS
  rw [List.take_length]
  conv => rhs; rw [← List.take_append_drop k l]
  rw [List.map_append, List.sum_append]
  omega
theorem wrL_go {p : ByteArray → Bool} {l : List ObjD} {k : Nat} (h : k < l.length) : wrL p l (k + 1) = wrS p (k : Int) l[k].syms (wrL p l k) l[k].syms.length := by
  have e : l.getD k dNo = l[k] := by rw [List.getD_eq_getElem?_getD, List.getElem?_eq_getElem h]; rfl
  show wrS p (k : Int) (l.getD k dNo).syms (wrL p l k) (l.getD k dNo).syms.length = _
  rw [e]
theorem wrS_go {p : ByteArray → Bool} {i : Int} {ss : List SymD} {M : Kn → Option Int} {j : Nat} (h : j < ss.length) : wrS p i ss M (j + 1) = putS p i (wrS p i ss M j) j ss[j] := by
  show putS p i (wrS p i ss M j) j (ss.getD j (ByteArray.empty, false, 0, false)) = _
  rw [List.getD_eq_getElem?_getD, List.getElem?_eq_getElem h]; rfl
/-- the book as far as it is written -/
structure WS (w0 : World) (n N : Nat) (M : Kn → Option Int) (w : World) : Prop where
  k : KnK w (w0.heap.size + 1) N M
  r : w.heap[w0.heap.size]? = some (.cells #[.int .i64 0, .map none] 87 (0, 0))
  q : w.heap[w0.heap.size + 1 + 1]? = some (.cells #[.int .i64 n, .map (some (w0.heap.size + 1))] 87 (0, 0))
  b : Below w0.heap.size w0 w
section
variable {w0 w w' : World} {n N N' : Nat} {M M' : Kn → Option Int}
theorem WS.below (h : WS w0 n N M w) (hb : Below w.heap.size w w') : WS w0 n N M w' :=
  ⟨h.k.below hb, (hb.block _ (Array.getElem?_eq_some_iff.1 h.r).1).trans h.r, (hb.block _ (Array.getElem?_eq_some_iff.1 h.q).1).trans h.q, h.b.trans (hb.mono h.b.size)⟩
theorem WS.mono (h : WS w0 n N M w) (hn : N ≤ N') : WS w0 n N' M w := ⟨h.k.mono hn, h.r, h.q, h.b⟩
theorem WS.put (h : WS w0 n N M w) (hk : KnK w' (w0.heap.size + 1) N' M') (ho : OutO (fun k => k = w0.heap.size + 1) w w') : WS w0 n N' M' w' :=
  ⟨hk, (ho.block _ (Array.getElem?_eq_some_iff.1 h.r).1 (by omega)).trans h.r, (ho.block _ (Array.getElem?_eq_some_iff.1 h.q).1 (by omega)).trans h.q,
   ⟨ho.os.trans h.b.os, ho.tape.trans h.b.tape, ho.output.trans h.b.output, Nat.le_trans h.b.size ho.size, fun k hk => (ho.block k (Nat.lt_of_lt_of_le hk h.b.size) (by omega)).trans (h.b.block k hk)⟩⟩
end
theorem ws_start (w : World) (n : Nat) : WS w n 0 (fun _ => none) (((w.alloc (.cells #[.int .i64 0, .map none] 87)).alloc (.map #[] 0)).alloc (.cells #[.int .i64 n, .map (some (w.heap.size + 1))] 87)) := by
  have hb : Below w.heap.size w (((w.alloc (.cells #[.int .i64 0, .map none] 87)).alloc (.map #[] 0)).alloc (.cells #[.int .i64 n, .map (some (w.heap.size + 1))] 87)) := (((Below.refl _ _).alloc (Nat.le_refl _) _).alloc (by simp) _).alloc (by simp; omega) _
  have hk := (KnK.made (w.alloc (.cells #[.int .i64 0, .map none] 87))).below ((Below.refl _ _).alloc (Nat.le_refl _) (.cells #[.int .i64 n, .map (some (w.heap.size + 1))] 87))
  have hs : (w.alloc (.cells #[.int .i64 0, .map none] 87)).heap.size = w.heap.size + 1 := by simp
  rw [hs] at hk
  refine ⟨hk, ?_, ?_, hb⟩
  · exact (heap_alloc_old _ _ (by simp; omega)).trans ((heap_alloc_old _ _ (by simp)).trans (heap_alloc_new w _))
  · have h := heap_alloc_new ((w.alloc (.cells #[.int .i64 0, .map none] 87)).alloc (.map #[] 0)) (.cells #[.int .i64 n, .map (some (w.heap.size + 1))] 87)
    simpa using h
theorem res_write {T : Array Value} {b : Nat} {W : World} {v0 v1 : Value} {ty : TypeId} (h2 : T[4]? = some (.pointer (some ⟨b, 0, none⟩))) (hr : W.heap[b]? = some (.cells #[v0, v1] ty (0, 0))) :
    (results Tryz.f42 T).run Tryz.prog W = .ok (.agg #[v0, v1]) W := by
  have y0 := cell_of_row W b 0 _ _ _ hr
  have y1 := cell_of_row W b 1 _ _ _ hr
  simp only [List.getElem?_toArray, List.getElem?_cons_zero, List.getElem?_cons_succ] at y0 y1
  simp [results, Tryz.results42, go_sem, h2, y0, y1]
theorem row2 {W : World} {b : Nat} {v0 v1 : Value} {T : TypeId} (h : W.heap[b]? = some (.cells #[v0, v1] T (0, 0))) : W.cell? ⟨b, 0, none⟩ = some v0 ∧ W.cell? ⟨b, 1, none⟩ = some v1 ∧ ∀ o, W.frozen? ⟨b, o, none⟩ = false := by
  have y0 := cell_of_row W b 0 _ _ _ h
  have y1 := cell_of_row W b 1 _ _ _ h
  simp only [List.getElem?_toArray, List.getElem?_cons_zero, List.getElem?_cons_succ] at y0 y1
  exact ⟨y0, y1, fun o => frozen_of_row W b o _ _ h⟩
def BkP (l : List ObjD) (p : ByteArray → Bool) (n : Nat) (w : World) (e : Ending) (w' : World) : Prop :=
  ∃ b N, e = .returned (.agg #[.int .i64 n, .map (some b)]) ∧ w.heap.size ≤ b ∧ KnK w' b N (wrL p l n) ∧ N < 1000000 ∧ Below w.heap.size w w'
set_option maxHeartbeats 4000000 in
theorem write_every (l : List ObjD) (hW : ∀ d ∈ l, ObjW d) (A : Option Addr) (n c lo hi : Nat) (hn : l.length = n) (hmx : n ≤ 1000000) (hsum : 2 * sumS l l.length < 1000000) (w : World) (hA : ObjsAt w lo hi l A) (hh : hi ≤ w.heap.size) :
    Calls Tryz.prog 42 #[.slice A n c, .func (Fn.func 43) #[] #[]] w (BkP l (fun _ => true) n w) := by
  have HW := Lib.hid hW
  have HN := Lib.hid hn
  have HA := Lib.hid hA
  have HH := Lib.hid hh
  have HSum := Lib.hid hsum
  have HMx := Lib.hid hmx
  obtain ⟨p, hp⟩ : ∃ p : ByteArray → Bool, p = (fun _ => true) := ⟨_, rfl⟩
  have HP := Lib.hid hp
  have HS0 := Lib.hid (ws_start w n)
  rw [← hp]
  clear hW hn hA hh hsum hp
  have hmm := @run_makeMap Tryz.prog
  go_enter Tryz.func42, Tryz.ntmps42
  go_wp2
  go_loopw [16] (fun i wr => ∃ k : Nat, k ≤ n ∧ i = .int .i64 k ∧ Hid (WS w n (2 * sumS l k) (wrL p l k) wr)) (fun i _ => n - (intOf i).toNat)
  case atStart => exact ⟨0, by omega, rfl, HS0⟩
  case round =>
    clear HS0
    obtain ⟨k, hk, rfl, HS⟩ := hrel
    by_cases hlt : k < n
    · have k0 : (0 : Int) ≤ k := by omega
      have k1 : (k : Int) < n := by omega
      have HLk := Lib.hid (show k < l.length by rw [HN.out]; exact hlt)
      obtain ⟨b, o, A1, n1, c1, A2, n2, c2, A3, n3, c3, A4, n4, c4, A5, n5, c5, rfl, hb, ⟨x0, x1, x2, x3, x4⟩, ho, hn3, -⟩ := (HA.out.below HH.out HS.out.b).at_ HLk.out
      have HO := Lib.hid ho
      have HSg := Lib.hid (sumS_go HLk.out)
      have HWg := Lib.hid (wrL_go (p := p) HLk.out)
      have HSl := Lib.hid (Nat.le_trans (Nat.le_of_eq HSg.out.symm) (sumS_le l (k + 1)))
      have HWk := Lib.hid (HW.out _ (List.getElem_mem HLk.out)).syms
      obtain ⟨f1, f2, f3, f4, f5, f6, f7, f8, f9, f10, es, he, -, -, hrow, -⟩ := ho
      simp only [Value.agg.injEq, Array.mk.injEq, List.cons.injEq, Value.slice.injEq, and_true] at he
      obtain ⟨-, -, ⟨e31, -, -⟩, -, -⟩ := he
      subst e31
      have HRw := Lib.hid (show RowC w lo hi A3 _ from hrow.move (Nat.le_refl _) (Nat.le_refl _) (fun b _ h2 => (HS.out.b.block b (by have := HH.out; omega)).symm))
      have HN3 := Lib.hid hn3
      have hn3b : n3 ≤ 1000000 := by have := HSl.out; have := HSum.out; rw [hn3] at *; omega
      have HS1 := Lib.hid (HS.out.below ((Below.refl wr.heap.size wr).alloc (Nat.le_refl _) (.cells #[.slice A1 n1 c1, .slice A2 n2 c2, .slice A3 n3 c3, .slice A4 n4 c4, .slice A5 n5 c5] 59)))
      generalize l[k].syms = ss at *
      clear hrow hn3 HO
      go_wp2
      clear x0 x1 x2 x3 x4 HS
      generalize (wr.alloc (.cells #[.slice A1 n1 c1, .slice A2 n2 c2, .slice A3 n3 c3, .slice A4 n4 c4, .slice A5 n5 c5] 59)) = wk at *
      go_loopw [24] (fun i wr => ∃ j : Nat, j ≤ n3 ∧ i = .int .i64 j ∧ Hid (WS w n (2 * (sumS l k + j)) (wrS p k ss (wrL p l k) j) wr)) (fun i _ => n3 - (intOf i).toNat)
      case atStart => exact ⟨0, by omega, rfl, HS1⟩
      case round =>
        clear HS1
        obtain ⟨j, hj, rfl, HS⟩ := hrel
        by_cases hlj : j < n3
        · have j0 : (0 : Int) ≤ j := by omega
          have j1 : (j : Int) < n3 := by omega
          have HLj := Lib.hid (show j < ss.length by rw [HN3.out]; exact hlj)
          have HSj := Lib.hid (wrS_go (p := p) (i := (k : Int)) (M := wrL p l k) HLj.out)
          obtain ⟨b3, o3, eA3, _, hb3, hc3⟩ := HRw.out.at_ (sz := 4) (fun x => rfl) (by omega) (by have := HLj.out; omega)
          subst eA3
          have hbk := HS.out.b.block b3 (by have := HH.out; omega)
          have hWj := HWk.out _ (List.getElem_mem HLj.out)
          have hcj := hc3 j HLj.out
          have HSj2 := Lib.hid HSj.out
          obtain ⟨nm, dt, of, ot, hsj⟩ : ∃ nm dt of ot, ss[j]'HLj.out = (nm, dt, of, ot) := ⟨_, _, _, _, rfl⟩
          have hsj2 := HSj.out
          rw [hsj] at hWj hcj hsj2
          have HSq := Lib.hid hsj2
          have y0 := (World.cell?_of_block (a := ⟨b3, o3 + (j * 4 + 0), none⟩) hbk).trans (hcj 0 _ rfl)
          have y1 := (World.cell?_of_block (a := ⟨b3, o3 + (j * 4 + 1), none⟩) hbk).trans (hcj 1 _ rfl)
          have y2 := (World.cell?_of_block (a := ⟨b3, o3 + (j * 4 + 2), none⟩) hbk).trans (hcj 2 _ rfl)
          have y3 := (World.cell?_of_block (a := ⟨b3, o3 + (j * 4 + 3), none⟩) hbk).trans (hcj 3 _ rfl)
          rw [show o3 + (j * 4 + 0) = o3 + j * 4 by omega] at y0
          rw [show o3 + (j * 4 + 1) = o3 + j * 4 + 1 by omega] at y1
          rw [show o3 + (j * 4 + 2) = o3 + j * 4 + 2 by omega] at y2
          rw [show o3 + (j * 4 + 3) = o3 + j * 4 + 3 by omega] at y3
          have HSz := Lib.hid (show nm.size ≤ maxLen from hWj.1)
          have HKw := Lib.hid (fun (q : Bool) => (show KnW (nm, (k : Int), q) from ⟨HSz.out, by show (-9223372036854775808 : Int) ≤ k ∧ (k : Int) ≤ 9223372036854775807; have := HMx.out; omega⟩))
          have hbl := (Below.refl wr.heap.size wr).alloc (Nat.le_refl _) (.cells #[.string nm, .bool dt, .int .i64 of, .bool ot] 52)
          have HS1 := Lib.hid (HS.out.below hbl)
          have HBx := Lib.hid (heap_alloc_new wr (.cells #[.string nm, .bool dt, .int .i64 of, .bool ot] 52))
          have HLx := Lib.hid (show w.heap.size + 1 < wr.heap.size from by have := (Array.getElem?_eq_some_iff.1 HS.out.q).1; omega)
          clear hWj hcj hsj hsj2 hbk hc3 HS HSj HSj2 hbl
          go_wp2_with fail
          clear y0 y1 y2 y3
          generalize (wr.alloc (.cells #[.string nm, .bool dt, .int .i64 of, .bool ot] 52)) = wa at *
          generalize wr.heap.size = bx at *
          refine (every_any nm _).mono ?_
          rintro e w2 ⟨rfl, rfl⟩
          have HPn := Lib.hid (show p nm = true by rw [HP.out])
          obtain ⟨q0, q1, qf⟩ := row2 HS1.out.q
          obtain ⟨z0, z1, z2, z3, zf⟩ := row_cells4 HBx.out
          go_wp2_with fail
          refine (put_any n (w.heap.size + 1) _ _ (nm, (k : Int), false) (HKw.out false) j (by omega) (by omega) (by have := HSl.out; have := HSum.out; have := HN3.out; omega) wa HS1.out.k).mono ?_
          rintro e w3 ⟨rfl, hk3, ho3⟩
          have HS3 := Lib.hid (HS1.out.put hk3 ho3)
          have HB3 := Lib.hid ((ho3.block _ (Array.getElem?_eq_some_iff.1 HBx.out).1 (by have := HLx.out; omega)).trans HBx.out)
          clear hk3 ho3 q0 q1 qf z0 z1 z2 z3 zf HS1 HBx
          obtain ⟨q0, q1, qf⟩ := row2 HS3.out.q
          obtain ⟨z0, z1, z2, z3, zf⟩ := row_cells4 HB3.out
          cases ot
          case false =>
            have HS4 := Lib.hid (show WS w n (2 * (sumS l k + (j + 1))) (wrS p k ss (wrL p l k) (j + 1)) w3 from by
              rw [HSq.out]; unfold putS; rw [HPn.out]; exact HS3.out.mono (by omega))
            clear HS3 HB3
            go_wp2
            go_roundw
            case rel => exact ⟨j + 1, by omega, by go_num, HS4⟩
            case measure => simp [intOf]; omega
          case true =>
            go_wp2_with fail
            refine (put_any n (w.heap.size + 1) _ _ (nm, (k : Int), true) (HKw.out true) j (by omega) (by omega) (by have := HSl.out; have := HSum.out; have := HN3.out; omega) w3 HS3.out.k).mono ?_
            rintro e w4 ⟨rfl, hk4, ho4⟩
            have HS4 := Lib.hid (show WS w n (2 * (sumS l k + (j + 1))) (wrS p k ss (wrL p l k) (j + 1)) w4 from by
              rw [HSq.out]; unfold putS; rw [HPn.out]; exact (HS3.out.put hk4 ho4).mono (by omega))
            clear HS3 HB3 hk4 ho4 q0 q1 qf z0 z1 z2 z3 zf
            go_wp2
            go_roundw
            case rel => exact ⟨j + 1, by omega, by go_num, HS4⟩
            case measure => simp [intOf]; omega
        · have hjn : j = n3 := by omega
          have j1 : ¬ (j : Int) < n3 := by omega
          have HS2 := Lib.hid (show WS w n (2 * sumS l (k + 1)) (wrL p l (k + 1)) wr from by rw [HSg.out, HWg.out, HN3.out, ← hjn]; exact HS.out)
          clear hjn hlj HS
          go_wp2
          go_roundw
          case rel => exact ⟨k + 1, by omega, by go_num, HS2⟩
          case measure => simp [intOf]; omega
    · have hkn : k = n := by omega
      have k1 : ¬ (k : Int) < n := by omega
      have HS2 := Lib.hid (show WS w n (2 * sumS l l.length) (wrL p l n) wr from by rw [show wrL p l n = wrL p l k by rw [hkn]]; exact HS.out.mono (Nat.mul_le_mul_left 2 (sumS_le l k)))
      clear hkn hlt HS
      obtain ⟨q0, q1, qf⟩ := row2 HS2.out.q
      obtain ⟨r0, r1, rf⟩ := row2 HS2.out.r
      go_wp2
      exact bodyPost_ret (v := .agg #[.int .i64 n, .map (some (w.heap.size + 1))]) (res_write (b := w.heap.size) rfl (sfill2 HS2.out.r _ _)) rfl ⟨w.heap.size + 1, _, rfl, by omega, HS2.out.k.mapSet _ _, HSum.out, below_set2 HS2.out.b _ _⟩
set_option maxHeartbeats 4000000 in
theorem write_name (l : List ObjD) (hW : ∀ d ∈ l, ObjW d) (A : Option Addr) (n c lo hi : Nat) (hn : l.length = n) (hmx : n ≤ 1000000) (hsum : 2 * sumS l l.length < 1000000) (bn : Nat) (nm0 : ByteArray) (w : World) (hA : ObjsAt w lo hi l A) (hh : hi ≤ w.heap.size) (hcn : w.cell? ⟨bn, 0, none⟩ = some (.string nm0)) :
    Calls Tryz.prog 42 #[.slice A n c, .func (Fn.func 82) #[] #[.pointer (some ⟨bn, 0, none⟩)]] w (BkP l (fun s => decide (s = nm0)) n w) := by
  have HW := Lib.hid hW
  have HN := Lib.hid hn
  have HA := Lib.hid hA
  have HH := Lib.hid hh
  have HSum := Lib.hid hsum
  have HMx := Lib.hid hmx
  have HCn := Lib.hid hcn
  clear hcn
  obtain ⟨p, hp⟩ : ∃ p : ByteArray → Bool, p = (fun s => decide (s = nm0)) := ⟨_, rfl⟩
  have HP := Lib.hid hp
  have HS0 := Lib.hid (ws_start w n)
  rw [← hp]
  clear hW hn hA hh hsum hp
  have hmm := @run_makeMap Tryz.prog
  go_enter Tryz.func42, Tryz.ntmps42
  go_wp2
  go_loopw [16] (fun i wr => ∃ k : Nat, k ≤ n ∧ i = .int .i64 k ∧ Hid (WS w n (2 * sumS l k) (wrL p l k) wr)) (fun i _ => n - (intOf i).toNat)
  case atStart => exact ⟨0, by omega, rfl, HS0⟩
  case round =>
    clear HS0
    obtain ⟨k, hk, rfl, HS⟩ := hrel
    by_cases hlt : k < n
    · have k0 : (0 : Int) ≤ k := by omega
      have k1 : (k : Int) < n := by omega
      have HLk := Lib.hid (show k < l.length by rw [HN.out]; exact hlt)
      obtain ⟨b, o, A1, n1, c1, A2, n2, c2, A3, n3, c3, A4, n4, c4, A5, n5, c5, rfl, hb, ⟨x0, x1, x2, x3, x4⟩, ho, hn3, -⟩ := (HA.out.below HH.out HS.out.b).at_ HLk.out
      have HO := Lib.hid ho
      have HSg := Lib.hid (sumS_go HLk.out)
      have HWg := Lib.hid (wrL_go (p := p) HLk.out)
      have HSl := Lib.hid (Nat.le_trans (Nat.le_of_eq HSg.out.symm) (sumS_le l (k + 1)))
      have HWk := Lib.hid (HW.out _ (List.getElem_mem HLk.out)).syms
      obtain ⟨f1, f2, f3, f4, f5, f6, f7, f8, f9, f10, es, he, -, -, hrow, -⟩ := ho
      simp only [Value.agg.injEq, Array.mk.injEq, List.cons.injEq, Value.slice.injEq, and_true] at he
      obtain ⟨-, -, ⟨e31, -, -⟩, -, -⟩ := he
      subst e31
      have HRw := Lib.hid (show RowC w lo hi A3 _ from hrow.move (Nat.le_refl _) (Nat.le_refl _) (fun b _ h2 => (HS.out.b.block b (by have := HH.out; omega)).symm))
      have HN3 := Lib.hid hn3
      have hn3b : n3 ≤ 1000000 := by have := HSl.out; have := HSum.out; rw [hn3] at *; omega
      have HS1 := Lib.hid (HS.out.below ((Below.refl wr.heap.size wr).alloc (Nat.le_refl _) (.cells #[.slice A1 n1 c1, .slice A2 n2 c2, .slice A3 n3 c3, .slice A4 n4 c4, .slice A5 n5 c5] 59)))
      generalize l[k].syms = ss at *
      clear hrow hn3 HO
      go_wp2
      clear x0 x1 x2 x3 x4 HS
      generalize (wr.alloc (.cells #[.slice A1 n1 c1, .slice A2 n2 c2, .slice A3 n3 c3, .slice A4 n4 c4, .slice A5 n5 c5] 59)) = wk at *
      go_loopw [24] (fun i wr => ∃ j : Nat, j ≤ n3 ∧ i = .int .i64 j ∧ Hid (WS w n (2 * (sumS l k + j)) (wrS p k ss (wrL p l k) j) wr)) (fun i _ => n3 - (intOf i).toNat)
      case atStart => exact ⟨0, by omega, rfl, HS1⟩
      case round =>
        clear HS1
        obtain ⟨j, hj, rfl, HS⟩ := hrel
        by_cases hlj : j < n3
        · have j0 : (0 : Int) ≤ j := by omega
          have j1 : (j : Int) < n3 := by omega
          have HLj := Lib.hid (show j < ss.length by rw [HN3.out]; exact hlj)
          have HSj := Lib.hid (wrS_go (p := p) (i := (k : Int)) (M := wrL p l k) HLj.out)
          obtain ⟨b3, o3, eA3, _, hb3, hc3⟩ := HRw.out.at_ (sz := 4) (fun x => rfl) (by omega) (by have := HLj.out; omega)
          subst eA3
          have hbk := HS.out.b.block b3 (by have := HH.out; omega)
          have hWj := HWk.out _ (List.getElem_mem HLj.out)
          have hcj := hc3 j HLj.out
          have HSj2 := Lib.hid HSj.out
          obtain ⟨nm, dt, of, ot, hsj⟩ : ∃ nm dt of ot, ss[j]'HLj.out = (nm, dt, of, ot) := ⟨_, _, _, _, rfl⟩
          have hsj2 := HSj.out
          rw [hsj] at hWj hcj hsj2
          have HSq := Lib.hid hsj2
          have y0 := (World.cell?_of_block (a := ⟨b3, o3 + (j * 4 + 0), none⟩) hbk).trans (hcj 0 _ rfl)
          have y1 := (World.cell?_of_block (a := ⟨b3, o3 + (j * 4 + 1), none⟩) hbk).trans (hcj 1 _ rfl)
          have y2 := (World.cell?_of_block (a := ⟨b3, o3 + (j * 4 + 2), none⟩) hbk).trans (hcj 2 _ rfl)
          have y3 := (World.cell?_of_block (a := ⟨b3, o3 + (j * 4 + 3), none⟩) hbk).trans (hcj 3 _ rfl)
          rw [show o3 + (j * 4 + 0) = o3 + j * 4 by omega] at y0
          rw [show o3 + (j * 4 + 1) = o3 + j * 4 + 1 by omega] at y1
          rw [show o3 + (j * 4 + 2) = o3 + j * 4 + 2 by omega] at y2
          rw [show o3 + (j * 4 + 3) = o3 + j * 4 + 3 by omega] at y3
          have HSz := Lib.hid (show nm.size ≤ maxLen from hWj.1)
          have HKw := Lib.hid (fun (q : Bool) => (show KnW (nm, (k : Int), q) from ⟨HSz.out, by show (-9223372036854775808 : Int) ≤ k ∧ (k : Int) ≤ 9223372036854775807; have := HMx.out; omega⟩))
          have hbl := (Below.refl wr.heap.size wr).alloc (Nat.le_refl _) (.cells #[.string nm, .bool dt, .int .i64 of, .bool ot] 52)
          have HS1 := Lib.hid (HS.out.below hbl)
          have HBx := Lib.hid (heap_alloc_new wr (.cells #[.string nm, .bool dt, .int .i64 of, .bool ot] 52))
          have HLx := Lib.hid (show w.heap.size + 1 < wr.heap.size from by have := (Array.getElem?_eq_some_iff.1 HS.out.q).1; omega)
          clear hWj hcj hsj hsj2 hbk hc3 HS HSj HSj2 hbl
          go_wp2_with fail
          clear y0 y1 y2 y3
          generalize (wr.alloc (.cells #[.string nm, .bool dt, .int .i64 of, .bool ot] 52)) = wa at *
          generalize wr.heap.size = bx at *
          refine (isname_any bn nm0 nm _ ((HS1.out.b.cell (p := ⟨bn, 0, none⟩) (block_lt HCn.out)).trans HCn.out)).mono ?_
          rintro e w2 ⟨rfl, rfl⟩
          cases hp0 : decide (nm = nm0)
          case false =>
            have HPn := Lib.hid (show p nm = false by rw [HP.out]; exact hp0)
            have HS4 := Lib.hid (show WS w n (2 * (sumS l k + (j + 1))) (wrS p k ss (wrL p l k) (j + 1)) wa from by
              rw [HSq.out]; unfold putS; rw [HPn.out]; exact HS1.out.mono (by omega))
            clear HS1 HBx hp0
            go_wp2
            go_roundw
            case rel => exact ⟨j + 1, by omega, by go_num, HS4⟩
            case measure => simp [intOf]; omega
          case true =>
            have HPn := Lib.hid (show p nm = true by rw [HP.out]; exact hp0)
            clear hp0
            obtain ⟨q0, q1, qf⟩ := row2 HS1.out.q
            obtain ⟨z0, z1, z2, z3, zf⟩ := row_cells4 HBx.out
            go_wp2_with fail
            refine (put_any n (w.heap.size + 1) _ _ (nm, (k : Int), false) (HKw.out false) j (by omega) (by omega) (by have := HSl.out; have := HSum.out; have := HN3.out; omega) wa HS1.out.k).mono ?_
            rintro e w3 ⟨rfl, hk3, ho3⟩
            have HS3 := Lib.hid (HS1.out.put hk3 ho3)
            have HB3 := Lib.hid ((ho3.block _ (Array.getElem?_eq_some_iff.1 HBx.out).1 (by have := HLx.out; omega)).trans HBx.out)
            clear hk3 ho3 q0 q1 qf z0 z1 z2 z3 zf HS1 HBx
            obtain ⟨q0, q1, qf⟩ := row2 HS3.out.q
            obtain ⟨z0, z1, z2, z3, zf⟩ := row_cells4 HB3.out
            cases ot
            case false =>
              have HS4 := Lib.hid (show WS w n (2 * (sumS l k + (j + 1))) (wrS p k ss (wrL p l k) (j + 1)) w3 from by
                rw [HSq.out]; unfold putS; rw [HPn.out]; exact HS3.out.mono (by omega))
              clear HS3 HB3
              go_wp2
              go_roundw
              case rel => exact ⟨j + 1, by omega, by go_num, HS4⟩
              case measure => simp [intOf]; omega
            case true =>
              go_wp2_with fail
              refine (put_any n (w.heap.size + 1) _ _ (nm, (k : Int), true) (HKw.out true) j (by omega) (by omega) (by have := HSl.out; have := HSum.out; have := HN3.out; omega) w3 HS3.out.k).mono ?_
              rintro e w4 ⟨rfl, hk4, ho4⟩
              have HS4 := Lib.hid (show WS w n (2 * (sumS l k + (j + 1))) (wrS p k ss (wrL p l k) (j + 1)) w4 from by
                rw [HSq.out]; unfold putS; rw [HPn.out]; exact (HS3.out.put hk4 ho4).mono (by omega))
              clear HS3 HB3 hk4 ho4 q0 q1 qf z0 z1 z2 z3 zf
              go_wp2
              go_roundw
              case rel => exact ⟨j + 1, by omega, by go_num, HS4⟩
              case measure => simp [intOf]; omega
        · have hjn : j = n3 := by omega
          have j1 : ¬ (j : Int) < n3 := by omega
          have HS2 := Lib.hid (show WS w n (2 * sumS l (k + 1)) (wrL p l (k + 1)) wr from by rw [HSg.out, HWg.out, HN3.out, ← hjn]; exact HS.out)
          clear hjn hlj HS
          go_wp2
          go_roundw
          case rel => exact ⟨k + 1, by omega, by go_num, HS2⟩
          case measure => simp [intOf]; omega
    · have hkn : k = n := by omega
      have k1 : ¬ (k : Int) < n := by omega
      have HS2 := Lib.hid (show WS w n (2 * sumS l l.length) (wrL p l n) wr from by rw [show wrL p l n = wrL p l k by rw [hkn]]; exact HS.out.mono (Nat.mul_le_mul_left 2 (sumS_le l k)))
      clear hkn hlt HS
      obtain ⟨q0, q1, qf⟩ := row2 HS2.out.q
      obtain ⟨r0, r1, rf⟩ := row2 HS2.out.r
      go_wp2
      exact bodyPost_ret (v := .agg #[.int .i64 n, .map (some (w.heap.size + 1))]) (res_write (b := w.heap.size) rfl (sfill2 HS2.out.r _ _)) rfl ⟨w.heap.size + 1, _, rfl, by omega, HS2.out.k.mapSet _ _, HSum.out, below_set2 HS2.out.b _ _⟩
end Go.Proofs.YtjngkifoaljmaaaGreatDoor
namespace Go.Proofs.YtjngkifoaljmaaaGreatDoor
set_option maxRecDepth 100000
open Go.RowKit
set_option linter.unusedVariables false
theorem calls_write (args : Array Value) (w : World) : (callFunc 42 args).run Tryz.prog w = .ok (.enter 42 args) w := by kernel_rfl
theorem calls_meaning (args : Array Value) (w : World) : (callFunc 62 args).run Tryz.prog w = .ok (.enter 62 args) w := by kernel_rfl
/-- what a name means in an object of a list -/
def fndD (l : List ObjD) (i : Int) (nm : ByteArray) : Option (Int × Int) := if 0 ≤ i ∧ i < l.length then meanM (wrL (fun s => decide (s = nm)) l l.length) l.length i nm else none
theorem fndD_far {l : List ObjD} {i : Int} {nm : ByteArray} (h : ¬ (0 ≤ i ∧ i < l.length)) : fndD l i nm = none := by unfold fndD; rw [if_neg h]
theorem defV_form (r : Option (Int × Int)) : ∃ a j, defV r = .agg #[.int .i64 a, .int .i64 j] := by
  rcases r with _ | ⟨o, j⟩
  · exact ⟨0, 0, rfl⟩
  · exact ⟨o, j, rfl⟩
theorem res_find {T : Array Value} {b : Nat} {c : Bool} {W : World} {v0 v1 : Value} {ty : TypeId} (h2 : T[6]? = some (.pointer (some ⟨b, 0, none⟩))) (h3 : T[7]? = some (.bool c)) (hr : W.heap[b]? = some (.cells #[v0, v1] ty (0, 0))) :
    (results Tryz.f64 T).run Tryz.prog W = .ok (.tuple #[.agg #[v0, v1], .bool c]) W := by
  have y0 := cell_of_row W b 0 _ _ _ hr
  have y1 := cell_of_row W b 1 _ _ _ hr
  simp only [List.getElem?_toArray, List.getElem?_cons_zero, List.getElem?_cons_succ] at y0 y1
  simp [results, Tryz.results64, go_sem, h2, h3, y0, y1]
theorem find_start (w : World) (nm : ByteArray) : ∃ W, W = ((w.alloc (.cells #[.string nm] 9)).alloc (.cells #[.int .i64 0, .int .i64 0] 27)) ∧ W.cell? ⟨w.heap.size, 0, none⟩ = some (.string nm) ∧ W.heap[w.heap.size + 1]? = some (.cells #[.int .i64 0, .int .i64 0] 27 (0, 0)) ∧ Below w.heap.size w W := by
  have hb : Below w.heap.size w ((w.alloc (.cells #[.string nm] 9)).alloc (.cells #[.int .i64 0, .int .i64 0] 27)) := ((Below.refl _ _).alloc (Nat.le_refl _) _).alloc (by simp) _
  have h := heap_alloc_new (w.alloc (.cells #[.string nm] 9)) (.cells #[.int .i64 0, .int .i64 0] 27)
  have hr : ((w.alloc (.cells #[.string nm] 9)).alloc (.cells #[.int .i64 0, .int .i64 0] 27)).heap[w.heap.size]? = some (.cells #[.string nm] 9 (0, 0)) := (heap_alloc_old _ _ (by simp)).trans (heap_alloc_new w _)
  refine ⟨_, rfl, ?_, by simpa using h, hb⟩
  have y := cell_of_row _ w.heap.size 0 _ _ _ hr
  rw [y]; rfl
set_option maxHeartbeats 4000000 in
theorem find_any (l : List ObjD) (hW : ∀ d ∈ l, ObjW d) (A : Option Addr) (n c lo hi : Nat) (hn : l.length = n) (hmx : n ≤ 1000000) (hsum : 2 * sumS l l.length < 1000000) (i : Int) (hi_ : IsI i) (nm : ByteArray) (hs : nm.size ≤ maxLen) (w : World) (hA : ObjsAt w lo hi l A) (hh : hi ≤ w.heap.size) :
    Calls Tryz.prog 64 #[.slice A n c, .int .i64 i, .string nm] w fun e w' => e = .returned (.tuple #[defV (fndD l i nm), .bool (fndD l i nm).isSome]) ∧ Below w.heap.size w w' := by
  obtain ⟨W, hWe, hWn, hWd, hWb⟩ := find_start w nm
  have HWe := Lib.hid hWe
  have HWb := Lib.hid hWb
  have HWd := Lib.hid hWd
  have HCw := Lib.hid (write_name l hW A n c lo hi hn hmx hsum w.heap.size nm W.drew ((hA.below hh hWb).below (Nat.le_trans hh hWb.size) (Below.drew (Below.refl _ _))) (Nat.le_trans hh hWb.size) hWn)
  have HIi := Lib.hid hi_
  have HSz := Lib.hid hs
  have HMx := Lib.hid hmx
  have HN := Lib.hid hn
  by_cases hin : 0 ≤ i ∧ i < (n : Int)
  · obtain ⟨h0, h1⟩ := hin
    have HF := Lib.hid (show fndD l i nm = meanM (wrL (fun s => decide (s = nm)) l n) n i nm by unfold fndD; rw [hn, if_pos ⟨h0, h1⟩])
    obtain ⟨da, dj, hd⟩ := defV_form (meanM (wrL (fun s => decide (s = nm)) l n) n i nm)
    obtain ⟨dc, hdc⟩ : ∃ dc, (meanM (wrL (fun s => decide (s = nm)) l n) n i nm).isSome = dc := ⟨_, rfl⟩
    have HD := Lib.hid (And.intro hd hdc)
    have h0' : ¬ i < 0 := by omega
    have h1' : ¬ i ≥ (n : Int) := by omega
    have hmf : ∀ (fn : Fn) (first cap : Array Value) (w : World), (Instr.makeFunc fn first cap).run Tryz.prog w = .ok (.func fn first cap) w := fun _ _ _ _ => rfl
    have hcn := hWn
    obtain ⟨z0, z1, zf⟩ := row2 hWd
    clear hW hn hsum hA hh hd hdc hmx hi_ hs hWb hWd
    go_enter Tryz.func64, Tryz.ntmps64
    go_upto_region 3 with fail
    rw [← hWe]
    clear hWe HWe
    go_region_law (first
      | (refine step_call6 rfl 42 _ _ rfl #[.slice A n c, .func (Fn.func 82) #[] #[.pointer (some ⟨w.heap.size, 0, none⟩)]] ?hv calls_write HCw.out ?_; (case hv => simp [go_sem]); rintro e w2 ⟨b, N, rfl, hb, hk, hN, hbl⟩; refine ⟨_, rfl, ?_⟩; have HB2 := Lib.hid (HWb.out.trans (((Below.refl W.heap.size W).drew.trans hbl).mono HWb.out.size)); have HD2 := Lib.hid (((((Below.refl W.heap.size W).drew.trans hbl)).block _ (Array.getElem?_eq_some_iff.1 HWd.out).1).trans HWd.out); have hcn2 := (((Below.refl W.heap.size W).drew.trans hbl).cell (p := ⟨w.heap.size, 0, none⟩) (block_lt hcn)).trans hcn; have HCm := Lib.hid (meaning_any b N n HMx.out _ i HIi.out nm HSz.out w2 hk); obtain ⟨p0, p1, pf⟩ := row2 HD2.out; clear hb hk hN hbl)
      | (refine step_call6 rfl 62 _ _ rfl #[.agg #[.int .i64 n, .map (some b)], .int .i64 i, .string nm] ?hv calls_meaning HCm.out ?_; (case hv => simp [go_sem]); rintro e w3 ⟨rfl, hb3⟩; rw [HD.out.1, HD.out.2]; refine ⟨_, rfl, ?_⟩; have HB3 := Lib.hid (HB2.out.trans (hb3.mono HB2.out.size)); have HD3 := Lib.hid ((hb3.block _ (Array.getElem?_eq_some_iff.1 HD2.out).1).trans HD2.out); obtain ⟨r0, r1, rf⟩ := row2 HD3.out; clear hb3))
    all_goals
      go_wp2
      rw [HF.out, HD.out.1, HD.out.2]
      exact bodyPost_ret (v := .tuple #[.agg #[.int .i64 da, .int .i64 dj], .bool dc]) (res_find (b := w.heap.size + 1) rfl rfl (sfill2 HD3.out _ _)) rfl ⟨rfl, below_setNew (below_setNew HB3.out (by omega)) (by omega)⟩
  · have HF := Lib.hid (fndD_far (l := l) (i := i) (nm := nm) (by rw [hn]; exact hin))
    have HDr := Lib.hid (show ((w.alloc (.cells #[.string nm] 9)).alloc (.cells #[.int .i64 0, .int .i64 0] 27)).heap[w.heap.size + 1]? = some (.cells #[.int .i64 0, .int .i64 0] 27 (0, 0)) from hWe ▸ hWd)
    have HBr := Lib.hid (show Below w.heap.size w ((w.alloc (.cells #[.string nm] 9)).alloc (.cells #[.int .i64 0, .int .i64 0] 27)) from hWe ▸ hWb)
    clear hW hn hsum hA hh hmx hi_ hs hWb hWd hWe hWn HWe HWb HWd HCw
    by_cases h0 : i < 0
    · clear hin
      go_enter Tryz.func64, Tryz.ntmps64
      go_wp2
      rw [HF.out]
      exact bodyPost_ret (v := .tuple #[.agg #[.int .i64 0, .int .i64 0], .bool false]) (res_find (b := w.heap.size + 1) rfl rfl HDr.out) rfl ⟨rfl, HBr.out⟩
    · have h1 : i ≥ (n : Int) := by omega
      clear hin
      go_enter Tryz.func64, Tryz.ntmps64
      go_wp2
      rw [HF.out]
      exact bodyPost_ret (v := .tuple #[.agg #[.int .i64 0, .int .i64 0], .bool false]) (res_find (b := w.heap.size + 1) rfl rfl HDr.out) rfl ⟨rfl, HBr.out⟩
end Go.Proofs.YtjngkifoaljmaaaGreatDoor
