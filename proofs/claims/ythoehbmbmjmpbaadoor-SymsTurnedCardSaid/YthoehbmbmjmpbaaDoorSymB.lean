/- Layer 7: what a name means, looked up in the book; a Sym written down. No condition. -/
import Derived.Test.YthoehbmbmjmpbaaDoorSymA
namespace Go.Proofs.YthoehbmbmjmpbaaDoor
set_option maxRecDepth 100000
open Go.RowKit
set_option linter.unusedVariables false
/-- what is written first stays -/
def putK (M : Kn → Option Int) (t : Kn) (i : Int) : Kn → Option Int := fun u => if u = t then some ((M t).getD i) else M u
theorem putK_of_none {M : Kn → Option Int} {t : Kn} (h : M t = none) (i : Int) : putK M t i = fun u => if u = t then some i else M u := by
  unfold putK; rw [h]; rfl
theorem putK_of_some {M : Kn → Option Int} {t : Kn} {d : Int} (h : M t = some d) (i : Int) : putK M t i = M := by
  funext u
  unfold putK
  by_cases e : u = t
  · subst e; rw [if_pos rfl, h]; rfl
  · rw [if_neg e]
theorem KnK.mono {w : World} {b n m : Nat} {M : Kn → Option Int} (h : KnK w b n M) (hn : n ≤ m) : KnK w b m M := by
  obtain ⟨D, h1, h2⟩ := h
  exact ⟨D, h1.mono hn, h2⟩
set_option maxHeartbeats 1000000 in
theorem put_any (nb : Int) (b n : Nat) (M : Kn → Option Int) (t : Kn) (ht : KnW t) (i : Int) (hi0 : 0 ≤ i) (hi1 : i ≤ 1000000) (hn : n < 1000000) (w : World) (hK : KnK w b n M) :
    Calls Tryd.prog 65 #[.agg #[.int .i64 nb, .map (some b)], knV t, .int .i64 i] w fun e w' => e = .returned (.tuple #[]) ∧ KnK w' b (n + 1) (putK M t i) ∧ OutO (fun k => k = b) w w' := by
  have hb := ((Below.refl w.heap.size w).alloc (Nat.le_refl _) (.cells #[.int .i64 nb, .map (some b)] 78)).alloc (by simp) (.cells #[.string t.1, .int .i64 t.2.1, .bool t.2.2] 87)
  have hK2 := hK.below hb
  have hlk := hK2.look ht
  unfold knA at hlk
  cases hM : M t with
  | none =>
    obtain ⟨w3, hr, hs, hg⟩ := hK2.put hn ht i hi0 hi1
    have HS := Lib.hid hs
    have HG := Lib.hid ((OutO.of_below (F := fun k => k = b) hb).trans (OutO.of_grown hg (fun g e => by cases e; rfl)))
    have HP := Lib.hid (putK_of_none hM i)
    rw [hM] at hlk
    clear hK hK2 hs hg hb hM
    unfold knV at *
    simp only [Option.getD_none, Option.isSome_none] at hlk
    obtain ⟨tn, ti, tb⟩ := t
    simp only at *
    go_enter Tryd.func65, Tryd.ntmps65
    go_wp2
    go_end0
    exact ⟨rfl, by rw [HP.out]; exact HS.out, HG.out⟩
  | some d =>
    have HS := Lib.hid (hK2.mono (Nat.le_succ n))
    have HG := Lib.hid (OutO.of_below (F := fun k => k = b) hb)
    have HP := Lib.hid (putK_of_some hM i)
    rw [hM] at hlk
    clear hK hK2 hb hM
    unfold knV at *
    simp only [Option.getD_some, Option.isSome_some] at hlk
    obtain ⟨tn, ti, tb⟩ := t
    simp only at *
    go_enter Tryd.func65, Tryd.ntmps65
    go_wp2
    go_end0
    exact ⟨rfl, by rw [HP.out]; exact HS.out, HG.out⟩
/-- what a name means in an object: its own goes ahead of what is Out -/
def meanM (M : Kn → Option Int) (nb : Nat) (i : Int) (s : ByteArray) : Option (Int × Int) := match M (s, i, false) with
  | some j => some (i, j)
  | none => (List.range nb).findSome? fun (k : Nat) => (M (s, (k : Int), true)).map fun j => ((k : Int), j)
def defV : Option (Int × Int) → Value
  | some (o, j) => .agg #[.int .i64 o, .int .i64 j]
  | none => .agg #[.int .i64 0, .int .i64 0]
theorem mean_own {M : Kn → Option Int} {nb : Nat} {i j : Int} {s : ByteArray} (h : M (s, i, false) = some j) : meanM M nb i s = some (i, j) := by unfold meanM; rw [h]
theorem find_at {α : Type} {f : Nat → Option α} {x : α} : ∀ {k nb : Nat}, k < nb → (∀ j, j < k → f j = none) → f k = some x → (List.range nb).findSome? f = some x := by
  intro k nb hk hn hx
  obtain ⟨m, rfl⟩ : ∃ m, nb = k + 1 + m := ⟨nb - k - 1, by omega⟩
  rw [List.range_add, List.findSome?_append, List.range_succ, List.findSome?_append]
  have h1 : (List.range k).findSome? f = none := List.findSome?_eq_none_iff.2 fun j hj => hn j (List.mem_range.1 hj)
  rw [h1]
  simp [hx]
theorem find_none {α : Type} {f : Nat → Option α} {nb : Nat} (hn : ∀ j, j < nb → f j = none) : (List.range nb).findSome? f = none :=
  List.findSome?_eq_none_iff.2 fun j hj => hn j (List.mem_range.1 hj)
theorem mean_out {M : Kn → Option Int} {nb k : Nat} {i j : Int} {s : ByteArray} (h : M (s, i, false) = none) (hk : k < nb) (hn : ∀ q : Nat, q < k → M (s, (q : Int), true) = none) (hj : M (s, (k : Int), true) = some j) : meanM M nb i s = some ((k : Int), j) := by
  unfold meanM; rw [h]
  exact find_at hk (fun q hq => by rw [hn q hq]; rfl) (by rw [hj]; rfl)
theorem mean_none {M : Kn → Option Int} {nb : Nat} {i : Int} {s : ByteArray} (h : M (s, i, false) = none) (hn : ∀ q : Nat, q < nb → M (s, (q : Int), true) = none) : meanM M nb i s = none := by
  unfold meanM; rw [h]
  exact find_none (fun q hq => by rw [hn q hq]; rfl)
theorem res_mean {T : Array Value} {b : Nat} {c : Bool} {W : World} {v0 v1 : Value} {ty : TypeId} (h2 : T[6]? = some (.pointer (some ⟨b, 0, none⟩))) (h3 : T[7]? = some (.bool c)) (hr : W.heap[b]? = some (.cells #[v0, v1] ty (0, 0))) :
    (results Tryd.f39 T).run Tryd.prog W = .ok (.tuple #[.agg #[v0, v1], .bool c]) W := by
  have y0 := cell_of_row W b 0 _ _ _ hr
  have y1 := cell_of_row W b 1 _ _ _ hr
  simp only [List.getElem?_toArray, List.getElem?_cons_zero, List.getElem?_cons_succ] at y0 y1
  simp [results, Tryd.results39, go_sem, h2, h3, y0, y1]
theorem sfill2 {W : World} {b : Nat} {a0 a1 : Value} {T : TypeId} (h : W.heap[b]? = some (.cells #[a0, a1] T (0, 0))) (v0 v1 : Value) :
    ((W.setCell ⟨b, 0, none⟩ v0).setCell ⟨b, 1, none⟩ v1).heap[b]? = some (.cells #[v0, v1] T (0, 0)) := by
  rw [heap_setCell_same _ b 1 _ _ _ (heap_setCell_same W b 0 _ _ _ h)]
  rfl
set_option maxHeartbeats 2000000 in
theorem meaning_any (b n nb : Nat) (hnb : nb ≤ 1000000) (M : Kn → Option Int) (i : Int) (hi : IsI i) (s : ByteArray) (hs : s.size ≤ maxLen) (w : World) (hK : KnK w b n M) :
    Calls Tryd.prog 39 #[.agg #[.int .i64 nb, .map (some b)], .int .i64 i, .string s] w fun e w' => e = .returned (.tuple #[defV (meanM M nb i s), .bool (meanM M nb i s).isSome]) ∧ Below w.heap.size w w' := by
  have hb := ((Below.refl w.heap.size w).alloc (Nat.le_refl _) (.cells #[.int .i64 nb, .map (some b)] 78)).alloc (by simp) (.cells #[.int .i64 0, .int .i64 0] 39)
  have hK2 := hK.below hb
  have hlk := hK2.look (t := (s, i, false)) ⟨hs, by unfold IsI at hi; omega⟩
  have hlo := fun (k : Nat) (hk : k < nb) => hK2.look (t := (s, (k : Int), true)) ⟨hs, by show (-9223372036854775808 : Int) ≤ k ∧ (k : Int) ≤ 9223372036854775807; omega⟩
  unfold knA knV at hlk hlo
  simp only at hlk hlo
  have HDr := Lib.hid (show ∀ (x y : Value), ((w.alloc (.cells #[.int .i64 nb, .map (some b)] 78)).alloc (.cells #[x, y] 39)).heap[w.heap.size + 1]? = some (.cells #[x, y] 39 (0, 0)) from fun x y => by
    have h := heap_alloc_new (w.alloc (.cells #[.int .i64 nb, .map (some b)] 78)) (.cells #[x, y] 39)
    simpa using h)
  have HBd := Lib.hid (show ∀ (x y : Value), Below w.heap.size w ((w.alloc (.cells #[.int .i64 nb, .map (some b)] 78)).alloc (.cells #[x, y] 39)) from fun x y => ((Below.refl w.heap.size w).alloc (Nat.le_refl _) _).alloc (by simp) _)
  have HLo := Lib.hid hlo
  have HNb := Lib.hid hnb
  cases hM : M (s, i, false) with
  | some j =>
    rw [hM] at hlk
    simp only [Option.getD_some, Option.isSome_some] at hlk
    have HM := Lib.hid (mean_own (nb := nb) hM)
    clear hb hlo hK hK2 hi hs hM hnb
    go_enter Tryd.func39, Tryd.ntmps39
    go_wp2
    rw [HM.out]
    exact bodyPost_ret (v := .tuple #[.agg #[.int .i64 i, .int .i64 j], .bool true]) (res_mean (b := w.heap.size + 1) rfl rfl (HDr.out _ _)) rfl ⟨rfl, HBd.out _ _⟩
  | none =>
    rw [hM] at hlk
    simp only [Option.getD_none, Option.isSome_none] at hlk
    have HM := Lib.hid hM
    clear hb hlo hK hK2 hi hs hM
    go_enter Tryd.func39, Tryd.ntmps39
    go_wp2
    go_loopw [28] (fun i5 wr => ∃ k : Nat, k ≤ nb ∧ i5 = .int .i64 k ∧ wr = ((w.alloc (.cells #[.int .i64 nb, .map (some b)] 78)).alloc (.cells #[.int .i64 0, .int .i64 0] 39)) ∧ Hid (∀ q : Nat, q < k → M (s, (q : Int), true) = none)) (fun i5 _ => nb - (intOf i5).toNat)
    case atStart => exact ⟨0, by omega, rfl, rfl, Lib.hid (fun q hq => by omega)⟩
    case round =>
      obtain ⟨k, hk, rfl, rfl, HN⟩ := hrel
      by_cases hlt : k < nb
      · have k0 : (0 : Int) ≤ k := by omega
        have k1 : (k : Int) < nb := by omega
        have hlk := HLo.out k hlt
        cases hMk : M (s, (k : Int), true) with
        | some j =>
          rw [hMk] at hlk
          simp only [Option.getD_some, Option.isSome_some] at hlk
          have HE := Lib.hid (mean_out HM.out hlt HN.out hMk)
          clear hMk
          go_wp2
          rw [HE.out]
          exact bodyPost_ret (v := .tuple #[.agg #[.int .i64 k, .int .i64 j], .bool true]) (res_mean (b := w.heap.size + 1) rfl rfl (HDr.out _ _)) rfl ⟨rfl, HBd.out _ _⟩
        | none =>
          rw [hMk] at hlk
          simp only [Option.getD_none, Option.isSome_none] at hlk
          have HN2 := Lib.hid (show ∀ q : Nat, q < k + 1 → M (s, (q : Int), true) = none from fun q hq => by
            by_cases e : q = k
            · rw [e]; exact hMk
            · exact HN.out q (by omega))
          clear hMk HN
          go_wp2
          go_roundw
          case rel => exact ⟨k + 1, by omega, by go_num, trivial, HN2⟩
          case measure => simp [intOf]; omega
      · have hkn : k = nb := by omega
        have k1 : ¬ (k : Int) < nb := by omega
        have HE := Lib.hid (mean_none (nb := nb) HM.out (fun q hq => HN.out q (by omega)))
        clear hkn hlt
        go_wp2
        rw [HE.out]
        exact bodyPost_ret (v := .tuple #[.agg #[.int .i64 0, .int .i64 0], .bool false]) (res_mean (b := w.heap.size + 1) rfl rfl (HDr.out _ _)) rfl ⟨rfl, HBd.out _ _⟩
end Go.Proofs.YthoehbmbmjmpbaaDoor
