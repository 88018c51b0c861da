/- Layer 7: a list of objects as it lies; whether it may be. Condition: the tables of package ins read as they should. -/
import Derived.Test.YthoehbmbmjmpbaaDoorSymB
import Derived.Test.YthoehbmbmjmpbaaDoorObjE
namespace Go.Proofs.YthoehbmbmjmpbaaDoor
set_option maxRecDepth 100000
open Go.RowKit
set_option linter.unusedVariables false
/-- objects as they lie, one behind the other -/
def ObjsAt (w : World) (lo hi : Nat) (l : List ObjD) (A : Option Addr) : Prop :=
  ∃ cs : List Value, cs.length = l.length * 5 ∧ RowC w lo hi A cs ∧ ∀ (i : Nat) (h : i < l.length), ∃ v0 v1 v2 v3 v4, (cs[i * 5]? = some v0 ∧ cs[i * 5 + 1]? = some v1 ∧ cs[i * 5 + 2]? = some v2 ∧ cs[i * 5 + 3]? = some v3 ∧ cs[i * 5 + 4]? = some v4) ∧ ObjAt w lo hi l[i] (.agg #[v0, v1, v2, v3, v4])
theorem ObjsAt.move {w w' : World} {lo lo' hi hi' : Nat} {l : List ObjD} {A : Option Addr} (h : ObjsAt w lo hi l A) (hl : lo' ≤ lo) (hh : hi ≤ hi') (hk : ∀ b, lo ≤ b → b < hi → w'.heap[b]? = w.heap[b]?) : ObjsAt w' lo' hi' l A := by
  obtain ⟨cs, h1, h2, h3⟩ := h
  refine ⟨cs, h1, h2.move hl hh hk, fun i hi => ?_⟩
  obtain ⟨v0, v1, v2, v3, v4, hc, ho⟩ := h3 i hi
  exact ⟨v0, v1, v2, v3, v4, hc, ho.move hl hh hk⟩
theorem ObjsAt.below {w w' : World} {lo hi : Nat} {l : List ObjD} {A : Option Addr} (h : ObjsAt w lo hi l A) (hh : hi ≤ w.heap.size) (hb : Below w.heap.size w w') : ObjsAt w' lo hi l A :=
  h.move (Nat.le_refl _) (Nat.le_refl _) (fun b _ h2 => hb.block b (by omega))
theorem ObjsAt.at_ {w : World} {lo hi i : Nat} {l : List ObjD} {A : Option Addr} (h : ObjsAt w lo hi l A) (hi_ : i < l.length) : ∃ b o A1 n1 c1 A2 n2 c2 A3 n3 c3 A4 n4 c4 A5 n5 c5, A = some ⟨b, o, none⟩ ∧ b < hi ∧
    (w.cell? ⟨b, o + i * 5, none⟩ = some (.slice A1 n1 c1) ∧ w.cell? ⟨b, o + i * 5 + 1, none⟩ = some (.slice A2 n2 c2) ∧ w.cell? ⟨b, o + i * 5 + 2, none⟩ = some (.slice A3 n3 c3) ∧ w.cell? ⟨b, o + i * 5 + 3, none⟩ = some (.slice A4 n4 c4) ∧ w.cell? ⟨b, o + i * 5 + 4, none⟩ = some (.slice A5 n5 c5)) ∧ ObjAt w lo hi l[i] (.agg #[.slice A1 n1 c1, .slice A2 n2 c2, .slice A3 n3 c3, .slice A4 n4 c4, .slice A5 n5 c5]) ∧ l[i].syms.length = n3 ∧ l[i].rels.length = n4 ∧ l[i].ents.length = n5 := by
  obtain ⟨cs, h1, h2, h3⟩ := h
  obtain ⟨v0, v1, v2, v3, v4, ⟨c0, c1, c2, c3, c4⟩, ho⟩ := h3 i hi_
  have ho' := ho
  obtain ⟨A1, d1, A2, d2, A3, d3, A4, d4, A5, d5, es, e, _⟩ := ho'
  simp only [Value.agg.injEq, Array.mk.injEq, List.cons.injEq, and_true] at e
  obtain ⟨rfl, rfl, rfl, rfl, rfl⟩ := e
  rcases h2 with h2 | ⟨b, o, rfl, _, hb, hc⟩
  · rw [h2] at h1; simp at h1; omega
  · exact ⟨b, o, A1, _, d1, A2, _, d2, A3, _, d3, A4, _, d4, A5, _, d5, rfl, hb, ⟨hc _ _ c0, hc _ _ c1, hc _ _ c2, hc _ _ c3, hc _ _ c4⟩, ho, rfl, rfl, rfl⟩
def mayLs (l : List ObjD) : Bool := decide (l.length ≤ 16) && l.all mayO
theorem mayLs_far {l : List ObjD} (h : ¬ l.length ≤ 16) : mayLs l = false := by unfold mayLs; rw [decide_eq_false h]; rfl
theorem mayLs_no {l : List ObjD} {i : Nat} (hi : i < l.length) (h : mayO l[i] = false) : mayLs l = false := by
  have : l.all mayO = false := List.all_eq_false.2 ⟨l[i], List.getElem_mem hi, by rw [h]; exact Bool.false_ne_true⟩
  unfold mayLs; rw [this]; simp
theorem mayLs_yes {l : List ObjD} (h : l.length ≤ 16) (ha : ∀ (i : Nat) (hi : i < l.length), mayO l[i] = true) : mayLs l = true := by
  unfold mayLs
  rw [decide_eq_true h, List.all_eq_true.2 (fun x hx => by obtain ⟨i, hi, rfl⟩ := List.getElem_of_mem hx; exact ha i hi)]
  rfl
set_option maxHeartbeats 2000000 in
theorem mayBe_any (l : List ObjD) (hW : ∀ d ∈ l, ObjW d) (A : Option Addr) (n c lo hi : Nat) (hn : l.length = n) (hmx : n ≤ maxLen) (w : World) (hT : Tabs w) (hA : ObjsAt w lo hi l A) (hh : hi ≤ w.heap.size) :
    Calls Tryd.prog 29 #[.slice A n c] w fun e w' => e = .returned (.bool (mayLs l)) ∧ Below w.heap.size w w' := by
  have HW := Lib.hid hW
  have HN := Lib.hid hn
  have HT := Lib.hid hT
  have HA := Lib.hid hA
  have HH := Lib.hid hh
  unfold maxLen at hmx
  clear hW hn hT hA hh
  go_enter Tryd.func29, Tryd.ntmps29
  by_cases h16 : n ≤ 16
  case neg =>
    have h1 : (n : Int) > 16 := by omega
    have HR := Lib.hid (mayLs_far (l := l) (by rw [HN.out]; exact h16))
    go_wp2
    go_ret
    exact ⟨ret_bool HR.out.symm, Below.refl _ _⟩
  have h1 : ¬ (n : Int) > 16 := by omega
  go_wp2
  go_loopw [10] (fun i wr => ∃ k : Nat, k ≤ n ∧ i = .int .i64 k ∧ Hid (Below w.heap.size w wr) ∧ Hid (∀ (j : Nat) (hj : j < l.length), j < k → mayO l[j] = true)) (fun i _ => n - (intOf i).toNat)
  case atStart => exact ⟨0, by omega, rfl, Lib.hid (Below.refl _ _), Lib.hid (fun j _ hj => by omega)⟩
  case round =>
    obtain ⟨k, hk, rfl, HB, HY⟩ := hrel
    by_cases hlt : k < n
    · have k0 : (0 : Int) ≤ k := by omega
      have k1 : (k : Int) < n := by omega
      have HLk := Lib.hid (show k < l.length by rw [HN.out]; exact hlt)
      obtain ⟨b, o, A1, n1, c1, A2, n2, c2, A3, n3, c3, A4, n4, c4, A5, n5, c5, rfl, hb, ⟨x0, x1, x2, x3, x4⟩, ho, -⟩ := (HA.out.below HH.out HB.out).at_ HLk.out
      have HO := Lib.hid ho
      have HBx := Lib.hid ((Below.refl wr.heap.size wr).alloc (Nat.le_refl _) (.cells #[.slice A1 n1 c1, .slice A2 n2 c2, .slice A3 n3 c3, .slice A4 n4 c4, .slice A5 n5 c5] 31))
      clear ho
      go_wp2_with fail
      refine (may_obj _ (HW.out _ (List.getElem_mem HLk.out)) _ lo hi _ (HT.out.below (HB.out.trans (HBx.out.mono HB.out.size))) (HO.out.move (Nat.le_refl _) (Nat.le_refl _) (fun b _ h2 => HBx.out.block b (by have := HB.out.size; have := HH.out; omega))) (by have := HB.out.size; have := HBx.out.size; have := HH.out; omega)).mono ?_
      rintro e w2 ⟨rfl, hb2⟩
      have HB2 := Lib.hid ((HB.out.trans (HBx.out.mono HB.out.size)).trans (hb2.mono (HB.out.trans (HBx.out.mono HB.out.size)).size))
      clear hb2 x0 x1 x2 x3 x4
      cases hm : mayO l[k]
      case false =>
        have HR := Lib.hid (mayLs_no HLk.out hm)
        clear hm
        go_wp2
        go_ret
        exact ⟨ret_bool HR.out.symm, HB2.out⟩
      case true =>
        have HY2 := Lib.hid (show ∀ (j : Nat) (hj : j < l.length), j < k + 1 → mayO l[j] = true from fun j hj hjk => by
          by_cases e : j = k
          · subst e; exact hm
          · exact HY.out j hj (by omega))
        clear hm HY
        go_wp2
        go_roundw
        case rel => exact ⟨k + 1, by omega, by go_num, HB2, HY2⟩
        case measure => simp [intOf]; omega
    · have hkn : k = n := by omega
      have k1 : ¬ (k : Int) < n := by omega
      have HR := Lib.hid (mayLs_yes (l := l) (by rw [HN.out]; exact h16) (fun i hi => HY.out i hi (by rw [HN.out] at hi; omega)))
      clear hkn hlt
      go_wp2
      go_ret
      exact ⟨ret_bool HR.out.symm, HB.out⟩
end Go.Proofs.YthoehbmbmjmpbaaDoor
