/- Layer 6: the looker's entry. -/
import Derived.Test.YtfdpbogbnfkilaaDoorObjRelA
import Derived.Test.YtfdpbogbnfkilaaDoorObjRdM
namespace Go.Proofs.YtfdpbogbnfkilaaDoor
set_option maxRecDepth 100000
open Go.RowKit Go.Maps
set_option linter.unusedVariables false
theorem thW0 {k : Int} (h0 : 0 ≤ k) (h1 : k ≤ 2) {s : ByteArray} (hs : s.size ≤ maxLen) : ThW (k, s, 0) := ⟨⟨by show (-9223372036854775808 : Int) ≤ k; omega, by show k ≤ 9223372036854775807; omega⟩, hs, ⟨show (-9223372036854775808 : Int) ≤ 0 by decide, show (0 : Int) ≤ 9223372036854775807 by decide⟩⟩
abbrev EntBx (v1 v2 v3 v4 v5 v6 v7 : Value) (s : ByteArray) (p : Value) (w : World) : World :=
  (w.alloc (.cells #[v1, v2, v3, v4, v5, v6, v7] 92)).alloc (.cells #[.string s, p] 70)
set_option maxHeartbeats 2000000 in
theorem ent_none (v1 v2 v3 v4 v5 v6 : Value) (b n : Nat) (M : Th → Option Int) (i : Int) (s : ByteArray) (hs : s.size ≤ maxLen) (p : Value) (w : World) (hK : SeenK w b n M) (hM : M (0, s, 0) = none) :
    Calls Tryd.prog 86 #[.agg #[v1, v2, v3, v4, v5, v6, .map (some b)], .int .i64 i, .agg #[.string s, p]] w fun e w' => e = .returned (.bool false) ∧ Below w.heap.size w w' := by
  have hB := ((Below.refl w.heap.size w).alloc (Nat.le_refl _) (.cells #[v1, v2, v3, v4, v5, v6, .map (some b)] 92)).alloc (by simp) (.cells #[.string s, p] 70)
  have hlk := (hK.below hB).look (t := (0, s, 0)) (thW0 (by omega) (by omega) hs)
  unfold seenV thV at hlk
  rw [hM] at hlk
  simp only [Option.getD_none, Option.isSome_none] at hlk
  have HB := Lib.hid hB
  clear hB hK hM hs
  go_enter Tryd.func86, Tryd.ntmps86
  go_wp2
  go_ret
  exact ⟨rfl, HB.out⟩
theorem parR_of {w : World} {lo hi : Nat} {A : Option Addr} {zs : List Int} (h : RowC w lo hi A (zs.flatMap encI64)) (hh : hi ≤ w.heap.size) : ParR w (fun _ => False) A zs := by
  by_cases h0 : zs = []
  · exact .inl h0
  obtain ⟨b, o, e, h1, h2, h3⟩ := h.at_ (sz := 1) (fun x => rfl) (by omega) (List.length_pos_iff.2 h0)
  refine .inr ⟨b, o, e, by omega, (fun x => x), fun j hj => ?_⟩
  have := h3 j hj 0 (.int .i64 zs[j]) rfl
  rw [show o + (j * 1 + 0) = o + j by omega] at this
  rw [this, nth_get hj]
theorem OutO.parR {w w' : World} {F : Nat → Prop} {A : Option Addr} {zs : List Int} (h : ParR w (fun _ => False) A zs) (ho : OutO F w w') (hn : zs = [] ∨ ∀ b o, A = some ⟨b, o, none⟩ → ¬ F b) : ParR w' (fun _ => False) A zs := by
  rcases hn with hn | hn
  · exact .inl hn
  rcases h with h | ⟨b, o, e, h1, h2, h3⟩
  · exact .inl h
  · exact .inr ⟨b, o, e, Nat.lt_of_lt_of_le h1 ho.size, h2, fun j hj => by rw [World.cell?_of_block (ho.block b h1 (hn b o e))]; exact h3 j hj⟩
set_option maxHeartbeats 2000000 in
theorem ent_some (v1 v2 v4 v5 v6 : Value) (bo oo n3 c3 b n : Nat) (M : Th → Option Int) (i : Int) (hi0 : 0 ≤ i) (hi1 : i ≤ 1000000) (hn : n < 1000000) (s : ByteArray) (hs : s.size ≤ maxLen) (A : Option Addr) (zs : List Int) (m c : Nat) (hz : zs.length = m) (hm : m ≤ maxLen) (w : World) (hK : SeenK w b n M) (q : Nat) (hM : M (0, s, 0) = some (q : Int)) (hq : q < n3) (h3 : n3 ≤ 256)
    (x y : Bool) (hbo : bo < w.heap.size) (hx : w.cell? ⟨bo, oo + q * 4 + 1, none⟩ = some (.bool x)) (hy : w.cell? ⟨bo, oo + q * 4 + 3, none⟩ = some (.bool y)) (hA : ParR w (fun _ => False) A zs) (hnb : zs = [] ∨ ∀ bb oo, A = some ⟨bb, oo, none⟩ → bb ≠ b) :
    Calls Tryd.prog 86 #[.agg #[v1, v2, .slice (some ⟨bo, oo, none⟩) n3 c3, v4, v5, v6, .map (some b)], .int .i64 i, .agg #[.string s, .slice A m c]] w fun e w' =>
      e = .returned (.bool (!x && y && (M (2, s, 0)).isNone && parB zs)) ∧ MapOut b w w' ∧ ((!x && y && (M (2, s, 0)).isNone && parB zs) = true → SeenK w' b (n + 1) (putM M (2, s, 0) i)) := by
  have hB := ((Below.refl w.heap.size w).alloc (Nat.le_refl _) (.cells #[v1, v2, .slice (some ⟨bo, oo, none⟩) n3 c3, v4, v5, v6, .map (some b)] 92)).alloc (by simp) (.cells #[.string s, .slice A m c] 70)
  have hKb := hK.below hB
  have hlk := hKb.look (t := (0, s, 0)) (thW0 (by omega) (by omega) hs)
  unfold seenV thV at hlk
  rw [hM] at hlk
  simp only [Option.getD_some, Option.isSome_some] at hlk
  have HK := Lib.hid hKb
  have HLb := Lib.hid hK.lt
  have HT := Lib.hid (thW0 (k := 2) (by omega) (by omega) hs)
  have hx' := (hB.cell (p := ⟨bo, oo + q * 4 + 1, none⟩) hbo).trans hx
  have hy' := (hB.cell (p := ⟨bo, oo + q * 4 + 3, none⟩) hbo).trans hy
  have q0 : (0 : Int) ≤ q := by omega
  have q1 : (q : Int) < n3 := by omega
  have HB := Lib.hid hB
  have HN := Lib.hid hnb
  have HP := Lib.hid hA
  clear hB hK hM hs hx hy hKb hnb hA
  cases x with
  | true =>
    go_enter Tryd.func86, Tryd.ntmps86
    go_wp2
    go_ret
    exact ⟨rfl, OutO.of_below HB.out, fun h => by simp at h⟩
  | false =>
  cases y with
  | false =>
    go_enter Tryd.func86, Tryd.ntmps86
    go_wp2
    go_ret
    exact ⟨rfl, OutO.of_below HB.out, fun h => by simp at h⟩
  | true =>
  cases hM2 : M (2, s, 0) with
  | some d =>
    have HM := Lib.hid hM2
    clear hM2
    go_enter Tryd.func86, Tryd.ntmps86
    go_wp2_with fail
    refine (first_no _ _ _ _ _ _ b n M (2, s, 0) HT.out i d HM.out _ HK.out).mono ?_
    rintro e w3 ⟨rfl, hb⟩
    have HB3 := Lib.hid (show MapOut b w w3 from (OutO.of_below HB.out).trans (OutO.of_below hb))
    clear hb hx' hy'
    go_wp2
    go_ret
    exact ⟨rfl, HB3.out, fun h => by simp at h⟩
  | none =>
    have HM := Lib.hid hM2
    clear hM2
    go_enter Tryd.func86, Tryd.ntmps86
    go_wp2_with fail
    refine (first_yes _ _ _ _ _ _ b n M (2, s, 0) HT.out i hi0 hi1 hn HM.out _ HK.out).mono ?_
    rintro e w3 ⟨rfl, hs3, hb⟩
    have HS3 := Lib.hid (show SeenK w3 b (n + 1) (putM M (2, s, 0) i) from hs3)
    have HO := Lib.hid (show MapOut b w w3 from (OutO.of_below HB.out).trans hb)
    have co : w3.cell? ⟨w.heap.size + 1, 1, none⟩ = some (.slice A m c) := by
      rw [World.cell?_of_block (hb.block (w.heap.size + 1) (by simp) (by have := HLb.out; omega))]; simp [go_sem]
    have HPR := Lib.hid (OutO.parR HP.out HO.out HN.out)
    clear hb hs3 hx' hy'
    go_wp2_with fail
    refine (params_may A zs m c hz w3 hm HPR.out).mono ?_
    rintro e w' ⟨rfl, rfl⟩
    cases hp : parB zs with
    | false =>
      have HQ := Lib.hid hp
      clear hp
      go_wp2
      go_ret
      exact ⟨ret_bool (by rw [HQ.out]; rfl), HO.out, fun h => by rw [HQ.out] at h; simp at h⟩
    | true =>
      have HQ := Lib.hid hp
      clear hp
      go_wp2
      go_ret
      exact ⟨ret_bool (by rw [HQ.out]; rfl), HO.out, fun _ => HS3.out⟩
end Go.Proofs.YtfdpbogbnfkilaaDoor
