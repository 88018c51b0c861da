/- Layer 6: the looker's first: a thing is put down where it was not seen. -/
import Derived.Test.YtfdpbogbnfkilaaDoorObjMap
import Derived.Test.YtfdpbogbnfkilaaDoorObjSuits
namespace Go.Proofs.YtfdpbogbnfkilaaDoor
set_option maxRecDepth 100000
open Go.RowKit Go.Maps
set_option linter.unusedVariables false
theorem seen_boxes {w : World} {b n : Nat} {M : Th → Option Int} (h : SeenK w b n M) (o1 o2 : Obj) : SeenK ((w.alloc o1).alloc o2) b n M :=
  h.below (((Below.refl w.heap.size w).alloc (Nat.le_refl _) o1).alloc (by simp) o2)
/-- what lay there is as it was, the map aside -/
def MapOut (b : Nat) (w w' : World) : Prop := OutO (fun k => k = b) w w'
theorem mapOut_boxes {w w' : World} {b : Nat} (o1 o2 : Obj) (hg : ((w.alloc o1).alloc o2).grownBy w' (some b)) : MapOut b w w' :=
  (OutO.of_below (((Below.refl w.heap.size w).alloc (Nat.le_refl _) o1).alloc (by simp) o2)).trans (OutO.of_grown hg (fun g e => by cases e; rfl))
set_option maxHeartbeats 1000000 in
theorem first_yes (v1 v2 v3 v4 v5 v6 : Value) (b n : Nat) (M : Th → Option Int) (t : Th) (ht : ThW t) (i : Int) (hi0 : 0 ≤ i) (hi1 : i ≤ 1000000) (hn : n < 1000000) (hM : M t = none) (w : World) (hK : SeenK w b n M) :
    Calls Tryd.prog 114 #[.agg #[v1, v2, v3, v4, v5, v6, .map (some b)], thV t, .int .i64 i] w fun e w' => e = .returned (.bool true) ∧ SeenK w' b (n + 1) (fun x => if x = t then some i else M x) ∧ MapOut b w w' := by
  have hK2 := seen_boxes hK (.cells #[v1, v2, v3, v4, v5, v6, .map (some b)] 92) (.cells #[.int .i64 t.1, .string t.2.1, .int .i64 t.2.2] 175)
  have hlk := hK2.look ht
  unfold seenV at hlk
  rw [hM] at hlk
  obtain ⟨w3, hr, hs, hg⟩ := hK2.put hn ht i hi0 hi1
  have HS := Lib.hid hs
  have HG := Lib.hid (mapOut_boxes _ _ hg)
  clear hK hK2 hs hg
  unfold thV at *
  simp only [Option.getD_none, Option.isSome_none] at hlk
  obtain ⟨tk, tn, ta⟩ := t
  simp only at *
  go_enter Tryd.func114, Tryd.ntmps114
  go_wp2
  go_ret
  exact ⟨rfl, HS.out, HG.out⟩
set_option maxHeartbeats 1000000 in
theorem first_no (v1 v2 v3 v4 v5 v6 : Value) (b n : Nat) (M : Th → Option Int) (t : Th) (ht : ThW t) (i d : Int) (hM : M t = some d) (w : World) (hK : SeenK w b n M) :
    Calls Tryd.prog 114 #[.agg #[v1, v2, v3, v4, v5, v6, .map (some b)], thV t, .int .i64 i] w fun e w' => e = .returned (.bool false) ∧ Below w.heap.size w w' := by
  have hK2 := seen_boxes hK (.cells #[v1, v2, v3, v4, v5, v6, .map (some b)] 92) (.cells #[.int .i64 t.1, .string t.2.1, .int .i64 t.2.2] 175)
  have hlk := hK2.look ht
  unfold seenV at hlk
  rw [hM] at hlk
  clear hK hK2
  unfold thV at *
  simp only [Option.getD_some, Option.isSome_some] at hlk
  obtain ⟨tk, tn, ta⟩ := t
  simp only at *
  have HB := Lib.hid (((Below.refl w.heap.size w).alloc (Nat.le_refl _) (.cells #[v1, v2, v3, v4, v5, v6, .map (some b)] 92)).alloc (by simp) (.cells #[.int .i64 tk, .string tn, .int .i64 ta] 175))
  go_enter Tryd.func114, Tryd.ntmps114
  go_wp2
  go_ret
  exact ⟨rfl, HB.out⟩
end Go.Proofs.YtfdpbogbnfkilaaDoor
