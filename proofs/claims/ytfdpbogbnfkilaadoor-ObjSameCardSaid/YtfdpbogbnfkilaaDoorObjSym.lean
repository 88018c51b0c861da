/- Layer 6: the looker's sym. -/
import Derived.Test.YtfdpbogbnfkilaaDoorObjFirst
namespace Go.Proofs.YtfdpbogbnfkilaaDoor
set_option maxRecDepth 100000
open Go.RowKit Go.Maps
set_option linter.unusedVariables false
/-- whether a Sym may be, where M was seen -/
def unitI (d : Bool) : Int := if d then 8 else 4
def symB (M : Th → Option Int) (n1 n2 : Nat) (s : ByteArray) (d : Bool) (off : Int) : Bool :=
  nameB (sB s) && (M (0, s, 0)).isNone && off.tmod (unitI d) == 0 && inB off (unitI d * (if d then n2 else n1 : Nat))
theorem belq {B : Nat} {a w : World} (h : Below B a w) (n : Nat) : Below B a (w.drewN n) := ⟨h.os, h.tape, h.output, h.size, h.block⟩
set_option maxHeartbeats 2000000 in
theorem sym_false (A1 A2 : Option Addr) (n1 c1 n2 c2 : Nat) (v3 v4 v5 v6 : Value) (b n : Nat) (M : Th → Option Int) (i : Int) (hi0 : 0 ≤ i) (hi1 : i ≤ 1000000) (hn : n < 1000000) (h1 : n1 ≤ 4096) (h2 : n2 ≤ 1024)
    (s : ByteArray) (off : Int) (out : Bool) (hs : s.size ≤ maxLen) (ho : IsI off) (w : World) (hK : SeenK w b n M) :
    Calls Tryd.prog 84 #[.agg #[.slice A1 n1 c1, .slice A2 n2 c2, v3, v4, v5, v6, .map (some b)], .int .i64 i, .agg #[.string s, .bool false, .int .i64 off, .bool out]] w fun e w' =>
      e = .returned (.bool (symB M n1 n2 s false off)) ∧ MapOut b w w' ∧ (symB M n1 n2 s false off = true → SeenK w' b (n + 1) (fun x => if x = (0, s, 0) then some i else M x)) := by
  have hK0 := hK
  have HK := Lib.hid (fun q => (seen_boxes hK (.cells #[.slice A1 n1 c1, .slice A2 n2 c2, v3, v4, v5, v6, .map (some b)] 92) (.cells #[.string s, .bool false, .int .i64 off, .bool out] 65)).below (belq (Below.refl _ _) q))
  obtain ⟨o0, o1⟩ := ho
  clear hK
  have hT : ThW (0, s, 0) := ⟨⟨show (-9223372036854775808 : Int) ≤ 0 by decide, show (0 : Int) ≤ 9223372036854775807 by decide⟩, hs, ⟨show (-9223372036854775808 : Int) ≤ 0 by decide, show (0 : Int) ≤ 9223372036854775807 by decide⟩⟩
  have HT := Lib.hid hT
  have HLb := Lib.hid hK0.lt
  have HO := Lib.hid (fun q => show MapOut b w (((w.alloc (.cells #[.slice A1 n1 c1, .slice A2 n2 c2, v3, v4, v5, v6, .map (some b)] 92)).alloc (.cells #[.string s, .bool false, .int .i64 off, .bool out] 65)).drewN q) from OutO.of_below (belq (((Below.refl w.heap.size w).alloc (Nat.le_refl _) _).alloc (by simp) _) q))
  clear hT hK0
  · go_enter Tryd.func84, Tryd.ntmps84
    go_wp2
    go_quiet (fail)
    go_wp2_with fail
    refine (name_any s _).mono ?_
    cases hnm : nameB (sB s) with
    | false =>
      have HF := Lib.hid (show symB M n1 n2 s false off = false by unfold symB; rw [hnm]; rfl)
      clear hnm
      rintro e w' ⟨rfl, rfl⟩
      go_wp2
      go_ret
      exact ⟨ret_bool HF.out.symm, HO.out _, fun h => by rw [HF.out] at h; cases h⟩
    | true =>
      have HF := Lib.hid hnm
      clear hnm
      rintro e w' ⟨rfl, rfl⟩
      go_wp2_with fail
      cases hM : M (0, s, 0) with
      | some q =>
        refine (first_no _ _ _ _ _ _ b n M (0, s, 0) HT.out i q hM _ (HK.out _)).mono ?_
        have HR := Lib.hid (show symB M n1 n2 s false off = false by unfold symB; rw [hM]; simp)
        clear hM
        rintro e w3 ⟨rfl, hb⟩
        have HB := Lib.hid ((HO.out _).trans (OutO.of_below hb))
        clear hb
        go_wp2
        go_ret
        exact ⟨ret_bool HR.out.symm, HB.out, fun h => by rw [HR.out] at h; cases h⟩
      | none =>
        refine (first_yes _ _ _ _ _ _ b n M (0, s, 0) HT.out i hi0 hi1 hn hM _ (HK.out _)).mono ?_
        have HM := Lib.hid hM
        clear hM
        rintro e w3 ⟨rfl, hs3, hb⟩
        have HS := Lib.hid hs3
        have HB := Lib.hid ((HO.out _).trans hb)
        have co : w3.cell? ⟨w.heap.size + 1, 2, none⟩ = some (.int .i64 off) := by
          rw [World.cell?_of_block (hb.block (w.heap.size + 1) (by simp [World.drewN]) (by have := HLb.out; omega))]
          simp [go_sem]
        clear hb hs3
        go_wp2
        all_goals
          go_ret
          refine ⟨ret_bool ?_, HB.out, fun _ => HS.out⟩
          unfold symB inB unitI
          rw [HF.out, HM.out]
          simp_all
          try omega
set_option maxHeartbeats 2000000 in
theorem sym_true (A1 A2 : Option Addr) (n1 c1 n2 c2 : Nat) (v3 v4 v5 v6 : Value) (b n : Nat) (M : Th → Option Int) (i : Int) (hi0 : 0 ≤ i) (hi1 : i ≤ 1000000) (hn : n < 1000000) (h1 : n1 ≤ 4096) (h2 : n2 ≤ 1024)
    (s : ByteArray) (off : Int) (out : Bool) (hs : s.size ≤ maxLen) (ho : IsI off) (w : World) (hK : SeenK w b n M) :
    Calls Tryd.prog 84 #[.agg #[.slice A1 n1 c1, .slice A2 n2 c2, v3, v4, v5, v6, .map (some b)], .int .i64 i, .agg #[.string s, .bool true, .int .i64 off, .bool out]] w fun e w' =>
      e = .returned (.bool (symB M n1 n2 s true off)) ∧ MapOut b w w' ∧ (symB M n1 n2 s true off = true → SeenK w' b (n + 1) (fun x => if x = (0, s, 0) then some i else M x)) := by
  have hK0 := hK
  have HK := Lib.hid (fun q => (seen_boxes hK (.cells #[.slice A1 n1 c1, .slice A2 n2 c2, v3, v4, v5, v6, .map (some b)] 92) (.cells #[.string s, .bool true, .int .i64 off, .bool out] 65)).below (belq (Below.refl _ _) q))
  obtain ⟨o0, o1⟩ := ho
  clear hK
  have hT : ThW (0, s, 0) := ⟨⟨show (-9223372036854775808 : Int) ≤ 0 by decide, show (0 : Int) ≤ 9223372036854775807 by decide⟩, hs, ⟨show (-9223372036854775808 : Int) ≤ 0 by decide, show (0 : Int) ≤ 9223372036854775807 by decide⟩⟩
  have HT := Lib.hid hT
  have HLb := Lib.hid hK0.lt
  have HO := Lib.hid (fun q => show MapOut b w (((w.alloc (.cells #[.slice A1 n1 c1, .slice A2 n2 c2, v3, v4, v5, v6, .map (some b)] 92)).alloc (.cells #[.string s, .bool true, .int .i64 off, .bool out] 65)).drewN q) from OutO.of_below (belq (((Below.refl w.heap.size w).alloc (Nat.le_refl _) _).alloc (by simp) _) q))
  clear hT hK0
  · go_enter Tryd.func84, Tryd.ntmps84
    go_wp2
    go_quiet (fail)
    go_wp2
    go_quiet (fail)
    go_wp2_with fail
    refine (name_any s _).mono ?_
    cases hnm : nameB (sB s) with
    | false =>
      have HF := Lib.hid (show symB M n1 n2 s true off = false by unfold symB; rw [hnm]; rfl)
      clear hnm
      rintro e w' ⟨rfl, rfl⟩
      go_wp2
      go_ret
      exact ⟨ret_bool HF.out.symm, HO.out _, fun h => by rw [HF.out] at h; cases h⟩
    | true =>
      have HF := Lib.hid hnm
      clear hnm
      rintro e w' ⟨rfl, rfl⟩
      go_wp2_with fail
      cases hM : M (0, s, 0) with
      | some q =>
        refine (first_no _ _ _ _ _ _ b n M (0, s, 0) HT.out i q hM _ (HK.out _)).mono ?_
        have HR := Lib.hid (show symB M n1 n2 s true off = false by unfold symB; rw [hM]; simp)
        clear hM
        rintro e w3 ⟨rfl, hb⟩
        have HB := Lib.hid ((HO.out _).trans (OutO.of_below hb))
        clear hb
        go_wp2
        go_ret
        exact ⟨ret_bool HR.out.symm, HB.out, fun h => by rw [HR.out] at h; cases h⟩
      | none =>
        refine (first_yes _ _ _ _ _ _ b n M (0, s, 0) HT.out i hi0 hi1 hn hM _ (HK.out _)).mono ?_
        have HM := Lib.hid hM
        clear hM
        rintro e w3 ⟨rfl, hs3, hb⟩
        have HS := Lib.hid hs3
        have HB := Lib.hid ((HO.out _).trans hb)
        have co : w3.cell? ⟨w.heap.size + 1, 2, none⟩ = some (.int .i64 off) := by
          rw [World.cell?_of_block (hb.block (w.heap.size + 1) (by simp [World.drewN]) (by have := HLb.out; omega))]
          simp [go_sem]
        clear hb hs3
        go_wp2
        all_goals
          go_ret
          refine ⟨ret_bool ?_, HB.out, fun _ => HS.out⟩
          unfold symB inB unitI
          rw [HF.out, HM.out]
          simp_all
          try omega
end Go.Proofs.YtfdpbogbnfkilaaDoor
