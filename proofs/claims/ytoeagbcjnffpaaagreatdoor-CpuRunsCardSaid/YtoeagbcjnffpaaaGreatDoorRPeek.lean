/- The reference's memory: Peek. -/
import Derived.Test.YtoeagbcjnffpaaaGreatDoorRStore
namespace Go.Proofs.YtoeagbcjnffpaaaGreatDoor
set_option maxRecDepth 100000
open Go.RowKit Go.Maps
set_option linter.unusedVariables false
set_option maxHeartbeats 2000000 in
theorem rpeek_yes (r tb to tc bb bc n : Nat) (T : List Rg) (L : List Int) (p : Int) (q : Nat) (i : Nat) (hp : IsU p) (hq : q ≤ 1000000) (w : World) (hM : RMem w r tb to tc bb bc n T L) (hF : FindYes T p q i) :
    Calls Tryz.prog 19 #[.pointer (some ⟨r, 0, none⟩), .int .u64 p, .int .i64 q] w fun e w' => ∃ A c, e = .returned (.tuple #[.slice A q c, .int .i64 0]) ∧ Sl w' A ((L.drop (placeT T p i)).take q) ∧ Below w.heap.size w w' := by
  have HFd := Lib.hid (rfind_yes r tb to tc bb bc n T L p q i hp ⟨by omega, by omega⟩ w hM hF)
  have HPl := Lib.hid (rplace_yes r tb to tc bb bc n T L p i hp w hM (by rw [← hM.len]; exact hF.2.1) (by have := hitB_iff.1 hF.2.2.1; exact ⟨this.1, this.2.1⟩))
  have hpb := place_bd hM.may hM.len hF
  have hll := hM.llen
  have hcap := hM.cap
  have hL2 : L.length ≤ 1048576 := by rw [hll]; have := offT_le hM.may (show n ≤ T.length by rw [hM.len]; omega); have := hM.may.2.1; rw [hM.len] at this; omega
  have HM := Lib.hid hM
  obtain ⟨P, hP⟩ : ∃ P, placeT T p i = P := ⟨_, rfl⟩
  rw [hP] at hpb ⊢
  have HPl2 := Lib.hid (show Calls Tryz.prog 46 #[.pointer (some ⟨r, 0, none⟩), .int .u64 p] w fun e w' => e = .returned (.int .i64 (P : Int)) ∧ Below w.heap.size w w' from by rw [← hP]; exact HPl.out)
  have P0 : (0 : Int) ≤ P := by omega
  have P1 : (P : Int) + q ≤ L.length := by omega
  have P2 : (P : Int) + q ≤ bc := by omega
  have P3 : (P : Int) ≤ 1048576 := by omega
  have q1 : ((q : Int) == 0) = false := by rw [beq_eq_false_iff_ne]; have := hF.1; omega
  have q0 : (1 : Int) ≤ q := hF.1
  have HB2 := Lib.hid (show P + q ≤ L.length ∧ P + q ≤ bc from by omega)
  have hlen : ((L.drop P).take q).length = q := by rw [List.length_take, List.length_drop]; omega
  have HLn := Lib.hid hlen
  have HQ := Lib.hid hq
  obtain ⟨i0, hi, hz0, hz1, hz2⟩ := info_parts info5
  clear hM hF HPl hP hpb hll hcap hlen
  go_enter Tryz.func19, Tryz.ntmps19
  go_wp2_with fail
  refine HFd.out.mono ?_
  rintro e w' ⟨rfl, rfl⟩
  go_wp2_with fail
  refine HPl2.out.mono ?_
  rintro e w1 ⟨rfl, hb1⟩
  have h1 := ((HM.out.below hb1).below ((Below.refl w1.heap.size w1).alloc (Nat.le_refl _) (.cells #[] 5))).c1
  have HS := Lib.hid (((HM.out.below hb1).row.below ((Below.refl w1.heap.size w1).alloc (Nat.le_refl _) (.cells #[] 5))).sl P q HB2.out.1)
  have HB := Lib.hid hb1
  clear hb1
  go_wp2_with (at_builtin; refine wpList_append_own _ rfl _ _ 52 rfl w1.heap.size 5 i0 (.int .u8 0) 1 1 Tryz.underlying52 hi hz0 hz1 hz2 rfl (by decide) _ 0 [] rfl ?own ⟨bb, P, none⟩ (P + q - P) (bc - P) (((L.drop P).take q).map (Value.int .u8)) rfl ?len ?c1 ?c2 ?c3 ?c4 ?c5 ?_)
  case own => exact empty_rowO
  case len => rw [List.length_map, HLn.out]; omega
  case c1 => exact sl_newsO HS.out
  case c2 => intro u hu; obtain ⟨x, _, rfl⟩ := List.mem_map.1 hu; rfl
  case c3 => have := HQ.out; unfold maxLen; omega
  case c4 => have := HQ.out; omega
  case c5 => simp
  intro v3 w3 hown hgrow hnil
  try rw [show P + q - P = q by omega] at hown
  have HB3 := Lib.hid (show Below w1.heap.size w1 w3 from ((Below.refl _ w1).alloc (Nat.le_refl _) _).grown hgrow (by simp) (by simp [Value.ownBlock]))
  have hZ : ∃ A c, v3 = .slice A q c ∧ Sl w3 A ((L.drop P).take q) := by
    rcases hown.2 with ⟨rfl, h0⟩ | ⟨g, cap, cur, rfl, hg, hc, _⟩
    · exact ⟨none, 0, by rw [show q = 0 by omega], .inl (List.eq_nil_of_length_eq_zero (by rw [HLn.out]; omega))⟩
    · exact ⟨some ⟨g, 0, none⟩, cap, by simp, sl_of_owned (n := q) (by simpa using hown)⟩
  obtain ⟨A, c, rfl, hs⟩ := hZ
  have HZ := Lib.hid hs
  clear hown hgrow hnil hs
  go_wp2
  go_ret2
  exact ⟨A, c, rfl, HZ.out, HB.out.trans (HB3.out.mono HB.out.size)⟩
end Go.Proofs.YtoeagbcjnffpaaaGreatDoor
