/- The reference's memory: Store. -/
import Derived.Test.YtoeagbcjnffpaaaGreatDoorRLoad
namespace Go.Proofs.YtoeagbcjnffpaaaGreatDoor
set_option maxRecDepth 100000
open Go.RowKit Go.Maps
set_option linter.unusedVariables false
theorem rstore_no (r tb to tc bb bc n : Nat) (T : List Rg) (L : List Int) (p q : Int) (own : Bool) (v : Int) (hp : IsU p) (hq : q = 1 ∨ q = 4 ∨ q = 8) (w : World) (hM : RMem w r tb to tc bb bc n T L) (hA : AllNo T p q own 2) :
    Calls Tryz.prog 143 #[.pointer (some ⟨r, 0, none⟩), .int .u64 p, .int .i64 q, .bool own, .int .u64 v] w fun e w' => e = .returned (.int .i64 13) ∧ w = w' := by
  have HC := Lib.hid (rallowed_no r tb to tc bb bc n T L p q own 2 hp hq (by omega) w hM hA)
  clear hM hA
  go_enter Tryz.func143, Tryz.ntmps143
  go_wp2_with fail
  refine HC.out.mono ?_
  rintro e w' ⟨rfl, rfl⟩
  go_wp2
  go_ret
  exact ⟨rfl, rfl⟩
set_option maxHeartbeats 2000000 in
theorem rstore_yes (r tb to tc bb bc n : Nat) (T : List Rg) (L : List Int) (p : Int) (q : Nat) (own : Bool) (v : Int) (i : Nat) (hp : IsU p) (hv : IsU v) (hq : (q : Int) = 1 ∨ (q : Int) = 4 ∨ (q : Int) = 8) (w : World) (hM : RMem w r tb to tc bb bc n T L) (hA : AllYes T p q own 2 i) :
    Calls Tryz.prog 143 #[.pointer (some ⟨r, 0, none⟩), .int .u64 p, .int .i64 q, .bool own, .int .u64 v] w (RPokeP w r tb to tc bb bc n T (splice L (placeT T p i) (bytesL v q)) 0) := by
  have hF := hA.2.1
  have HC := Lib.hid (rallowed_yes r tb to tc bb bc n T L p q own 2 i hp hq (by omega) w hM hA)
  have HPl := Lib.hid (rplace_yes r tb to tc bb bc n T L p i hp w hM (by rw [← hM.len]; exact hF.2.1) (by have := hitB_iff.1 hF.2.2.1; exact ⟨this.1, this.2.1⟩))
  have hpb := place_bd hM.may hM.len hF
  have hll := hM.llen
  have hL2 : L.length ≤ 1048576 := by rw [hll]; have := offT_le hM.may (show n ≤ T.length by rw [hM.len]; omega); have := hM.may.2.1; rw [hM.len] at this; omega
  have HM := Lib.hid hM
  obtain ⟨P, hP⟩ : ∃ P, placeT T p i = P := ⟨_, rfl⟩
  rw [hP] at hpb ⊢
  have HPl2 := Lib.hid (show Calls Tryz.prog 46 #[.pointer (some ⟨r, 0, none⟩), .int .u64 p] w fun e w' => e = .returned (.int .i64 (P : Int)) ∧ Below w.heap.size w w' from by rw [← hP]; exact HPl.out)
  have hql : (bytesL v q).length = q := bytesL_length v q
  have HP := Lib.hid (show P + (bytesL v q).length ≤ L.length from by rw [hql]; omega)
  have HPb := Lib.hid (show P + q ≤ 1048576 from by omega)
  have HL := Lib.hid hql
  have HAl := Lib.hid (bytesL_all v q)
  have HBy := Lib.hid (fun w' => rbytes_fresh v q hv (by omega) w')
  have hq8 : (q : Int) ≤ 8 := by omega
  have hq0 : (1 : Int) ≤ q := by omega
  have HQ := Lib.hid hq0
  generalize bytesL v q = l at *
  clear hM hA hF HPl hP hpb hll hql hq
  go_enter Tryz.func143, Tryz.ntmps143
  go_wp2_with fail
  refine HC.out.mono ?_
  rintro e w' ⟨rfl, rfl⟩
  go_wp2_with fail
  refine HPl2.out.mono ?_
  rintro e w1 ⟨rfl, hb⟩
  have HM1 := Lib.hid (HM.out.below hb)
  have HB1 := Lib.hid hb
  clear hb
  go_wp2_with fail
  refine (HBy.out w1).mono ?_
  rintro e w2 ⟨A, c, rfl, hs, hb2, hfr⟩
  have hq1 : 0 < l.length := by have := HL.out; have := HQ.out; omega
  obtain ⟨ad, rfl⟩ := sl_some hs hq1
  have HU0 := Lib.hid (show RUnder w w2 r tb to tc bb bc n T L l P ad 0 from ⟨by rw [List.take_zero, splice_nil]; exact HM1.out.below hb2, hs, grown_of_below (HB1.out.trans (hb2.mono HB1.out.size))⟩)
  have HAb := Lib.hid (show ad.block ≠ bb from by have := hfr ad rfl; have := HM1.out.row.lt; omega)
  clear hs hb2 hfr hq1
  go_wp2
  go_loopw [13] (fun x wr => ∃ (k : Nat), k ≤ q ∧ x = .int .i64 k ∧ RUnder w wr r tb to tc bb bc n T L l P ad k) (fun x _ => q - (intOf x).toNat)
  case atStart => exact ⟨0, by omega, rfl, HU0.out⟩
  case round =>
    clear HU0
    obtain ⟨k, hk, rfl, hU⟩ := hrel
    have HU := Lib.hid hU
    by_cases hlt : k < q
    · have hkl : k < l.length := by have := HL.out; omega
      have HS := Lib.hid (hU.step hkl HP.out HAb.out HAl.out)
      have hsz : (splice L P (l.take k)).length = L.length := length_splice _ _ _ (by have := HP.out; simp; omega)
      have c1 := hU.mem.c1
      rw [hsz] at c1
      have hdst := (hU.mem.row.cell (k := P + k) (by rw [hsz]; have := HP.out; omega))
      have hfr : wr.frozen? ⟨bb, P + k, none⟩ = false := frozen_of_row wr bb (P + k) _ _ hU.mem.row
      obtain ⟨b, o, rfl, hc⟩ : ∃ b o, ad = ⟨b, o, none⟩ ∧ wr.cell? ⟨b, o + k, none⟩ = some (.int .u8 (nth l k)) := by
        rcases hU.src with h | ⟨b, o, h, h2⟩
        · rw [h] at hkl; simp at hkl
        · exact ⟨b, o, Option.some.inj h, h2 k hkl⟩
      have p1 : (P : Int) + k < L.length := by have := HP.out; omega
      have p2 : (P : Int) + q ≤ 1048576 := by have := HPb.out; omega
      have k0 : (0 : Int) ≤ k := by omega
      have k1 : (k : Int) < q := by omega
      have pp0 : (0 : Int) ≤ P := by omega
      generalize (splice L P (l.take k)) = Lk at *
      clear hU hkl hk hsz
      have s1 : IntKind.i64.wrap ((P : Int) + k) = (P : Int) + k := IntWalk.i64_in _ (by omega)
      have s2 : (0 : Int) ≤ (P : Int) + k := by omega
      have s3 : ((P : Int) + k).toNat = P + k := by omega
      go_wp2
      refine wp_region_still_tail 12 (by kernel_rfl) (by kernel_rfl) ?_
      simp only [List.take_succ_cons, List.take_zero, List.drop_succ_cons, List.drop_zero]
      change wpStill _ _ (World.drew _) (fun a' => wpList _ _ _ _ a' (World.drew _)) _ _
      repeat still_step
      refine wpStill_nil ?_
      clear s1 s2 s3
      go_wp2
      go_roundw
      case rel => exact ⟨k + 1, by omega, by go_num, HS.out.drew⟩
      case measure => simp [intOf]; omega
    · obtain rfl : k = q := by omega
      have HZ := Lib.hid (show RPokeP w r tb to tc bb bc n T (splice L P l) 0 (.returned (.int .i64 0)) wr from by
        have hm := hU.mem
        rw [List.take_of_length_le (by have := HL.out; omega)] at hm
        exact ⟨rfl, hm, hU.grown⟩)
      clear hU hk hlt
      go_wp2
      go_ret
      exact HZ.out
end Go.Proofs.YtoeagbcjnffpaaaGreatDoor
