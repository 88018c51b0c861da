/- The walk of the statement LexNumbers: it returns true, and writes nothing that was there. -/
import Derived.Test.YtlkpfblpofjekaaDoorLexNumberWalk
namespace Go.Proofs.YtlkpfblpofjekaaDoor.LexNumbersWalk
set_option maxRecDepth 100000
open Go.RowKit Go.Sort
set_option linter.unusedVariables false
set_option maxHeartbeats 4000000 in
theorem walkN (s : ByteArray) (u : Nat) (hu : u < 18446744073709551616) (w : World) (hT : LxT w) :
    Calls Tryd.prog 3 #[.string s, .int .u64 u] w fun e w' => e = .returned (.bool true) ∧ Below w.heap.size w w' := by
  have HT := Lib.hid hT
  have HU := Lib.hid hu
  have HAw := Lib.hid (awake_yes w hT)
  by_cases hs : 100 < s.size
  · have hs' : 100 < (s.size : Int) := by omega
    clear hT hu hs
    go_enter Tryd.func3, Tryd.ntmps3
    go_wp2_with fail
    refine HAw.out.mono ?_
    rintro e w1 ⟨rfl, hb1⟩
    have HB1 := Lib.hid hb1
    clear hb1 HAw
    go_wp2
    go_ret
    exact ⟨rfl, HB1.out⟩
  have hs' : (s.size : Int) ≤ 100 := by omega
  have HZ := Lib.hid (show s.size ≤ 1000000000 from by omega)
  obtain ⟨l, hl⟩ : ∃ l, l = Lib.decDigits u := ⟨_, rfl⟩
  have HL := Lib.hid hl
  have HNd := Lib.hid (LexNumberWalk.num_dec hu)
  have HSz := Lib.hid (show (⟨l.toArray⟩ : ByteArray).size ≤ 1000000000 from by rw [hl, LexNumberWalk.digs_size]; have := (dec_len64 hu).2; omega)
  rw [← hl] at HNd
  have hn0 : (0 : Int) ≤ (u : Int) := by omega
  clear hT hu hs hl
  cases hp : numP s.data.toList with
  | none =>
    have HV := Lib.hid (show numV s = 0 ∧ numB s = false from by unfold numV numB; rw [hp]; exact ⟨rfl, rfl⟩)
    clear hp
    go_enter Tryd.func3, Tryd.ntmps3
    go_wp2_with fail
    refine HAw.out.mono ?_
    rintro e w1 ⟨rfl, hb1⟩
    have HB1 := Lib.hid hb1
    have HN := Lib.hid (number_any s HZ.out w1 (HT.out.below hb1))
    clear hb1 HAw
    go_wp2_with fail
    refine HN.out.mono ?_
    rintro e w2 ⟨rfl, hb2⟩
    rw [HV.out.1, HV.out.2]
    have HB2 := Lib.hid (HB1.out.trans (hb2.mono HB1.out.size))
    have HR := Lib.hid (rnumber_any s HZ.out w2)
    clear hb2 HN
    go_wp2_with fail
    refine HR.out.mono ?_
    rintro e w3 ⟨rfl, rfl⟩
    rw [HV.out.1, HV.out.2]
    have HD := Lib.hid (digits_any u HU.out w2 (HT.out.below HB2.out))
    rw [← HL.out] at HD
    clear HR
    go_wp2_with fail
    refine HD.out.mono ?_
    rintro e w4 ⟨rfl, hb4⟩
    have HB4 := Lib.hid (HB2.out.trans (hb4.mono HB2.out.size))
    have HN := Lib.hid (number_any ⟨l.toArray⟩ HSz.out w4 (HT.out.below HB4.out))
    clear hb4 HD
    go_wp2_with fail
    refine HN.out.mono ?_
    rintro e w5 ⟨rfl, hb5⟩
    rw [HNd.out.1, HNd.out.2]
    have HB5 := Lib.hid (HB4.out.trans (hb5.mono HB4.out.size))
    have HRd := Lib.hid (rdigits_any u HU.out w5)
    rw [← HL.out] at HRd
    clear hb5 HN
    go_wp2_with fail
    refine HRd.out.mono ?_
    rintro e w6 ⟨rfl, hb6⟩
    have HB6 := Lib.hid (HB5.out.trans (hb6.mono HB5.out.size))
    clear hb6 HRd
    go_wp2
    go_ret
    exact ⟨rfl, HB6.out⟩
  | some v =>
    have HV := Lib.hid (show numV s = v ∧ numB s = true from by unfold numV numB; rw [hp]; exact ⟨rfl, rfl⟩)
    have HW := Lib.hid (numP_some hp)
    have heq : (Lib.decDigits v == s.toList) = true := by rw [ByteArray.toList_eq, (numP_some hp).1]; simp
    have hv0 : (0 : Int) ≤ (v : Int) := by omega
    obtain ⟨m, hm⟩ : ∃ m, m = Lib.decDigits v := ⟨_, rfl⟩
    have HM := Lib.hid hm
    rw [← hm] at heq
    clear hp hm
    go_enter Tryd.func3, Tryd.ntmps3
    go_wp2_with fail
    refine HAw.out.mono ?_
    rintro e w1 ⟨rfl, hb1⟩
    have HB1 := Lib.hid hb1
    have HN := Lib.hid (number_any s HZ.out w1 (HT.out.below hb1))
    clear hb1 HAw
    go_wp2_with fail
    refine HN.out.mono ?_
    rintro e w2 ⟨rfl, hb2⟩
    rw [HV.out.1, HV.out.2]
    have HB2 := Lib.hid (HB1.out.trans (hb2.mono HB1.out.size))
    have HR := Lib.hid (rnumber_any s HZ.out w2)
    clear hb2 HN
    go_wp2_with fail
    refine HR.out.mono ?_
    rintro e w3 ⟨rfl, rfl⟩
    rw [HV.out.1, HV.out.2]
    have HD := Lib.hid (digits_any u HU.out w2 (HT.out.below HB2.out))
    rw [← HL.out] at HD
    clear HR
    go_wp2_with fail
    refine HD.out.mono ?_
    rintro e w4 ⟨rfl, hb4⟩
    have HB4 := Lib.hid (HB2.out.trans (hb4.mono HB2.out.size))
    have HN := Lib.hid (number_any ⟨l.toArray⟩ HSz.out w4 (HT.out.below HB4.out))
    clear hb4 HD
    go_wp2_with fail
    refine HN.out.mono ?_
    rintro e w5 ⟨rfl, hb5⟩
    rw [HNd.out.1, HNd.out.2]
    have HB5 := Lib.hid (HB4.out.trans (hb5.mono HB4.out.size))
    have HRd := Lib.hid (rdigits_any u HU.out w5)
    rw [← HL.out] at HRd
    clear hb5 HN
    go_wp2_with fail
    refine HRd.out.mono ?_
    rintro e w6 ⟨rfl, hb6⟩
    have HB6 := Lib.hid (HB5.out.trans (hb6.mono HB5.out.size))
    have HD := Lib.hid (digits_any v HW.out.2 w6 (HT.out.below HB6.out))
    rw [← HM.out] at HD
    clear hb6 HRd
    go_wp2_with fail
    refine HD.out.mono ?_
    rintro e w7 ⟨rfl, hb7⟩
    have HB7 := Lib.hid (HB6.out.trans (hb7.mono HB6.out.size))
    clear hb7 HD
    go_wp2
    go_ret
    exact ⟨rfl, HB7.out⟩
theorem walk (a0 : ByteArray) (a1 : Int) (w : World) (w0 : a0.size ≤ maxLen) (w1 : (Lit.int .u64 a1).wf = true) (hT : LxT w) :
    Calls Tryd.prog 3 #[.string a0, .int .u64 a1] w fun e w' => e = .returned (.bool true) ∧ Below w.heap.size w w' := by
  have hb := bounds_u64 w1
  obtain ⟨u, rfl⟩ : ∃ u : Nat, a1 = u := ⟨a1.toNat, by omega⟩
  exact walkN a0 u (by omega) w hT
end Go.Proofs.YtlkpfblpofjekaaDoor.LexNumbersWalk
