/- The walk of the statement MemPokes: it returns true, and writes nothing that was there. -/
import Derived.Test.YtpfohbinjcdcbaaMemTwo
namespace Go.Proofs.Ytpfohbinjcdcbaa.MemPokesWalk
open Go.RowKit Go.Maps
set_option linter.unusedVariables false

theorem same_true (A B : Option Addr) (l : List Int) (n m ca cb : Nat) (w : World) (ha : Sl w A l) (hb : Sl w B l) (hn : l.length = n) (hm : l.length = m) (hmax : n ≤ 9223372036854775807) :
    Calls Try.prog 16 #[.slice A n ca, .slice B m cb] w fun e w' => e = .returned (.bool true) ∧ ∃ k, w' = w.drewN k := by
  have h := same_any A B l l n m ca cb w ha hb hn hm hmax
  rwa [show (l == l) = true by simp] at h
set_option maxRecDepth 100000 in
theorem walk_long (A : Option Addr) (q c : Nat) (a : Int) (hq : 100 < q) (h1 : q ≤ 9223372036854775807) (w : World) :
    Calls Try.prog 6 #[.slice A q c, .int .u8 a] w fun e w' => e = .returned (.bool true) ∧ Below w.heap.size w w' := by
  have hq' : (100 : Int) < q := by omega
  go_enter Try.func6, Try.ntmps6
  go_wp2_with fail
  refine (awakeM _).mono ?_
  rintro e w1 ⟨rfl, hb1⟩
  have H1 := Lib.hid hb1
  clear hb1
  go_wp2
  go_ret
  exact ⟨rfl, H1.out⟩
/-- what the walk holds behind the two peeks of all: two rows of 64 bytes, and all that was there -/
def PK (w : World) (A : Option Addr) (l : List Int) (g1 g2 : Nat) (lo hi : List Int) (w' : World) : Prop :=
  Below w.heap.size w w' ∧ Sl w' A l ∧ Sl w' (some ⟨g1, 0, none⟩) lo ∧ Sl w' (some ⟨g2, 0, none⟩) hi ∧ AllB lo ∧ AllB hi ∧ lo.length = 64 ∧ hi.length = 64
theorem sl_at {w : World} {g k : Nat} {l : List Int} (h : Sl w (some ⟨g, 0, none⟩) l) (hk : k < l.length) : w.cell? ⟨g, k, none⟩ = some (.int .u8 (nth l k)) := by
  rcases h with h | ⟨b, o, h, hc⟩
  · subst h; simp at hk
  · injection h with h
    injection h with e1 e2
    subst e1 e2
    have := hc k hk
    rwa [Nat.zero_add] at this
theorem sl_addr {w : World} {ad : Addr} {l : List Int} (h : Sl w (some ad) l) (hl : 0 < l.length) : ∃ b o, ad = ⟨b, o, none⟩ := by
  rcases h with h | ⟨b, o, h, _⟩
  · subst h; simp at hl
  · exact ⟨b, o, Option.some.inj h⟩
theorem sl_atO {w : World} {b o k : Nat} {l : List Int} (h : Sl w (some ⟨b, o, none⟩) l) (hk : k < l.length) : w.cell? ⟨b, o + k, none⟩ = some (.int .u8 (nth l k)) := by
  rcases h with h | ⟨b', o', h, hc⟩
  · subst h; simp at hk
  · injection h with h
    injection h with e1 e2
    subst e1 e2
    exact hc k hk
set_option maxRecDepth 100000 in
set_option maxHeartbeats 4000000 in
theorem walk_empty (A : Option Addr) (l : List Int) (q c : Nat) (a : Int) (hlq : l.length = q) (hall : AllB l) (hq100 : q ≤ 100) (a0 : 0 ≤ a) (a1 : a ≤ 255) (hq : q = 0) (w : World) (hs : Sl w A l) :
    Calls Try.prog 6 #[.slice A q c, .int .u8 a] w fun e w' => e = .returned (.bool true) ∧ Below w.heap.size w w' := by
  subst hq
  have HL := Lib.hid hlq
  have HS := Lib.hid hs
  have HA := Lib.hid hall
  clear hlq hs hall
  go_enter Try.func6, Try.ntmps6
  go_wp2_with fail
  refine (awakeM _).mono ?_
  rintro e w1 ⟨rfl, hb1⟩
  have H1 := Lib.hid hb1
  clear hb1
  go_wp2_with fail
  refine (new_yes _ 0 2 T2 2 rfl t2_w t2_may _ (t2_tab _)).mono ?_
  rintro e w2 ⟨m, tb, tc, hb, G, rfl, hI, hb2⟩
  have HI := Lib.hid (hI.rebase (Nat.le_trans H1.out.size (by simp)))
  have H2 := Lib.hid ((H1.out.alloc H1.out.size _).trans (hb2.mono (Nat.le_trans H1.out.size (by simp))))
  clear hI hb2 H1
  go_wp2_with fail
  refine (poke_none m a A c _).mono ?_
  rintro e w' ⟨rfl, rfl⟩
  have HI3 := Lib.hid HI.out
  have H3 := Lib.hid H2.out
  generalize hB : zerosB T2 = B at *
  have HB := Lib.hid (show nz (B 0) + nz (B 1) = 0 from by rw [← hB]; exact (congr (congrArg _ (nz_zeros 64)) (nz_zeros 64)))
  clear hB HI H2
  go_wp2_with fail
  refine (peek_none m a _).mono ?_
  rintro e w' ⟨rfl, rfl⟩
  have HI4 := Lib.hid HI3.out
  have H4 := Lib.hid H3.out
  clear HI3 H3
  generalize w2 = w4 at *
  go_wp2_with fail
  refine (peek_yes _ m tb tc hb 2 T2 G B 0 64 0 ⟨by omega, by omega⟩ ⟨by omega, by omega⟩ _ HI4.out (t2_f0 (by omega) (by omega) (by omega)) (by omega)).mono ?_
  rw [cut0 (HI4.out.lens 0 (by omega))]
  rintro e w5 ⟨g1, c1, rfl, hs1, hg1, hb5⟩
  have HI5 := Lib.hid (HI4.out.below hb5)
  have H5 := Lib.hid (H4.out.trans (hb5.mono H4.out.size))
  have HS5 := Lib.hid hs1
  clear hs1 hg1 hb5 HI4 H4
  go_wp2_with fail
  refine (peek_yes _ m tb tc hb 2 T2 G B 64 64 1 ⟨by omega, by omega⟩ ⟨by omega, by omega⟩ _ HI5.out (t2_f1 (by omega) (by omega) (by omega)) (by omega)).mono ?_
  rw [cut1 (HI5.out.lens 1 (by omega))]
  rintro e w6 ⟨g2, c2, rfl, hs2, hg2, hb6⟩
  have HI6 := Lib.hid (HI5.out.below hb6)
  have H6 := Lib.hid (H5.out.trans (hb6.mono H5.out.size))
  have HS6 := Lib.hid (HS5.out.below hb6)
  have HT6 := Lib.hid hs2
  have HV := Lib.hid (HS.out.below H6.out)
  clear hs2 hg2 hb6 HI5 H5 HS5
  have HB0 := Lib.hid (show (B 0).length = 64 from HI6.out.lens 0 (by omega))
  have HB1 := Lib.hid (show (B 1).length = 64 from HI6.out.lens 1 (by omega))
  have HA0 := Lib.hid (HI6.out.all 0 (by omega))
  have HA1 := Lib.hid (HI6.out.all 1 (by omega))
  clear HI6
  go_wp2_with fail
  go_loop [16, 17] (fun x i => ∃ k : Nat, k ≤ 64 ∧ i = .int .i64 k ∧ x = .int .i64 ((nz ((B 0).take k) + nz ((B 1).take k) : Nat) : Int)) (fun _ i => 64 - (intOf i).toNat)
  case atStart => exact ⟨0, by omega, rfl, rfl⟩
  case round =>
    obtain ⟨k, hk, rfl, rfl⟩ := hrel
    by_cases hlt : k < 64
    · have k0 : (0 : Int) ≤ k := by omega
      have k1 : (k : Int) < 64 := by omega
      have e0 := sl_at HS6.out (k := k) (by rw [HB0.out]; omega)
      have e1 := sl_at HT6.out (k := k) (by rw [HB1.out]; omega)
      obtain ⟨u0, u1⟩ := nth_all HA0.out k
      obtain ⟨u2, u3⟩ := nth_all HA1.out k
      have t0 := nz_take (B 0) k
      have t1 := nz_take (B 1) k
      have Z0 := Lib.hid (nz_step (l := B 0) (k := k) (by rw [HB0.out]; omega))
      have Z1 := Lib.hid (nz_step (l := B 1) (k := k) (by rw [HB1.out]; omega))
      generalize nth (B 0) k = v0 at *
      generalize nth (B 1) k = v1 at *
      generalize hn0 : nz ((B 0).take k) = n0 at *
      generalize hn1 : nz ((B 1).take k) = n1 at *
      have N0 := Lib.hid hn0
      have N1 := Lib.hid hn1
      clear hn0 hn1
      by_cases z0 : v0 = 0 <;> by_cases z1 : v1 = 0
      all_goals
        first | subst z0 | skip
        first | subst z1 | skip
        go_wp2
        go_round
        case rel => exact ⟨k + 1, by omega, by go_num, by rw [Z0.out, Z1.out]; simp [*] <;> omega⟩
        case measure => simp [intOf]; omega
    · obtain rfl : k = 64 := by omega
      have M0 := Lib.hid (nz_all HB0.out)
      have M1 := Lib.hid (nz_all HB1.out)
      rw [M0.out, M1.out, HB.out]
      clear M0 M1
      go_wp2_with fail
      go_loop [18, 19] (fun x i => i = .int .i64 0 ∧ x = .int .i64 0) (fun _ i => 0)
      case atStart => exact ⟨rfl, rfl⟩
      case round =>
        obtain ⟨rfl, rfl⟩ := hrel
        go_wp2_with fail
        refine (same_true _ _ [] 0 0 _ _ _ (.inl rfl) (.inl rfl) rfl rfl (by omega)).mono ?_
        rintro e w7 ⟨rfl, n7, rfl⟩
        go_wp2
        go_ret
        exact ⟨rfl, bel_drewN H6.out _⟩
set_option maxRecDepth 100000 in
set_option maxHeartbeats 4000000 in
theorem walk_in0 (A : Option Addr) (l : List Int) (q c : Nat) (a : Int) (hlq : l.length = q) (hall : AllB l) (hq100 : q ≤ 100) (a0 : 0 ≤ a) (a1 : a ≤ 255) (hq : 1 ≤ q) (f0 : a + (q : Int) ≤ 64) (w : World) (hs : Sl w A l) :
    Calls Try.prog 6 #[.slice A q c, .int .u8 a] w fun e w' => e = .returned (.bool true) ∧ Below w.heap.size w w' := by
  have HL := Lib.hid hlq
  have HS := Lib.hid hs
  have HA := Lib.hid hall
  have f2 : a < 64 := by omega
  have q0 : (1 : Int) ≤ (q : Nat) := by omega
  have q2 : (((q : Nat) : Int) == 0) = false := by rw [beq_eq_false_iff_ne]; omega
  have hq3 : ((q : Nat) : Int) ≤ 100 := by omega
  clear hlq hs hall
  go_enter Try.func6, Try.ntmps6
  go_wp2_with fail
  refine (awakeM _).mono ?_
  rintro e w1 ⟨rfl, hb1⟩
  have H1 := Lib.hid hb1
  clear hb1
  go_wp2_with fail
  refine (new_yes _ 0 2 T2 2 rfl t2_w t2_may _ (t2_tab _)).mono ?_
  rintro e w2 ⟨m, tb, tc, hb, G, rfl, hI, hb2⟩
  have HI := Lib.hid (hI.rebase (Nat.le_trans H1.out.size (by simp)))
  have H2 := Lib.hid ((H1.out.alloc H1.out.size _).trans (hb2.mono (Nat.le_trans H1.out.size (by simp))))
  clear hI hb2 H1
  go_wp2_with fail
  have HF := Lib.hid (show FindYes T2 a (q : Int) 0 from t2_f0 (by omega) (by omega) (by omega))
  obtain ⟨ad, rfl⟩ := sl_some HS.out (by rw [HL.out]; omega)
  obtain ⟨sb, so, rfl⟩ := sl_addr HS.out (by rw [HL.out]; omega)
  refine (poke_yes _ m tb tc hb 2 T2 G _ a ⟨sb, so, none⟩ q c l 0 ⟨by omega, by omega⟩ (by omega) _ HI.out HF.out HL.out HA.out (HS.out.below H2.out)).mono ?_
  rintro e w3 ⟨rfl, hI3, hg3⟩
  have H3 := Lib.hid (H2.out.grown hg3 H2.out.size (fun j hj => by cases hj; exact HI.out.from_ 0 (by omega)))
  have HI3 := Lib.hid hI3
  have ho : (a - rlo (nthR T2 0)).toNat + l.length ≤ 64 := by rw [HL.out]; show (a - 0).toNat + q ≤ 64; omega
  have HC := Lib.hid (show cut T2 (setB (zerosB T2) 0 (splice (zerosB T2 0) (a - rlo (nthR T2 0)).toNat l)) a (q : Int) 0 = l from by
    unfold cut
    rw [setB_same, Int.toNat_natCast, ← HL.out]
    exact cut_splice (by show _ ≤ (List.replicate 64 (0 : Int)).length; simpa using ho))
  have HB := Lib.hid (show nz (setB (zerosB T2) 0 (splice (zerosB T2 0) (a - rlo (nthR T2 0)).toNat l) 0) + nz (setB (zerosB T2) 0 (splice (zerosB T2 0) (a - rlo (nthR T2 0)).toNat l) 1) = nz l from by
    have e1 : nz (splice (zerosB T2 0) (a - rlo (nthR T2 0)).toNat l) = nz l := nz_splice (n := 64) (o := (a - rlo (nthR T2 0)).toNat) ho
    have e2 : nz (zerosB T2 1) = 0 := nz_zeros 64
    rw [setB_same, setB_other _ _ (by decide)]
    omega)
  clear hI3 hg3 ho HI H2
  generalize setB (zerosB T2) 0 (splice (zerosB T2 0) (a - rlo (nthR T2 0)).toNat l) = B at *
  go_wp2_with fail
  refine (peek_yes _ m tb tc hb 2 T2 G B a (q : Int) 0 ⟨by omega, by omega⟩ ⟨by omega, by omega⟩ _ HI3.out HF.out (by omega)).mono ?_
  rw [HC.out]
  rintro e w4 ⟨g0, c0, rfl, hs0, hg0, hb4⟩
  have HI4 := Lib.hid (HI3.out.below hb4)
  have H4 := Lib.hid (H3.out.trans (hb4.mono H3.out.size))
  have HX := Lib.hid hs0
  clear hs0 hg0 hb4 HI3 H3
  go_wp2_with fail
  refine (peek_yes _ m tb tc hb 2 T2 G B 0 64 0 ⟨by omega, by omega⟩ ⟨by omega, by omega⟩ _ HI4.out (t2_f0 (by omega) (by omega) (by omega)) (by omega)).mono ?_
  rw [cut0 (HI4.out.lens 0 (by omega))]
  rintro e w5 ⟨g1, c1, rfl, hs1, hg1, hb5⟩
  have HI5 := Lib.hid (HI4.out.below hb5)
  have H5 := Lib.hid (H4.out.trans (hb5.mono H4.out.size))
  have HS5 := Lib.hid hs1
  have HX5 := Lib.hid (HX.out.below hb5)
  clear hs1 hg1 hb5 HI4 H4
  go_wp2_with fail
  refine (peek_yes _ m tb tc hb 2 T2 G B 64 64 1 ⟨by omega, by omega⟩ ⟨by omega, by omega⟩ _ HI5.out (t2_f1 (by omega) (by omega) (by omega)) (by omega)).mono ?_
  rw [cut1 (HI5.out.lens 1 (by omega))]
  rintro e w6 ⟨g2, c2, rfl, hs2, hg2, hb6⟩
  have HI6 := Lib.hid (HI5.out.below hb6)
  have H6 := Lib.hid (H5.out.trans (hb6.mono H5.out.size))
  have HS6 := Lib.hid (HS5.out.below hb6)
  have HT6 := Lib.hid hs2
  have HV := Lib.hid (HS.out.below H6.out)
  have HX6 := Lib.hid (HX5.out.below hb6)
  clear hs2 hg2 hb6 HI5 H5 HS5 HX5 HX
  have HB0 := Lib.hid (show (B 0).length = 64 from HI6.out.lens 0 (by omega))
  have HB1 := Lib.hid (show (B 1).length = 64 from HI6.out.lens 1 (by omega))
  have HA0 := Lib.hid (HI6.out.all 0 (by omega))
  have HA1 := Lib.hid (HI6.out.all 1 (by omega))
  clear HI6
  go_wp2_with fail
  go_loop [16, 17] (fun x i => ∃ k : Nat, k ≤ 64 ∧ i = .int .i64 k ∧ x = .int .i64 ((nz ((B 0).take k) + nz ((B 1).take k) : Nat) : Int)) (fun _ i => 64 - (intOf i).toNat)
  case atStart => exact ⟨0, by omega, rfl, rfl⟩
  case round =>
    obtain ⟨k, hk, rfl, rfl⟩ := hrel
    by_cases hlt : k < 64
    · have k0 : (0 : Int) ≤ k := by omega
      have k1 : (k : Int) < 64 := by omega
      have e0 := sl_at HS6.out (k := k) (by rw [HB0.out]; omega)
      have e1 := sl_at HT6.out (k := k) (by rw [HB1.out]; omega)
      obtain ⟨u0, u1⟩ := nth_all HA0.out k
      obtain ⟨u2, u3⟩ := nth_all HA1.out k
      have t0 := nz_take (B 0) k
      have t1 := nz_take (B 1) k
      have Z0 := Lib.hid (nz_step (l := B 0) (k := k) (by rw [HB0.out]; omega))
      have Z1 := Lib.hid (nz_step (l := B 1) (k := k) (by rw [HB1.out]; omega))
      generalize nth (B 0) k = v0 at *
      generalize nth (B 1) k = v1 at *
      generalize hn0 : nz ((B 0).take k) = n0 at *
      generalize hn1 : nz ((B 1).take k) = n1 at *
      have N0 := Lib.hid hn0
      have N1 := Lib.hid hn1
      clear hn0 hn1
      by_cases z0 : v0 = 0 <;> by_cases z1 : v1 = 0
      all_goals
        first | subst z0 | skip
        first | subst z1 | skip
        go_wp2
        go_round
        case rel => exact ⟨k + 1, by omega, by go_num, by rw [Z0.out, Z1.out]; simp [*] <;> omega⟩
        case measure => simp [intOf]; omega
    · obtain rfl : k = 64 := by omega
      have M0 := Lib.hid (nz_all HB0.out)
      have M1 := Lib.hid (nz_all HB1.out)
      rw [M0.out, M1.out, HB.out]
      clear M0 M1
      go_wp2_with fail
      go_loop [18, 19] (fun x i => ∃ k : Nat, k ≤ q ∧ i = .int .i64 k ∧ x = .int .i64 ((nz (l.take k) : Nat) : Int)) (fun _ i => q - (intOf i).toNat)
      case atStart => exact ⟨0, by omega, rfl, rfl⟩
      case round =>
        obtain ⟨k, hk2, rfl, rfl⟩ := hrel
        by_cases hlt2 : k < q
        · have k0 : (0 : Int) ≤ k := by omega
          have k1 : (k : Int) < q := by omega
          have e0 := sl_atO HV.out (k := k) (by rw [HL.out]; omega)
          obtain ⟨u0, u1⟩ := nth_all HA.out k
          have t0 := nz_take l k
          have Z0 := Lib.hid (nz_step (l := l) (k := k) (by rw [HL.out]; omega))
          generalize nth l k = v0 at *
          generalize hn0 : nz (l.take k) = n0 at *
          have N0 := Lib.hid hn0
          clear hn0
          by_cases z0 : v0 = 0
          all_goals
            first | subst z0 | skip
            go_wp2
            go_round
            case rel => exact ⟨k + 1, by omega, by go_num, by rw [Z0.out]; simp [*] <;> omega⟩
            case measure => simp [intOf]; omega
        · obtain rfl : k = q := by omega
          rw [nz_all HL.out]
          go_wp2_with fail
          refine (same_true _ _ l k k _ _ _ HX6.out HV.out HL.out HL.out (by omega)).mono ?_
          rintro e w7 ⟨rfl, n7, rfl⟩
          go_wp2
          go_ret
          exact ⟨rfl, bel_drewN H6.out _⟩
set_option maxRecDepth 100000 in
set_option maxHeartbeats 4000000 in
theorem walk_in1 (A : Option Addr) (l : List Int) (q c : Nat) (a : Int) (hlq : l.length = q) (hall : AllB l) (hq100 : q ≤ 100) (a0 : 0 ≤ a) (a1 : a ≤ 255) (hq : 1 ≤ q) (f0 : 64 ≤ a) (f1 : a + (q : Int) ≤ 128) (w : World) (hs : Sl w A l) :
    Calls Try.prog 6 #[.slice A q c, .int .u8 a] w fun e w' => e = .returned (.bool true) ∧ Below w.heap.size w w' := by
  have HL := Lib.hid hlq
  have HS := Lib.hid hs
  have HA := Lib.hid hall
  have f2 : ¬ a < 64 := by omega
  have q0 : (1 : Int) ≤ (q : Nat) := by omega
  have q2 : (((q : Nat) : Int) == 0) = false := by rw [beq_eq_false_iff_ne]; omega
  have hq3 : ((q : Nat) : Int) ≤ 100 := by omega
  clear hlq hs hall
  go_enter Try.func6, Try.ntmps6
  go_wp2_with fail
  refine (awakeM _).mono ?_
  rintro e w1 ⟨rfl, hb1⟩
  have H1 := Lib.hid hb1
  clear hb1
  go_wp2_with fail
  refine (new_yes _ 0 2 T2 2 rfl t2_w t2_may _ (t2_tab _)).mono ?_
  rintro e w2 ⟨m, tb, tc, hb, G, rfl, hI, hb2⟩
  have HI := Lib.hid (hI.rebase (Nat.le_trans H1.out.size (by simp)))
  have H2 := Lib.hid ((H1.out.alloc H1.out.size _).trans (hb2.mono (Nat.le_trans H1.out.size (by simp))))
  clear hI hb2 H1
  go_wp2_with fail
  have HF := Lib.hid (show FindYes T2 a (q : Int) 1 from t2_f1 (by omega) (by omega) (by omega))
  obtain ⟨ad, rfl⟩ := sl_some HS.out (by rw [HL.out]; omega)
  obtain ⟨sb, so, rfl⟩ := sl_addr HS.out (by rw [HL.out]; omega)
  refine (poke_yes _ m tb tc hb 2 T2 G _ a ⟨sb, so, none⟩ q c l 1 ⟨by omega, by omega⟩ (by omega) _ HI.out HF.out HL.out HA.out (HS.out.below H2.out)).mono ?_
  rintro e w3 ⟨rfl, hI3, hg3⟩
  have H3 := Lib.hid (H2.out.grown hg3 H2.out.size (fun j hj => by cases hj; exact HI.out.from_ 1 (by omega)))
  have HI3 := Lib.hid hI3
  have ho : (a - rlo (nthR T2 1)).toNat + l.length ≤ 64 := by rw [HL.out]; show (a - 64).toNat + q ≤ 64; omega
  have HC := Lib.hid (show cut T2 (setB (zerosB T2) 1 (splice (zerosB T2 1) (a - rlo (nthR T2 1)).toNat l)) a (q : Int) 1 = l from by
    unfold cut
    rw [setB_same, Int.toNat_natCast, ← HL.out]
    exact cut_splice (by show _ ≤ (List.replicate 64 (0 : Int)).length; simpa using ho))
  have HB := Lib.hid (show nz (setB (zerosB T2) 1 (splice (zerosB T2 1) (a - rlo (nthR T2 1)).toNat l) 0) + nz (setB (zerosB T2) 1 (splice (zerosB T2 1) (a - rlo (nthR T2 1)).toNat l) 1) = nz l from by
    have e1 : nz (splice (zerosB T2 1) (a - rlo (nthR T2 1)).toNat l) = nz l := nz_splice (n := 64) (o := (a - rlo (nthR T2 1)).toNat) ho
    have e2 : nz (zerosB T2 0) = 0 := nz_zeros 64
    rw [setB_same, setB_other _ _ (by decide)]
    omega)
  clear hI3 hg3 ho HI H2
  generalize setB (zerosB T2) 1 (splice (zerosB T2 1) (a - rlo (nthR T2 1)).toNat l) = B at *
  go_wp2_with fail
  refine (peek_yes _ m tb tc hb 2 T2 G B a (q : Int) 1 ⟨by omega, by omega⟩ ⟨by omega, by omega⟩ _ HI3.out HF.out (by omega)).mono ?_
  rw [HC.out]
  rintro e w4 ⟨g0, c0, rfl, hs0, hg0, hb4⟩
  have HI4 := Lib.hid (HI3.out.below hb4)
  have H4 := Lib.hid (H3.out.trans (hb4.mono H3.out.size))
  have HX := Lib.hid hs0
  clear hs0 hg0 hb4 HI3 H3
  go_wp2_with fail
  refine (peek_yes _ m tb tc hb 2 T2 G B 0 64 0 ⟨by omega, by omega⟩ ⟨by omega, by omega⟩ _ HI4.out (t2_f0 (by omega) (by omega) (by omega)) (by omega)).mono ?_
  rw [cut0 (HI4.out.lens 0 (by omega))]
  rintro e w5 ⟨g1, c1, rfl, hs1, hg1, hb5⟩
  have HI5 := Lib.hid (HI4.out.below hb5)
  have H5 := Lib.hid (H4.out.trans (hb5.mono H4.out.size))
  have HS5 := Lib.hid hs1
  have HX5 := Lib.hid (HX.out.below hb5)
  clear hs1 hg1 hb5 HI4 H4
  go_wp2_with fail
  refine (peek_yes _ m tb tc hb 2 T2 G B 64 64 1 ⟨by omega, by omega⟩ ⟨by omega, by omega⟩ _ HI5.out (t2_f1 (by omega) (by omega) (by omega)) (by omega)).mono ?_
  rw [cut1 (HI5.out.lens 1 (by omega))]
  rintro e w6 ⟨g2, c2, rfl, hs2, hg2, hb6⟩
  have HI6 := Lib.hid (HI5.out.below hb6)
  have H6 := Lib.hid (H5.out.trans (hb6.mono H5.out.size))
  have HS6 := Lib.hid (HS5.out.below hb6)
  have HT6 := Lib.hid hs2
  have HV := Lib.hid (HS.out.below H6.out)
  have HX6 := Lib.hid (HX5.out.below hb6)
  clear hs2 hg2 hb6 HI5 H5 HS5 HX5 HX
  have HB0 := Lib.hid (show (B 0).length = 64 from HI6.out.lens 0 (by omega))
  have HB1 := Lib.hid (show (B 1).length = 64 from HI6.out.lens 1 (by omega))
  have HA0 := Lib.hid (HI6.out.all 0 (by omega))
  have HA1 := Lib.hid (HI6.out.all 1 (by omega))
  clear HI6
  go_wp2_with fail
  go_loop [16, 17] (fun x i => ∃ k : Nat, k ≤ 64 ∧ i = .int .i64 k ∧ x = .int .i64 ((nz ((B 0).take k) + nz ((B 1).take k) : Nat) : Int)) (fun _ i => 64 - (intOf i).toNat)
  case atStart => exact ⟨0, by omega, rfl, rfl⟩
  case round =>
    obtain ⟨k, hk, rfl, rfl⟩ := hrel
    by_cases hlt : k < 64
    · have k0 : (0 : Int) ≤ k := by omega
      have k1 : (k : Int) < 64 := by omega
      have e0 := sl_at HS6.out (k := k) (by rw [HB0.out]; omega)
      have e1 := sl_at HT6.out (k := k) (by rw [HB1.out]; omega)
      obtain ⟨u0, u1⟩ := nth_all HA0.out k
      obtain ⟨u2, u3⟩ := nth_all HA1.out k
      have t0 := nz_take (B 0) k
      have t1 := nz_take (B 1) k
      have Z0 := Lib.hid (nz_step (l := B 0) (k := k) (by rw [HB0.out]; omega))
      have Z1 := Lib.hid (nz_step (l := B 1) (k := k) (by rw [HB1.out]; omega))
      generalize nth (B 0) k = v0 at *
      generalize nth (B 1) k = v1 at *
      generalize hn0 : nz ((B 0).take k) = n0 at *
      generalize hn1 : nz ((B 1).take k) = n1 at *
      have N0 := Lib.hid hn0
      have N1 := Lib.hid hn1
      clear hn0 hn1
      by_cases z0 : v0 = 0 <;> by_cases z1 : v1 = 0
      all_goals
        first | subst z0 | skip
        first | subst z1 | skip
        go_wp2
        go_round
        case rel => exact ⟨k + 1, by omega, by go_num, by rw [Z0.out, Z1.out]; simp [*] <;> omega⟩
        case measure => simp [intOf]; omega
    · obtain rfl : k = 64 := by omega
      have M0 := Lib.hid (nz_all HB0.out)
      have M1 := Lib.hid (nz_all HB1.out)
      rw [M0.out, M1.out, HB.out]
      clear M0 M1
      go_wp2_with fail
      go_loop [18, 19] (fun x i => ∃ k : Nat, k ≤ q ∧ i = .int .i64 k ∧ x = .int .i64 ((nz (l.take k) : Nat) : Int)) (fun _ i => q - (intOf i).toNat)
      case atStart => exact ⟨0, by omega, rfl, rfl⟩
      case round =>
        obtain ⟨k, hk2, rfl, rfl⟩ := hrel
        by_cases hlt2 : k < q
        · have k0 : (0 : Int) ≤ k := by omega
          have k1 : (k : Int) < q := by omega
          have e0 := sl_atO HV.out (k := k) (by rw [HL.out]; omega)
          obtain ⟨u0, u1⟩ := nth_all HA.out k
          have t0 := nz_take l k
          have Z0 := Lib.hid (nz_step (l := l) (k := k) (by rw [HL.out]; omega))
          generalize nth l k = v0 at *
          generalize hn0 : nz (l.take k) = n0 at *
          have N0 := Lib.hid hn0
          clear hn0
          by_cases z0 : v0 = 0
          all_goals
            first | subst z0 | skip
            go_wp2
            go_round
            case rel => exact ⟨k + 1, by omega, by go_num, by rw [Z0.out]; simp [*] <;> omega⟩
            case measure => simp [intOf]; omega
        · obtain rfl : k = q := by omega
          rw [nz_all HL.out]
          go_wp2_with fail
          refine (same_true _ _ l k k _ _ _ HX6.out HV.out HL.out HL.out (by omega)).mono ?_
          rintro e w7 ⟨rfl, n7, rfl⟩
          go_wp2
          go_ret
          exact ⟨rfl, bel_drewN H6.out _⟩
set_option maxRecDepth 100000 in
set_option maxHeartbeats 4000000 in
theorem walk_mis0 (A : Option Addr) (l : List Int) (q c : Nat) (a : Int) (hlq : l.length = q) (hall : AllB l) (hq100 : q ≤ 100) (a0 : 0 ≤ a) (a1 : a ≤ 255) (hq : 1 ≤ q) (f0 : a < 64) (f1 : 64 < a + (q : Int)) (w : World) (hs : Sl w A l) :
    Calls Try.prog 6 #[.slice A q c, .int .u8 a] w fun e w' => e = .returned (.bool true) ∧ Below w.heap.size w w' := by
  have HL := Lib.hid hlq
  have HS := Lib.hid hs
  have HA := Lib.hid hall
  have q0 : (1 : Int) ≤ (q : Nat) := by omega
  have q2 : (((q : Nat) : Int) == 0) = false := by rw [beq_eq_false_iff_ne]; omega
  have hq3 : ((q : Nat) : Int) ≤ 100 := by omega
  clear hlq hs hall
  go_enter Try.func6, Try.ntmps6
  go_wp2_with fail
  refine (awakeM _).mono ?_
  rintro e w1 ⟨rfl, hb1⟩
  have H1 := Lib.hid hb1
  clear hb1
  go_wp2_with fail
  refine (new_yes _ 0 2 T2 2 rfl t2_w t2_may _ (t2_tab _)).mono ?_
  rintro e w2 ⟨m, tb, tc, hb, G, rfl, hI, hb2⟩
  have HI := Lib.hid (hI.rebase (Nat.le_trans H1.out.size (by simp)))
  have H2 := Lib.hid ((H1.out.alloc H1.out.size _).trans (hb2.mono (Nat.le_trans H1.out.size (by simp))))
  clear hI hb2 H1
  go_wp2_with fail
  have HF := Lib.hid (show FindNo T2 a (q : Int) from t2_n (by omega) (by omega) (by omega) (by omega))
  refine (poke_no m tb tc hb 2 T2 G a A q c ⟨by omega, by omega⟩ (by omega) (by omega) _ HI.out.toH HF.out).mono ?_
  rintro e w3 ⟨rfl, hb3⟩
  have HI3 := Lib.hid (HI.out.below hb3)
  have H3 := Lib.hid (H2.out.trans (hb3.mono H2.out.size))
  clear hb3 HI H2
  generalize hB : zerosB T2 = B at *
  have HB := Lib.hid (show nz (B 0) + nz (B 1) = 0 from by rw [← hB]; exact (congr (congrArg _ (nz_zeros 64)) (nz_zeros 64)))
  clear hB
  go_wp2_with fail
  refine (peek_no m tb tc hb 2 T2 G a (q : Int) ⟨by omega, by omega⟩ ⟨by omega, by omega⟩ (by omega) _ HI3.out.toH HF.out).mono ?_
  rintro e w4 ⟨rfl, hb4⟩
  have HI4 := Lib.hid (HI3.out.below hb4)
  have H4 := Lib.hid (H3.out.trans (hb4.mono H3.out.size))
  clear hb4 HI3 H3
  go_wp2_with fail
  refine (peek_yes _ m tb tc hb 2 T2 G B 0 64 0 ⟨by omega, by omega⟩ ⟨by omega, by omega⟩ _ HI4.out (t2_f0 (by omega) (by omega) (by omega)) (by omega)).mono ?_
  rw [cut0 (HI4.out.lens 0 (by omega))]
  rintro e w5 ⟨g1, c1, rfl, hs1, hg1, hb5⟩
  have HI5 := Lib.hid (HI4.out.below hb5)
  have H5 := Lib.hid (H4.out.trans (hb5.mono H4.out.size))
  have HS5 := Lib.hid hs1
  clear hs1 hg1 hb5 HI4 H4
  go_wp2_with fail
  refine (peek_yes _ m tb tc hb 2 T2 G B 64 64 1 ⟨by omega, by omega⟩ ⟨by omega, by omega⟩ _ HI5.out (t2_f1 (by omega) (by omega) (by omega)) (by omega)).mono ?_
  rw [cut1 (HI5.out.lens 1 (by omega))]
  rintro e w6 ⟨g2, c2, rfl, hs2, hg2, hb6⟩
  have HI6 := Lib.hid (HI5.out.below hb6)
  have H6 := Lib.hid (H5.out.trans (hb6.mono H5.out.size))
  have HS6 := Lib.hid (HS5.out.below hb6)
  have HT6 := Lib.hid hs2
  have HV := Lib.hid (HS.out.below H6.out)
  clear hs2 hg2 hb6 HI5 H5 HS5
  have HB0 := Lib.hid (show (B 0).length = 64 from HI6.out.lens 0 (by omega))
  have HB1 := Lib.hid (show (B 1).length = 64 from HI6.out.lens 1 (by omega))
  have HA0 := Lib.hid (HI6.out.all 0 (by omega))
  have HA1 := Lib.hid (HI6.out.all 1 (by omega))
  clear HI6
  go_wp2_with fail
  go_loop [16, 17] (fun x i => ∃ k : Nat, k ≤ 64 ∧ i = .int .i64 k ∧ x = .int .i64 ((nz ((B 0).take k) + nz ((B 1).take k) : Nat) : Int)) (fun _ i => 64 - (intOf i).toNat)
  case atStart => exact ⟨0, by omega, rfl, rfl⟩
  case round =>
    obtain ⟨k, hk, rfl, rfl⟩ := hrel
    by_cases hlt : k < 64
    · have k0 : (0 : Int) ≤ k := by omega
      have k1 : (k : Int) < 64 := by omega
      have e0 := sl_at HS6.out (k := k) (by rw [HB0.out]; omega)
      have e1 := sl_at HT6.out (k := k) (by rw [HB1.out]; omega)
      obtain ⟨u0, u1⟩ := nth_all HA0.out k
      obtain ⟨u2, u3⟩ := nth_all HA1.out k
      have t0 := nz_take (B 0) k
      have t1 := nz_take (B 1) k
      have Z0 := Lib.hid (nz_step (l := B 0) (k := k) (by rw [HB0.out]; omega))
      have Z1 := Lib.hid (nz_step (l := B 1) (k := k) (by rw [HB1.out]; omega))
      generalize nth (B 0) k = v0 at *
      generalize nth (B 1) k = v1 at *
      generalize hn0 : nz ((B 0).take k) = n0 at *
      generalize hn1 : nz ((B 1).take k) = n1 at *
      have N0 := Lib.hid hn0
      have N1 := Lib.hid hn1
      clear hn0 hn1
      by_cases z0 : v0 = 0 <;> by_cases z1 : v1 = 0
      all_goals
        first | subst z0 | skip
        first | subst z1 | skip
        go_wp2
        go_round
        case rel => exact ⟨k + 1, by omega, by go_num, by rw [Z0.out, Z1.out]; simp [*] <;> omega⟩
        case measure => simp [intOf]; omega
    · obtain rfl : k = 64 := by omega
      have M0 := Lib.hid (nz_all HB0.out)
      have M1 := Lib.hid (nz_all HB1.out)
      rw [M0.out, M1.out, HB.out]
      clear M0 M1
      go_wp2_with fail
      go_loop [18, 19] (fun x i => i = .int .i64 0 ∧ x = .int .i64 0) (fun _ i => 0)
      case atStart => exact ⟨rfl, rfl⟩
      case round =>
        obtain ⟨rfl, rfl⟩ := hrel
        go_wp2
        go_ret
        exact ⟨rfl, H6.out⟩
set_option maxRecDepth 100000 in
set_option maxHeartbeats 4000000 in
theorem walk_mis1 (A : Option Addr) (l : List Int) (q c : Nat) (a : Int) (hlq : l.length = q) (hall : AllB l) (hq100 : q ≤ 100) (a0 : 0 ≤ a) (a1 : a ≤ 255) (hq : 1 ≤ q) (f0 : 64 ≤ a) (f1 : 128 < a + (q : Int)) (w : World) (hs : Sl w A l) :
    Calls Try.prog 6 #[.slice A q c, .int .u8 a] w fun e w' => e = .returned (.bool true) ∧ Below w.heap.size w w' := by
  have HL := Lib.hid hlq
  have HS := Lib.hid hs
  have HA := Lib.hid hall
  have f2 : ¬ a < 64 := by omega
  have q0 : (1 : Int) ≤ (q : Nat) := by omega
  have q2 : (((q : Nat) : Int) == 0) = false := by rw [beq_eq_false_iff_ne]; omega
  have hq3 : ((q : Nat) : Int) ≤ 100 := by omega
  clear hlq hs hall
  go_enter Try.func6, Try.ntmps6
  go_wp2_with fail
  refine (awakeM _).mono ?_
  rintro e w1 ⟨rfl, hb1⟩
  have H1 := Lib.hid hb1
  clear hb1
  go_wp2_with fail
  refine (new_yes _ 0 2 T2 2 rfl t2_w t2_may _ (t2_tab _)).mono ?_
  rintro e w2 ⟨m, tb, tc, hb, G, rfl, hI, hb2⟩
  have HI := Lib.hid (hI.rebase (Nat.le_trans H1.out.size (by simp)))
  have H2 := Lib.hid ((H1.out.alloc H1.out.size _).trans (hb2.mono (Nat.le_trans H1.out.size (by simp))))
  clear hI hb2 H1
  go_wp2_with fail
  have HF := Lib.hid (show FindNo T2 a (q : Int) from t2_n (by omega) (by omega) (by omega) (by omega))
  refine (poke_no m tb tc hb 2 T2 G a A q c ⟨by omega, by omega⟩ (by omega) (by omega) _ HI.out.toH HF.out).mono ?_
  rintro e w3 ⟨rfl, hb3⟩
  have HI3 := Lib.hid (HI.out.below hb3)
  have H3 := Lib.hid (H2.out.trans (hb3.mono H2.out.size))
  clear hb3 HI H2
  generalize hB : zerosB T2 = B at *
  have HB := Lib.hid (show nz (B 0) + nz (B 1) = 0 from by rw [← hB]; exact (congr (congrArg _ (nz_zeros 64)) (nz_zeros 64)))
  clear hB
  go_wp2_with fail
  refine (peek_no m tb tc hb 2 T2 G a (q : Int) ⟨by omega, by omega⟩ ⟨by omega, by omega⟩ (by omega) _ HI3.out.toH HF.out).mono ?_
  rintro e w4 ⟨rfl, hb4⟩
  have HI4 := Lib.hid (HI3.out.below hb4)
  have H4 := Lib.hid (H3.out.trans (hb4.mono H3.out.size))
  clear hb4 HI3 H3
  go_wp2_with fail
  refine (peek_yes _ m tb tc hb 2 T2 G B 0 64 0 ⟨by omega, by omega⟩ ⟨by omega, by omega⟩ _ HI4.out (t2_f0 (by omega) (by omega) (by omega)) (by omega)).mono ?_
  rw [cut0 (HI4.out.lens 0 (by omega))]
  rintro e w5 ⟨g1, c1, rfl, hs1, hg1, hb5⟩
  have HI5 := Lib.hid (HI4.out.below hb5)
  have H5 := Lib.hid (H4.out.trans (hb5.mono H4.out.size))
  have HS5 := Lib.hid hs1
  clear hs1 hg1 hb5 HI4 H4
  go_wp2_with fail
  refine (peek_yes _ m tb tc hb 2 T2 G B 64 64 1 ⟨by omega, by omega⟩ ⟨by omega, by omega⟩ _ HI5.out (t2_f1 (by omega) (by omega) (by omega)) (by omega)).mono ?_
  rw [cut1 (HI5.out.lens 1 (by omega))]
  rintro e w6 ⟨g2, c2, rfl, hs2, hg2, hb6⟩
  have HI6 := Lib.hid (HI5.out.below hb6)
  have H6 := Lib.hid (H5.out.trans (hb6.mono H5.out.size))
  have HS6 := Lib.hid (HS5.out.below hb6)
  have HT6 := Lib.hid hs2
  have HV := Lib.hid (HS.out.below H6.out)
  clear hs2 hg2 hb6 HI5 H5 HS5
  have HB0 := Lib.hid (show (B 0).length = 64 from HI6.out.lens 0 (by omega))
  have HB1 := Lib.hid (show (B 1).length = 64 from HI6.out.lens 1 (by omega))
  have HA0 := Lib.hid (HI6.out.all 0 (by omega))
  have HA1 := Lib.hid (HI6.out.all 1 (by omega))
  clear HI6
  go_wp2_with fail
  go_loop [16, 17] (fun x i => ∃ k : Nat, k ≤ 64 ∧ i = .int .i64 k ∧ x = .int .i64 ((nz ((B 0).take k) + nz ((B 1).take k) : Nat) : Int)) (fun _ i => 64 - (intOf i).toNat)
  case atStart => exact ⟨0, by omega, rfl, rfl⟩
  case round =>
    obtain ⟨k, hk, rfl, rfl⟩ := hrel
    by_cases hlt : k < 64
    · have k0 : (0 : Int) ≤ k := by omega
      have k1 : (k : Int) < 64 := by omega
      have e0 := sl_at HS6.out (k := k) (by rw [HB0.out]; omega)
      have e1 := sl_at HT6.out (k := k) (by rw [HB1.out]; omega)
      obtain ⟨u0, u1⟩ := nth_all HA0.out k
      obtain ⟨u2, u3⟩ := nth_all HA1.out k
      have t0 := nz_take (B 0) k
      have t1 := nz_take (B 1) k
      have Z0 := Lib.hid (nz_step (l := B 0) (k := k) (by rw [HB0.out]; omega))
      have Z1 := Lib.hid (nz_step (l := B 1) (k := k) (by rw [HB1.out]; omega))
      generalize nth (B 0) k = v0 at *
      generalize nth (B 1) k = v1 at *
      generalize hn0 : nz ((B 0).take k) = n0 at *
      generalize hn1 : nz ((B 1).take k) = n1 at *
      have N0 := Lib.hid hn0
      have N1 := Lib.hid hn1
      clear hn0 hn1
      by_cases z0 : v0 = 0 <;> by_cases z1 : v1 = 0
      all_goals
        first | subst z0 | skip
        first | subst z1 | skip
        go_wp2
        go_round
        case rel => exact ⟨k + 1, by omega, by go_num, by rw [Z0.out, Z1.out]; simp [*] <;> omega⟩
        case measure => simp [intOf]; omega
    · obtain rfl : k = 64 := by omega
      have M0 := Lib.hid (nz_all HB0.out)
      have M1 := Lib.hid (nz_all HB1.out)
      rw [M0.out, M1.out, HB.out]
      clear M0 M1
      go_wp2_with fail
      go_loop [18, 19] (fun x i => i = .int .i64 0 ∧ x = .int .i64 0) (fun _ i => 0)
      case atStart => exact ⟨rfl, rfl⟩
      case round =>
        obtain ⟨rfl, rfl⟩ := hrel
        go_wp2
        go_ret
        exact ⟨rfl, H6.out⟩
theorem walk (A : Option Addr) (len cap : Nat) (z : List Int) (a : Int) (w : World) (hz : IsRow .u8 w A len cap z) (w1 : (Lit.int .u8 a).wf = true) :
    Calls Try.prog 6 #[.slice A len cap, .int .u8 a] w fun e w' => e = .returned (.bool true) ∧ Below w.heap.size w w' := by
  obtain ⟨p0, p1⟩ := bounds_u8 w1
  obtain ⟨hs, hl, ha, hm⟩ := hz.sl
  have hm' : len ≤ 9223372036854775807 := by unfold maxLen at hm; omega
  by_cases h : 100 < len
  · exact walk_long A len cap a h hm' w
  by_cases h0 : len = 0
  · exact walk_empty A (z.take len) len cap a hl ha (by omega) p0 p1 h0 w hs
  by_cases h1 : a + (len : Int) ≤ 64
  · exact walk_in0 A (z.take len) len cap a hl ha (by omega) p0 p1 (by omega) h1 w hs
  by_cases h2 : 64 ≤ a
  · by_cases h3 : a + (len : Int) ≤ 128
    · exact walk_in1 A (z.take len) len cap a hl ha (by omega) p0 p1 (by omega) h2 h3 w hs
    · exact walk_mis1 A (z.take len) len cap a hl ha (by omega) p0 p1 (by omega) h2 (by omega) w hs
  · exact walk_mis0 A (z.take len) len cap a hl ha (by omega) p0 p1 (by omega) (by omega) (by omega) w hs
end Go.Proofs.Ytpfohbinjcdcbaa.MemPokesWalk
