/- Layer 5's statements: what build of package caponierlaw05 makes: a memory, and the reference's, with bytes laid into each region from its beginning on.
   Layer 5's statements: build of package caponierlaw05.
   Layer 5: what Events and Leaks of package cpu answer: rows of their own; what slices.Clone of words does.
   Layer 5: what New of package cpu makes. -/
import Derived.Test.YtoeagbcjnffpaaaGreatDoorMemC
import Derived.Test.YtoeagbcjnffpaaaGreatDoorRMemA
import Derived.Test.YtoeagbcjnffpaaaGreatDoorCpuF
import Derived.WalkSpells
import Derived.RegionCalls
namespace Go.Proofs.YtoeagbcjnffpaaaGreatDoor
set_option maxRecDepth 100000
open Go.RowKit Go.Maps
set_option linter.unusedVariables false

/-- do they fit into region k? -/
def fitK (T : List Rg) (k : Nat) (l : List Int) : Prop := 1 ≤ l.length ∧ l.length ≤ lenR (nthR T k)
instance (T : List Rg) (k : Nat) (l : List Int) : Decidable (fitK T k l) := by unfold fitK; infer_instance
def pokeB (T : List Rg) (B : Nat → List Int) (k : Nat) (l : List Int) : Nat → List Int := if fitK T k l then setB B k (splice (B k) 0 l) else B
def pokeL (T : List Rg) (L : List Int) (k : Nat) (l : List Int) : List Int := if fitK T k l then splice L (offT T k) l else L
def rowK (rows : List (List Int)) (k : Nat) : List Int := rows.getD k []
def bB (T : List Rg) (rows : List (List Int)) : Nat → Nat → List Int
  | 0 => zerosB T
  | k + 1 => pokeB T (bB T rows k) k (rowK rows k)
def bL (T : List Rg) (rows : List (List Int)) : Nat → List Int
  | 0 => List.replicate (offT T T.length) 0
  | k + 1 => pokeL T (bL T rows k) k (rowK rows k)
theorem find_lo {T : List Rg} (h : MayT T) {k : Nat} (hk : k < T.length) {q : Nat} (h1 : 1 ≤ q) (h2 : q ≤ lenR (nthR T k)) : FindYes T (rlo (nthR T k)) q k := by
  have := okB_iff.1 (h.2.2.1 k hk)
  unfold lenR at h2
  exact find_is h (by omega) hk (hitB_iff.2 ⟨by omega, by omega, by omega⟩)
theorem find_lo_no {T : List Rg} (h : MayT T) {k : Nat} (hk : k < T.length) {q : Nat} (h2 : ¬ q ≤ lenR (nthR T k)) : FindNo T (rlo (nthR T k)) q := by
  have hok := okB_iff.1 (h.2.2.1 k hk)
  refine .inr (fun j hj => hitB_no.2 ?_)
  rcases Nat.lt_trichotomy j k with h3 | h3 | h3
  · have := h.2.2.2 j k h3 hk; omega
  · subst h3; unfold lenR at h2; omega
  · have := h.2.2.2 k j h3 hj; omega
section
variable {w : World} {base m tb tc hb n : Nat} {T : List Rg} {G : Nat → Nat} {B : Nat → List Int}
theorem mpoke_any (k : Nat) (A : Option Addr) (c : Nat) (l : List Int) (hm : MayT T) (hk : k < n) (hq : l.length ≤ 1000000) (hal : AllB l) (w : World) (hM : MemIs w base m tb tc hb n T G B) (hs : Sl w A l) :
    Calls Tryz.prog 35 #[.pointer (some ⟨m, 0, none⟩), .int .u64 (rlo (nthR T k)), .slice A l.length c] w fun e w' => ∃ cd : Int, e = .returned (.int .i64 cd) ∧ MemIs w' base m tb tc hb n T G (pokeB T B k l) ∧ w.grownBy w' (some (G k)) := by
  have hkT : k < T.length := by rw [hM.toH.len]; exact hk
  have hU := (hM.toH.tabw k hkT).1
  by_cases h1 : l.length = 0
  · have e : l = [] := List.eq_nil_of_length_eq_zero h1
    subst e
    refine (poke_none m _ A c w).mono ?_
    rintro e w' ⟨rfl, rfl⟩
    exact ⟨0, rfl, by unfold pokeB; rw [if_neg (by unfold fitK; simp)]; exact hM, grown_of_below (Below.refl _ _)⟩
  by_cases h2 : l.length ≤ lenR (nthR T k)
  · have hF := find_lo hm hkT (by omega) h2
    obtain ⟨ad, rfl⟩ := sl_some hs (by omega)
    refine (poke_yes base m tb tc hb n T G B _ ad l.length c l k hU hq w hM hF rfl hal hs).mono ?_
    rintro e w' ⟨rfl, hM', hg⟩
    refine ⟨0, rfl, ?_, hg⟩
    unfold pokeB
    rw [if_pos ⟨by omega, h2⟩]
    rw [Int.sub_self] at hM'
    exact hM'
  · refine (poke_no m tb tc hb n T G _ A l.length c hU hq h1 w hM.toH (find_lo_no hm hkT h2)).mono ?_
    rintro e w' ⟨rfl, hb⟩
    exact ⟨13, rfl, by unfold pokeB; rw [if_neg (by unfold fitK; omega)]; exact hM.below hb, grown_of_below hb⟩
end
theorem Sl.kept0 {w w' : World} {A : Option Addr} {l : List Int} {g : Nat} (h : Sl w A l) (hg : w.grownBy w' (some g)) (hne : 0 < l.length → ∀ a, A = some a → a.block ≠ g) : Sl w' A l := by
  by_cases h0 : l = []
  · exact .inl h0
  · exact h.kept hg (hne (List.length_pos_iff.2 h0))
theorem rpoke_any (r tb to tc bb bc n : Nat) (T : List Rg) (L : List Int) (k : Nat) (A : Option Addr) (c : Nat) (l : List Int) (hk : k < n) (hq : l.length ≤ 1000000) (hal : AllB l) (w : World) (hM : RMem w r tb to tc bb bc n T L) (hs : Sl w A l) (hA : 0 < l.length → ∀ a, A = some a → a.block ≠ bb) :
    Calls Tryz.prog 36 #[.pointer (some ⟨r, 0, none⟩), .int .u64 (rlo (nthR T k)), .slice A l.length c] w fun e w' => ∃ cd : Int, e = .returned (.int .i64 cd) ∧ RMem w' r tb to tc bb bc n T (pokeL T L k l) ∧ w.grownBy w' (some bb) := by
  have hkT : k < T.length := by rw [hM.len]; exact hk
  have hU := (hM.tabw k hkT).1
  by_cases h1 : l.length = 0
  · have e : l = [] := List.eq_nil_of_length_eq_zero h1
    subst e
    refine (rpoke_none r tb to tc bb bc n T L _ A c hU w hM).mono ?_
    rintro e w' ⟨rfl, hM', hg⟩
    exact ⟨0, rfl, by unfold pokeL; rw [if_neg (by unfold fitK; simp)]; exact hM', hg⟩
  by_cases h2 : l.length ≤ lenR (nthR T k)
  · have hF := find_lo hM.may hkT (by omega) h2
    obtain ⟨ad, rfl⟩ := sl_some hs (by omega)
    refine (rpoke_yes r tb to tc bb bc n T L _ ad l.length c l k hU hq w hM hF rfl hal hs (hA (by omega) ad rfl)).mono ?_
    rintro e w' ⟨rfl, hM', hg⟩
    refine ⟨0, rfl, ?_, hg⟩
    unfold pokeL
    rw [if_pos ⟨by omega, h2⟩]
    rw [Int.sub_self] at hM'
    exact hM'
  · refine (rpoke_no r tb to tc bb bc n T L _ A l.length c hU hq h1 w hM (find_lo_no hM.may hkT h2)).mono ?_
    rintro e w' ⟨rfl, hM', hg⟩
    exact ⟨13, rfl, by unfold pokeL; rw [if_neg (by unfold fitK; omega)]; exact hM', hg⟩
/-- a world as cells -/
def worldL (tS bS eS : Value) (s : CS) : List Value := tS :: bS :: eS :: stateL s
/-- rows of bytes, each as a slice -/
def RowsAt (w : World) (b o : Nat) (rows : List (List Int)) : Prop := ∀ i, i < rows.length → ∃ A c, w.cell? ⟨b, o + i, none⟩ = some (.slice A (rowK rows i).length c) ∧ Sl w A (rowK rows i) ∧ AllB (rowK rows i) ∧ (rowK rows i).length ≤ 1000000 ∧ (0 < (rowK rows i).length → ∀ a, A = some a → a.block < w.heap.size)
theorem RowsAt.below {w w' : World} {b o : Nat} {rows : List (List Int)} (h : RowsAt w b o rows) (hb : Below w.heap.size w w') : RowsAt w' b o rows := by
  intro i hi
  obtain ⟨A, c, h1, h2, h3, h4, h5⟩ := h i hi
  exact ⟨A, c, by rw [hb.cell (p := ⟨b, o + i, none⟩) (block_lt h1)]; exact h1, h2.below hb, h3, h4, fun h0 a ha => Nat.lt_of_lt_of_le (h5 h0 a ha) hb.size⟩
/-- what build makes -/
def BuildP (w : World) (tb0 to0 tc0 n : Nat) (T : List Rg) (rows : List (List Int)) (e : Ending) (w' : World) : Prop :=
  ∃ m tb tc hb G r bb bc, e = .returned (.tuple #[.pointer (some ⟨m, 0, none⟩), .pointer (some ⟨r, 0, none⟩)]) ∧ MemIs w' w.heap.size m tb tc hb n T G (bB T rows (min n rows.length)) ∧ RMem w' r tb0 to0 tc0 bb bc n T (bL T rows (min n rows.length)) ∧
    w.heap.size ≤ r ∧ w.heap.size ≤ bb ∧ (∀ i, i < n → G i < r ∧ G i < bb) ∧ Below w.heap.size w w'
/-- under way: k regions are laid -/
structure BU (w w1 wr : World) (tb0 to0 tc0 n : Nat) (T : List Rg) (rows : List (List Int)) (m tb tc hb : Nat) (G : Nat → Nat) (r bb bc k : Nat) : Prop where
  mem : MemIs wr w1.heap.size m tb tc hb n T G (bB T rows k)
  rmem : RMem wr r tb0 to0 tc0 bb bc n T (bL T rows k)
  lo : w1.heap.size ≤ r ∧ w1.heap.size ≤ bb
  ap : ∀ i, i < n → G i < r ∧ G i < bb
  mlt : m < r ∧ tb < r ∧ hb < r ∧ m < bb ∧ tb < bb ∧ hb < bb
  bel : Below w1.heap.size w1 wr
theorem RMem.kept {w w' : World} {r tb to tc bb bc n g : Nat} {T : List Rg} {L : List Int} (h : RMem w r tb to tc bb bc n T L) (hg : w.grownBy w' (some g)) (h0 : g ≠ r) (h1 : g ≠ tb) (h2 : g ≠ bb) : RMem w' r tb to tc bb bc n T L := by
  refine ⟨hg.cell h.c0 (by simp; exact Ne.symm h0), hg.cell h.c1 (by simp; exact Ne.symm h0), fun i hi => ?_, h.row.kept hg (by simp; exact Ne.symm h2), h.len, h.may, h.tabw, h.llen, h.all, h.apart, h.cap⟩
  obtain ⟨c0, c1, c2, c3⟩ := h.tab i hi
  have hne : some tb ≠ some g := by simp; exact Ne.symm h1
  exact ⟨hg.cell c0 hne, hg.cell c1 hne, hg.cell c2 hne, hg.cell c3 hne⟩
end Go.Proofs.YtoeagbcjnffpaaaGreatDoor
namespace Go.Proofs.YtoeagbcjnffpaaaGreatDoor
set_option maxRecDepth 100000
open Go.RowKit Go.Maps
set_option linter.unusedVariables false
section
variable {w w1 wr w' : World} {tb0 to0 tc0 n : Nat} {T : List Rg} {rows : List (List Int)} {m tb tc hb : Nat} {G : Nat → Nat} {r bb bc k : Nat}
theorem BU.below (h : BU w w1 wr tb0 to0 tc0 n T rows m tb tc hb G r bb bc k) (hb' : Below wr.heap.size wr w') : BU w w1 w' tb0 to0 tc0 n T rows m tb tc hb G r bb bc k :=
  ⟨h.mem.below hb', h.rmem.below hb', h.lo, h.ap, h.mlt, h.bel.trans (hb'.mono h.bel.size)⟩
end
theorem bL_zero {T : List Rg} {rows : List (List Int)} {n : Nat} (h : T.length = n) : List.replicate (offT T n) 0 = bL T rows 0 := by unfold bL; rw [h]
set_option maxHeartbeats 2000000 in
theorem build_yes (tb0 to0 tc0 n bbB bo nb bc0 : Nat) (T : List Rg) (rows : List (List Int)) (bS eS : Value) (s : CS) (hs : s.R.length = 32) (hn : T.length = n) (hW : TabW T) (hB : mayTB T = true) (hnb : rows.length = nb) (hnb2 : nb ≤ 1000000) (w : World) (hT : TabAt w tb0 to0 T)
    (hbS : (∃ A c, bS = .slice A 0 c) ∧ nb = 0 ∨ bS = .slice (some ⟨bbB, bo, none⟩) nb bc0 ∧ RowsAt w bbB bo rows) :
    Calls Tryz.prog 8 #[.agg (worldL (.slice (some ⟨tb0, to0, none⟩) n tc0) bS eS s).toArray] w (BuildP w tb0 to0 tc0 n T rows) := by
  have hM := mayB_to hB
  have HT := Lib.hid hT
  have HN := Lib.hid hn
  have HW := Lib.hid hW
  have HM := Lib.hid hM
  have HB := Lib.hid hB
  have n16 : n ≤ 16 := by have := hM.2.1; omega
  have hc0 : (w.alloc (.cells (worldL (.slice (some ⟨tb0, to0, none⟩) n tc0) bS eS s).toArray 30)).cell? ⟨w.heap.size, 0, none⟩ = some (.slice (some ⟨tb0, to0, none⟩) n tc0) := by
    rw [cell_of_row _ _ 0 _ _ _ (heap_alloc_last w _)]; rfl
  have hc1 : (w.alloc (.cells (worldL (.slice (some ⟨tb0, to0, none⟩) n tc0) bS eS s).toArray 30)).cell? ⟨w.heap.size, 1, none⟩ = some bS := by
    rw [cell_of_row _ _ 1 _ _ _ (heap_alloc_last w _)]; rfl
  have hb0 := (Below.refl w.heap.size w).alloc (Nat.le_refl _) (.cells (worldL (.slice (some ⟨tb0, to0, none⟩) n tc0) bS eS s).toArray 30)
  have HB0 := Lib.hid hb0
  have HT1 := Lib.hid (hT.below hb0)
  have hz : (w.alloc (.cells (worldL (.slice (some ⟨tb0, to0, none⟩) n tc0) bS eS s).toArray 30)).heap.size = w.heap.size + 1 := by simp
  have HZ := Lib.hid hz
  have HbS := Lib.hid hbS
  have HNb := Lib.hid hnb
  clear hM hT hn hW hB hb0 hz hbS hnb
  go_enter Tryz.func8, Tryz.ntmps8
  go_wp2_with fail
  generalize w.alloc (.cells (worldL (.slice (some ⟨tb0, to0, none⟩) n tc0) bS eS s).toArray 30) = w1 at *
  have C01 := Lib.hid (And.intro hc0 hc1)
  refine (new_yes tb0 to0 tc0 T n HN.out HW.out HB.out _ HT1.out).mono ?_
  rintro e w2 ⟨m, tb, tc, hb, G, rfl, hI, hb2⟩
  have HI := Lib.hid hI
  have HB2 := Lib.hid hb2
  have hc0 := (hb2.cell (p := ⟨w.heap.size, 0, none⟩) (by have := HZ.out; simp; omega)).trans hc0
  have hc1 := (hb2.cell (p := ⟨w.heap.size, 1, none⟩) (by have := HZ.out; simp; omega)).trans hc1
  clear hI hb2
  go_wp2_with fail
  refine (rnew_yes tb0 to0 tc0 n T _ HN.out HM.out HW.out (HT1.out.below HB2.out)).mono ?_
  rintro e w3 ⟨r, bb, bc, rfl, hR, hr1, hr2, hb3⟩
  have hw13 := HB2.out.trans (hb3.mono HB2.out.size)
  have HU := Lib.hid (show BU w w1 w3 tb0 to0 tc0 n T rows m tb tc hb G r bb bc 0 from by
    have hi := HI.out
    have h1 := HB2.out.size
    have q0 := block_lt hi.toH.c0
    have q1 := block_lt (hi.toH.tab 0 (by rw [HN.out]; have := HM.out.1; have := HN.out; omega)).1
    have q2 := hi.toH.held.lt
    exact ⟨hi.below hb3, bL_zero (rows := rows) HN.out ▸ hR, ⟨by omega, by omega⟩, fun i hi' => by have := (hi.rows i hi').lt; exact ⟨by omega, by omega⟩, ⟨by omega, by omega, by omega, by omega, by omega, by omega⟩, hw13⟩)
  have C0 := Lib.hid hc0
  have C1 := Lib.hid hc1
  have HB3 := Lib.hid hb3
  clear hc0 hc1 hR hr1 hr2 hb3 hw13 HI
  go_wp2
  clear C0 C1
  go_loopw [7] (fun i wr => ∃ k : Nat, k ≤ n ∧ k ≤ nb ∧ i = .int .i64 k ∧ BU w w1 wr tb0 to0 tc0 n T rows m tb tc hb G r bb bc k) (fun i _ => n - (intOf i).toNat)
  case atStart => exact ⟨0, by omega, by omega, rfl, HU.out⟩
  case round =>
    clear HU HB3 HB2
    obtain ⟨k, hk, hk2, rfl, hU⟩ := hrel
    have HU := Lib.hid hU
    have d0 := (hU.bel.cell (p := ⟨w.heap.size, 0, none⟩) (by have := HZ.out; simp; omega)).trans C01.out.1
    have d1 := (hU.bel.cell (p := ⟨w.heap.size, 1, none⟩) (by have := HZ.out; simp; omega)).trans C01.out.2
    clear hU
    have k0 : (0 : Int) ≤ k := by omega
    by_cases hlt : k < n
    · by_cases hlt2 : k < nb
      · have hkT : k < T.length := by have := HN.out; omega
        have k1 : (k : Int) < n := by omega
        have k2 : (k : Int) < nb := by omega
        obtain ⟨c0, c1, c2, c3⟩ := HU.out.rmem.tab k hkT
        rcases HbS.out with ⟨_, h⟩ | ⟨h, hrows⟩
        · omega
        · subst h
          have hb1r := HB0.out.trans (HU.out.bel.mono HB0.out.size)
          obtain ⟨A, c, r0, r1, r2, r3, r4⟩ := (hrows.below hb1r) k (by have := HNb.out; omega)
          have r4' : 0 < (rowK rows k).length → ∀ a, A = some a → a.block < w.heap.size := by
            intro hpos
            obtain ⟨A', c', q0, _, _, _, q4⟩ := hrows k (by have := HNb.out; omega)
            have q0' := (hb1r.cell (p := ⟨bbB, bo + k, none⟩) (block_lt q0)).trans q0
            rw [r0] at q0'
            injection q0' with q0'
            injection q0' with q0' _ _
            rw [q0']; exact q4 hpos
          generalize hl : rowK rows k = l at *
          have HLr := Lib.hid hl
          have HTb := Lib.hid (block_lt (HT.out 0 (by omega)).1)
          have HBb := Lib.hid (show bbB < w.heap.size from by obtain ⟨A', c', q0, _⟩ := hrows k (by have := HNb.out; omega); exact block_lt q0)
          have HS := Lib.hid (And.intro r1 (And.intro r2 (And.intro r3 r4')))
          clear hkT c1 c2 c3 r1 r2 r3 r4 r4' hrows hl hb1r hk hk2 hlt hlt2
          go_wp2
          refine wp_region_still_tail 12 (by kernel_rfl) (by kernel_rfl) ?_
          simp only [List.take_succ_cons, List.take_zero, List.drop_succ_cons, List.drop_zero]
          change wpStill _ _ (World.drew _) (fun a' => wpList _ _ _ _ a' (World.drew _)) _ _
          repeat still_step
          refine wpStill_nil ?_
          go_wp2_with fail
          refine (mpoke_any k A c l HM.out (by omega) HS.out.2.2.1 HS.out.2.1 _ (HU.out.mem.below (bel_drewN (Below.refl _ _) 1)) (HS.out.1.below (bel_drewN (Below.refl _ _) 1))).mono ?_
          rintro e w4 ⟨cd, rfl, hm4, hg4⟩
          have HGk := Lib.hid (show w1.heap.size ≤ G k ∧ G k < r ∧ G k < bb from ⟨HU.out.mem.from_ k (by omega), HU.out.ap k (by omega)⟩)
          have hne : ∀ b, b ≤ w.heap.size → some b ≠ some (G k) := fun b hb => by have := HGk.out.1; have := HZ.out; simp; omega
          have e0 := hg4.cell d0 (hne _ (Nat.le_refl _))
          have e1 := hg4.cell d1 (hne _ (Nat.le_refl _))
          have f0 := hg4.cell c0 (hne _ (Nat.le_of_lt HTb.out))
          have f1 := hg4.cell r0 (hne _ (Nat.le_of_lt HBb.out))
          have HS4 := Lib.hid ((HS.out.1.below (bel_drewN (Below.refl wr.heap.size wr) 1)).kept0 hg4 (fun hpos a ha e => by have := HS.out.2.2.2 hpos a ha; have := HGk.out.1; have := HZ.out; omega))
          have HR4 := Lib.hid ((HU.out.rmem.below (bel_drewN (Below.refl wr.heap.size wr) 1)).kept hg4 (by have := HGk.out; omega) (by have := HGk.out.1; have := HTb.out; have := HZ.out; omega) (by have := HGk.out; omega))
          have HM4 := Lib.hid hm4
          have HB4 := Lib.hid ((HU.out.bel.trans ((bel_drewN (Below.refl wr.heap.size wr) 1).mono HU.out.bel.size)).grown hg4 (Nat.le_trans HU.out.bel.size (Nat.le_refl _)) (fun b hb => by cases hb; exact HGk.out.1))
          clear hm4 hg4 d0 d1 c0 r0 hne
          go_wp2
          refine wp_region_still_tail 12 (by kernel_rfl) (by kernel_rfl) ?_
          simp only [List.take_succ_cons, List.take_zero, List.drop_succ_cons, List.drop_zero]
          change wpStill _ _ (World.drew _) (fun a' => wpList _ _ _ _ a' (World.drew _)) _ _
          repeat still_step
          refine wpStill_nil ?_
          go_wp2_with fail
          refine (rpoke_any r tb0 to0 tc0 bb bc n T _ k A c l (by omega) HS.out.2.2.1 HS.out.2.1 _ (HR4.out.below (bel_drewN (Below.refl _ _) 1)) (HS4.out.below (bel_drewN (Below.refl _ _) 1)) (fun hpos a ha e => by have := HS.out.2.2.2 hpos a ha; have := HU.out.lo.2; have := HZ.out; omega)).mono ?_
          rintro e w5 ⟨cd5, rfl, hr5, hg5⟩
          have HU5 := Lib.hid (show BU w w1 w5 tb0 to0 tc0 n T rows m tb tc hb G r bb bc (k + 1) from by
            obtain ⟨u1, u2, u3, u4, u5, u6⟩ := HU.out
            obtain ⟨v1, v2, v3, v4, v5, v6⟩ := u5
            have q := (HM4.out.below (bel_drewN (Below.refl w4.heap.size w4) 1)).kept hg5 (by omega) (by omega) (by omega) (fun i hi e => by have := (u4 i hi).2; omega)
            refine ⟨?_, ?_, u3, u4, ⟨v1, v2, v3, v4, v5, v6⟩, ((HB4.out.trans ((bel_drewN (Below.refl w4.heap.size w4) 1).mono HB4.out.size)).grown hg5 (Nat.le_trans HB4.out.size (Nat.le_refl _)) (fun b hb => by cases hb; exact u3.2))⟩
            · show MemIs w5 _ m tb tc hb n T G (pokeB T (bB T rows k) k (rowK rows k)); rw [HLr.out]; exact q
            · show RMem w5 r tb0 to0 tc0 bb bc n T (pokeL T (bL T rows k) k (rowK rows k)); rw [HLr.out]; exact hr5)
          clear hr5 hg5 e0 e1 f0 f1
          go_wp2
          go_roundw
          case rel => exact ⟨k + 1, by omega, by omega, by go_num, HU5.out⟩
          case measure => simp [intOf]; omega
      · obtain rfl : k = nb := by omega
        have HF := Lib.hid (show BuildP w tb0 to0 tc0 n T rows (.returned (.tuple #[.pointer (some ⟨m, 0, none⟩), .pointer (some ⟨r, 0, none⟩)])) wr from by
          obtain ⟨u1, u2, u3, u4, u5, u6⟩ := HU.out
          have e : min n rows.length = k := by rw [HNb.out]; omega
          refine ⟨m, tb, tc, hb, G, r, bb, bc, rfl, by rw [e]; exact u1.rebase (by have := HZ.out; omega), by rw [e]; exact u2, by have := HZ.out; omega, by have := HZ.out; omega, u4, HB0.out.trans (u6.mono HB0.out.size)⟩)
        have hno : ¬ ((k : Int) < k) := by omega
        rcases HbS.out with ⟨⟨A9, c9, h⟩, h'⟩ | ⟨h, _⟩
        · subst h
          subst h'
          clear hk hk2 hlt2 k0
          go_wp2
          go_ret2
          exact HF.out
        · subst h
          clear hk hk2 hlt2
          go_wp2
          go_ret2
          exact HF.out
    · obtain rfl : k = n := by omega
      have HF := Lib.hid (show BuildP w tb0 to0 tc0 k T rows (.returned (.tuple #[.pointer (some ⟨m, 0, none⟩), .pointer (some ⟨r, 0, none⟩)])) wr from by
        obtain ⟨u1, u2, u3, u4, u5, u6⟩ := HU.out
        have e : min k rows.length = k := by rw [HNb.out]; omega
        refine ⟨m, tb, tc, hb, G, r, bb, bc, rfl, by rw [e]; exact u1.rebase (by have := HZ.out; omega), by rw [e]; exact u2, by have := HZ.out; omega, by have := HZ.out; omega, u4, HB0.out.trans (u6.mono HB0.out.size)⟩)
      clear hk hk2 hlt
      go_wp2
      go_ret2
      exact HF.out
end Go.Proofs.YtoeagbcjnffpaaaGreatDoor
namespace Go.Proofs.YtoeagbcjnffpaaaGreatDoor
set_option maxRecDepth 100000
open Go.RowKit Go.Maps
set_option linter.unusedVariables false
theorem emptyN_row {w : World} {t : TypeId} {s : Nat} : (w.alloc (.cells #[] t)).ownsRow w.heap.size t s (.slice (some ⟨w.heap.size, 0, none⟩) 0 0) 0 [] :=
  ⟨by simp, .inr ⟨_, 0, #[], rfl, Nat.le_refl _, heap_alloc_new w _, by omega, by unfold maxLen; omega, by simp, by simp⟩⟩
theorem row_zero {w : World} {b n s : Nat} {t : TypeId} {v : Value} {xs : List Value} (h : w.ownsRow b t s v (0 + n) ([] ++ xs)) : w.ownsRow b t s v n xs := by
  rw [Nat.zero_add, List.nil_append] at h; exact h
/-- a new row like it -/
def CloP (w : World) (t : TypeId) (s n : Nat) (xs : List Value) (e : Ending) (w' : World) : Prop := ∃ v', e = .returned v' ∧ w'.ownsRow w.heap.size t s v' n xs ∧ Below w.heap.size w w'
theorem eqNilL : ∀ (w : World) (a : Option Addr) (n c n' c' : Nat), (binOp .eql 45 (.slice a n c) (.slice none n' c')).run Tryz.prog w = .ok (.bool a.isNone) w := fun w a n c n' c' => Lib.run_eql_slice_nil w _ _ a n c n' c' Tryz.underlying45
set_option maxHeartbeats 400000 in
theorem cloneL_row (base n : Nat) (v : Value) (xs : List Value) (hn : n ≤ 100000000) (h1 : ∀ u ∈ xs, u.oneCell' = true) (w : World) (ho : w.ownsRow base 91 3 v n xs) :
    Calls Tryz.prog 42 #[v] w (CloP w 91 3 n xs) := by
  have q := eqNilL
  have hx := ho.1
  rcases ho.2 with ⟨rfl, rfl⟩ | ⟨g, cap, cur, rfl, hb, hg, hc, hm, hs, ht⟩
  · have hx0 : xs = [] := List.eq_nil_of_length_eq_zero (by simpa using hx)
    subst hx0
    clear ho h1 hx
    go_enter Tryz.func42, Tryz.ntmps42
    go_wp2
    go_ret
    exact ⟨_, rfl, World.ownsRow_nil _ _ _ _, Below.refl _ _⟩
  · have HX := Lib.hid hx
    have H1 := Lib.hid h1
    have HN := Lib.hid hn
    have HCl := Lib.hid ((ho.alloc (.cells #[] 91)).cells (g := g) rfl)
    obtain ⟨i0, hi, hz0, hz1, hz2⟩ := info_parts infoLk
    clear ho hx h1 hg hc hm hs ht hb hn
    go_enter Tryz.func42, Tryz.ntmps42
    go_wp2_with (at_builtin; refine wpList_append_own _ rfl _ _ 45 rfl w.heap.size 91 i0 (.agg #[.int .i64 0, .int .u64 0, .int .u64 0]) 3 24 Tryz.underlying45 hi hz0 hz1 hz2 rfl (by decide) _ 0 [] rfl ?own ⟨g, 0, none⟩ n cap xs rfl ?len ?c1 ?c2 ?c3 ?c4 ?c5 ?_)
    case own => exact emptyN_row
    case len => exact HX.out
    case c1 => exact HCl.out
    case c2 => exact H1.out
    case c3 => have := HN.out; unfold maxLen; omega
    case c4 => have := HN.out; omega
    case c5 => simp
    intro v3 w3 hown hgrow hnil
    have HB := Lib.hid ((((Below.refl _ w).alloc (Nat.le_refl _) _).grown hgrow (by simp) (by simp [Value.ownBlock]) : Below w.heap.size w w3))
    have HO := Lib.hid hown
    clear hown hgrow hnil
    go_wp2
    go_ret
    exact ⟨_, rfl, HO.out, HB.out⟩
theorem eqNilE : ∀ (w : World) (a : Option Addr) (n c n' c' : Nat), (binOp .eql 44 (.slice a n c) (.slice none n' c')).run Tryz.prog w = .ok (.bool a.isNone) w := fun w a n c n' c' => Lib.run_eql_slice_nil w _ _ a n c n' c' Tryz.underlying44
set_option maxHeartbeats 400000 in
theorem cloneE_row (base n : Nat) (v : Value) (xs : List Value) (hn : n ≤ 100000000) (h1 : ∀ u ∈ xs, u.oneCell' = true) (w : World) (ho : w.ownsRow base 88 10 v n xs) :
    Calls Tryz.prog 41 #[v] w (CloP w 88 10 n xs) := by
  have q := eqNilE
  have hx := ho.1
  rcases ho.2 with ⟨rfl, rfl⟩ | ⟨g, cap, cur, rfl, hb, hg, hc, hm, hs, ht⟩
  · have hx0 : xs = [] := List.eq_nil_of_length_eq_zero (by simpa using hx)
    subst hx0
    clear ho h1 hx
    go_enter Tryz.func41, Tryz.ntmps41
    go_wp2
    go_ret
    exact ⟨_, rfl, World.ownsRow_nil _ _ _ _, Below.refl _ _⟩
  · have HX := Lib.hid hx
    have H1 := Lib.hid h1
    have HN := Lib.hid hn
    have HCl := Lib.hid ((ho.alloc (.cells #[] 88)).cells (g := g) rfl)
    obtain ⟨i0, hi, hz0, hz1, hz2⟩ := info_parts infoEv
    clear ho hx h1 hg hc hm hs ht hb hn
    go_enter Tryz.func41, Tryz.ntmps41
    go_wp2_with (at_builtin; refine wpList_append_own _ rfl _ _ 44 rfl w.heap.size 88 i0 (.agg #[.bool false, .int .u64 0, .int .u64 0, .int .u64 0, .int .u64 0, .int .u64 0, .int .u64 0, .int .u64 0, .int .u64 0, .int .u64 0]) 10 80 Tryz.underlying44 hi hz0 hz1 hz2 rfl (by decide) _ 0 [] rfl ?own ⟨g, 0, none⟩ n cap xs rfl ?len ?c1 ?c2 ?c3 ?c4 ?c5 ?_)
    case own => exact emptyN_row
    case len => exact HX.out
    case c1 => exact HCl.out
    case c2 => exact H1.out
    case c3 => have := HN.out; unfold maxLen; omega
    case c4 => have := HN.out; omega
    case c5 => simp
    intro v3 w3 hown hgrow hnil
    have HB := Lib.hid ((((Below.refl _ w).alloc (Nat.le_refl _) _).grown hgrow (by simp) (by simp [Value.ownBlock]) : Below w.heap.size w w3))
    have HO := Lib.hid hown
    clear hown hgrow hnil
    go_wp2
    go_ret
    exact ⟨_, rfl, HO.out, HB.out⟩
theorem info25 : (Tryz.prog.info? 25).map (fun i => (i.zero, i.size, i.bytes)) = some (some (.int .u64 0), 1, 8) := by kernel_rfl
theorem eqNilU : ∀ (w : World) (a : Option Addr) (n c n' c' : Nat), (binOp .eql 24 (.slice a n c) (.slice none n' c')).run Tryz.prog w = .ok (.bool a.isNone) w := fun w a n c n' c' => Lib.run_eql_slice_nil w _ _ a n c n' c' Tryz.underlying24
theorem slU_news {w : World} {b off : Nat} {l : List Int} (h : ∀ k, k < l.length → w.cell? ⟨b, off + k, none⟩ = some (.int .u64 (nth l k))) : ∀ j u, (l.map (Value.int .u64))[j]? = some u → w.cell? ((⟨b, off, none⟩ : Addr).add j) = some u := by
  intro j u hj
  simp only [List.getElem?_map, Option.map_eq_some_iff] at hj
  obtain ⟨x, hx, rfl⟩ := hj
  have hk : j < l.length := (List.getElem?_eq_some_iff.1 hx).1
  have h1 := h j hk
  rw [nth_get hk, (List.getElem?_eq_some_iff.1 hx).2] at h1
  rw [add_off, h1]
/-- a copy of words: nil of nil, else a new row -/
def CloU (w : World) (l : List Int) (e : Ending) (w' : World) : Prop := ∃ A c, e = .returned (.slice A l.length c) ∧ (l = [] ∨ ∃ g, A = some ⟨g, 0, none⟩ ∧ w.heap.size ≤ g ∧ g < w'.heap.size ∧ ∀ k, k < l.length → w'.cell? ⟨g, k, none⟩ = some (.int .u64 (nth l k))) ∧ Below w.heap.size w w'
theorem nth_map {l : List Int} {k : Nat} (hk : k < l.length) : (l.map (Value.int .u64))[k]? = some (.int .u64 (nth l k)) := by
  rw [List.getElem?_map, List.getElem?_eq_getElem hk, nth_get hk]; rfl
set_option maxHeartbeats 400000 in
theorem cloneU_any (A : Option Addr) (l : List Int) (n c : Nat) (hn : l.length = n) (hm : n ≤ 1000000) (w : World) (hs : SlU w A l) (hA : A = none → c = 0) :
    Calls Tryz.prog 37 #[.slice A n c] w (CloU w l) := by
  have q := eqNilU
  cases A with
  | none =>
    obtain rfl : c = 0 := hA rfl
    have hl : l = [] := by rcases hs with h | ⟨b, off, h, _⟩; exact h; cases h
    subst hl
    subst hn
    clear hs hA
    go_enter Tryz.func37, Tryz.ntmps37
    go_wp2
    go_ret
    exact ⟨none, 0, rfl, .inl rfl, Below.refl _ _⟩
  | some ad =>
    have HN := Lib.hid hn
    have HM := Lib.hid hm
    obtain ⟨i0, hi, hz0, hz1, hz2⟩ := info_parts info25
    have HCl := Lib.hid (show ∀ j u, (l.map (Value.int .u64))[j]? = some u → (w.alloc (.cells #[] 25)).cell? (ad.add j) = some u from by
      rcases hs with rfl | ⟨b, off, h, hc⟩
      · intro j u hj; simp at hj
      · cases h
        exact slU_news (fun k hk => by rw [((Below.refl _ w).alloc (Nat.le_refl _) _).cell (p := ⟨b, off + k, none⟩) (block_lt (hc k hk))]; exact hc k hk))
    have H1 := Lib.hid (show ∀ u ∈ l.map (Value.int .u64), u.oneCell' = true from fun u hu => by obtain ⟨x, _, rfl⟩ := List.mem_map.1 hu; rfl)
    have HX := Lib.hid (show (l.map (Value.int .u64)).length = n * 1 by simp [hn])
    clear hs hA hn hm
    go_enter Tryz.func37, Tryz.ntmps37
    go_wp2_with (at_builtin; refine wpList_append_own _ rfl _ _ 24 rfl w.heap.size 25 i0 (.int .u64 0) 1 8 Tryz.underlying24 hi hz0 hz1 hz2 rfl (by decide) _ 0 [] rfl ?own ad n c (l.map (Value.int .u64)) rfl ?len ?c1 ?c2 ?c3 ?c4 ?c5 ?_)
    case own => exact emptyN_row
    case len => exact HX.out
    case c1 => exact HCl.out
    case c2 => exact H1.out
    case c3 => have := HM.out; unfold maxLen; omega
    case c4 => have := HM.out; omega
    case c5 => simp
    intro v3 w3 hown hgrow hnil
    have HB := Lib.hid ((((Below.refl _ w).alloc (Nat.le_refl _) _).grown hgrow (by simp) (by simp [Value.ownBlock]) : Below w.heap.size w w3))
    have hown2 := hown
    have HZ := Lib.hid (show CloU w l (.returned v3) w3 from by
      have hB := HB.out
      have hl := HN.out
      rcases hown2.2 with ⟨rfl, h0⟩ | ⟨g, cap, cur, rfl, hg, hc, _⟩
      · have : l = [] := List.eq_nil_of_length_eq_zero (by omega)
        subst this
        exact ⟨none, 0, rfl, .inl rfl, hB⟩
      · refine ⟨some ⟨g, 0, none⟩, cap, by rw [hl], .inr ⟨g, rfl, hg, (Array.getElem?_eq_some_iff.1 hc).1, fun k hk => ?_⟩, hB⟩
        rw [hown2.cellAt k (by simp; omega), nth_map hk])
    clear hown hgrow hnil hown2
    go_wp2
    go_ret
    exact HZ.out
section
variable (K : CK) (F : Nat → Prop) (st : St) (w : World)
theorem evsL_one (l : List Ev) : ∀ u ∈ evsL l, u.oneCell' = true := by
  intro u hu
  simp only [evsL, List.mem_flatMap] at hu
  obtain ⟨e, _, h⟩ := hu
  exact evC_one e u h
theorem lksL_one (l : List Lk) : ∀ u ∈ lksL l, u.oneCell' = true := by
  intro u hu
  simp only [lksL, List.mem_flatMap, lkC] at hu
  obtain ⟨e, _, h⟩ := hu
  simp at h
  rcases h with rfl | rfl | rfl <;> rfl
theorem events_any (hA : CpuAt w K F st) :
    Calls Tryz.prog 15 #[.pointer (some ⟨K.c, 0, none⟩)] w (CloP w 88 10 st.ev.length (evsL st.ev)) := by
  obtain ⟨ve, vl, hC, _⟩ := hA
  have HC := Lib.hid hC
  have h37 := hC.blk.evs
  clear hC
  go_enter Tryz.func15, Tryz.ntmps15
  go_wp2_with fail
  refine (cloneE_row _ _ ve _ HC.out.few.1 (evsL_one _) _ HC.out.evr).mono ?_
  rintro e w' ⟨v', rfl, ho, hb⟩
  have HO := Lib.hid ho
  have HB := Lib.hid hb
  clear ho hb
  go_wp2
  go_ret
  exact ⟨v', rfl, HO.out, HB.out⟩
theorem leaks_any (hA : CpuAt w K F st) :
    Calls Tryz.prog 17 #[.pointer (some ⟨K.c, 0, none⟩)] w (CloP w 91 3 st.lk.length (lksL st.lk)) := by
  obtain ⟨ve, vl, hC, _⟩ := hA
  have HC := Lib.hid hC
  have h37 := hC.blk.lks
  clear hC
  go_enter Tryz.func17, Tryz.ntmps17
  go_wp2_with fail
  refine (cloneL_row _ _ vl _ HC.out.few.2 (lksL_one _) _ HC.out.lkr).mono ?_
  rintro e w' ⟨v', rfl, ho, hb⟩
  have HO := Lib.hid ho
  have HB := Lib.hid hb
  clear ho hb
  go_wp2
  go_ret
  exact ⟨v', rfl, HO.out, HB.out⟩
theorem memory_any (hA : CpuAt w K F st) :
    Calls Tryz.prog 31 #[.pointer (some ⟨K.c, 0, none⟩)] w fun e w' => e = .returned (.pointer (some ⟨K.m, 0, none⟩)) ∧ w = w' := by
  obtain ⟨ve, vl, hC, _⟩ := hA
  have h0 := hC.blk.mem
  clear hC
  go_enter Tryz.func31, Tryz.ntmps31
  go_wp2
  go_ret
  exact ⟨rfl, rfl⟩
end
end Go.Proofs.YtoeagbcjnffpaaaGreatDoor
namespace Go.Proofs.YtoeagbcjnffpaaaGreatDoor
set_option maxRecDepth 100000
open Go.RowKit Go.Maps
set_option linter.unusedVariables false

/-- block g is a state -/
def StB (w : World) (g : Nat) (s : CS) : Prop := w.heap[g]? = some (.cells (stateL s).toArray 28 (0, 0)) ∧ s.R.length = 32
section
variable {w w' : World} {g : Nat} {s : CS}
theorem StB.cell (h : StB w g s) (k : Nat) : w.cell? ⟨g, k, none⟩ = (stateL s)[k]? := by rw [cell_of_row w g k _ _ _ h.1]; simp
theorem StB.free (h : StB w g s) (k : Nat) : w.frozen? ⟨g, k, none⟩ = false := frozen_of_row w g k _ _ h.1
theorem StB.dn (h : StB w g s) : w.cell? ⟨g, 34, none⟩ = some (.int .i64 s.dn) := (h.cell 34).trans (stateL_at h.2 2)
theorem StB.reg0 (h : StB w g s) : w.cell? ⟨g, 0, none⟩ = some (.int .u64 (nth s.R 0)) := (h.cell 0).trans (stateL_reg h.2 (by omega))
theorem StB.lt (h : StB w g s) : g < w.heap.size := (Array.getElem?_eq_some_iff.1 h.1).1
theorem StB.below (h : StB w g s) (hb : Below w.heap.size w w') : StB w' g s := ⟨by rw [hb.block g h.lt]; exact h.1, h.2⟩
theorem StB.new (s : CS) (h : s.R.length = 32) : StB (w.alloc (.cells (stateL s).toArray 28)) w.heap.size s := ⟨heap_alloc_last _ _, h⟩
theorem StB.setReg (h : StB w g s) : StB (w.setCell ⟨g, 0, none⟩ (.int .u64 0)) g { s with R := s.R.set 0 0 } := by
  refine ⟨?_, by simpa using h.2⟩
  rw [heap_setCell_same w g 0 _ _ _ h.1]
  have e : ((stateL s).set 0 (.int .u64 0)) = stateL { s with R := s.R.set 0 0 } := by
    unfold stateL
    rw [List.set_append_left _ _ (by simp [regsL]; have := h.2; omega)]
    congr 1
    simp [regsL, List.map_set]
  rw [← e]; simp
theorem StB.setDn (h : StB w g s) (d : Int) : StB (w.setCell ⟨g, 34, none⟩ (.int .i64 d)) g (doneS s d) := by
  refine ⟨?_, h.2⟩
  rw [heap_setCell_same w g 34 _ _ _ h.1]
  have e : ((stateL s).set 34 (.int .i64 d)) = stateL (doneS s d) := by rw [show (34 : Nat) = 32 + 2 from rfl, stateL_set s h.2 2]; rfl
  rw [← e]; simp
end
/-- the state that lies there, read at once -/
def stLoad (v : Value) : Sem Value := Instr.loadAt 28 v
theorem loadAt_st (v : Value) : Instr.loadAt 28 v = stLoad v := rfl
theorem loadS_is {w : World} {g : Nat} {s : CS} (h : StB w g s) : (stLoad (.pointer (some ⟨g, 0, none⟩))).run Tryz.prog w = .ok (.agg (stateL s).toArray) w := by
  unfold stLoad
  simp only [Instr.loadAt, Instr.sureAddr, Sem.run_bind, Sem.run_pure, Result.andThen_ok]
  exact run_load_state (stateL_len h.2) (fun j v hv => by rw [Nat.zero_add, h.cell j, hv])
def cpuBuild (parts : Array (Nat × Value)) : Sem Value := Instr.build 84 parts
theorem build_cpu (parts : Array (Nat × Value)) : Instr.build 84 parts = cpuBuild parts := rfl
def cpuL0 (m : Nat) (vE : Value) (s : CS) : List Value := .pointer (some ⟨m, 0, none⟩) :: vE :: (stateL s ++ [.slice none 0 0, .slice none 0 0, .map none])
theorem buildS_is {w : World} (m : Nat) (A : Option Addr) (n c : Nat) (s : CS) (h : s.R.length = 32) :
    (cpuBuild #[(0, .pointer (some ⟨m, 0, none⟩)), (1, .slice A n c), (2, .agg (stateL s).toArray)]).run Tryz.prog w = .ok (.agg (cpuL0 m (.slice A n c) s).toArray) w := by
  unfold cpuBuild cpuL0
  have hl := stateL_len h
  generalize stateL s = L at *
  match L, hl with
  | c0 :: c1 :: c2 :: c3 :: c4 :: c5 :: c6 :: c7 :: c8 :: c9 :: c10 :: c11 :: c12 :: c13 :: c14 :: c15 :: c16 :: c17 :: c18 :: c19 :: c20 :: c21 :: c22 :: c23 :: c24 :: c25 :: c26 :: c27 :: c28 :: c29 :: c30 :: c31 :: c32 :: c33 :: c34 :: [], _ => show _ = _; kernel_rfl
attribute [local go_sem ↓] loadAt_st build_cpu
/-- what a call of New has of its own: where memory and entries lie -/
structure NewOk (w : World) (m tb tc hb n : Nat) (T : List Rg) (G : Nat → Nat) (B : Nat → List Int) (EA : Option Addr) (ec : Nat) (E : List Int) (s : CS) : Prop where
  mem : MemIs w 0 m tb tc hb n T G B
  ent : SlU w EA E
  nil : EA = none → ec = 0
  few : E.length ≤ 1000000
  entU : ∀ x ∈ E, IsU x
  len : s.R.length = 32
  regs : ∀ x ∈ s.R, IsU x
  pc : IsU s.pc
  one : 1 ≤ n
theorem newS_w {s : CS} (h1 : s.R.length = 32) (h2 : ∀ x ∈ s.R, IsU x) (h3 : IsU s.pc) : CsW (newS s) := by
  refine ⟨by simpa [newS] using h1, fun x hx => ?_, ?_, h3, ?_⟩
  · rcases List.mem_or_eq_of_mem_set hx with h | h
    · exact h2 x h
    · subst h; exact ⟨by omega, by omega⟩
  · show nth (s.R.set 0 0) 0 = 0
    unfold nth
    rw [List.getD_eq_getElem?_getD, List.getElem?_set_self (by omega)]; rfl
  · unfold newS; dsimp only; split <;> omega
def NewP (w : World) (m tb tc hb n : Nat) (T : List Rg) (G : Nat → Nat) (B : Nat → List Int) (E : List Int) (F : Nat → Prop) (s : CS) (e : Ending) (w' : World) : Prop :=
  ∃ K : CK, e = .returned (.pointer (some ⟨K.c, 0, none⟩)) ∧ K.m = m ∧ K.tb = tb ∧ K.hb = hb ∧ K.n = n ∧ K.T = T ∧ K.G = G ∧ K.E = E ∧ w.heap.size ≤ K.c ∧ (w.heap.size ≤ K.md ∧ ∀ a, K.EA = some a → E = [] ∨ w.heap.size ≤ a.block) ∧ CpuAt w' K F { s := newS s, ev := [], lk := [], B := B } ∧ Below w.heap.size w w'
theorem SlU.later {w w' : World} {A : Option Addr} {l : List Int} (h : SlU w A l) (hb : Below w.heap.size w w') : SlU w' A l := by
  rcases h with h | ⟨b, off, h, hc⟩
  · exact .inl h
  · exact .inr ⟨b, off, h, fun k hk => by rw [hb.cell (p := ⟨b, off + k, none⟩) (block_lt (hc k hk))]; exact hc k hk⟩
theorem stateL_zero (s : CS) (h : s.R.length = 32) : (stateL s).set 0 (.int .u64 0) = stateL { s with R := s.R.set 0 0 } := by
  unfold stateL
  rw [List.set_append_left _ _ (by simp [regsL]; omega)]
  congr 1
  simp [regsL, List.map_set]
theorem stateL_done (s : CS) (h : s.R.length = 32) (d : Int) : (stateL s).set 34 (.int .i64 d) = stateL (doneS s d) := by
  rw [show (34 : Nat) = 32 + 2 from rfl, stateL_set s h 2]; rfl
theorem cpuL0_set (m : Nat) (vE : Value) (s : CS) (h : s.R.length = 32) (md : Nat) : (cpuL0 m vE s).set 39 (.map (some md)) = cpuL m vE s (.slice none 0 0) (.slice none 0 0) md := by
  unfold cpuL0 cpuL
  simp only [List.set_cons_succ]
  rw [List.set_append_right _ _ (by rw [stateL_len h]; omega), stateL_len h]
  rfl
theorem cpuL0_at (m : Nat) (vE : Value) (s : CS) (h : s.R.length = 32) : (cpuL0 m vE s)[39]? = some (.map none) := by
  unfold cpuL0
  show (stateL s ++ _)[37]? = _
  rw [List.getElem?_append_right (by rw [stateL_len h]; omega), stateL_len h]
  rfl
/-- all is made: it is a processor -/
theorem new_fin {m tb tc hb n : Nat} {T : List Rg} {G : Nat → Nat} {B : Nat → List Int} {EA : Option Addr} {ec : Nat} {E : List Int} {F : Nat → Prop} {s : CS} {w w2 w4 : World} {A2 : Option Addr} {c2 md : Nat} (hN : NewOk w m tb tc hb n T G B EA ec E s) (hF : (∀ i, i < n → F (G i)) ∧ ∀ b, w.heap.size ≤ b → F b)
    (h2 : E = [] ∨ ∃ g, A2 = some ⟨g, 0, none⟩ ∧ w.heap.size ≤ g ∧ g < w2.heap.size ∧ ∀ k, k < E.length → w2.cell? ⟨g, k, none⟩ = some (.int .u64 (nth E k))) (hb2 : Below w.heap.size w w2)
    (ho : OpsK w4 md w2.heap.size 43 (fun k => k < 43)) (hm : (w2.alloc (.cells (cpuL0 m (.slice A2 E.length c2) (newS s)).toArray 84)).heap.size ≤ md)
    (hb4 : Below (w2.alloc (.cells (cpuL0 m (.slice A2 E.length c2) (newS s)).toArray 84)).heap.size (w2.alloc (.cells (cpuL0 m (.slice A2 E.length c2) (newS s)).toArray 84)) w4) :
    NewP w m tb tc hb n T G B E F s (.returned (.pointer (some ⟨w2.heap.size, 0, none⟩))) (w4.setCell ⟨w2.heap.size, 39, none⟩ (.map (some md))) := by
  have hW := newS_w hN.len hN.regs hN.pc
  have hs2 := hb2.size
  have ha : Below w2.heap.size w2 (w2.alloc (.cells (cpuL0 m (.slice A2 E.length c2) (newS s)).toArray 84)) := (Below.refl _ _).alloc (Nat.le_refl _) _
  have hs3 : (w2.alloc (.cells (cpuL0 m (.slice A2 E.length c2) (newS s)).toArray 84)).heap.size = w2.heap.size + 1 := by simp
  have h24 : Below w2.heap.size w2 w4 := ha.trans (hb4.mono (by omega))
  have h04 : Below w.heap.size w w4 := hb2.trans (h24.mono hs2)
  have hblk : w4.heap[w2.heap.size]? = some (.cells (cpuL0 m (.slice A2 E.length c2) (newS s)).toArray 84 (0, 0)) := by
    rw [hb4.block w2.heap.size (by omega)]; exact heap_alloc_last _ _
  have g5 := grown_setCell w4 w2.heap.size 39 (.map (some md))
  have hlt : m < w.heap.size ∧ tb < w.heap.size ∧ hb < w.heap.size ∧ ∀ i, i < n → G i < w.heap.size := by
    have h := hN.mem
    exact ⟨block_lt h.toH.c0, block_lt (h.toH.tab 0 (by rw [h.toH.len]; exact hN.one)).1, h.toH.held.lt, fun i hi => (h.rows i hi).lt⟩
  obtain ⟨l0, l1, l2, l3⟩ := hlt
  have hmem : MemIs w4 0 m tb tc hb n T G B := hN.mem.below h04
  refine ⟨⟨w2.heap.size, m, tb, tc, hb, n, T, G, A2, c2, E, md⟩, rfl, rfl, rfl, rfl, rfl, rfl, rfl, rfl, hs2, ⟨by show w.heap.size ≤ md; omega, fun a ha => by
    rcases h2 with h | ⟨g, h, hg, _⟩
    · exact .inl h
    · right; have ha : A2 = some a := ha; rw [h] at ha; cases ha; exact hg⟩, ⟨.slice none 0 0, .slice none 0 0, ⟨⟨?_, hW.1⟩, World.ownsRow_nil _ _ _ _, World.ownsRow_nil _ _ _ _, hmem.kept g5 (by omega) (by omega) (by omega) (fun i hi e => by have := l3 i hi; omega), ⟨hN.few, hN.entU, ?_⟩, ho.kept g5 (by simp; omega), hW, ⟨by show m < w2.heap.size; omega, by show tb < w2.heap.size; omega, by show hb < w2.heap.size; omega, fun i hi => by have := l3 i hi; show G i < w2.heap.size; omega⟩, ⟨by simp, by simp⟩⟩, ⟨hF.2 _ hs2, hF.1, (fun b hb => nomatch hb), (fun b hb => nomatch hb), fun b hb => hF.2 b ?_⟩⟩, ?_⟩
  · show (w4.setCell ⟨w2.heap.size, 39, none⟩ (.map (some md))).heap[w2.heap.size]? = _
    rw [heap_setCell_same w4 w2.heap.size 39 _ _ _ hblk, ← cpuL0_set m _ (newS s) hW.1 md]
    simp
  · rcases h2 with h2 | ⟨g, h2, h3, h4, h5⟩
    · exact .inl h2
    · refine .inr ⟨g, 0, h2, h4, fun i hi e => by have := l3 i hi; have e : G i = g := e; omega, fun k hk => ?_⟩
      rw [Nat.zero_add]
      refine g5.cell ?_ (by simp; omega)
      rw [h24.cell (p := ⟨g, k, none⟩) h4]
      exact h5 k hk
  · have := h04.size; have hb : w4.heap.size ≤ b := by simpa [World.setCell] using hb
    omega
  · exact h04.trans (⟨g5.os, g5.tape, g5.output, g5.size, fun k hk => g5.block k (by have := h04.size; omega) (by simp; omega)⟩)
set_option maxHeartbeats 2000000 in
theorem new_cpu (m tb tc hb n : Nat) (T : List Rg) (G : Nat → Nat) (B : Nat → List Int) (EA : Option Addr) (ec : Nat) (E : List Int) (F : Nat → Prop) (s : CS) (w : World) (hN : NewOk w m tb tc hb n T G B EA ec E s) (hF : ∀ i, i < n → F (G i)) (hF2 : ∀ b, w.heap.size ≤ b → F b) :
    Calls Tryz.prog 9 #[.pointer (some ⟨m, 0, none⟩), .slice EA E.length ec, .agg (stateL s).toArray] w (NewP w m tb tc hb n T G B E F s) := by
  have HN := Lib.hid hN
  have HF := Lib.hid (And.intro hF hF2)
  have hS0 := StB.new (w := w) s hN.len
  have k0 := hS0.reg0
  have f0 := hS0.free 0
  have l1 : ({ s with R := s.R.set 0 0 } : CS).R.length = 32 := by simpa using hN.len
  have S1 := StB.new (w := w) { s with R := s.R.set 0 0 } l1
  have e1 := stateL_zero s hN.len
  rw [← e1] at S1
  have k34 : (w.alloc (.cells ((stateL s).set 0 (.int .u64 0)).toArray 28)).cell? ⟨w.heap.size, 34, none⟩ = some (.int .i64 s.dn) := by
    have := (StB.new (w := w) { s with R := s.R.set 0 0 } l1).dn
    rw [← e1] at this; exact this
  have f34 : (w.alloc (.cells ((stateL s).set 0 (.int .u64 0)).toArray 28)).frozen? ⟨w.heap.size, 34, none⟩ = false := frozen_of_row _ _ 34 _ _ (heap_alloc_last w _)
  have ST1 : (s.dn = 0 ∨ s.dn = 1) → StB (w.alloc (.cells ((stateL s).set 0 (.int .u64 0)).toArray 28)) w.heap.size (newS s) := fun h => by
    rw [e1, show newS s = { s with R := s.R.set 0 0 } by unfold newS; rw [if_neg (by omega)]]
    exact StB.new _ l1
  have ST2 : ¬ (s.dn = 0 ∨ s.dn = 1) → StB (w.alloc (.cells (((stateL s).set 0 (.int .u64 0)).set 34 (.int .i64 2)).toArray 28)) w.heap.size (newS s) := fun h => by
    rw [e1, stateL_done _ l1, show newS s = doneS { s with R := s.R.set 0 0 } 2 by unfold newS doneS; rw [if_pos (by omega)]]
    exact StB.new _ l1
  clear hN hF hF2 hS0 e1 l1 S1
  by_cases hd : s.dn = 0
  · have ST := ST1 (.inl hd)
    rw [hd] at k34
    clear ST1 ST2 hd
    go_enter Tryz.func9, Tryz.ntmps9
    have HSt := Lib.hid (show StB (w.alloc (.cells ((stateL s).set 0 (.int .u64 0)).toArray 28)) w.heap.size (newS s) from ST)
    have HB := Lib.hid ((Below.refl w.heap.size w).alloc (Nat.le_refl _) (.cells ((stateL s).set 0 (.int .u64 0)).toArray 28))
    have hz : (w.alloc (.cells ((stateL s).set 0 (.int .u64 0)).toArray 28)).heap.size = w.heap.size + 1 := by simp
    go_wp2
    generalize (w.alloc (.cells ((stateL s).set 0 (.int .u64 0)).toArray 28)) = W1 at *
    have HZ := Lib.hid hz
    clear hz k0 f0 k34 f34 ST
    have HSd := Lib.hid (show StB W1.drew w.heap.size (newS s) from HSt.out.below (bel_drewN (Below.refl _ _) 1))
    have st1 := loadS_is HSd.out
    have bu1 : ∀ (w2 : World) (A2 : Option Addr) (c2 : Nat), (cpuBuild #[(0, .pointer (some ⟨m, 0, none⟩)), (1, .slice A2 E.length c2), (2, .agg (stateL (newS s)).toArray)]).run Tryz.prog w2 = .ok (.agg (cpuL0 m (.slice A2 E.length c2) (newS s)).toArray) w2 := fun w2 A2 c2 => buildS_is m A2 E.length c2 (newS s) HSd.out.2
    have hlen := HSt.out.2
    have HCl := Lib.hid (cloneU_any EA E _ ec rfl HN.out.few W1.drew (HN.out.ent.later (HB.out.trans ((bel_drewN (Below.refl _ _) 1).mono HB.out.size))) HN.out.nil)
    go_region_with (first | (go_at_call 37; refine HCl.out.mono ?_; rintro e w2 ⟨A2, c2, rfl, h2, hb2⟩; have st2 := loadS_is (HSd.out.below hb2); have H2 := Lib.hid (And.intro h2 hb2); clear h2 hb2))
    all_goals
      have HW2 := Lib.hid (HB.out.trans (((bel_drewN (Below.refl W1.heap.size W1) 1).trans H2.out.2).mono HB.out.size))
      have HOp := Lib.hid (operations_any w2.heap.size (w2.alloc (.cells (cpuL0 m (.slice A2 E.length c2) (newS s)).toArray 84)))
      clear st1 st2 bu1
      go_wp2_with fail
      refine HOp.out.mono ?_
      rintro e w4 ⟨md, rfl, ho, hm, hb4⟩
      have hblk : w4.heap[w2.heap.size]? = some (.cells (cpuL0 m (.slice A2 E.length c2) (newS s)).toArray 84 (0, 0)) := by
        rw [hb4.block w2.heap.size (by simp)]; exact heap_alloc_last _ _
      have g39 : w4.cell? ⟨w2.heap.size, 39, none⟩ = some (.map none) := by
        rw [cell_of_row w4 w2.heap.size 39 _ _ _ hblk]; simpa using cpuL0_at m _ (newS s) HSt.out.2
      have h39 := frozen_of_row w4 w2.heap.size 39 _ _ hblk
      have HZ2 := Lib.hid (new_fin HN.out HF.out (H2.out.1.imp id (fun ⟨g, q1, q2, q3⟩ => ⟨g, q1, Nat.le_trans HB.out.size q2, q3⟩)) HW2.out ho hm hb4)
      clear ho hm hb4 hblk
      go_wp2
      go_ret
      exact HZ2.out
  by_cases hd1 : s.dn = 1
  · have ST := ST1 (.inr hd1)
    rw [hd1] at k34
    clear ST1 ST2 hd1 hd
    go_enter Tryz.func9, Tryz.ntmps9
    have HSt := Lib.hid (show StB (w.alloc (.cells ((stateL s).set 0 (.int .u64 0)).toArray 28)) w.heap.size (newS s) from ST)
    have HB := Lib.hid ((Below.refl w.heap.size w).alloc (Nat.le_refl _) (.cells ((stateL s).set 0 (.int .u64 0)).toArray 28))
    have hz : (w.alloc (.cells ((stateL s).set 0 (.int .u64 0)).toArray 28)).heap.size = w.heap.size + 1 := by simp
    go_wp2
    generalize (w.alloc (.cells ((stateL s).set 0 (.int .u64 0)).toArray 28)) = W1 at *
    have HZ := Lib.hid hz
    clear hz k0 f0 k34 f34 ST
    have HSd := Lib.hid (show StB W1.drew w.heap.size (newS s) from HSt.out.below (bel_drewN (Below.refl _ _) 1))
    have st1 := loadS_is HSd.out
    have bu1 : ∀ (w2 : World) (A2 : Option Addr) (c2 : Nat), (cpuBuild #[(0, .pointer (some ⟨m, 0, none⟩)), (1, .slice A2 E.length c2), (2, .agg (stateL (newS s)).toArray)]).run Tryz.prog w2 = .ok (.agg (cpuL0 m (.slice A2 E.length c2) (newS s)).toArray) w2 := fun w2 A2 c2 => buildS_is m A2 E.length c2 (newS s) HSd.out.2
    have hlen := HSt.out.2
    have HCl := Lib.hid (cloneU_any EA E _ ec rfl HN.out.few W1.drew (HN.out.ent.later (HB.out.trans ((bel_drewN (Below.refl _ _) 1).mono HB.out.size))) HN.out.nil)
    go_region_with (first | (go_at_call 37; refine HCl.out.mono ?_; rintro e w2 ⟨A2, c2, rfl, h2, hb2⟩; have st2 := loadS_is (HSd.out.below hb2); have H2 := Lib.hid (And.intro h2 hb2); clear h2 hb2))
    all_goals
      have HW2 := Lib.hid (HB.out.trans (((bel_drewN (Below.refl W1.heap.size W1) 1).trans H2.out.2).mono HB.out.size))
      have HOp := Lib.hid (operations_any w2.heap.size (w2.alloc (.cells (cpuL0 m (.slice A2 E.length c2) (newS s)).toArray 84)))
      clear st1 st2 bu1
      go_wp2_with fail
      refine HOp.out.mono ?_
      rintro e w4 ⟨md, rfl, ho, hm, hb4⟩
      have hblk : w4.heap[w2.heap.size]? = some (.cells (cpuL0 m (.slice A2 E.length c2) (newS s)).toArray 84 (0, 0)) := by
        rw [hb4.block w2.heap.size (by simp)]; exact heap_alloc_last _ _
      have g39 : w4.cell? ⟨w2.heap.size, 39, none⟩ = some (.map none) := by
        rw [cell_of_row w4 w2.heap.size 39 _ _ _ hblk]; simpa using cpuL0_at m _ (newS s) HSt.out.2
      have h39 := frozen_of_row w4 w2.heap.size 39 _ _ hblk
      have HZ2 := Lib.hid (new_fin HN.out HF.out (H2.out.1.imp id (fun ⟨g, q1, q2, q3⟩ => ⟨g, q1, Nat.le_trans HB.out.size q2, q3⟩)) HW2.out ho hm hb4)
      clear ho hm hb4 hblk
      go_wp2
      go_ret
      exact HZ2.out
  · have ST := ST2 (by omega)
    have q0 : (s.dn != 0) = true := by rw [bne_iff_ne]; exact hd
    have q1 : (s.dn != 1) = true := by rw [bne_iff_ne]; exact hd1
    clear ST1 ST2 hd hd1
    go_enter Tryz.func9, Tryz.ntmps9
    have HSt := Lib.hid (show StB (w.alloc (.cells (((stateL s).set 0 (.int .u64 0)).set 34 (.int .i64 2)).toArray 28)) w.heap.size (newS s) from ST)
    have HB := Lib.hid ((Below.refl w.heap.size w).alloc (Nat.le_refl _) (.cells (((stateL s).set 0 (.int .u64 0)).set 34 (.int .i64 2)).toArray 28))
    have hz : (w.alloc (.cells (((stateL s).set 0 (.int .u64 0)).set 34 (.int .i64 2)).toArray 28)).heap.size = w.heap.size + 1 := by simp
    go_wp2
    generalize (w.alloc (.cells (((stateL s).set 0 (.int .u64 0)).set 34 (.int .i64 2)).toArray 28)) = W1 at *
    have HZ := Lib.hid hz
    clear hz k0 f0 k34 f34 ST
    have HSd := Lib.hid (show StB W1.drew w.heap.size (newS s) from HSt.out.below (bel_drewN (Below.refl _ _) 1))
    have st1 := loadS_is HSd.out
    have bu1 : ∀ (w2 : World) (A2 : Option Addr) (c2 : Nat), (cpuBuild #[(0, .pointer (some ⟨m, 0, none⟩)), (1, .slice A2 E.length c2), (2, .agg (stateL (newS s)).toArray)]).run Tryz.prog w2 = .ok (.agg (cpuL0 m (.slice A2 E.length c2) (newS s)).toArray) w2 := fun w2 A2 c2 => buildS_is m A2 E.length c2 (newS s) HSd.out.2
    have hlen := HSt.out.2
    have HCl := Lib.hid (cloneU_any EA E _ ec rfl HN.out.few W1.drew (HN.out.ent.later (HB.out.trans ((bel_drewN (Below.refl _ _) 1).mono HB.out.size))) HN.out.nil)
    go_region_with (first | (go_at_call 37; refine HCl.out.mono ?_; rintro e w2 ⟨A2, c2, rfl, h2, hb2⟩; have st2 := loadS_is (HSd.out.below hb2); have H2 := Lib.hid (And.intro h2 hb2); clear h2 hb2))
    all_goals
      have HW2 := Lib.hid (HB.out.trans (((bel_drewN (Below.refl W1.heap.size W1) 1).trans H2.out.2).mono HB.out.size))
      have HOp := Lib.hid (operations_any w2.heap.size (w2.alloc (.cells (cpuL0 m (.slice A2 E.length c2) (newS s)).toArray 84)))
      clear st1 st2 bu1
      go_wp2_with fail
      refine HOp.out.mono ?_
      rintro e w4 ⟨md, rfl, ho, hm, hb4⟩
      have hblk : w4.heap[w2.heap.size]? = some (.cells (cpuL0 m (.slice A2 E.length c2) (newS s)).toArray 84 (0, 0)) := by
        rw [hb4.block w2.heap.size (by simp)]; exact heap_alloc_last _ _
      have g39 : w4.cell? ⟨w2.heap.size, 39, none⟩ = some (.map none) := by
        rw [cell_of_row w4 w2.heap.size 39 _ _ _ hblk]; simpa using cpuL0_at m _ (newS s) HSt.out.2
      have h39 := frozen_of_row w4 w2.heap.size 39 _ _ hblk
      have HZ2 := Lib.hid (new_fin HN.out HF.out (H2.out.1.imp id (fun ⟨g, q1, q2, q3⟩ => ⟨g, q1, Nat.le_trans HB.out.size q2, q3⟩)) HW2.out ho hm hb4)
      clear ho hm hb4 hblk
      go_wp2
      go_ret
      exact HZ2.out
end Go.Proofs.YtoeagbcjnffpaaaGreatDoor
