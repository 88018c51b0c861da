/- Layer 4: a memory as it lies; what lying, Allowed and number of package mem answer of it. -/
import Derived.Test.YtpfohbinjcdcbaaMemMap
import Derived.Deep.RegionHeld3
namespace Go.Proofs.Ytpfohbinjcdcbaa
open Go.RowKit Go.Maps
set_option linter.unusedVariables false

def lenR (r : Rg) : Nat := (rhi r - rlo r).toNat
/-- a block of bytes, known whole -/
def Row (w : World) (g : Nat) (l : List Int) : Prop := w.heap[g]? = some (.cells (l.map (Value.int .u8)).toArray 5 (0, 0))
theorem Row.lt {w : World} {g : Nat} {l : List Int} (h : Row w g l) : g < w.heap.size := (Array.getElem?_eq_some_iff.1 h).1
theorem Row.below {w w' : World} {g : Nat} {l : List Int} (h : Row w g l) (hb : Below w.heap.size w w') : Row w' g l := by
  unfold Row; rw [hb.block g h.lt]; exact h
theorem Row.cell {w : World} {g : Nat} {l : List Int} (h : Row w g l) {k : Nat} (hk : k < l.length) : w.cell? ⟨g, k, none⟩ = some (.int .u8 (nth l k)) := by
  unfold Row at h
  rw [cell_of_row w g k _ _ _ h]
  simp [nth, hk]
theorem Row.sl {w : World} {g : Nat} {l : List Int} (h : Row w g l) (o n : Nat) (hn : o + n ≤ l.length) : Sl w (some ⟨g, o, none⟩) ((l.drop o).take n) := by
  refine .inr ⟨g, o, rfl, fun k hk => ?_⟩
  have hk' : k < n ∧ o + k < l.length := by simp at hk; omega
  rw [h.cell hk'.2]
  congr 2
  simp [nth, hk'.1]
/-- the memory's own cells, its table and its map -/
structure MemH (w : World) (m tb tc hb n : Nat) (T : List Rg) (G : Nat → Nat) : Prop where
  len : T.length = n
  few : n ≤ 16
  tabw : TabW T
  c0 : w.cell? ⟨m, 0, none⟩ = some (.slice (some ⟨tb, 0, none⟩) n tc)
  c1 : w.cell? ⟨m, 1, none⟩ = some (.map (some hb))
  tab : TabAt w tb 0 T
  held : HeldM w hb T G (fun i => lenR (nthR T i)) n
theorem MemH.below {w w' : World} {m tb tc hb n : Nat} {T : List Rg} {G : Nat → Nat} (h : MemH w m tb tc hb n T G) (hb' : Below w.heap.size w w') : MemH w' m tb tc hb n T G :=
  ⟨h.len, h.few, h.tabw, by rw [hb'.cell (p := ⟨m, 0, none⟩) (block_lt h.c0)]; exact h.c0, by rw [hb'.cell (p := ⟨m, 1, none⟩) (block_lt h.c1)]; exact h.c1, h.tab.below hb', h.held.below hb'⟩
theorem lying_none (m : Nat) (p : Int) (w : World) :
    Calls Try.prog 25 #[.pointer (some ⟨m, 0, none⟩), .int .u64 p, .int .i64 0] w fun e w' => e = .returned (.tuple #[.slice none 0 0, .int .i64 0]) ∧ w = w' := by
  go_enter Try.func25, Try.ntmps25
  go_wp2
  go_ret2
  exact ⟨rfl, rfl⟩
theorem lying_no (m tb tc hb n : Nat) (T : List Rg) (G : Nat → Nat) (p q : Int) (hp : IsU p) (hq : IsI q) (hq0 : q ≠ 0) (w : World) (hM : MemH w m tb tc hb n T G) (hF : FindNo T p q) :
    Calls Try.prog 25 #[.pointer (some ⟨m, 0, none⟩), .int .u64 p, .int .i64 q] w fun e w' => e = .returned (.tuple #[.slice none 0 0, .int .i64 13]) ∧ Below w.heap.size w w' := by
  have e0 : (q == 0) = false := by rw [beq_eq_false_iff_ne]; exact hq0
  have HM := Lib.hid hM
  have HF := Lib.hid hF
  clear hM hF hq0
  go_enter Try.func25, Try.ntmps25
  go_wp2_with fail
  refine (find_no m tb tc hb T p q n HM.out.len (by have := HM.out.few; omega) hp hq HM.out.tabw _ HM.out.c0 HM.out.tab HF.out).mono ?_
  rintro e w' ⟨rfl, hb⟩
  have Hb := Lib.hid hb
  clear hb
  go_wp2
  go_ret2
  exact ⟨rfl, Hb.out⟩
set_option maxHeartbeats 1000000 in
theorem lying_yes (m tb tc hb n : Nat) (T : List Rg) (G : Nat → Nat) (p q : Int) (i : Nat) (hp : IsU p) (hq : IsI q) (w : World) (hM : MemH w m tb tc hb n T G) (hF : FindYes T p q i) :
    Calls Try.prog 25 #[.pointer (some ⟨m, 0, none⟩), .int .u64 p, .int .i64 q] w fun e w' =>
      e = .returned (.tuple #[.slice (some ⟨G i, (p - rlo (nthR T i)).toNat, none⟩) q.toNat (lenR (nthR T i) - (p - rlo (nthR T i)).toNat), .int .i64 0]) ∧ Below w.heap.size w w' := by
  have e0 : (q == 0) = false := by rw [beq_eq_false_iff_ne]; have := hF.1; omega
  have HM := Lib.hid hM
  have HF := Lib.hid hF
  have HP := Lib.hid hp
  have HQ := Lib.hid hq
  have hiT : i < T.length := hF.2.1
  have hin : i < n := by rw [← hM.len]; exact hiT
  obtain ⟨y0, y1, y2⟩ := hitB_iff.1 hF.2.2.1
  have y3 := hF.1
  obtain ⟨⟨l0, l1⟩, ⟨u0, u1⟩, _⟩ := hM.tabw i hiT
  have hlen : lenR (nthR T i) = (rhi (nthR T i) - rlo (nthR T i)).toNat := rfl
  have HL := Lib.hid hlen
  have i0 : (0 : Int) ≤ i := by omega
  have i1 : (i : Int) < n := by omega
  clear hM hF hp hq hlen hiT hin
  go_enter Try.func25, Try.ntmps25
  go_wp2_with fail
  refine (find_yes m tb tc T p q i n HM.out.len (by have := HM.out.few; omega) HP.out HQ.out HM.out.tabw _ HM.out.c0 HM.out.tab HF.out).mono ?_
  rintro e w1 ⟨rfl, hb1⟩
  have HM1 := Lib.hid (HM.out.below hb1)
  have Hb := Lib.hid hb1
  have a0 := HM1.out.c0
  have a1 := HM1.out.c1
  obtain ⟨c0, c1, c2, c3⟩ := HM1.out.tab i (by have := HM1.out.len; have := i1; omega)
  simp only [Nat.zero_add] at c0 c1 c2 c3
  clear hb1
  go_wp2_with fail
  have hin : i < n := by have := i1; omega
  have B1 : Below w1.heap.size w1 (w1.alloc (.cells #[.int .u64 (rlo (nthR T i)), .int .u64 (rhi (nthR T i)), .int .i64 (rown (nthR T i)), .int .i64 (rout (nthR T i))] 35)) := (Below.refl _ _).alloc (Nat.le_refl _) _
  have M2 := HM1.out.below B1
  have Hb2 := Lib.hid (Hb.out.trans (B1.mono Hb.out.size))
  have r0 : (w1.alloc (.cells #[.int .u64 (rlo (nthR T i)), .int .u64 (rhi (nthR T i)), .int .i64 (rown (nthR T i)), .int .i64 (rout (nthR T i))] 35)).cell? ⟨w1.heap.size, 0, none⟩ = some (.int .u64 (rlo (nthR T i))) := by simp [go_sem]
  have r1 : (w1.alloc (.cells #[.int .u64 (rlo (nthR T i)), .int .u64 (rhi (nthR T i)), .int .i64 (rown (nthR T i)), .int .i64 (rout (nthR T i))] 35)).cell? ⟨w1.heap.size, 1, none⟩ = some (.int .u64 (rhi (nthR T i))) := by simp [go_sem]
  have r2 : (w1.alloc (.cells #[.int .u64 (rlo (nthR T i)), .int .u64 (rhi (nthR T i)), .int .i64 (rown (nthR T i)), .int .i64 (rout (nthR T i))] 35)).cell? ⟨w1.heap.size, 2, none⟩ = some (.int .i64 (rown (nthR T i))) := by simp [go_sem]
  have r3 : (w1.alloc (.cells #[.int .u64 (rlo (nthR T i)), .int .u64 (rhi (nthR T i)), .int .i64 (rown (nthR T i)), .int .i64 (rout (nthR T i))] 35)).cell? ⟨w1.heap.size, 3, none⟩ = some (.int .i64 (rout (nthR T i))) := by simp [go_sem]
  clear HM HM1 B1 Hb a0 a1 c0 c1 c2 c3
  generalize w1.alloc (.cells #[.int .u64 (rlo (nthR T i)), .int .u64 (rhi (nthR T i)), .int .i64 (rown (nthR T i)), .int .i64 (rout (nthR T i))] 35) = W at *
  have a1 := M2.c1
  have hk : ∀ k, (Instr.lookup 59 (.map (some hb)) (.agg #[.int .u64 (rlo (nthR T i)), .int .u64 (rhi (nthR T i)), .int .i64 (rown (nthR T i)), .int .i64 (rout (nthR T i))]) false).run Try.prog (W.drewN k) = .ok (.slice (some ⟨G i, 0, none⟩) (lenR (nthR T i)) (lenR (nthR T i))) (W.drewN k) :=
    fun k => (M2.held.below (bel_drewN (Below.refl _ _) k)).look (i := i) hin (M2.tabw i (by rw [M2.len]; exact hin))
  clear M2
  have z0 : (0 : Int) ≤ p - rlo (nthR T i) := by omega
  have z1 : p - rlo (nthR T i) < (lenR (nthR T i) : Nat) := by have := HL.out; omega
  have z2 : q ≤ (lenR (nthR T i) : Nat) - (p - rlo (nthR T i)) := by have := HL.out; omega
  have z3 : ((lenR (nthR T i) : Nat) : Int) ≤ 18446744073709551616 := by have := HL.out; omega
  go_quiet (fail)
  go_wp2
  go_ret2
  exact ⟨rfl, bel_drewN Hb2.out _⟩
theorem allowed_no (m tb tc hb n : Nat) (T : List Rg) (G : Nat → Nat) (p q : Int) (own : Bool) (x : Int) (hp : IsU p) (hq : IsI q) (w : World) (hM : MemH w m tb tc hb n T G) (hA : AllNo T p q own x) :
    Calls Try.prog 17 #[.pointer (some ⟨m, 0, none⟩), .int .u64 p, .int .i64 q, .bool own, .int .i64 x] w fun e w' => e = .returned (.bool false) ∧ Below w.heap.size w w' := by
  have HM := Lib.hid hM
  have HP := Lib.hid hp
  have HQ := Lib.hid hq
  clear hM hp hq
  cases ha : accB p q with
  | false =>
    have HA := Lib.hid ha
    clear ha hA
    go_enter Try.func17, Try.ntmps17
    go_wp2_with fail
    refine (mayAccess_any p q HP.out HQ.out _).mono ?_
    rw [HA.out]
    rintro e w' ⟨rfl, rfl⟩
    go_wp2
    go_ret
    exact ⟨rfl, Below.refl _ _⟩
  | true =>
    have HA := Lib.hid ha
    rcases hA with hA | hA | ⟨i, hA, hr⟩
    · rw [hA] at ha; cases ha
    · have HF := Lib.hid hA
      clear ha hA
      go_enter Try.func17, Try.ntmps17
      go_wp2_with fail
      refine (mayAccess_any p q HP.out HQ.out _).mono ?_
      rw [HA.out]
      rintro e w' ⟨rfl, rfl⟩
      go_wp2_with fail
      refine (find_no m tb tc hb T p q n HM.out.len (by have := HM.out.few; omega) HP.out HQ.out HM.out.tabw _ HM.out.c0 HM.out.tab HF.out).mono ?_
      rintro e w1 ⟨rfl, hb1⟩
      have Hb := Lib.hid hb1
      clear hb1
      go_wp2
      go_ret
      exact ⟨rfl, Hb.out⟩
    · have HF := Lib.hid hA
      have HR := Lib.hid hr
      have i0 : (0 : Int) ≤ i := by omega
      have i1 : (i : Int) < n := by have := hA.2.1; rw [HM.out.len] at this; omega
      clear ha hA hr
      go_enter Try.func17, Try.ntmps17
      go_wp2_with fail
      refine (mayAccess_any p q HP.out HQ.out _).mono ?_
      rw [HA.out]
      rintro e w' ⟨rfl, rfl⟩
      go_wp2_with fail
      refine (find_yes m tb tc T p q i n HM.out.len (by have := HM.out.few; omega) HP.out HQ.out HM.out.tabw _ HM.out.c0 HM.out.tab HF.out).mono ?_
      rintro e w1 ⟨rfl, hb1⟩
      have HM1 := Lib.hid (HM.out.below hb1)
      have Hb := Lib.hid hb1
      have a0 := HM1.out.c0
      obtain ⟨c0, c1, c2, c3⟩ := HM1.out.tab i (by have := HM1.out.len; have := i1; omega)
      simp only [Nat.zero_add] at c0 c1 c2 c3
      clear hb1
      go_wp2_with fail
      refine (rights_any (nthR T i) own _).mono ?_
      rintro e w2 ⟨rfl, hb2⟩
      have Hb2 := Lib.hid (Hb.out.trans (hb2.mono Hb.out.size))
      clear hb2
      go_wp2
      go_ret
      exact ⟨ret_bool HR.out, Hb2.out⟩
theorem allowed_yes (m tb tc hb n : Nat) (T : List Rg) (G : Nat → Nat) (p q : Int) (own : Bool) (x : Int) (i : Nat) (hp : IsU p) (hq : IsI q) (w : World) (hM : MemH w m tb tc hb n T G) (hA : AllYes T p q own x i) :
    Calls Try.prog 17 #[.pointer (some ⟨m, 0, none⟩), .int .u64 p, .int .i64 q, .bool own, .int .i64 x] w fun e w' => e = .returned (.bool true) ∧ Below w.heap.size w w' := by
  have HM := Lib.hid hM
  have HP := Lib.hid hp
  have HQ := Lib.hid hq
  obtain ⟨ha, hF, hr⟩ := hA
  have HA := Lib.hid ha
  have HF := Lib.hid hF
  have HR := Lib.hid hr
  have i0 : (0 : Int) ≤ i := by omega
  have i1 : (i : Int) < n := by have := hF.2.1; rw [HM.out.len] at this; omega
  clear ha hF hr hM hp hq
  go_enter Try.func17, Try.ntmps17
  go_wp2_with fail
  refine (mayAccess_any p q HP.out HQ.out _).mono ?_
  rw [HA.out]
  rintro e w' ⟨rfl, rfl⟩
  go_wp2_with fail
  refine (find_yes m tb tc T p q i n HM.out.len (by have := HM.out.few; omega) HP.out HQ.out HM.out.tabw _ HM.out.c0 HM.out.tab HF.out).mono ?_
  rintro e w1 ⟨rfl, hb1⟩
  have HM1 := Lib.hid (HM.out.below hb1)
  have Hb := Lib.hid hb1
  have a0 := HM1.out.c0
  obtain ⟨c0, c1, c2, c3⟩ := HM1.out.tab i (by have := HM1.out.len; have := i1; omega)
  simp only [Nat.zero_add] at c0 c1 c2 c3
  clear hb1
  go_wp2_with fail
  refine (rights_any (nthR T i) own _).mono ?_
  rintro e w2 ⟨rfl, hb2⟩
  have Hb2 := Lib.hid (Hb.out.trans (hb2.mono Hb.out.size))
  clear hb2
  go_wp2
  go_ret
  exact ⟨ret_bool HR.out, Hb2.out⟩
end Go.Proofs.Ytpfohbinjcdcbaa
