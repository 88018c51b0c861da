/- Layer 4: blank and New of package mem. -/
import Derived.Test.YtpfohbinjcdcbaaMemNew
namespace Go.Proofs.Ytpfohbinjcdcbaa
open Go.RowKit Go.Maps
set_option linter.unusedVariables false

set_option maxHeartbeats 2000000 in
theorem blank_yes (b off n c : Nat) (T : List Rg) (hn : T.length = n) (hT : MayT T) (hW : TabW T) (w : World) (hA : TabAt w b off T) :
    Calls Try.prog 24 #[.slice (some ⟨b, off, none⟩) n c] w fun e w' => ∃ m tb tc hb G, e = .returned (.pointer (some ⟨m, 0, none⟩)) ∧ MemIs w' w.heap.size m tb tc hb n T G (zerosB T) ∧ Below w.heap.size w w' := by
  have n1 : 1 ≤ n := by have := hT.1; omega
  have n2 : n ≤ 16 := by have := hT.2.1; omega
  have HA := Lib.hid hA
  have HN := Lib.hid hn
  have HT := Lib.hid hT
  have HW := Lib.hid hW
  have hmm := @run_makeMap Try.prog
  clear hA hn hT hW
  go_enter Try.func24, Try.ntmps24
  go_wp2_with fail
  refine (cloneR_some b off n c T HN.out n1 n2 _ HA.out).mono ?_
  rintro e w1 ⟨tb, tc, rfl, ht1, hg1, hg1', hb1⟩
  have HT1 := Lib.hid ht1
  have Hb := Lib.hid hb1
  have Hg := Lib.hid (And.intro hg1 hg1')
  clear ht1 hb1 hg1 hg1'
  go_wp2_with fail
  have B2 : Below w1.heap.size w1 ((w1.alloc (.map #[] 0)).alloc (.cells #[.slice (some ⟨tb, 0, none⟩) n tc, .map (some w1.heap.size)] 61)) := ((Below.refl _ _).alloc (Nat.le_refl _) _).alloc (by simp) _
  have HK := Lib.hid (show MemK ((w1.alloc (.map #[] 0)).alloc (.cells #[.slice (some ⟨tb, 0, none⟩) n tc, .map (some w1.heap.size)] 61)) w.heap.size (w1.heap.size + 1) tb tc w1.heap.size n T (fun _ => 0) 0 from
    ⟨HN.out, n2, HW.out, by simp [go_sem], by simp [go_sem], HT1.out.below B2, (HeldM.made w1 T _ _).below ((Below.refl _ _).alloc (Nat.le_refl _) _), fun i hi => by omega, fun i j hi => by omega, fun i hi => by omega, fun i hi => by omega, ⟨by have := Hb.out.size; omega, Hg.out.1, Hb.out.size⟩, ⟨by omega, by have := Hg.out.2; omega⟩⟩)
  have HB := Lib.hid (show Below w.heap.size w ((w1.alloc (.map #[] 0)).alloc (.cells #[.slice (some ⟨tb, 0, none⟩) n tc, .map (some w1.heap.size)] 61)) from Hb.out.trans (B2.mono Hb.out.size))
  clear B2 hmm
  generalize (w1.alloc (.map #[] 0)).alloc (.cells #[.slice (some ⟨tb, 0, none⟩) n tc, .map (some w1.heap.size)] 61) = W at *
  have HA2 := Lib.hid (HA.out.below HB.out)
  clear Hb Hg HT1
  generalize w1.heap.size + 1 = m at *
  generalize w1.heap.size = hb at *
  go_loopw [13] (fun x wr => ∃ (k : Nat) (G : Nat → Nat), k ≤ n ∧ x = .int .i64 k ∧ MemK wr w.heap.size m tb tc hb n T G k ∧ Below w.heap.size w wr) (fun x _ => n - (intOf x).toNat)
  case atStart => exact ⟨0, _, by omega, rfl, HK.out, HB.out⟩
  case round =>
    obtain ⟨k, G, hk, rfl, hK, hB⟩ := hrel
    clear HK HB HA2
    have HK := Lib.hid hK
    have HB := Lib.hid hB
    clear hK hB
    by_cases hlt : k < n
    · have hkT : k < T.length := by have := HN.out; omega
      obtain ⟨c0, c1, c2, c3⟩ := (HA.out.below HB.out) k hkT
      have k0 : (0 : Int) ≤ k := by omega
      have k1 : (k : Int) < n := by omega
      go_wp2_with fail
      have B3 : Below wr.heap.size wr (wr.alloc (.cells #[.int .u64 (rlo (nthR T k)), .int .u64 (rhi (nthR T k)), .int .i64 (rown (nthR T k)), .int .i64 (rout (nthR T k))] 35)) := (Below.refl _ _).alloc (Nat.le_refl _) _
      have K2 := HK.out.below B3
      have HB2 := Lib.hid (HB.out.trans (B3.mono HB.out.size))
      have r0 : (wr.alloc (.cells #[.int .u64 (rlo (nthR T k)), .int .u64 (rhi (nthR T k)), .int .i64 (rown (nthR T k)), .int .i64 (rout (nthR T k))] 35)).cell? ⟨wr.heap.size, 0, none⟩ = some (.int .u64 (rlo (nthR T k))) := by simp [go_sem]
      have r1 : (wr.alloc (.cells #[.int .u64 (rlo (nthR T k)), .int .u64 (rhi (nthR T k)), .int .i64 (rown (nthR T k)), .int .i64 (rout (nthR T k))] 35)).cell? ⟨wr.heap.size, 1, none⟩ = some (.int .u64 (rhi (nthR T k))) := by simp [go_sem]
      have r2 : (wr.alloc (.cells #[.int .u64 (rlo (nthR T k)), .int .u64 (rhi (nthR T k)), .int .i64 (rown (nthR T k)), .int .i64 (rout (nthR T k))] 35)).cell? ⟨wr.heap.size, 2, none⟩ = some (.int .i64 (rown (nthR T k))) := by simp [go_sem]
      have r3 : (wr.alloc (.cells #[.int .u64 (rlo (nthR T k)), .int .u64 (rhi (nthR T k)), .int .i64 (rown (nthR T k)), .int .i64 (rout (nthR T k))] 35)).cell? ⟨wr.heap.size, 3, none⟩ = some (.int .i64 (rout (nthR T k))) := by simp [go_sem]
      have hrb : wr.heap.size ≠ hb := by have := HK.out.held.lt; omega
      clear B3 HB c0 c1 c2 c3
      generalize wr.alloc (.cells #[.int .u64 (rlo (nthR T k)), .int .u64 (rhi (nthR T k)), .int .i64 (rown (nthR T k)), .int .i64 (rout (nthR T k))] 35) = W2 at *
      generalize wr.heap.size = r at *
      have hok := okB_iff.1 (HT.out.2.2.1 k hkT)
      obtain ⟨⟨l0, l1⟩, ⟨u0, u1⟩, _⟩ := HW.out k hkT
      obtain ⟨o0, o1, _⟩ := hok
      obtain ⟨w3, hmu, hK3, hg3⟩ := K2.step hlt HT.out HB2.out.size
      have a1 := K2.c1
      have ha := K2.own
      have B4 : Below W2.heap.size W2 (W2.alloc (.cells (zC (lenR (nthR T k))) 5)).drew := ((Below.refl _ _).alloc (Nat.le_refl _) _).drew
      have S0 := Lib.hid (show W2.drew.cell? ⟨m, 1, none⟩ = some (.map (some hb)) ∧ W2.drew.cell? ⟨r, 0, none⟩ = some (.int .u64 (rlo (nthR T k))) ∧ W2.drew.cell? ⟨r, 1, none⟩ = some (.int .u64 (rhi (nthR T k))) ∧ W2.drew.cell? ⟨r, 2, none⟩ = some (.int .i64 (rown (nthR T k))) ∧ W2.drew.cell? ⟨r, 3, none⟩ = some (.int .i64 (rout (nthR T k))) from ⟨a1, r0, r1, r2, r3⟩)
      have q0 := (B4.cell (p := ⟨m, 1, none⟩) (block_lt a1)).trans a1
      have q1 := (B4.cell (p := ⟨r, 0, none⟩) (block_lt r0)).trans r0
      have q2 := (B4.cell (p := ⟨r, 1, none⟩) (block_lt r0)).trans r1
      have q3 := (B4.cell (p := ⟨r, 2, none⟩) (block_lt r0)).trans r2
      have q4 := (B4.cell (p := ⟨r, 3, none⟩) (block_lt r0)).trans r3
      have S1 := Lib.hid (And.intro q0 (And.intro q1 (And.intro q2 (And.intro q3 q4))))
      have S2 := Lib.hid (And.intro hK3.c1 (And.intro (hg3.cell q1 (by simp; exact hrb)) (And.intro (hg3.cell q2 (by simp; exact hrb)) (And.intro (hg3.cell q3 (by simp; exact hrb)) (hg3.cell q4 (by simp; exact hrb))))))
      have hmk : ∀ w, (Instr.makeSlice 24 (.int .u64 (rhi (nthR T k) - rlo (nthR T k))) (.int .u64 (rhi (nthR T k) - rlo (nthR T k)))).run Try.prog w = .ok (.slice (some ⟨w.heap.size, 0, none⟩) (lenR (nthR T k)) (lenR (nthR T k))) (w.alloc (.cells (zC (lenR (nthR T k))) 5)) := make_any _ (by omega) o1
      have hmu2 : (Instr.mapUpdate 59 (.map (some hb)) (.agg #[.int .u64 (rlo (nthR T k)), .int .u64 (rhi (nthR T k)), .int .i64 (rown (nthR T k)), .int .i64 (rout (nthR T k))]) (.slice (some ⟨W2.heap.size, 0, none⟩) (lenR (nthR T k)) (lenR (nthR T k)))).run Try.prog (W2.drew.alloc (.cells (zC (lenR (nthR T k))) 5)) = .ok () w3 := hmu
      have hwr : IntKind.u64.wrap (rhi (nthR T k) - rlo (nthR T k)) = rhi (nthR T k) - rlo (nthR T k) := by rw [IntKind.wrap_u64]; omega
      have HK3 := Lib.hid hK3
      have HB3 := Lib.hid (show Below w.heap.size w w3 from (HB2.out.trans (B4.mono HB2.out.size)).grown hg3 (Nat.le_trans HB2.out.size B4.size) (fun j hj => by cases hj; exact ha.2.2))
      clear hK3 hg3 K2 HK B4 q0 q1 q2 q3 q4 a1 r0 r1 r2 r3 ha HB2 hrb
      go_region_held3 (fun w' => w'.cell? ⟨m, 1, none⟩ = some (.map (some hb)) ∧ w'.cell? ⟨r, 0, none⟩ = some (.int .u64 (rlo (nthR T k))) ∧ w'.cell? ⟨r, 1, none⟩ = some (.int .u64 (rhi (nthR T k))) ∧ w'.cell? ⟨r, 2, none⟩ = some (.int .i64 (rown (nthR T k))) ∧ w'.cell? ⟨r, 3, none⟩ = some (.int .i64 (rout (nthR T k)))) (first | exact S0.out | exact S1.out | exact S2.out) (fail)
      clear hmk hmu hmu2 hwr
      go_wp2
      go_roundw
      case rel => exact ⟨k + 1, _, by omega, by go_num, HK3.out, HB3.out⟩
      case measure => simp [intOf]; omega
    · obtain rfl : k = n := by omega
      go_wp2
      go_ret
      exact ⟨m, tb, tc, hb, G, rfl, HK.out.done, HB.out⟩
theorem new_none (A : Option Addr) (c : Nat) (w : World) : Calls Try.prog 11 #[.slice A 0 c] w fun e w' => e = .returned (.tuple #[.pointer none, .int .i64 10]) ∧ w = w' := by
  go_enter Try.func11, Try.ntmps11
  go_wp2_with fail
  refine (may_none A c _).mono ?_
  rintro e w' ⟨rfl, rfl⟩
  go_wp2
  go_ret2
  exact ⟨rfl, rfl⟩
theorem new_many (A : Option Addr) (n c : Nat) (h : 16 < n) (w : World) : Calls Try.prog 11 #[.slice A n c] w fun e w' => e = .returned (.tuple #[.pointer none, .int .i64 10]) ∧ w = w' := by
  go_enter Try.func11, Try.ntmps11
  go_wp2_with fail
  refine (may_many A n c h _).mono ?_
  rintro e w' ⟨rfl, rfl⟩
  go_wp2
  go_ret2
  exact ⟨rfl, rfl⟩
theorem new_no (b off c : Nat) (T : List Rg) (n : Nat) (hn : T.length = n) (h0 : 1 ≤ n) (h1 : n ≤ 16) (hW : TabW T) (hB : mayB T = false) (w : World) (hT : TabAt w b off T) :
    Calls Try.prog 11 #[.slice (some ⟨b, off, none⟩) n c] w fun e w' => e = .returned (.tuple #[.pointer none, .int .i64 10]) ∧ Below w.heap.size w w' := by
  have HT := Lib.hid hT
  have HN := Lib.hid hn
  have HW := Lib.hid hW
  have HB := Lib.hid hB
  clear hT hn hW hB
  go_enter Try.func11, Try.ntmps11
  go_wp2_with fail
  refine (may_some b off c T n HN.out h0 h1 HW.out _ HT.out).mono ?_
  rw [HB.out]
  rintro e w1 ⟨rfl, hb1⟩
  have Hb := Lib.hid hb1
  clear hb1
  go_wp2
  go_ret2
  exact ⟨rfl, Hb.out⟩
theorem new_yes (b off c : Nat) (T : List Rg) (n : Nat) (hn : T.length = n) (hW : TabW T) (hB : mayB T = true) (w : World) (hT : TabAt w b off T) :
    Calls Try.prog 11 #[.slice (some ⟨b, off, none⟩) n c] w fun e w' => ∃ m tb tc hb G, e = .returned (.tuple #[.pointer (some ⟨m, 0, none⟩), .int .i64 0]) ∧ MemIs w' w.heap.size m tb tc hb n T G (zerosB T) ∧ Below w.heap.size w w' := by
  have hM := mayB_to hB
  have h0 : 1 ≤ n := by have := hM.1; omega
  have h1 : n ≤ 16 := by have := hM.2.1; omega
  have HM := Lib.hid hM
  have HT := Lib.hid hT
  have HN := Lib.hid hn
  have HW := Lib.hid hW
  have HB := Lib.hid hB
  clear hT hn hW hB hM
  go_enter Try.func11, Try.ntmps11
  go_wp2_with fail
  refine (may_some b off c T n HN.out h0 h1 HW.out _ HT.out).mono ?_
  rw [HB.out]
  rintro e w1 ⟨rfl, hb1⟩
  have Hb := Lib.hid hb1
  have HT1 := Lib.hid (HT.out.below hb1)
  clear hb1
  go_wp2_with fail
  refine (blank_yes b off n c T HN.out HM.out HW.out _ HT1.out).mono ?_
  rintro e w2 ⟨m, tb, tc, hb, G, rfl, hI, hb2⟩
  have HI := Lib.hid (hI.rebase Hb.out.size)
  have Hb2 := Lib.hid (Hb.out.trans (hb2.mono Hb.out.size))
  clear hI hb2
  go_wp2
  go_ret2
  exact ⟨m, tb, tc, hb, G, rfl, HI.out, Hb2.out⟩
end Go.Proofs.Ytpfohbinjcdcbaa
