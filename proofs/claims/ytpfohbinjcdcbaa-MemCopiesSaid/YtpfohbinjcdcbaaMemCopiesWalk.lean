/- The walk of the statement MemCopies: it returns true, and writes nothing that was there. -/
import Derived.Test.YtpfohbinjcdcbaaMemAny
import Derived.Test.YtpfohbinjcdcbaaMemAwake
namespace Go.Proofs.Ytpfohbinjcdcbaa.MemCopiesWalk
open Go.RowKit Go.Maps
set_option linter.unusedVariables false

/-- what the walk reads of all that was there: the table's first region, the two acts -/
def CopS (b off h : Nat) (lo hi : Int) (A1 : Option Addr) (len1 cap1 : Nat) (p2 n2 : Int) (own2 : Bool) (x2 : Int) (w : World) : Prop :=
  w.cell? ⟨b, off, none⟩ = some (.int .u64 lo) ∧ w.cell? ⟨b, off + 1, none⟩ = some (.int .u64 hi) ∧ w.cell? ⟨h, 5, none⟩ = some (.slice A1 len1 cap1) ∧
  w.cell? ⟨h + 1, 1, none⟩ = some (.int .u64 p2) ∧ w.cell? ⟨h + 1, 2, none⟩ = some (.int .i64 n2) ∧ w.cell? ⟨h + 1, 3, none⟩ = some (.bool own2) ∧ w.cell? ⟨h + 1, 4, none⟩ = some (.int .u64 x2)
theorem block_lt' {w : World} {b o : Nat} {v : Value} (h : w.cell? ⟨b, o, none⟩ = some v) : b < w.heap.size := by
  rcases Nat.lt_or_ge b w.heap.size with h1 | h1
  · exact h1
  · simp [World.cell?, Array.getElem?_eq_none h1] at h
theorem CopS.of {b off h : Nat} {lo hi : Int} {A1 : Option Addr} {len1 cap1 : Nat} {p2 n2 : Int} {own2 : Bool} {x2 : Int} {w w' : World} (hS : CopS b off h lo hi A1 len1 cap1 p2 n2 own2 x2 w) (hb : Below w.heap.size w w') : CopS b off h lo hi A1 len1 cap1 p2 n2 own2 x2 w' := by
  obtain ⟨h0, h1, h2, h3, h4, h5, h6⟩ := hS
  exact ⟨(hb.cell (p := ⟨b, _, none⟩) (block_lt' h0)).trans h0, (hb.cell (p := ⟨b, _, none⟩) (block_lt' h1)).trans h1, (hb.cell (p := ⟨h, _, none⟩) (block_lt' h2)).trans h2, (hb.cell (p := ⟨h + 1, _, none⟩) (block_lt' h3)).trans h3, (hb.cell (p := ⟨h + 1, _, none⟩) (block_lt' h4)).trans h4, (hb.cell (p := ⟨h + 1, _, none⟩) (block_lt' h5)).trans h5, (hb.cell (p := ⟨h + 1, _, none⟩) (block_lt' h6)).trans h6⟩
theorem same_true (A B : Option Addr) (l : List Int) (n m ca cb : Nat) (w : World) (ha : Sl w A l) (hb : Sl w B l) (hn : l.length = n) (hm : l.length = m) (hmax : n ≤ 9223372036854775807) :
    Calls Try.prog 16 #[.slice A n ca, .slice B m cb] w fun e w' => e = .returned (.bool true) ∧ ∃ k, w' = w.drewN k := by
  have h := same_any A B l l n m ca cb w ha hb hn hm hmax
  rwa [show (l == l) = true by simp] at h
theorem nth_all' {l : List Int} (h : AllB l) (k : Nat) : 0 ≤ nth l k ∧ nth l k < 256 := by
  by_cases hk : k < l.length
  · rw [nth_get hk]; exact h _ (List.getElem_mem hk)
  · unfold nth; rw [List.getD_eq_getElem?_getD, List.getElem?_eq_none (by omega)]; simp
theorem sl_at {w : World} {g k : Nat} {l : List Int} (h : Sl w (some ⟨g, 0, none⟩) l) (hk : k < l.length) : w.cell? ⟨g, k, none⟩ = some (.int .u8 (nth l k)) := by
  rcases h with h | ⟨b, o, h, hc⟩
  · subst h; simp at hk
  · injection h with h
    injection h with e1 e2
    subst e1 e2
    have := hc k hk
    rwa [Nat.zero_add] at this
/-- the cells that a peek, or the poke, of the first region reads -/
abbrev Cop3 (b off h : Nat) (lo hi : Int) (A1 : Option Addr) (len1 cap1 : Nat) (w : World) : Prop :=
  w.cell? ⟨b, off, none⟩ = some (.int .u64 lo) ∧ w.cell? ⟨b, off + 1, none⟩ = some (.int .u64 hi) ∧ w.cell? ⟨h, 5, none⟩ = some (.slice A1 len1 cap1)
theorem CopS.three {b off h : Nat} {lo hi : Int} {A1 : Option Addr} {len1 cap1 : Nat} {p2 n2 : Int} {own2 : Bool} {x2 : Int} {w : World} (hS : CopS b off h lo hi A1 len1 cap1 p2 n2 own2 x2 w) : Cop3 b off h lo hi A1 len1 cap1 w := ⟨hS.1, hS.2.1, hS.2.2.1⟩
theorem CopS.back {b off h : Nat} {lo hi : Int} {A1 : Option Addr} {len1 cap1 : Nat} {p2 n2 : Int} {own2 : Bool} {x2 : Int} {w w' : World} {B : Nat} (hS : CopS b off h lo hi A1 len1 cap1 p2 n2 own2 x2 w) (hb : Below B w w') (h0 : b < B) (h1 : h + 1 < B) : CopS b off h lo hi A1 len1 cap1 p2 n2 own2 x2 w' := by
  obtain ⟨k0, k1, k2, k3, k4, k5, k6⟩ := hS
  exact ⟨(hb.cell (p := ⟨b, _, none⟩) h0).trans k0, (hb.cell (p := ⟨b, _, none⟩) h0).trans k1, (hb.cell (p := ⟨h, _, none⟩) (show h < B by omega)).trans k2, (hb.cell (p := ⟨h + 1, _, none⟩) h1).trans k3, (hb.cell (p := ⟨h + 1, _, none⟩) h1).trans k4, (hb.cell (p := ⟨h + 1, _, none⟩) h1).trans k5, (hb.cell (p := ⟨h + 1, _, none⟩) h1).trans k6⟩
theorem CopS.three_back {b off h : Nat} {lo hi : Int} {A1 : Option Addr} {len1 cap1 : Nat} {p2 n2 : Int} {own2 : Bool} {x2 : Int} {w w' : World} {B : Nat} (hS : CopS b off h lo hi A1 len1 cap1 p2 n2 own2 x2 w) (h0 : b < B) (h1 : h + 1 < B) (hb : Below B w.drew w') : Cop3 b off h lo hi A1 len1 cap1 w' :=
  (CopS.back (w := w) hS (((Below.refl B w).drew).trans hb) h0 h1).three
theorem CopS.three_later {b off h : Nat} {lo hi : Int} {A1 : Option Addr} {len1 cap1 : Nat} {p2 n2 : Int} {own2 : Bool} {x2 : Int} {w w' : World} (hS : CopS b off h lo hi A1 len1 cap1 p2 n2 own2 x2 w) (hb : Below w.drew.heap.size w.drew w') : Cop3 b off h lo hi A1 len1 cap1 w' :=
  (CopS.of (w := w) hS (((Below.refl _ w).drew).trans hb)).three
set_option maxRecDepth 100000 in
set_option maxHeartbeats 8000000 in
theorem walk (A0 : Option Addr) (len0 cap0 : Nat) (T : List Rg) (k1 p1 n1 : Int) (own1 : Bool) (x1 : Int) (A1 : Option Addr) (len1 cap1 : Nat) (z1 : List Int) (k2 p2 n2 : Int) (own2 : Bool) (x2 : Int) (A2 : Option Addr) (len2 cap2 : Nat) (z2 : List Int) (w : World)
    (hT0 : IsTab w A0 len0 T) (up1 : IsU p1) (un1 : IsI n1) (ux1 : IsU x1) (hz1 : IsRow .u8 w A1 len1 cap1 z1) (up2 : IsU p2) (un2 : IsI n2) (ux2 : IsU x2) (hz2 : IsRow .u8 w A2 len2 cap2 z2) :
    Calls Try.prog 3 #[.slice A0 len0 cap0, .agg #[.int .i64 k1, .int .u64 p1, .int .i64 n1, .bool own1, .int .u64 x1, .slice A1 len1 cap1], .agg #[.int .i64 k2, .int .u64 p2, .int .i64 n2, .bool own2, .int .u64 x2, .slice A2 len2 cap2]] w
      fun e w' => e = .returned (.bool true) ∧ Below w.heap.size w w' := by
  obtain ⟨hs1, hl1, ha1, hm1⟩ := hz1.sl
  have HT0 := Lib.hid hT0
  have HS1 := Lib.hid hs1
  have HL1 := Lib.hid hl1
  have HA1 := Lib.hid ha1
  have HP2 := Lib.hid (And.intro up2 (And.intro un2 ux2))
  have hm1' : len1 ≤ 9223372036854775807 := by unfold maxLen at hm1; omega
  clear hT0 up1 un1 ux1 hz1 up2 un2 ux2 hz2 hs1 hl1 ha1 hm1
  go_enter Try.func3, Try.ntmps3
  go_wp2_with fail
  have W5 : ((w.alloc (.cells #[.int .i64 k1, .int .u64 p1, .int .i64 n1, .bool own1, .int .u64 x1, .slice A1 len1 cap1] 26)).alloc (.cells #[.int .i64 k2, .int .u64 p2, .int .i64 n2, .bool own2, .int .u64 x2, .slice A2 len2 cap2] 26)).cell? ⟨w.heap.size, 5, none⟩ = some (.slice A1 len1 cap1) := by simp [go_sem]
  have V1 : ((w.alloc (.cells #[.int .i64 k1, .int .u64 p1, .int .i64 n1, .bool own1, .int .u64 x1, .slice A1 len1 cap1] 26)).alloc (.cells #[.int .i64 k2, .int .u64 p2, .int .i64 n2, .bool own2, .int .u64 x2, .slice A2 len2 cap2] 26)).cell? ⟨w.heap.size + 1, 1, none⟩ = some (.int .u64 p2) := by simp [go_sem]
  have V2 : ((w.alloc (.cells #[.int .i64 k1, .int .u64 p1, .int .i64 n1, .bool own1, .int .u64 x1, .slice A1 len1 cap1] 26)).alloc (.cells #[.int .i64 k2, .int .u64 p2, .int .i64 n2, .bool own2, .int .u64 x2, .slice A2 len2 cap2] 26)).cell? ⟨w.heap.size + 1, 2, none⟩ = some (.int .i64 n2) := by simp [go_sem]
  have V3 : ((w.alloc (.cells #[.int .i64 k1, .int .u64 p1, .int .i64 n1, .bool own1, .int .u64 x1, .slice A1 len1 cap1] 26)).alloc (.cells #[.int .i64 k2, .int .u64 p2, .int .i64 n2, .bool own2, .int .u64 x2, .slice A2 len2 cap2] 26)).cell? ⟨w.heap.size + 1, 3, none⟩ = some (.bool own2) := by simp [go_sem]
  have V4 : ((w.alloc (.cells #[.int .i64 k1, .int .u64 p1, .int .i64 n1, .bool own1, .int .u64 x1, .slice A1 len1 cap1] 26)).alloc (.cells #[.int .i64 k2, .int .u64 p2, .int .i64 n2, .bool own2, .int .u64 x2, .slice A2 len2 cap2] 26)).cell? ⟨w.heap.size + 1, 4, none⟩ = some (.int .u64 x2) := by simp [go_sem]
  have BW : Below w.heap.size w ((w.alloc (.cells #[.int .i64 k1, .int .u64 p1, .int .i64 n1, .bool own1, .int .u64 x1, .slice A1 len1 cap1] 26)).alloc (.cells #[.int .i64 k2, .int .u64 p2, .int .i64 n2, .bool own2, .int .u64 x2, .slice A2 len2 cap2] 26)) := ((Below.refl _ _).alloc (Nat.le_refl _) _).alloc (by simp) _
  generalize (w.alloc (.cells #[.int .i64 k1, .int .u64 p1, .int .i64 n1, .bool own1, .int .u64 x1, .slice A1 len1 cap1] 26)).alloc (.cells #[.int .i64 k2, .int .u64 p2, .int .i64 n2, .bool own2, .int .u64 x2, .slice A2 len2 cap2] 26) = Wb at *
  have HBW := Lib.hid BW
  have HTb := Lib.hid (HT0.out.below BW)
  have HSb := Lib.hid (HS1.out.below BW)
  have HV := Lib.hid (And.intro W5 (And.intro V1 (And.intro V2 (And.intro V3 V4))))
  have HhW := Lib.hid (show w.heap.size ≤ Wb.heap.size from BW.size)
  clear BW HT0 HS1 W5 V1 V2 V3 V4
  generalize hh : w.heap.size = h at *
  have HH := Lib.hid hh
  clear hh
  refine (awakeM _).mono ?_
  rintro e w1 ⟨rfl, hb1⟩
  have HB1 := Lib.hid hb1
  have HT1 := Lib.hid (HTb.out.below hb1)
  clear hb1
  go_wp2_with fail
  refine (small_any A0 cap0 T len0 _ HT1.out).mono ?_
  rintro e w2 ⟨bb, rfl, hbb, hb2⟩
  have HB2 := Lib.hid (HB1.out.trans (hb2.mono HB1.out.size))
  have HT2 := Lib.hid (HT1.out.below hb2)
  clear hb2 HB1 HT1
  cases bb with
  | false =>
    go_wp2
    go_ret
    exact ⟨rfl, by rw [HH.out]; exact HBW.out.trans (HB2.out.mono HhW.out)⟩
  | true =>
    have H100 := Lib.hid (hbb rfl)
    clear hbb
    go_wp2_with fail
    refine (rmay_any A0 cap0 T len0 H100.out _ HT2.out).mono ?_
    cases hm : mayB T with
    | false =>
      rintro e w3 ⟨rfl, hb3⟩
      have HB3 := Lib.hid (HB2.out.trans (hb3.mono HB2.out.size))
      clear hb3
      go_wp2
      go_ret
      exact ⟨rfl, by rw [HH.out]; exact HBW.out.trans (HB3.out.mono HhW.out)⟩
    | true =>
      rintro e w3 ⟨rfl, hb3⟩
      have HM := Lib.hid hm
      have HB3 := Lib.hid (HB2.out.trans (hb3.mono HB2.out.size))
      have HT3 := Lib.hid (HT2.out.below hb3)
      have W5 := ((HB3.out.cell (p := ⟨h, 5, none⟩) (block_lt' HV.out.1)).trans HV.out.1)
      clear hb3 HB2 HT2 hm
      by_cases h3 : 3000 < len1
      · have h3' : (3000 : Int) < len1 := by omega
        go_wp2
        go_ret
        exact ⟨rfl, by rw [HH.out]; exact HBW.out.trans (HB3.out.mono HhW.out)⟩
      · have h3' : (len1 : Int) ≤ 3000 := by omega
        go_wp2_with fail
        have hMT := mayB_to HM.out
        have h0 : 0 < len0 := by have := hMT.1; rw [HT3.out.1] at this; omega
        obtain ⟨i0, i1, i2, i3⟩ := HT3.out
        obtain ⟨b, off, rfl, ht⟩ := i3 h0
        have h0i : (0 : Int) < len0 := by omega
        have HTW := Lib.hid i1
        have HTL := Lib.hid i0
        have HMT := Lib.hid hMT
        have HL3 := Lib.hid (show (len1 : Nat) ≤ 1000000 by omega)
        refine (new_yes b off cap0 T len0 HTL.out HTW.out HM.out _ ht).mono ?_
        rintro e w4 ⟨m, tb, tc, hb, G, rfl, hI, hb4⟩
        have HI := Lib.hid (hI.rebase HB3.out.size)
        have HB4 := Lib.hid (HB3.out.trans (hb4.mono HB3.out.size))
        obtain ⟨q0, q1, _, _⟩ := ht.below hb4 0 (by rw [HTL.out]; exact h0)
        obtain ⟨⟨l0, l1⟩, ⟨u0, u1⟩, _⟩ := HTW.out 0 (by rw [HTL.out]; exact h0)
        have hok := okB_iff.1 (hMT.2.2.1 0 (by rw [HTL.out]; exact h0))
        obtain ⟨o0, o1, _⟩ := hok
        have hLL := findW hMT
        have hLi : ((lenR (nthR T 0) : Nat) : Int) = rhi (nthR T 0) - rlo (nthR T 0) := by unfold lenR; omega
        have HFW := Lib.hid hLL
        have HLi := Lib.hid hLi
        generalize hR : nthR T 0 = R at *
        have HR := Lib.hid hR
        have HS0 := Lib.hid (show CopS b off h (rlo R) (rhi R) A1 len1 cap1 p2 n2 own2 x2 w4 from
          ⟨by simpa using q0, by simpa using q1, (HB4.out.cell (p := ⟨h, 5, none⟩) (block_lt' HV.out.1)).trans HV.out.1, (HB4.out.cell (p := ⟨h + 1, 1, none⟩) (block_lt' HV.out.2.1)).trans HV.out.2.1, (HB4.out.cell (p := ⟨h + 1, 2, none⟩) (block_lt' HV.out.2.1)).trans HV.out.2.2.1, (HB4.out.cell (p := ⟨h + 1, 3, none⟩) (block_lt' HV.out.2.1)).trans HV.out.2.2.2.1, (HB4.out.cell (p := ⟨h + 1, 4, none⟩) (block_lt' HV.out.2.1)).trans HV.out.2.2.2.2⟩)
        clear hb4 hI q0 q1 i0 i1 i2 i3 ht hMT hR W5 hLL hLi
        generalize hL : lenR R = L at *
        have HL := Lib.hid hL
        have Hbb := Lib.hid (show b < Wb.heap.size ∧ h + 1 < Wb.heap.size from by
          obtain ⟨b', off', e, ht'⟩ := HTb.out.2.2.2 h0
          injection e with e
          injection e with e1 e2
          rw [e1]
          exact ⟨block_lt' (ht' 0 (by rw [HTL.out]; exact h0)).1, block_lt' HV.out.2.1⟩)
        clear hL
        go_wp2_with fail
        have HID := Lib.hid (HI.out.below (w' := w4.drew) (Below.drew (Below.refl _ _)))
        have HSD := Lib.hid (show Sl w4.drew A1 (z1.take len1) from HSb.out.below (HB4.out.drew))
        have HLO := Lib.hid (show IsU (rlo R) from ⟨l0, l1⟩)
        have HS4 := Lib.hid (show Cop3 b off h (rlo R) (rhi R) A1 len1 cap1 w4.drew from HS0.out.three)
        have HPK1 := Lib.hid (poke_any Wb.heap.size m tb tc hb len0 T G _ (rlo R) A1 len1 cap1 (z1.take len1) HLO.out HL3.out w4.drew HID.out HL1.out HA1.out HSD.out)
        have HKB1 := Lib.hid (show ∀ w', Below Wb.heap.size w4.drew w' → Cop3 b off h (rlo R) (rhi R) A1 len1 cap1 w' from fun w' hb => CopS.three_back HS0.out Hbb.out.1 Hbb.out.2 hb)
        go_region_held3 (fun w' => w'.cell? ⟨b, off, none⟩ = some (.int .u64 (rlo R)) ∧ w'.cell? ⟨b, off + 1, none⟩ = some (.int .u64 (rhi R)) ∧ w'.cell? ⟨h, 5, none⟩ = some (.slice A1 len1 cap1)) (first | exact HS4.out | (apply HKB1.out; assumption))
          (first
          | (go_at_call 12; (with_reducible refine HPK1.out.mono ?_); rintro e w5 ⟨code, B1, rfl, hM5, hB5⟩))
        have HM5 := Lib.hid hM5
        have HB5 := Lib.hid (show Below Wb.heap.size Wb w5 from HB4.out.drew.trans hB5)
        have HS5 := Lib.hid (CopS.back HS0.out (((Below.refl _ w4).drew).trans hB5) Hbb.out.1 Hbb.out.2)
        clear hM5 hB5 HID HSD HS4 HI HB4 HB3 HT3 HSb HTb HV HS0
        go_wp2_with fail
        refine (copy_yes Wb.heap.size m tb tc hb len0 T G B1 _ HM5.out HMT.out).mono ?_
        rintro e w6 ⟨m2, tb2, tc2, hb2, G2, rfl, hI6, hb6⟩
        have HC6 := Lib.hid hI6
        have HM6 := Lib.hid (HM5.out.below hb6)
        have HD6 := Lib.hid hb6
        have HS6 := Lib.hid (CopS.of HS5.out hb6)
        clear hI6 hb6
        go_wp2_with fail
        have hwr : IntKind.u64.wrap (rhi R - rlo R) = (L : Int) := by rw [IntKind.wrap_u64, HLi.out]; omega
        have hLb := HLi.out
        have L0 : (0 : Int) ≤ (L : Int) := by omega
        have L1 : (L : Int) ≤ 65536 := by omega
        have hwr2 : IntKind.i64.wrap (L : Int) = (L : Int) := by rw [IntKind.wrap_i64]; omega
        have HLI := Lib.hid (show IsI (L : Int) from ⟨by omega, by omega⟩)
        have HL6 := Lib.hid (show (L : Int) ≤ 1000000 by omega)
        have HCW := Lib.hid (show ∀ (w : World) (base m tb tc hb : Nat) (G : Nat → Nat) (B : Nat → List Int), MemIs w base m tb tc hb len0 T G B → cut T B (rlo R) (L : Int) 0 = B 0 from fun w base m tb tc hb G B hM => by have := cutW hM h0; rw [HR.out, HL.out] at this; exact this)
        clear hLb
        have HMD := Lib.hid (HM6.out.below (w' := w6.drew) (Below.drew (Below.refl _ _)))
        have K6 := Lib.hid (show Cop3 b off h (rlo R) (rhi R) A1 len1 cap1 w6.drew from HS6.out.three)
        have HPK2 := Lib.hid (peek_yes Wb.heap.size m tb tc hb len0 T G B1 (rlo R) (L : Int) 0 HLO.out HLI.out w6.drew HMD.out HFW.out HL6.out)
        have HKB2 := Lib.hid (show ∀ w', Below w6.drew.heap.size w6.drew w' → Cop3 b off h (rlo R) (rhi R) A1 len1 cap1 w' from fun w' hb => CopS.three_later HS6.out hb)
        go_region_held3 (fun w' => w'.cell? ⟨b, off, none⟩ = some (.int .u64 (rlo R)) ∧ w'.cell? ⟨b, off + 1, none⟩ = some (.int .u64 (rhi R)) ∧ w'.cell? ⟨h, 5, none⟩ = some (.slice A1 len1 cap1)) (first | exact K6.out | (apply HKB2.out; assumption))
          (first
          | (go_at_call 14; (with_reducible refine HPK2.out.mono ?_); rintro e w7 ⟨g7, c7, rfl, hs7, hg7, hb7⟩))
        rw [HCW.out _ _ _ _ _ _ _ _ HMD.out] at hs7
        have B7 : Below w6.heap.size w6 w7 := ((Below.refl _ w6).drew).trans hb7
        have HO7 := Lib.hid hs7
        have Hg7 := Lib.hid (show w6.heap.size ≤ g7 from hg7)
        have HC7 := Lib.hid (HC6.out.below B7)
        have HD7 := Lib.hid (HD6.out.trans (B7.mono HD6.out.size))
        have HS7 := Lib.hid (CopS.of HS6.out B7)
        clear hs7 hg7 hb7 B7 HMD K6 HM6
        obtain ⟨_, _, _, v1, v2, v3, v4⟩ := HS7.out
        go_wp2_with fail
        refine (store_any w5.heap.size m2 tb2 tc2 hb2 len0 T G2 B1 p2 n2 own2 x2 HP2.out.1 HP2.out.2.1 HP2.out.2.2 h0 _ HC7.out).mono ?_
        rintro e w8 ⟨code2, B2, j, rfl, hC8, hj, hg8, hcase⟩
        have HC8 := Lib.hid hC8
        have HD8 := Lib.hid (HD7.out.grown hg8 HD7.out.size (fun k hk => by cases hk; exact HC7.out.from_ j hj))
        have HM8 := Lib.hid (HM5.out.below HD8.out)
        have HS8 := Lib.hid (CopS.of HS5.out HD8.out)
        have HO8 := Lib.hid (HO7.out.kept hg8 (fun a ha => by cases ha; have := (HC6.out.rows j hj).lt; have := Hg7.out; show g7 ≠ G2 j; omega))
        have HCase := Lib.hid hcase
        have HC7B := Lib.hid (show MemIs w7 w5.heap.size m2 tb2 tc2 hb2 len0 T G2 B1 from HC7.out)
        clear hC8 hj hg8 hcase v1 v2 v3 v4 HS7 HC7 HD7 HO7
        go_wp2_with fail
        have HMD := Lib.hid (HM8.out.below (w' := w8.drew) (Below.drew (Below.refl _ _)))
        have K8 := Lib.hid (show Cop3 b off h (rlo R) (rhi R) A1 len1 cap1 w8.drew from HS8.out.three)
        have HPK3 := Lib.hid (peek_yes Wb.heap.size m tb tc hb len0 T G B1 (rlo R) (L : Int) 0 HLO.out HLI.out w8.drew HMD.out HFW.out HL6.out)
        have HKB3 := Lib.hid (show ∀ w', Below w8.drew.heap.size w8.drew w' → Cop3 b off h (rlo R) (rhi R) A1 len1 cap1 w' from fun w' hb => CopS.three_later HS8.out hb)
        go_region_held3 (fun w' => w'.cell? ⟨b, off, none⟩ = some (.int .u64 (rlo R)) ∧ w'.cell? ⟨b, off + 1, none⟩ = some (.int .u64 (rhi R)) ∧ w'.cell? ⟨h, 5, none⟩ = some (.slice A1 len1 cap1)) (first | exact K8.out | (apply HKB3.out; assumption))
          (first
          | (go_at_call 14; (with_reducible refine HPK3.out.mono ?_); rintro e w9 ⟨g9, c9, rfl, hs9, hg9, hb9⟩))
        rw [HCW.out _ _ _ _ _ _ _ _ HMD.out] at hs9
        have B9 : Below w8.heap.size w8 w9 := ((Below.refl _ w8).drew).trans hb9
        have HN9 := Lib.hid hs9
        have HO9 := Lib.hid (HO8.out.below B9)
        have HC9 := Lib.hid (HC8.out.below B9)
        have HD9 := Lib.hid (HD8.out.trans (B9.mono HD8.out.size))
        have HS9 := Lib.hid (CopS.of HS8.out B9)
        have HLB := Lib.hid (show (B1 0).length = L from by rw [HM5.out.lens 0 h0, HR.out]; exact HL.out)
        clear hs9 hg9 hb9 B9 HMD K8 HM8 HO8 HC8 HD8
        obtain ⟨_, _, _, v1, v2, v3, v4⟩ := HS9.out
        go_wp2_with fail
        refine (same_true _ _ (B1 0) L L _ _ _ HO9.out HN9.out HLB.out HLB.out (by omega)).mono ?_
        rintro e w10 ⟨rfl, n10, rfl⟩
        have HC10 := Lib.hid (HC9.out.below (w' := w9.drewN n10) (bel_drewN (Below.refl _ _) _))
        have HO10 := Lib.hid (HO9.out.drewN n10)
        have HD10 := Lib.hid (bel_drewN HD9.out n10)
        have HS10 := Lib.hid (CopS.of HS9.out (bel_drewN (Below.refl _ _) n10))
        clear HC9 HO9 HN9 HD9 HS9
        go_wp2_with fail
        rcases HCase.out with ⟨rfl, i, hA, rfl⟩ | ⟨rfl, hA, rfl⟩
        · have HA := Lib.hid hA
          have hn2 := accB_n hA.1
          have n0 : 1 ≤ n2 := by omega
          have n8 : n2 ≤ 8 := by omega
          clear hA hn2
          refine (allowed_yes m2 tb2 tc2 hb2 len0 T G2 p2 n2 own2 2 i HP2.out.1 HP2.out.2.1 _ HC10.out.toH HA.out).mono ?_
          rintro e w11 ⟨rfl, hb11⟩
          have HC11 := Lib.hid (HC10.out.below hb11)
          have HO11 := Lib.hid (HO10.out.below hb11)
          have HD11 := Lib.hid (HD10.out.trans (hb11.mono HD10.out.size))
          have HS11 := Lib.hid (CopS.of HS10.out hb11)
          clear hb11 HC10 HO10 HD10 HS10
          generalize hBB : (setB B1 i (splice (B1 i) (p2 - rlo (nthR T i)).toNat (bytesL x2 n2.toNat))) = B2 at *
          have HBB := Lib.hid hBB
          clear hBB v1 v2 v3 v4
          go_wp2_with fail
          have HMD := Lib.hid (HC11.out.below (w' := w11.drew) (Below.drew (Below.refl _ _)))
          have K11 := Lib.hid (show Cop3 b off h (rlo R) (rhi R) A1 len1 cap1 w11.drew from HS11.out.three)
          have HPK4 := Lib.hid (peek_yes w5.heap.size m2 tb2 tc2 hb2 len0 T G2 B2 (rlo R) (L : Int) 0 HLO.out HLI.out w11.drew HMD.out HFW.out HL6.out)
          have HKB4 := Lib.hid (show ∀ w', Below w11.drew.heap.size w11.drew w' → Cop3 b off h (rlo R) (rhi R) A1 len1 cap1 w' from fun w' hb => CopS.three_later HS11.out hb)
          go_region_held3 (fun w' => w'.cell? ⟨b, off, none⟩ = some (.int .u64 (rlo R)) ∧ w'.cell? ⟨b, off + 1, none⟩ = some (.int .u64 (rhi R)) ∧ w'.cell? ⟨h, 5, none⟩ = some (.slice A1 len1 cap1)) (first | exact K11.out | (apply HKB4.out; assumption))
            (first
            | (go_at_call 14; (with_reducible refine HPK4.out.mono ?_); rintro e w12 ⟨g12, c12, rfl, hs12, hg12, hb12⟩))
          rw [HCW.out _ _ _ _ _ _ _ _ HMD.out] at hs12
          have B12 : Below w11.heap.size w11 w12 := ((Below.refl _ w11).drew).trans hb12
          have HX12 := Lib.hid hs12
          have HO12 := Lib.hid (HO11.out.below B12)
          have HD12 := Lib.hid (HD11.out.trans (B12.mono HD11.out.size))
          have HS12 := Lib.hid (CopS.of HS11.out B12)
          have HLX := Lib.hid (show (B2 0).length = L from by rw [HC11.out.lens 0 h0, HR.out]; exact HL.out)
          have HAO := Lib.hid (HM5.out.all 0 h0)
          clear hs12 hg12 hb12 B12 HMD K11 HO11 HD11 HS11 hwr hwr2
          go_wp2_with fail
          go_loopw [17] (fun x wr => ∃ (k q : Nat), k ≤ L ∧ x = .int .i64 k ∧ wr = w12.drewN q) (fun x _ => L - (intOf x).toNat)
          case atStart => exact ⟨0, 0, by omega, rfl, rfl⟩
          case round =>
            obtain ⟨k, q, hk, rfl, rfl⟩ := hrel
            by_cases hlt : k < L
            · have k0 : (0 : Int) ≤ k := by omega
              have k1 : (k : Int) < L := by omega
              have hsum : rlo R + (k : Int) < rhi R := by have := HLi.out; omega
              have hsum0 : 0 ≤ rlo R + (k : Int) := by omega
              obtain ⟨s0, _, _, v1, v2, v3, v4⟩ := HS12.out
              have e0 := sl_at HO12.out (k := k) (by rw [HLB.out]; exact hlt)
              have e1 := sl_at HX12.out (k := k) (by rw [HLX.out]; exact hlt)
              obtain ⟨y0, y1⟩ := nth_all' HAO.out k
              by_cases hI : InB T p2 n2 k
              · have hv := stored_in (v := x2) HC7B.out HMT.out HA.out (k := k) (by rw [HR.out, HL.out]; exact hlt) hI
                rw [HBB.out, HR.out] at hv
                obtain ⟨f1, f2⟩ := hI
                rw [HR.out] at f1 f2
                obtain ⟨d, hd⟩ : ∃ d : Nat, rlo R + (k : Int) - p2 = (d : Int) := ⟨(rlo R + (k : Int) - p2).toNat, by omega⟩
                rw [hd, Int.toNat_natCast] at hv
                rw [hd] at f2
                rw [hv] at e1
                have d8 : (d : Int) < 8 := by omega
                have d0 : (0 : Int) ≤ d := by omega
                have HCV := Lib.hid (byte_conv HP2.out.2.2 (k := d))
                obtain ⟨z0, z1⟩ := byteI_bd x2 d
                clear hv
                go_wp2_with fail
                have hw1 : IntKind.u64.wrap (d : Int) = (d : Int) := by rw [IntKind.wrap_u64]; omega
                have hw2 : IntKind.u64.wrap (8 * (d : Int)) = 8 * (d : Int) := by rw [IntKind.wrap_u64]; omega
                have hw0 : IntKind.u64.wrap (rlo R + (k : Int) - p2) = (d : Int) := by rw [hd]; exact hw1
                have ht : (8 * (d : Int)).toNat = 8 * d := by omega
                have hcv := HCV.out
                have hcv2 : IntKind.u8.wrap (x2 / 2 ^ (8 * d)) = byteI x2 d := HCV.out
                have hs8 : (0 : Int) ≤ 8 * (d : Int) := by omega
                have hs9 : 8 * (d : Int) < 64 := by omega
                go_quiet (fail)
                clear hw0 hw1 hw2 ht hcv hcv2
                go_wp2
                go_roundw
                case rel => exact ⟨k + 1, _, by omega, by go_num, rfl⟩
                case measure => simp [intOf]; omega
              · have hv := stored_out (v := x2) HC7B.out HA.out hI
                rw [HBB.out] at hv
                rw [hv] at e1
                generalize nth (B1 0) k = y at *
                clear hv
                by_cases f1 : p2 ≤ rlo R + (k : Int)
                · have f2 : ¬ (rlo R + (k : Int) - p2 < n2) := fun h => hI ⟨by rw [HR.out]; exact f1, by rw [HR.out]; exact h⟩
                  obtain ⟨d, hd⟩ : ∃ d : Nat, rlo R + (k : Int) - p2 = (d : Int) := ⟨(rlo R + (k : Int) - p2).toNat, by omega⟩
                  rw [hd] at f2
                  have f3 : n2 ≤ (d : Int) := by omega
                  have d0 : (0 : Int) ≤ (d : Int) := by omega
                  have dd : (d : Int) < rhi R := by have := HP2.out.1.1; omega
                  have f4 : decide ((d : Int) < n2) = false := by rw [decide_eq_false_iff_not]; exact f2
                  clear hI f2
                  go_wp2_with fail
                  go_quiet (fail)
                  go_wp2
                  go_roundw
                  case rel => exact ⟨k + 1, _, by omega, by go_num, rfl⟩
                  case measure => simp [intOf]; omega
                · have f3 : rlo R + (k : Int) < p2 := by omega
                  have f4 : decide (p2 ≤ rlo R + (k : Int)) = false := by rw [decide_eq_false_iff_not]; exact f1
                  clear hI f1
                  go_wp2_with fail
                  go_quiet (fail)
                  go_wp2
                  go_roundw
                  case rel => exact ⟨k + 1, _, by omega, by go_num, rfl⟩
                  case measure => simp [intOf]; omega
            · obtain rfl : k = L := by omega
              go_wp2
              go_ret
              exact ⟨rfl, by rw [HH.out]; exact HBW.out.trans (bel_drewN ((HB5.out.trans (HD12.out.mono HB5.out.size)).mono HhW.out) _)⟩
        · have HA := Lib.hid hA
          clear hA
          refine (allowed_no m2 tb2 tc2 hb2 len0 T G2 p2 n2 own2 2 HP2.out.1 HP2.out.2.1 _ HC10.out.toH HA.out).mono ?_
          rintro e w11 ⟨rfl, hb11⟩
          have HC11 := Lib.hid (HC10.out.below hb11)
          have HO11 := Lib.hid (HO10.out.below hb11)
          have HD11 := Lib.hid (HD10.out.trans (hb11.mono HD10.out.size))
          have HS11 := Lib.hid (CopS.of HS10.out hb11)
          clear hb11 HC10 HO10 HD10 HS10
          clear v1 v2 v3 v4
          go_wp2_with fail
          have HMD := Lib.hid (HC11.out.below (w' := w11.drew) (Below.drew (Below.refl _ _)))
          have K11 := Lib.hid (show Cop3 b off h (rlo R) (rhi R) A1 len1 cap1 w11.drew from HS11.out.three)
          have HPK5 := Lib.hid (peek_yes w5.heap.size m2 tb2 tc2 hb2 len0 T G2 B2 (rlo R) (L : Int) 0 HLO.out HLI.out w11.drew HMD.out HFW.out HL6.out)
          have HKB5 := Lib.hid (show ∀ w', Below w11.drew.heap.size w11.drew w' → Cop3 b off h (rlo R) (rhi R) A1 len1 cap1 w' from fun w' hb => CopS.three_later HS11.out hb)
          go_region_held3 (fun w' => w'.cell? ⟨b, off, none⟩ = some (.int .u64 (rlo R)) ∧ w'.cell? ⟨b, off + 1, none⟩ = some (.int .u64 (rhi R)) ∧ w'.cell? ⟨h, 5, none⟩ = some (.slice A1 len1 cap1)) (first | exact K11.out | (apply HKB5.out; assumption))
            (first
            | (go_at_call 14; (with_reducible refine HPK5.out.mono ?_); rintro e w12 ⟨g12, c12, rfl, hs12, hg12, hb12⟩))
          rw [HCW.out _ _ _ _ _ _ _ _ HMD.out] at hs12
          have B12 : Below w11.heap.size w11 w12 := ((Below.refl _ w11).drew).trans hb12
          have HX12 := Lib.hid hs12
          have HO12 := Lib.hid (HO11.out.below B12)
          have HD12 := Lib.hid (HD11.out.trans (B12.mono HD11.out.size))
          have HS12 := Lib.hid (CopS.of HS11.out B12)
          have HLX := Lib.hid (show (B2 0).length = L from by rw [HC11.out.lens 0 h0, HR.out]; exact HL.out)
          have HAO := Lib.hid (HM5.out.all 0 h0)
          clear hs12 hg12 hb12 B12 HMD K11 HO11 HD11 HS11 hwr hwr2
          go_wp2_with fail
          go_loopw [17] (fun x wr => ∃ (k q : Nat), k ≤ L ∧ x = .int .i64 k ∧ wr = w12.drewN q) (fun x _ => L - (intOf x).toNat)
          case atStart => exact ⟨0, 0, by omega, rfl, rfl⟩
          case round =>
            obtain ⟨k, q, hk, rfl, rfl⟩ := hrel
            by_cases hlt : k < L
            · have k0 : (0 : Int) ≤ k := by omega
              have k1 : (k : Int) < L := by omega
              have hsum : rlo R + (k : Int) < rhi R := by have := HLi.out; omega
              have hsum0 : 0 ≤ rlo R + (k : Int) := by omega
              obtain ⟨s0, _, _, v1, v2, v3, v4⟩ := HS12.out
              have e0 := sl_at HO12.out (k := k) (by rw [HLB.out]; exact hlt)
              have e1 := sl_at HX12.out (k := k) (by rw [HLX.out]; exact hlt)
              obtain ⟨y0, y1⟩ := nth_all' HAO.out k
              generalize nth (B2 0) k = y at *
              go_wp2_with fail
              go_quiet (fail)
              go_wp2
              go_roundw
              case rel => exact ⟨k + 1, _, by omega, by go_num, rfl⟩
              case measure => simp [intOf]; omega
            · obtain rfl : k = L := by omega
              go_wp2
              go_ret
              exact ⟨rfl, by rw [HH.out]; exact HBW.out.trans (bel_drewN ((HB5.out.trans (HD12.out.mono HB5.out.size)).mono HhW.out) _)⟩
end Go.Proofs.Ytpfohbinjcdcbaa.MemCopiesWalk
