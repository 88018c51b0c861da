/- The walk of the statement PlaceComes: it returns true, and writes nothing that was there. Condition: the tables of package ins read as they should. -/
import Derived.Test.YtjngkifoaljmaaaDoorPlaI
import Derived.Test.YtjngkifoaljmaaaDoorPlaP
import Derived.Test.YtjngkifoaljmaaaDoorInsRDecode
namespace Go.Proofs.YtjngkifoaljmaaaDoor.PlaceComesWalk
set_option maxRecDepth 100000
open Go.RowKit
set_option linter.unusedVariables false
theorem dec_of {n : Nat} {rd r1 r2 imm : Int} (hn : n < 43) (h : mayB n rd r1 r2 imm = true) (w : World) :
    Calls Tryd.prog 10 #[.int .u32 (encI n rd r1 r2 imm)] w fun e w' => e = .returned (.tuple #[.agg #[.int .i64 n, .int .i64 rd, .int .i64 r1, .int .i64 r2, .int .i64 imm], .int .i64 0]) ∧ Below w.heap.size w w' := by
  obtain ⟨h1, h2, h3, h4, h5, h6⟩ := enc_read hn h
  have := rdecode_yes (encI n rd r1 r2 imm) n w h1 hn h2
  rw [h3, h4, h5, h6] at this
  exact this
def EncH (n r r1 L : Int) : Prop := ∀ w : World, Calls Tryd.prog 8 #[.agg #[.int .i64 n, .int .i64 r, .int .i64 r1, .int .i64 0, .int .i64 0]] w fun e w' => e = .returned (.tuple #[.int .u32 L, .int .i64 0]) ∧ Below w.heap.size w w'
def RelH (L k p v X c : Int) : Prop := ∀ w : World, Tabs w → Calls Tryd.prog 9 #[.int .u32 L, .int .i64 k, .int .u64 p, .int .u64 v] w fun e w' => Below w.heap.size w w' ∧ e = .returned (.tuple #[.int .u32 X, .int .i64 c])
def DecH (X z0 z1 z2 z3 z4 E : Int) : Prop := ∀ w : World, Calls Tryd.prog 10 #[.int .u32 X] w fun e w' => e = .returned (.tuple #[.agg #[.int .i64 z0, .int .i64 z1, .int .i64 z2, .int .i64 z3, .int .i64 z4], .int .i64 E]) ∧ Below w.heap.size w w'
set_option maxHeartbeats 8000000 in
theorem core_fit (D a s p v v0 L1 L2 L3 X1 X2 X3 n1 n2 z0 z1 z2 z3 : Int) (w : World) (HT : Hid (Tabs w)) (ha : a.tmod 31 = s) (hv : v0.tmod 2147481600 = v) (h1 : 0 ≤ s) (h2 : s < 31) (a0 : 0 ≤ a) (a1 : a ≤ 255) (b0 : 0 ≤ v0) (b1 : v0 < 4294967296) (h3 : 0 ≤ v) (h4 : v < 2147481600) (h5 : 0 ≤ p) (h6 : p < 4294967296)
    (HE1 : Hid (EncH 38 (1 + s) 0 L1)) (HE2 : Hid (EncH 16 (1 + s) (1 + s) L2)) (HE3 : Hid (EncH 40 (1 + s) 0 L3)) (H1 : Hid (RelH L1 0 p v X1 0)) (H2 : Hid (RelH L2 1 p v X2 0)) (H3 : Hid (RelH L3 2 p v X3 0))
    (HD1 : Hid (DecH X1 38 (1 + s) 0 0 n1 0)) (HD2 : Hid (DecH X2 16 (1 + s) (1 + s) 0 n2 0)) (HD3 : Hid (DecH X3 z0 z1 z2 z3 D 0)) (HS : Hid (n1 + n2 = v)) (m0 : 0 ≤ n1) (m1 : n1 ≤ 2147483648) (m2 : -2048 ≤ n2) (m3 : n2 ≤ 2048) (hd : wrap64 (IntKind.u64.wrap (v - p)) = D) (hw : IntKind.u64.wrap (n1 + n2) = v) (d0 : -1048576 ≤ D) (d1 : D ≤ 1048574) (d2 : (D.tmod 2 == 0) = true) (d3 : IntKind.u64.wrap (p + IntKind.u64.wrap D) = v) :
    Calls Tryd.prog 3 #[.int .u8 a, .int .u32 p, .int .u32 v0] w fun e w' => e = .returned (.bool true) ∧ Below w.heap.size w w' := by
  go_enter Tryd.func3, Tryd.ntmps3
  go_wp2_with fail
  refine (awake8_yes w HT.out).mono ?_
  rintro e w1 ⟨rfl, hb⟩
  have HB1 := Lib.hid hb
  clear hb
  go_wp2_with fail
  refine (HE1.out _).mono ?_
  rintro e w2 ⟨rfl, hb⟩
  have HB2 := Lib.hid (HB1.out.trans (hb.mono HB1.out.size))
  clear hb
  go_wp2_with fail
  refine (HE2.out _).mono ?_
  rintro e w3 ⟨rfl, hb⟩
  have HB3 := Lib.hid (HB2.out.trans (hb.mono HB2.out.size))
  clear hb
  go_wp2_with fail
  refine (HE3.out _).mono ?_
  rintro e w4 ⟨rfl, hb⟩
  have HB4 := Lib.hid (HB3.out.trans (hb.mono HB3.out.size))
  clear hb
  go_wp2_with fail
  refine (H1.out _ (HT.out.below HB4.out)).mono ?_
  rintro e w5 ⟨hb, rfl⟩
  have HB5 := Lib.hid (HB4.out.trans (hb.mono HB4.out.size))
  clear hb
  go_wp2_with fail
  refine (H2.out _ (HT.out.below HB5.out)).mono ?_
  rintro e w6 ⟨hb, rfl⟩
  have HB6 := Lib.hid (HB5.out.trans (hb.mono HB5.out.size))
  clear hb
  go_wp2_with fail
  refine (H3.out _ (HT.out.below HB6.out)).mono ?_
  rintro e w7 ⟨hb, rfl⟩
  have HB7 := Lib.hid (HB6.out.trans (hb.mono HB6.out.size))
  clear hb
  go_wp2_with fail
  refine (HD1.out _).mono ?_
  rintro e w8 ⟨rfl, hb⟩
  have HX8 := Lib.hid (heap_alloc_new w8 (.cells #[.int .i64 38, .int .i64 (1 + s), .int .i64 0, .int .i64 0, .int .i64 n1] 29))
  have HB8 := Lib.hid ((HB7.out.trans (hb.mono HB7.out.size)).alloc (Nat.le_trans HB7.out.size hb.size) (.cells #[.int .i64 38, .int .i64 (1 + s), .int .i64 0, .int .i64 0, .int .i64 n1] 29))
  clear hb
  go_wp2_with fail
  refine (HD2.out _).mono ?_
  rintro e w9 ⟨rfl, hb⟩
  have HX9 := Lib.hid ((hb.block _ (Array.getElem?_eq_some_iff.1 HX8.out).1).trans HX8.out)
  have HY9 := Lib.hid (heap_alloc_new w9 (.cells #[.int .i64 16, .int .i64 (1 + s), .int .i64 (1 + s), .int .i64 0, .int .i64 n2] 29))
  have HX9 := Lib.hid ((heap_alloc_old w9 (.cells #[.int .i64 16, .int .i64 (1 + s), .int .i64 (1 + s), .int .i64 0, .int .i64 n2] 29) (Array.getElem?_eq_some_iff.1 HX9.out).1).trans HX9.out)
  have HB9 := Lib.hid ((HB8.out.trans (hb.mono HB8.out.size)).alloc (Nat.le_trans HB8.out.size hb.size) (.cells #[.int .i64 16, .int .i64 (1 + s), .int .i64 (1 + s), .int .i64 0, .int .i64 n2] 29))
  clear hb
  go_wp2_with fail
  refine (HD3.out _).mono ?_
  rintro e w10 ⟨rfl, hb⟩
  have HX10 := Lib.hid ((hb.block _ (Array.getElem?_eq_some_iff.1 HX9.out).1).trans HX9.out)
  have HY10 := Lib.hid ((hb.block _ (Array.getElem?_eq_some_iff.1 HY9.out).1).trans HY9.out)
  have HZ10 := Lib.hid (heap_alloc_new w10 (.cells #[.int .i64 z0, .int .i64 z1, .int .i64 z2, .int .i64 z3, .int .i64 D] 29))
  have HX11 := Lib.hid ((heap_alloc_old w10 (.cells #[.int .i64 z0, .int .i64 z1, .int .i64 z2, .int .i64 z3, .int .i64 D] 29) (Array.getElem?_eq_some_iff.1 HX10.out).1).trans HX10.out)
  have HY11 := Lib.hid ((heap_alloc_old w10 (.cells #[.int .i64 z0, .int .i64 z1, .int .i64 z2, .int .i64 z3, .int .i64 D] 29) (Array.getElem?_eq_some_iff.1 HY10.out).1).trans HY10.out)
  have HB10 := Lib.hid ((HB9.out.trans (hb.mono HB9.out.size)).alloc (Nat.le_trans HB9.out.size hb.size) (.cells #[.int .i64 z0, .int .i64 z1, .int .i64 z2, .int .i64 z3, .int .i64 D] 29))
  clear hb HX8 HX9 HY9 HX10 HY10
  obtain ⟨x0, x1, x2, x3, x4, xf⟩ := row5 HX11.out
  obtain ⟨y0, y1, y2, y3, y4, yf⟩ := row5 HY11.out
  obtain ⟨q0, q1, q2, q3, q4, qf⟩ := row5 HZ10.out
  go_wp2
  all_goals (go_ret; exact ⟨rfl, HB10.out⟩)
set_option maxHeartbeats 8000000 in
theorem core_low (D a s p v v0 L1 L2 L3 X1 X2 X3 n1 n2 z0 z1 z2 z3 z4 E : Int) (w : World) (HT : Hid (Tabs w)) (ha : a.tmod 31 = s) (hv : v0.tmod 2147481600 = v) (h1 : 0 ≤ s) (h2 : s < 31) (a0 : 0 ≤ a) (a1 : a ≤ 255) (b0 : 0 ≤ v0) (b1 : v0 < 4294967296) (h3 : 0 ≤ v) (h4 : v < 2147481600) (h5 : 0 ≤ p) (h6 : p < 4294967296)
    (HE1 : Hid (EncH 38 (1 + s) 0 L1)) (HE2 : Hid (EncH 16 (1 + s) (1 + s) L2)) (HE3 : Hid (EncH 40 (1 + s) 0 L3)) (H1 : Hid (RelH L1 0 p v X1 0)) (H2 : Hid (RelH L2 1 p v X2 0)) (H3 : Hid (RelH L3 2 p v X3 5))
    (HD1 : Hid (DecH X1 38 (1 + s) 0 0 n1 0)) (HD2 : Hid (DecH X2 16 (1 + s) (1 + s) 0 n2 0)) (HD3 : Hid (DecH X3 z0 z1 z2 z3 z4 E)) (HS : Hid (n1 + n2 = v)) (m0 : 0 ≤ n1) (m1 : n1 ≤ 2147483648) (m2 : -2048 ≤ n2) (m3 : n2 ≤ 2048) (hd : wrap64 (IntKind.u64.wrap (v - p)) = D) (hw : IntKind.u64.wrap (n1 + n2) = v) (d0 : ¬ -1048576 ≤ D) :
    Calls Tryd.prog 3 #[.int .u8 a, .int .u32 p, .int .u32 v0] w fun e w' => e = .returned (.bool true) ∧ Below w.heap.size w w' := by
  go_enter Tryd.func3, Tryd.ntmps3
  go_wp2_with fail
  refine (awake8_yes w HT.out).mono ?_
  rintro e w1 ⟨rfl, hb⟩
  have HB1 := Lib.hid hb
  clear hb
  go_wp2_with fail
  refine (HE1.out _).mono ?_
  rintro e w2 ⟨rfl, hb⟩
  have HB2 := Lib.hid (HB1.out.trans (hb.mono HB1.out.size))
  clear hb
  go_wp2_with fail
  refine (HE2.out _).mono ?_
  rintro e w3 ⟨rfl, hb⟩
  have HB3 := Lib.hid (HB2.out.trans (hb.mono HB2.out.size))
  clear hb
  go_wp2_with fail
  refine (HE3.out _).mono ?_
  rintro e w4 ⟨rfl, hb⟩
  have HB4 := Lib.hid (HB3.out.trans (hb.mono HB3.out.size))
  clear hb
  go_wp2_with fail
  refine (H1.out _ (HT.out.below HB4.out)).mono ?_
  rintro e w5 ⟨hb, rfl⟩
  have HB5 := Lib.hid (HB4.out.trans (hb.mono HB4.out.size))
  clear hb
  go_wp2_with fail
  refine (H2.out _ (HT.out.below HB5.out)).mono ?_
  rintro e w6 ⟨hb, rfl⟩
  have HB6 := Lib.hid (HB5.out.trans (hb.mono HB5.out.size))
  clear hb
  go_wp2_with fail
  refine (H3.out _ (HT.out.below HB6.out)).mono ?_
  rintro e w7 ⟨hb, rfl⟩
  have HB7 := Lib.hid (HB6.out.trans (hb.mono HB6.out.size))
  clear hb
  go_wp2_with fail
  refine (HD1.out _).mono ?_
  rintro e w8 ⟨rfl, hb⟩
  have HX8 := Lib.hid (heap_alloc_new w8 (.cells #[.int .i64 38, .int .i64 (1 + s), .int .i64 0, .int .i64 0, .int .i64 n1] 29))
  have HB8 := Lib.hid ((HB7.out.trans (hb.mono HB7.out.size)).alloc (Nat.le_trans HB7.out.size hb.size) (.cells #[.int .i64 38, .int .i64 (1 + s), .int .i64 0, .int .i64 0, .int .i64 n1] 29))
  clear hb
  go_wp2_with fail
  refine (HD2.out _).mono ?_
  rintro e w9 ⟨rfl, hb⟩
  have HX9 := Lib.hid ((hb.block _ (Array.getElem?_eq_some_iff.1 HX8.out).1).trans HX8.out)
  have HY9 := Lib.hid (heap_alloc_new w9 (.cells #[.int .i64 16, .int .i64 (1 + s), .int .i64 (1 + s), .int .i64 0, .int .i64 n2] 29))
  have HX9 := Lib.hid ((heap_alloc_old w9 (.cells #[.int .i64 16, .int .i64 (1 + s), .int .i64 (1 + s), .int .i64 0, .int .i64 n2] 29) (Array.getElem?_eq_some_iff.1 HX9.out).1).trans HX9.out)
  have HB9 := Lib.hid ((HB8.out.trans (hb.mono HB8.out.size)).alloc (Nat.le_trans HB8.out.size hb.size) (.cells #[.int .i64 16, .int .i64 (1 + s), .int .i64 (1 + s), .int .i64 0, .int .i64 n2] 29))
  clear hb
  go_wp2_with fail
  refine (HD3.out _).mono ?_
  rintro e w10 ⟨rfl, hb⟩
  have HX10 := Lib.hid ((hb.block _ (Array.getElem?_eq_some_iff.1 HX9.out).1).trans HX9.out)
  have HY10 := Lib.hid ((hb.block _ (Array.getElem?_eq_some_iff.1 HY9.out).1).trans HY9.out)
  have HZ10 := Lib.hid (heap_alloc_new w10 (.cells #[.int .i64 z0, .int .i64 z1, .int .i64 z2, .int .i64 z3, .int .i64 z4] 29))
  have HX11 := Lib.hid ((heap_alloc_old w10 (.cells #[.int .i64 z0, .int .i64 z1, .int .i64 z2, .int .i64 z3, .int .i64 z4] 29) (Array.getElem?_eq_some_iff.1 HX10.out).1).trans HX10.out)
  have HY11 := Lib.hid ((heap_alloc_old w10 (.cells #[.int .i64 z0, .int .i64 z1, .int .i64 z2, .int .i64 z3, .int .i64 z4] 29) (Array.getElem?_eq_some_iff.1 HY10.out).1).trans HY10.out)
  have HB10 := Lib.hid ((HB9.out.trans (hb.mono HB9.out.size)).alloc (Nat.le_trans HB9.out.size hb.size) (.cells #[.int .i64 z0, .int .i64 z1, .int .i64 z2, .int .i64 z3, .int .i64 z4] 29))
  clear hb HX8 HX9 HY9 HX10 HY10
  obtain ⟨x0, x1, x2, x3, x4, xf⟩ := row5 HX11.out
  obtain ⟨y0, y1, y2, y3, y4, yf⟩ := row5 HY11.out
  obtain ⟨q0, q1, q2, q3, q4, qf⟩ := row5 HZ10.out
  go_wp2
  all_goals (go_ret; exact ⟨rfl, HB10.out⟩)
set_option maxHeartbeats 8000000 in
theorem core_high (D a s p v v0 L1 L2 L3 X1 X2 X3 n1 n2 z0 z1 z2 z3 z4 E : Int) (w : World) (HT : Hid (Tabs w)) (ha : a.tmod 31 = s) (hv : v0.tmod 2147481600 = v) (h1 : 0 ≤ s) (h2 : s < 31) (a0 : 0 ≤ a) (a1 : a ≤ 255) (b0 : 0 ≤ v0) (b1 : v0 < 4294967296) (h3 : 0 ≤ v) (h4 : v < 2147481600) (h5 : 0 ≤ p) (h6 : p < 4294967296)
    (HE1 : Hid (EncH 38 (1 + s) 0 L1)) (HE2 : Hid (EncH 16 (1 + s) (1 + s) L2)) (HE3 : Hid (EncH 40 (1 + s) 0 L3)) (H1 : Hid (RelH L1 0 p v X1 0)) (H2 : Hid (RelH L2 1 p v X2 0)) (H3 : Hid (RelH L3 2 p v X3 5))
    (HD1 : Hid (DecH X1 38 (1 + s) 0 0 n1 0)) (HD2 : Hid (DecH X2 16 (1 + s) (1 + s) 0 n2 0)) (HD3 : Hid (DecH X3 z0 z1 z2 z3 z4 E)) (HS : Hid (n1 + n2 = v)) (m0 : 0 ≤ n1) (m1 : n1 ≤ 2147483648) (m2 : -2048 ≤ n2) (m3 : n2 ≤ 2048) (hd : wrap64 (IntKind.u64.wrap (v - p)) = D) (hw : IntKind.u64.wrap (n1 + n2) = v) (d0 : -1048576 ≤ D) (d1 : ¬ D ≤ 1048574) :
    Calls Tryd.prog 3 #[.int .u8 a, .int .u32 p, .int .u32 v0] w fun e w' => e = .returned (.bool true) ∧ Below w.heap.size w w' := by
  go_enter Tryd.func3, Tryd.ntmps3
  go_wp2_with fail
  refine (awake8_yes w HT.out).mono ?_
  rintro e w1 ⟨rfl, hb⟩
  have HB1 := Lib.hid hb
  clear hb
  go_wp2_with fail
  refine (HE1.out _).mono ?_
  rintro e w2 ⟨rfl, hb⟩
  have HB2 := Lib.hid (HB1.out.trans (hb.mono HB1.out.size))
  clear hb
  go_wp2_with fail
  refine (HE2.out _).mono ?_
  rintro e w3 ⟨rfl, hb⟩
  have HB3 := Lib.hid (HB2.out.trans (hb.mono HB2.out.size))
  clear hb
  go_wp2_with fail
  refine (HE3.out _).mono ?_
  rintro e w4 ⟨rfl, hb⟩
  have HB4 := Lib.hid (HB3.out.trans (hb.mono HB3.out.size))
  clear hb
  go_wp2_with fail
  refine (H1.out _ (HT.out.below HB4.out)).mono ?_
  rintro e w5 ⟨hb, rfl⟩
  have HB5 := Lib.hid (HB4.out.trans (hb.mono HB4.out.size))
  clear hb
  go_wp2_with fail
  refine (H2.out _ (HT.out.below HB5.out)).mono ?_
  rintro e w6 ⟨hb, rfl⟩
  have HB6 := Lib.hid (HB5.out.trans (hb.mono HB5.out.size))
  clear hb
  go_wp2_with fail
  refine (H3.out _ (HT.out.below HB6.out)).mono ?_
  rintro e w7 ⟨hb, rfl⟩
  have HB7 := Lib.hid (HB6.out.trans (hb.mono HB6.out.size))
  clear hb
  go_wp2_with fail
  refine (HD1.out _).mono ?_
  rintro e w8 ⟨rfl, hb⟩
  have HX8 := Lib.hid (heap_alloc_new w8 (.cells #[.int .i64 38, .int .i64 (1 + s), .int .i64 0, .int .i64 0, .int .i64 n1] 29))
  have HB8 := Lib.hid ((HB7.out.trans (hb.mono HB7.out.size)).alloc (Nat.le_trans HB7.out.size hb.size) (.cells #[.int .i64 38, .int .i64 (1 + s), .int .i64 0, .int .i64 0, .int .i64 n1] 29))
  clear hb
  go_wp2_with fail
  refine (HD2.out _).mono ?_
  rintro e w9 ⟨rfl, hb⟩
  have HX9 := Lib.hid ((hb.block _ (Array.getElem?_eq_some_iff.1 HX8.out).1).trans HX8.out)
  have HY9 := Lib.hid (heap_alloc_new w9 (.cells #[.int .i64 16, .int .i64 (1 + s), .int .i64 (1 + s), .int .i64 0, .int .i64 n2] 29))
  have HX9 := Lib.hid ((heap_alloc_old w9 (.cells #[.int .i64 16, .int .i64 (1 + s), .int .i64 (1 + s), .int .i64 0, .int .i64 n2] 29) (Array.getElem?_eq_some_iff.1 HX9.out).1).trans HX9.out)
  have HB9 := Lib.hid ((HB8.out.trans (hb.mono HB8.out.size)).alloc (Nat.le_trans HB8.out.size hb.size) (.cells #[.int .i64 16, .int .i64 (1 + s), .int .i64 (1 + s), .int .i64 0, .int .i64 n2] 29))
  clear hb
  go_wp2_with fail
  refine (HD3.out _).mono ?_
  rintro e w10 ⟨rfl, hb⟩
  have HX10 := Lib.hid ((hb.block _ (Array.getElem?_eq_some_iff.1 HX9.out).1).trans HX9.out)
  have HY10 := Lib.hid ((hb.block _ (Array.getElem?_eq_some_iff.1 HY9.out).1).trans HY9.out)
  have HZ10 := Lib.hid (heap_alloc_new w10 (.cells #[.int .i64 z0, .int .i64 z1, .int .i64 z2, .int .i64 z3, .int .i64 z4] 29))
  have HX11 := Lib.hid ((heap_alloc_old w10 (.cells #[.int .i64 z0, .int .i64 z1, .int .i64 z2, .int .i64 z3, .int .i64 z4] 29) (Array.getElem?_eq_some_iff.1 HX10.out).1).trans HX10.out)
  have HY11 := Lib.hid ((heap_alloc_old w10 (.cells #[.int .i64 z0, .int .i64 z1, .int .i64 z2, .int .i64 z3, .int .i64 z4] 29) (Array.getElem?_eq_some_iff.1 HY10.out).1).trans HY10.out)
  have HB10 := Lib.hid ((HB9.out.trans (hb.mono HB9.out.size)).alloc (Nat.le_trans HB9.out.size hb.size) (.cells #[.int .i64 z0, .int .i64 z1, .int .i64 z2, .int .i64 z3, .int .i64 z4] 29))
  clear hb HX8 HX9 HY9 HX10 HY10
  obtain ⟨x0, x1, x2, x3, x4, xf⟩ := row5 HX11.out
  obtain ⟨y0, y1, y2, y3, y4, yf⟩ := row5 HY11.out
  obtain ⟨q0, q1, q2, q3, q4, qf⟩ := row5 HZ10.out
  go_wp2
  all_goals (go_ret; exact ⟨rfl, HB10.out⟩)
set_option maxHeartbeats 8000000 in
theorem core_odd (D a s p v v0 L1 L2 L3 X1 X2 X3 n1 n2 z0 z1 z2 z3 z4 E : Int) (w : World) (HT : Hid (Tabs w)) (ha : a.tmod 31 = s) (hv : v0.tmod 2147481600 = v) (h1 : 0 ≤ s) (h2 : s < 31) (a0 : 0 ≤ a) (a1 : a ≤ 255) (b0 : 0 ≤ v0) (b1 : v0 < 4294967296) (h3 : 0 ≤ v) (h4 : v < 2147481600) (h5 : 0 ≤ p) (h6 : p < 4294967296)
    (HE1 : Hid (EncH 38 (1 + s) 0 L1)) (HE2 : Hid (EncH 16 (1 + s) (1 + s) L2)) (HE3 : Hid (EncH 40 (1 + s) 0 L3)) (H1 : Hid (RelH L1 0 p v X1 0)) (H2 : Hid (RelH L2 1 p v X2 0)) (H3 : Hid (RelH L3 2 p v X3 5))
    (HD1 : Hid (DecH X1 38 (1 + s) 0 0 n1 0)) (HD2 : Hid (DecH X2 16 (1 + s) (1 + s) 0 n2 0)) (HD3 : Hid (DecH X3 z0 z1 z2 z3 z4 E)) (HS : Hid (n1 + n2 = v)) (m0 : 0 ≤ n1) (m1 : n1 ≤ 2147483648) (m2 : -2048 ≤ n2) (m3 : n2 ≤ 2048) (hd : wrap64 (IntKind.u64.wrap (v - p)) = D) (hw : IntKind.u64.wrap (n1 + n2) = v) (d0 : -1048576 ≤ D) (d1 : D ≤ 1048574) (d2 : (D.tmod 2 == 0) = false) :
    Calls Tryd.prog 3 #[.int .u8 a, .int .u32 p, .int .u32 v0] w fun e w' => e = .returned (.bool true) ∧ Below w.heap.size w w' := by
  go_enter Tryd.func3, Tryd.ntmps3
  go_wp2_with fail
  refine (awake8_yes w HT.out).mono ?_
  rintro e w1 ⟨rfl, hb⟩
  have HB1 := Lib.hid hb
  clear hb
  go_wp2_with fail
  refine (HE1.out _).mono ?_
  rintro e w2 ⟨rfl, hb⟩
  have HB2 := Lib.hid (HB1.out.trans (hb.mono HB1.out.size))
  clear hb
  go_wp2_with fail
  refine (HE2.out _).mono ?_
  rintro e w3 ⟨rfl, hb⟩
  have HB3 := Lib.hid (HB2.out.trans (hb.mono HB2.out.size))
  clear hb
  go_wp2_with fail
  refine (HE3.out _).mono ?_
  rintro e w4 ⟨rfl, hb⟩
  have HB4 := Lib.hid (HB3.out.trans (hb.mono HB3.out.size))
  clear hb
  go_wp2_with fail
  refine (H1.out _ (HT.out.below HB4.out)).mono ?_
  rintro e w5 ⟨hb, rfl⟩
  have HB5 := Lib.hid (HB4.out.trans (hb.mono HB4.out.size))
  clear hb
  go_wp2_with fail
  refine (H2.out _ (HT.out.below HB5.out)).mono ?_
  rintro e w6 ⟨hb, rfl⟩
  have HB6 := Lib.hid (HB5.out.trans (hb.mono HB5.out.size))
  clear hb
  go_wp2_with fail
  refine (H3.out _ (HT.out.below HB6.out)).mono ?_
  rintro e w7 ⟨hb, rfl⟩
  have HB7 := Lib.hid (HB6.out.trans (hb.mono HB6.out.size))
  clear hb
  go_wp2_with fail
  refine (HD1.out _).mono ?_
  rintro e w8 ⟨rfl, hb⟩
  have HX8 := Lib.hid (heap_alloc_new w8 (.cells #[.int .i64 38, .int .i64 (1 + s), .int .i64 0, .int .i64 0, .int .i64 n1] 29))
  have HB8 := Lib.hid ((HB7.out.trans (hb.mono HB7.out.size)).alloc (Nat.le_trans HB7.out.size hb.size) (.cells #[.int .i64 38, .int .i64 (1 + s), .int .i64 0, .int .i64 0, .int .i64 n1] 29))
  clear hb
  go_wp2_with fail
  refine (HD2.out _).mono ?_
  rintro e w9 ⟨rfl, hb⟩
  have HX9 := Lib.hid ((hb.block _ (Array.getElem?_eq_some_iff.1 HX8.out).1).trans HX8.out)
  have HY9 := Lib.hid (heap_alloc_new w9 (.cells #[.int .i64 16, .int .i64 (1 + s), .int .i64 (1 + s), .int .i64 0, .int .i64 n2] 29))
  have HX9 := Lib.hid ((heap_alloc_old w9 (.cells #[.int .i64 16, .int .i64 (1 + s), .int .i64 (1 + s), .int .i64 0, .int .i64 n2] 29) (Array.getElem?_eq_some_iff.1 HX9.out).1).trans HX9.out)
  have HB9 := Lib.hid ((HB8.out.trans (hb.mono HB8.out.size)).alloc (Nat.le_trans HB8.out.size hb.size) (.cells #[.int .i64 16, .int .i64 (1 + s), .int .i64 (1 + s), .int .i64 0, .int .i64 n2] 29))
  clear hb
  go_wp2_with fail
  refine (HD3.out _).mono ?_
  rintro e w10 ⟨rfl, hb⟩
  have HX10 := Lib.hid ((hb.block _ (Array.getElem?_eq_some_iff.1 HX9.out).1).trans HX9.out)
  have HY10 := Lib.hid ((hb.block _ (Array.getElem?_eq_some_iff.1 HY9.out).1).trans HY9.out)
  have HZ10 := Lib.hid (heap_alloc_new w10 (.cells #[.int .i64 z0, .int .i64 z1, .int .i64 z2, .int .i64 z3, .int .i64 z4] 29))
  have HX11 := Lib.hid ((heap_alloc_old w10 (.cells #[.int .i64 z0, .int .i64 z1, .int .i64 z2, .int .i64 z3, .int .i64 z4] 29) (Array.getElem?_eq_some_iff.1 HX10.out).1).trans HX10.out)
  have HY11 := Lib.hid ((heap_alloc_old w10 (.cells #[.int .i64 z0, .int .i64 z1, .int .i64 z2, .int .i64 z3, .int .i64 z4] 29) (Array.getElem?_eq_some_iff.1 HY10.out).1).trans HY10.out)
  have HB10 := Lib.hid ((HB9.out.trans (hb.mono HB9.out.size)).alloc (Nat.le_trans HB9.out.size hb.size) (.cells #[.int .i64 z0, .int .i64 z1, .int .i64 z2, .int .i64 z3, .int .i64 z4] 29))
  clear hb HX8 HX9 HY9 HX10 HY10
  obtain ⟨x0, x1, x2, x3, x4, xf⟩ := row5 HX11.out
  obtain ⟨y0, y1, y2, y3, y4, yf⟩ := row5 HY11.out
  obtain ⟨q0, q1, q2, q3, q4, qf⟩ := row5 HZ10.out
  go_wp2
  all_goals (go_ret; exact ⟨rfl, HB10.out⟩)
theorem come_walk (a p v0 s v : Int) (w : World) (hT : Tabs w) (hs : a.tmod 31 = s) (hv : v0.tmod 2147481600 = v) (a0 : 0 ≤ a) (a1 : a ≤ 255) (b0 : 0 ≤ v0) (b1 : v0 < 4294967296) (h1 : 0 ≤ s) (h2 : s < 31) (h3 : 0 ≤ v) (h4 : v < 2147481600) (h5 : 0 ≤ p) (h6 : p < 4294967296) :
    Calls Tryd.prog 3 #[.int .u8 a, .int .u32 p, .int .u32 v0] w fun e w' => e = .returned (.bool true) ∧ Below w.heap.size w w' := by
  have k38 := (may38 (r := 1 + s) (n := 0) (by omega) (by omega) ⟨by omega, by omega⟩).2 (by show _ ∧ _ ∧ _; omega)
  have k16 := (may16 (r := 1 + s) (n := 0) (by omega) (by omega) ⟨by omega, by omega⟩).2 (by show _ ∧ _; omega)
  have k40 := (may40 (r := 1 + s) (n := 0) (by omega) (by omega) ⟨by omega, by omega⟩).2 (by show _ ∧ _ ∧ _; omega)
  obtain ⟨e1, m1⟩ := come_hi (r := 1 + s) (p := p) (v := v) (by omega) (by omega) h3 h4
  obtain ⟨e2, m2⟩ := come_lo (r := 1 + s) (p := p) (v := v) (by omega) (by omega) h3 h4
  obtain ⟨f1, f2⟩ := come_jump (r := 1 + s) (p := p) (v := v) (by omega) (by omega) h3 h4 h5 h6
  have HE1 : EncH 38 (1 + s) 0 (encI 38 (1 + s) 0 0 0) := fun w => renc_yes 38 (1 + s) 0 0 0 w (by decide) ⟨by omega, by omega⟩ k38
  have HE2 : EncH 16 (1 + s) (1 + s) (encI 16 (1 + s) (1 + s) 0 0) := fun w => renc_yes 16 (1 + s) (1 + s) 0 0 w (by decide) ⟨by omega, by omega⟩ k16
  have HE3 : EncH 40 (1 + s) 0 (encI 40 (1 + s) 0 0 0) := fun w => renc_yes 40 (1 + s) 0 0 0 w (by decide) ⟨by omega, by omega⟩ k40
  have H1 : RelH (encI 38 (1 + s) 0 0 0) 0 p v (encI 38 (1 + s) 0 0 (v + 2048 - (v + 2048) % 4096)) 0 := fun w hT => by
    have h := relocate_any (encI 38 (1 + s) 0 0 0) 0 p v (enc_read (by decide) k38).1 ⟨by omega, by omega⟩ ⟨by omega, by omega⟩ ⟨by omega, by omega⟩ w hT
    rw [e1] at h; exact h
  have H2 : RelH (encI 16 (1 + s) (1 + s) 0 0) 1 p v (encI 16 (1 + s) (1 + s) 0 ((v + 2048) % 4096 - 2048)) 0 := fun w hT => by
    have h := relocate_any (encI 16 (1 + s) (1 + s) 0 0) 1 p v (enc_read (by decide) k16).1 ⟨by omega, by omega⟩ ⟨by omega, by omega⟩ ⟨by omega, by omega⟩ w hT
    rw [e2] at h; exact h
  have H3 := fun w hT => relocate_any (encI 40 (1 + s) 0 0 0) 2 p v (enc_read (by decide) k40).1 ⟨by omega, by omega⟩ ⟨by omega, by omega⟩ ⟨by omega, by omega⟩ w hT
  have HD1 : DecH (encI 38 (1 + s) 0 0 (v + 2048 - (v + 2048) % 4096)) 38 (1 + s) 0 0 (v + 2048 - (v + 2048) % 4096) 0 := fun w => dec_of (by decide) m1 w
  have HD2 : DecH (encI 16 (1 + s) (1 + s) 0 ((v + 2048) % 4096 - 2048)) 16 (1 + s) (1 + s) 0 ((v + 2048) % 4096 - 2048) 0 := fun w => dec_of (by decide) m2 w
  have hsum : (v + 2048 - (v + 2048) % 4096) + ((v + 2048) % 4096 - 2048) = v := by omega
  have hw : IntKind.u64.wrap ((v + 2048 - (v + 2048) % 4096) + ((v + 2048) % 4096 - 2048)) = v := by rw [hsum, IntKind.wrap_u64]; omega
  have hd : wrap64 (IntKind.u64.wrap (v - p)) = v - p := by rw [IntKind.wrap_u64]; unfold wrap64; omega
  have hz : IntKind.u64.wrap (p + IntKind.u64.wrap (v - p)) = v := by simp only [IntKind.wrap_u64]; omega
  have hno : ¬ (-1048576 ≤ v - p ∧ v - p ≤ 1048574 ∧ (v - p) % 2 = 0) → RelH (encI 40 (1 + s) 0 0 0) 2 p v 0 5 := fun h w hT => by
    have g := H3 w hT
    rw [f2 h] at g; exact g
  have HDz : ∃ E, DecH 0 0 0 0 0 0 E := ⟨3, fun w => rdecode_no 0 w ⟨by omega, by omega⟩ (opOf_none (by decide +kernel))⟩
  obtain ⟨E, HDz⟩ := HDz
  by_cases c0 : -1048576 ≤ v - p
  case neg =>
    exact core_low (v - p) a s p v v0 _ _ _ _ _ 0 _ _ 0 0 0 0 0 E w (Lib.hid hT) hs hv h1 h2 a0 a1 b0 b1 h3 h4 h5 h6 (Lib.hid HE1) (Lib.hid HE2) (Lib.hid HE3) (Lib.hid H1) (Lib.hid H2) (Lib.hid (hno (by omega))) (Lib.hid HD1) (Lib.hid HD2) (Lib.hid HDz) (Lib.hid hsum) (by omega) (by omega) (by omega) (by omega) hd hw c0
  by_cases c1 : v - p ≤ 1048574
  case neg =>
    exact core_high (v - p) a s p v v0 _ _ _ _ _ 0 _ _ 0 0 0 0 0 E w (Lib.hid hT) hs hv h1 h2 a0 a1 b0 b1 h3 h4 h5 h6 (Lib.hid HE1) (Lib.hid HE2) (Lib.hid HE3) (Lib.hid H1) (Lib.hid H2) (Lib.hid (hno (by omega))) (Lib.hid HD1) (Lib.hid HD2) (Lib.hid HDz) (Lib.hid hsum) (by omega) (by omega) (by omega) (by omega) hd hw c0 c1
  by_cases c2 : (v - p) % 2 = 0
  case neg =>
    exact core_odd (v - p) a s p v v0 _ _ _ _ _ 0 _ _ 0 0 0 0 0 E w (Lib.hid hT) hs hv h1 h2 a0 a1 b0 b1 h3 h4 h5 h6 (Lib.hid HE1) (Lib.hid HE2) (Lib.hid HE3) (Lib.hid H1) (Lib.hid H2) (Lib.hid (hno (by omega))) (Lib.hid HD1) (Lib.hid HD2) (Lib.hid HDz) (Lib.hid hsum) (by omega) (by omega) (by omega) (by omega) hd hw c0 c1
      (by
        rw [Bool.eq_false_iff]
        intro h
        rw [beq_iff_eq] at h
        exact c2 (Int.emod_eq_zero_of_dvd (Int.dvd_of_tmod_eq_zero h)))
  obtain ⟨e3, m3⟩ := f1 ⟨c0, c1, c2⟩
  have H3y : RelH (encI 40 (1 + s) 0 0 0) 2 p v (encI 40 (1 + s) 0 0 (v - p)) 0 := fun w hT => by
    have g := H3 w hT
    rw [e3] at g; exact g
  have HD3 : DecH (encI 40 (1 + s) 0 0 (v - p)) 40 (1 + s) 0 0 (v - p) 0 := fun w => dec_of (by decide) m3 w
  exact core_fit (v - p) a s p v v0 _ _ _ _ _ _ _ _ 40 (1 + s) 0 0 w (Lib.hid hT) hs hv h1 h2 a0 a1 b0 b1 h3 h4 h5 h6 (Lib.hid HE1) (Lib.hid HE2) (Lib.hid HE3) (Lib.hid H1) (Lib.hid H2) (Lib.hid H3y) (Lib.hid HD1) (Lib.hid HD2) (Lib.hid HD3) (Lib.hid hsum) (by omega) (by omega) (by omega) (by omega) hd hw c0 c1
    (by rw [beq_iff_eq]; exact Int.tmod_eq_zero_of_dvd (Int.dvd_of_emod_eq_zero c2)) hz
theorem walk (a0 a1 a2 : Int) (w : World) (w0 : (Lit.int .u8 a0).wf = true) (w1 : (Lit.int .u32 a1).wf = true) (w2 : (Lit.int .u32 a2).wf = true) (hT : Tabs w) :
    Calls Tryd.prog 3 #[.int .u8 a0, .int .u32 a1, .int .u32 a2] w fun e w' => e = .returned (.bool true) ∧ Below w.heap.size w w' := by
  have b0 := bounds_u8 w0
  have b1 := bounds_u32 w1
  have b2 := bounds_u32 w2
  have t0 : a0.tmod 31 = a0 % 31 := Int.tmod_eq_emod_of_nonneg (by omega)
  have t2 : a2.tmod 2147481600 = a2 % 2147481600 := Int.tmod_eq_emod_of_nonneg b2.1
  exact come_walk a0 a1 a2 (a0 % 31) (a2 % 2147481600) w hT t0 t2 (by omega) (by omega) b2.1 (by omega) (by omega) (by omega) (by omega) (by omega) b1.1 (by omega)
end Go.Proofs.YtjngkifoaljmaaaDoor.PlaceComesWalk
