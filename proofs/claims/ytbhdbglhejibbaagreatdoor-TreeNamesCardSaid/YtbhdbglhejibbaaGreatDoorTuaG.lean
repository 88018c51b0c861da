/- Layer 10: two lists held against each other, element by element. Condition: the trees' blocks are plain.
   Layer 10: all that waits is gone through. Condition: the trees' blocks are plain.
   Layer 10: alike: all that waits is gone through. Condition: the trees' blocks are plain.
   Layer 10: rest; rows, matchers made. Condition: the trees' blocks are plain.
   Layer 10: two lists of arrays or parameters held against each other. No condition.
   Layer 10: two functions held against each other. Condition: the trees' blocks are plain.
   Layer 10: Same. Condition: the trees' blocks are plain.
   Layer 10: Same. Condition: the trees' blocks are plain. -/
import Derived.Test.YtbhdbglhejibbaaGreatDoorTuaA
import Derived.Deep.LoopGhost
import Derived.Test.YtbhdbglhejibbaaGreatDoorTraM
import Derived.Test.YtbhdbglhejibbaaGreatDoorTtaF
namespace Go.Proofs.YtbhdbglhejibbaaGreatDoor
set_option maxRecDepth 100000
open Go.RowKit
set_option linter.unusedVariables false
theorem McV.cellK {C : McC} {F : Nat → Prop} {w : World} {σ : McS} {us ue : Value} (h : McV C F w σ us ue) {b o : Nat} {v : Value} (hb : C.S b) (hc : C.w0.cell? ⟨b, o, none⟩ = some v) : w.cell? ⟨b, o, none⟩ = some v := by
  rw [World.cell?_of_block (h.keep b hb)]; exact hc
theorem McIs.cellK {C : McC} {F : Nat → Prop} {w : World} {σ : McS} (h : McIs C F w σ) {b o : Nat} {v : Value} (hb : C.S b) (hc : C.w0.cell? ⟨b, o, none⟩ = some v) : w.cell? ⟨b, o, none⟩ = some v := by
  obtain ⟨us, ue, h⟩ := h
  exact h.cellK hb hc
theorem exsNz_drop {l : List ExprD} {j : Nat} (h : j < l.length) : exsNz (l.drop j) = exNz l[j] + exsNz (l.drop (j + 1)) := by
  rw [List.drop_eq_getElem_cons h]; simp only [exsNz]
theorem stsNz_drop {l : List StmtD} {j : Nat} (h : j < l.length) : stsNz (l.drop j) = stNz l[j] + stsNz (l.drop (j + 1)) := by
  rw [List.drop_eq_getElem_cons h]; simp only [stsNz]
theorem exsNz_len : ∀ l : List ExprD, l.length + 1 ≤ exsNz l
  | [] => by simp [exsNz]
  | e :: es => by
    have := exsNz_len es
    have := exsNz_pos (exArgs e)
    simp only [exsNz, List.length_cons]
    rw [exNz_eq]
    omega
theorem stsNz_len : ∀ l : List StmtD, l.length + 1 ≤ stsNz l
  | [] => by simp [stsNz]
  | e :: es => by
    have := stsNz_len es
    have := stsNz_pos (stOne e)
    simp only [stsNz, List.length_cons]
    rw [stNz_eq]
    omega
/-- the contract of a matcher's stmt -/
def StmC (C : McC) (G : Prop) : Prop := ∀ (F : Nat → Prop) (σ : McS) (k n k' n' : Int) (s s' : ByteArray) (args args' : List ExprD) (one one' two two' : List StmtD) (A A1 A2 D D1 D2 : Option Addr) (c c1 c2 d d1 d2 : Nat) (w : World), McIs C F w σ → ExprsAt C.w0 C.S args A → StmtsAt C.w0 C.S one A1 → StmtsAt C.w0 C.S two A2 → ExprsAt C.w0 C.S args' D → StmtsAt C.w0 C.S one' D1 → StmtsAt C.w0 C.S two' D2 →
  (G → StmtD.mk k s n args one two = StmtD.mk k' s' n' args' one' two') → σ.phi + stNz (.mk k s n args one two) ≤ 1000000 →
  Calls Tryz.prog 65 #[.pointer (some ⟨C.p, 0, none⟩), .agg #[.int .i64 k, .string s, .int .i64 n, .slice A args.length c, .slice A1 one.length c1, .slice A2 two.length c2], .agg #[.int .i64 k', .string s', .int .i64 n', .slice D args'.length d, .slice D1 one'.length d1, .slice D2 two'.length d2]] w (MstP C F G w σ (.mk k s n args one two) (.mk k' s' n' args' one' two'))
theorem stmC_same {C : McC} {G : Prop} (hg : G) : StmC C G := fun F σ k n k' n' s s' args args' one one' two two' A A1 A2 D D1 D2 c c1 c2 d d1 d2 w h ha ha1 ha2 hd hd1 hd2 hq hp => by
  have := hq hg
  simp only [StmtD.mk.injEq] at this
  obtain ⟨rfl, rfl, rfl, rfl, rfl, rfl⟩ := this
  exact mstmt_same C F G σ k n s args one two A A1 A2 D D1 D2 c c1 c2 d d1 d2 w h ha ha1 ha2 hd hd1 hd2 hp
def EqEP (C : McC) (F : Nat → Prop) (G : Prop) (w : World) (σ : McS) (a b : List ExprD) (e : Ending) (w' : World) : Prop :=
  ∃ r τ, e = .returned (.bool r) ∧ McIs C F w' τ ∧ OutO F w w' ∧ Grow G σ τ ∧ τ.phi + 1 ≤ σ.phi + exsNz a ∧ (r = true → AllOk (ExOk τ.ve) a b) ∧ (r = false → ¬ G) ∧ τ.ws = σ.ws
theorem exprAt_cells {w : World} {S : Nat → Prop} {e : ExprD} {b o : Nat} (h : ExprAt w S e b o) : ∃ k n s args A c, e = .mk k n s args ∧ w.cell? ⟨b, o, none⟩ = some (.int .i64 k) ∧ w.cell? ⟨b, o + 1, none⟩ = some (.int .u64 n) ∧ w.cell? ⟨b, o + 2, none⟩ = some (.string s) ∧ w.cell? ⟨b, o + 3, none⟩ = some (.slice A args.length c) ∧ ExprsAt w S args A := by
  obtain ⟨k, n, s, args⟩ := e
  unfold ExprAt at h
  obtain ⟨g0, g1, g2, A, c, g3, g4, g5⟩ := h
  exact ⟨k, n, s, args, A, c, rfl, g0, g1, g2, g3, g5⟩
set_option maxHeartbeats 4000000 in
theorem eqE_any (C : McC) (F : Nat → Prop) (G : Prop) (σ : McS) (a b : List ExprD) (b1 o1 b2 o2 n ca cb : Nat) (w : World) (h : McIs C F w σ) (hl : LayE C.w0 C.S ((b1, o1, b2, o2, n), a, b)) (hq : G → a = b) (hp : σ.phi + exsNz a ≤ 1000000) :
    Calls Tryz.prog 94 #[.slice (some ⟨b1, o1, none⟩) n ca, .slice (some ⟨b2, o2, none⟩) n cb, .func (.func 67) #[.pointer (some ⟨C.p, 0, none⟩)] #[]] w (EqEP C F G w σ a b) := by
  have hcf : ∀ (args : Array Value) (w : World), (callFunc 67 args).run Tryz.prog w = .ok (.enter 67 args) w := fun args w => by kernel_rfl
  have HF := Lib.hid h.fk
  have HM := Lib.hid h
  obtain ⟨s1, s2, hn, la, lb, l1, l2⟩ := hl
  simp only at s1 s2 hn la lb l1 l2
  have HL1 := Lib.hid l1
  have HL2 := Lib.hid l2
  have HS1 := Lib.hid s1
  have HS2 := Lib.hid s2
  have HLA := Lib.hid la
  have HLB := Lib.hid lb
  have HQ := Lib.hid hq
  have HP := Lib.hid hp
  have HW := Lib.hid (Below.refl w.heap.size w)
  have HN6 := Lib.hid (show n ≤ 1000000 by have := exsNz_len a; omega)
  clear h l1 l2 s1 s2 hq hp la lb
  go_enter Tryz.func94, Tryz.ntmps94
  go_wp2
  go_loopw [17] (fun i wr => ∃ (j : Nat) (τ : McS), j ≤ n ∧ i = .int .i64 j ∧ Hid (McIs C F wr τ) ∧ Hid (OutO F w wr) ∧ Hid (Grow G σ τ) ∧ Hid (τ.phi + exsNz (a.drop j) ≤ σ.phi + exsNz a) ∧ Hid (τ.ws = σ.ws) ∧ Hid (∀ i, i < j → ∀ (h : i < a.length) (h' : i < b.length), ExOk τ.ve a[i] b[i])) (fun i _ => n - (intOf i).toNat)
  case atStart => exact ⟨0, σ, by omega, rfl, HM, Lib.hid (OutO.refl F w), Lib.hid (Grow.refl G σ), Lib.hid (by simp), Lib.hid rfl, Lib.hid (fun i hi => by omega)⟩
  case round =>
    obtain ⟨j, τ, hj, rfl, HT, HO, HGr, HPh, HWs, HAll⟩ := hrel
    clear HM
    by_cases hlt : j < n
    · have ha : j < a.length := by have := HLA.out; omega
      have hb : j < b.length := by have := HLB.out; omega
      have hpz := exsNz_drop ha
      have h1 := exprAt_cells (HL1.out.get ha)
      have h2 := exprAt_cells (HL2.out.get hb)
      have HQe := Lib.hid (show G → a[j] = b[j] from fun g => by have := HQ.out g; subst this; rfl)
      have HSt := Lib.hid (show ∀ (υ : McS), Grow G τ υ → ExOk υ.ve a[j] b[j] → ∀ i, i < j + 1 → ∀ (h : i < a.length) (h' : i < b.length), ExOk υ.ve a[i] b[i] from fun υ hg hx i hi p q => by
        by_cases e : i = j
        · subst e; exact hx
        · exact (HAll.out i (by omega) p q).mono hg.ev)
      generalize a[j] = x at *
      generalize b[j] = y at *
      obtain ⟨k, m, s, args, A, c, rfl, y0, y1, y2, y3, y4⟩ := h1
      obtain ⟨k', m', s', args', A', c', rfl, z0, z1, z2, z3, z4⟩ := h2
      have x0 := HT.out.cellK HS1.out y0
      have x1 := HT.out.cellK HS1.out y1
      have x2 := HT.out.cellK HS1.out y2
      have x3 := HT.out.cellK HS1.out y3
      have hb0 := (Below.refl wr.heap.size wr).alloc (Nat.le_refl _) (.cells #[.int .i64 k, .int .u64 m, .string s, .slice A args.length c] 42)
      have t0 := (HT.out.below hb0).cellK HS2.out z0
      have t1 := (HT.out.below hb0).cellK HS2.out z1
      have t2 := (HT.out.below hb0).cellK HS2.out z2
      have t3 := (HT.out.below hb0).cellK HS2.out z3
      have j0 : (0 : Int) ≤ j := by omega
      have j1 : (j : Int) < n := by omega
      have hb2 := ((Below.refl wr.heap.size wr).alloc (Nat.le_refl _) (.cells #[.int .i64 k, .int .u64 m, .string s, .slice A args.length c] 42)).alloc (by simp) (.cells #[.int .i64 k', .int .u64 m', .string s', .slice A' args'.length c'] 42)
      have HC := Lib.hid (mexpr_any C F G τ k m k' m' s s' args args' A A' c c' _ (HT.out.below hb2) y4 z4 HQe.out (by have := HPh.out; have := HP.out; rw [exNz_eq] at hpz; have := exsNz_pos (exArgs (.mk k m s args)); omega))
      have HO2 := Lib.hid (HO.out.trans (OutO.of_below hb2))
      have HZ := Lib.hid hpz
      have HLt := Lib.hid hlt
      clear y0 y1 y2 y3 y4 z0 z1 z2 z3 z4 hb2 hb0 hpz hlt hj ha hb
      generalize args.length = la at *
      generalize args'.length = lb at *
      have HM' := Lib.hid HC.out
      clear HC
      go_wp2_with fail
      refine HM'.out.mono ?_
      rintro e w2 ⟨r, υ, rfl, m1, o1, g1, p1, q1, q2, zz⟩
      have HW2 := Lib.hid (zz.trans HWs.out)
      clear zz
      have HM2 := Lib.hid m1
      have HO3 := Lib.hid (HO2.out.trans o1)
      have HG2 := Lib.hid (HGr.out.trans g1)
      cases r with
      | true =>
        have HA2 := Lib.hid (HSt.out υ g1 (q1 rfl))
        have HP2 := Lib.hid (show υ.phi + exsNz (a.drop (j + 1)) ≤ σ.phi + exsNz a by have := HPh.out; have := HZ.out; omega)
        clear m1 o1 g1 p1 q1 q2
        have hN6 := HN6.out
        have hLt := HLt.out
        go_wp2
        go_roundw
        case rel => exact ⟨j + 1, υ, by have := HLt.out; omega, by go_num, HM2, HO3, HG2, HP2, HW2, HA2⟩
        case measure => have := HLt.out; simp [intOf]; omega
      | false =>
        have HR := Lib.hid (show EqEP C F G w σ a b (.returned (.bool false)) w2 from ⟨false, υ, rfl, HM2.out, HO3.out, HG2.out, by have := HPh.out; have := HZ.out; have := exsNz_pos (a.drop (j + 1)); omega, fun e => (by cases e), fun _ => q2 rfl, HW2.out⟩)
        clear m1 o1 g1 p1 q1 q2
        go_wp2
        go_ret
        exact HR.out
    · obtain rfl : j = n := by omega
      have HR := Lib.hid (show EqEP C F G w σ a b (.returned (.bool true)) wr from ⟨true, τ, rfl, HT.out, HO.out, HGr.out, by have := HPh.out; have := exsNz_pos (a.drop j); omega, fun _ => ⟨HLA.out.trans HLB.out.symm, fun i h1 h2 => HAll.out i (by have := HLA.out; omega) h1 h2⟩, fun e => (by cases e), HWs.out⟩)
      clear hlt hj
      go_wp2
      go_ret
      exact HR.out
def EqSP (C : McC) (F : Nat → Prop) (G : Prop) (w : World) (σ : McS) (a b : List StmtD) (e : Ending) (w' : World) : Prop :=
  ∃ r τ, e = .returned (.bool r) ∧ McIs C F w' τ ∧ OutO F w w' ∧ Grow G σ τ ∧ τ.phi + 1 ≤ σ.phi + stsNz a ∧ (r = true → AllOk (StOk τ.ve τ.vs) a b) ∧ (r = false → ¬ G)
theorem stmtAt_cells {w : World} {S : Nat → Prop} {e : StmtD} {b o : Nat} (h : StmtAt w S e b o) : ∃ k s n args one two A c A1 c1 A2 c2, e = .mk k s n args one two ∧ w.cell? ⟨b, o, none⟩ = some (.int .i64 k) ∧ w.cell? ⟨b, o + 1, none⟩ = some (.string s) ∧ w.cell? ⟨b, o + 2, none⟩ = some (.int .i64 n) ∧ w.cell? ⟨b, o + 3, none⟩ = some (.slice A args.length c) ∧ w.cell? ⟨b, o + 4, none⟩ = some (.slice A1 one.length c1) ∧ w.cell? ⟨b, o + 5, none⟩ = some (.slice A2 two.length c2) ∧ ExprsAt w S args A ∧ StmtsAt w S one A1 ∧ StmtsAt w S two A2 := by
  obtain ⟨k, s, n, args, one, two⟩ := e
  unfold StmtAt at h
  obtain ⟨g0, g1, g2, ⟨A, c, g3, g4, g5⟩, ⟨A1, c1, g6, g7, g8⟩, A2, c2, g9, g10, g11⟩ := h
  exact ⟨k, s, n, args, one, two, A, c, A1, c1, A2, c2, rfl, g0, g1, g2, g3, g6, g9, g5, g8, g11⟩
set_option maxHeartbeats 4000000 in
theorem eqS_any (C : McC) (F : Nat → Prop) (G : Prop) (σ : McS) (a b : List StmtD) (b1 o1 b2 o2 n ca cb : Nat) (w : World) (h : McIs C F w σ) (hC : StmC C G) (hl : LayS C.w0 C.S ((b1, o1, b2, o2, n), a, b)) (hq : G → a = b) (hp : σ.phi + stsNz a ≤ 1000000) :
    Calls Tryz.prog 92 #[.slice (some ⟨b1, o1, none⟩) n ca, .slice (some ⟨b2, o2, none⟩) n cb, .func (.func 65) #[.pointer (some ⟨C.p, 0, none⟩)] #[]] w (EqSP C F G w σ a b) := by
  have hcf : ∀ (args : Array Value) (w : World), (callFunc 65 args).run Tryz.prog w = .ok (.enter 65 args) w := fun args w => by kernel_rfl
  have HF := Lib.hid h.fk
  have HCc := Lib.hid hC
  have HM := Lib.hid h
  obtain ⟨s1, s2, hn, la, lb, l1, l2⟩ := hl
  simp only at s1 s2 hn la lb l1 l2
  have HL1 := Lib.hid l1
  have HL2 := Lib.hid l2
  have HS1 := Lib.hid s1
  have HS2 := Lib.hid s2
  have HLA := Lib.hid la
  have HLB := Lib.hid lb
  have HQ := Lib.hid hq
  have HP := Lib.hid hp
  have HW := Lib.hid (Below.refl w.heap.size w)
  have HN6 := Lib.hid (show n ≤ 1000000 by have := stsNz_len a; omega)
  clear hC h l1 l2 s1 s2 hq hp la lb
  go_enter Tryz.func92, Tryz.ntmps92
  go_wp2
  go_loopw [17] (fun i wr => ∃ (j : Nat) (τ : McS), j ≤ n ∧ i = .int .i64 j ∧ Hid (McIs C F wr τ) ∧ Hid (OutO F w wr) ∧ Hid (Grow G σ τ) ∧ Hid (τ.phi + stsNz (a.drop j) ≤ σ.phi + stsNz a) ∧ Hid (∀ i, i < j → ∀ (h : i < a.length) (h' : i < b.length), StOk τ.ve τ.vs a[i] b[i])) (fun i _ => n - (intOf i).toNat)
  case atStart => exact ⟨0, σ, by omega, rfl, HM, Lib.hid (OutO.refl F w), Lib.hid (Grow.refl G σ), Lib.hid (by simp), Lib.hid (fun i hi => by omega)⟩
  case round =>
    obtain ⟨j, τ, hj, rfl, HT, HO, HGr, HPh, HAll⟩ := hrel
    clear HM
    by_cases hlt : j < n
    · have ha : j < a.length := by have := HLA.out; omega
      have hb : j < b.length := by have := HLB.out; omega
      have hpz := stsNz_drop ha
      have h1 := stmtAt_cells (HL1.out.get ha)
      have h2 := stmtAt_cells (HL2.out.get hb)
      have HQe := Lib.hid (show G → a[j] = b[j] from fun g => by have := HQ.out g; subst this; rfl)
      have HSt := Lib.hid (show ∀ (υ : McS), Grow G τ υ → StOk υ.ve υ.vs a[j] b[j] → ∀ i, i < j + 1 → ∀ (h : i < a.length) (h' : i < b.length), StOk υ.ve υ.vs a[i] b[i] from fun υ hg hx i hi p q => by
        by_cases e : i = j
        · subst e; exact hx
        · exact (HAll.out i (by omega) p q).mono hg.ev hg.sv)
      generalize a[j] = x at *
      generalize b[j] = y at *
      obtain ⟨k, s, m, args, one, two, A, c, A1, c1, A2, c2, rfl, y0, y1, y2, y3, y5, y6, y4, y7, y8⟩ := h1
      obtain ⟨k', s', m', args', one', two', D, d, D1, d1, D2, d2, rfl, z0, z1, z2, z3, z5, z6, z4, z7, z8⟩ := h2
      have x0 := HT.out.cellK HS1.out y0
      have x1 := HT.out.cellK HS1.out y1
      have x2 := HT.out.cellK HS1.out y2
      have x3 := HT.out.cellK HS1.out y3
      have x4 := HT.out.cellK HS1.out y5
      have x5 := HT.out.cellK HS1.out y6
      have hb0 := (Below.refl wr.heap.size wr).alloc (Nat.le_refl _) (.cells #[.int .i64 k, .string s, .int .i64 m, .slice A args.length c, .slice A1 one.length c1, .slice A2 two.length c2] 45)
      have t0 := (HT.out.below hb0).cellK HS2.out z0
      have t1 := (HT.out.below hb0).cellK HS2.out z1
      have t2 := (HT.out.below hb0).cellK HS2.out z2
      have t3 := (HT.out.below hb0).cellK HS2.out z3
      have t4 := (HT.out.below hb0).cellK HS2.out z5
      have t5 := (HT.out.below hb0).cellK HS2.out z6
      have j0 : (0 : Int) ≤ j := by omega
      have j1 : (j : Int) < n := by omega
      have hb2 := ((Below.refl wr.heap.size wr).alloc (Nat.le_refl _) (.cells #[.int .i64 k, .string s, .int .i64 m, .slice A args.length c, .slice A1 one.length c1, .slice A2 two.length c2] 45)).alloc (by simp) (.cells #[.int .i64 k', .string s', .int .i64 m', .slice D args'.length d, .slice D1 one'.length d1, .slice D2 two'.length d2] 45)
      have HC := Lib.hid (HCc.out F τ k m k' m' s s' args args' one one' two two' A A1 A2 D D1 D2 c c1 c2 d d1 d2 _ (HT.out.below hb2) y4 y7 y8 z4 z7 z8 HQe.out (by have := HPh.out; have := HP.out; omega))
      have HO2 := Lib.hid (HO.out.trans (OutO.of_below hb2))
      have HZ := Lib.hid hpz
      have HLt := Lib.hid hlt
      clear y0 y1 y2 y3 y4 y5 y6 y7 y8 z0 z1 z2 z3 z4 z5 z6 z7 z8 hb2 hb0 hpz hlt hj ha hb
      generalize args.length = la at *
      generalize args'.length = lb at *
      generalize one.length = lc at *
      generalize one'.length = ld at *
      generalize two.length = le at *
      generalize two'.length = lf at *
      have HM' := Lib.hid HC.out
      clear HC
      go_wp2_with fail
      refine HM'.out.mono ?_
      rintro e w2 ⟨r, υ, rfl, m1, o1, g1, p1, q1, q2⟩
      have HM2 := Lib.hid m1
      have HO3 := Lib.hid (HO2.out.trans o1)
      have HG2 := Lib.hid (HGr.out.trans g1)
      cases r with
      | true =>
        have HA2 := Lib.hid (HSt.out υ g1 (q1 rfl))
        have HP2 := Lib.hid (show υ.phi + stsNz (a.drop (j + 1)) ≤ σ.phi + stsNz a by have := HPh.out; have := HZ.out; omega)
        clear m1 o1 g1 p1 q1 q2
        have hN6 := HN6.out
        have hLt := HLt.out
        go_wp2
        go_roundw
        case rel => exact ⟨j + 1, υ, by have := HLt.out; omega, by go_num, HM2, HO3, HG2, HP2, HA2⟩
        case measure => have := HLt.out; simp [intOf]; omega
      | false =>
        have HR := Lib.hid (show EqSP C F G w σ a b (.returned (.bool false)) w2 from ⟨false, υ, rfl, HM2.out, HO3.out, HG2.out, by have := HPh.out; have := HZ.out; have := stsNz_pos (a.drop (j + 1)); omega, fun e => (by cases e), fun _ => q2 rfl⟩)
        clear m1 o1 g1 p1 q1 q2
        go_wp2
        go_ret
        exact HR.out
    · obtain rfl : j = n := by omega
      have HR := Lib.hid (show EqSP C F G w σ a b (.returned (.bool true)) wr from ⟨true, τ, rfl, HT.out, HO.out, HGr.out, by have := HPh.out; have := stsNz_pos (a.drop j); omega, fun _ => ⟨HLA.out.trans HLB.out.symm, fun i h1 h2 => HAll.out i (by have := HLA.out; omega) h1 h2⟩, fun e => (by cases e)⟩)
      clear hlt hj
      go_wp2
      go_ret
      exact HR.out
end Go.Proofs.YtbhdbglhejibbaaGreatDoor
namespace Go.Proofs.YtbhdbglhejibbaaGreatDoor
set_option maxRecDepth 100000
open Go.RowKit
set_option linter.unusedVariables false
/-- what is known waits, or is gone through; where G holds, it is alike -/
structure InvM (G : Prop) (τ : McS) : Prop where
  ds : ∀ x ∈ τ.vs, (∃ c, (x.1, c, x.2) ∈ τ.ws) ∨ AllOk (StOk τ.ve τ.vs) x.2.1 x.2.2
  de : ∀ x ∈ τ.ve, (∃ c, (x.1, c, x.2) ∈ τ.we) ∨ AllOk (ExOk τ.ve) x.2.1 x.2.2
  qs : ∀ x ∈ τ.vs, G → x.2.1 = x.2.2
  qe : ∀ x ∈ τ.ve, G → x.2.1 = x.2.2
theorem InvM.grow {G : Prop} {σ τ : McS} (h : InvM G σ) (g : Grow G σ τ) : InvM G τ where
  ds := fun x hx => by
    rcases g.sn x hx with hx | hx
    · rcases h.ds x hx with ⟨c, k⟩ | k
      · exact .inl ⟨c, g.sw _ k⟩
      · exact .inr (k.mono fun a b h => h.mono g.ev g.sv)
    · exact .inl hx
  de := fun x hx => by
    rcases g.en x hx with hx | hx
    · rcases h.de x hx with ⟨c, k⟩ | k
      · exact .inl ⟨c, g.ew _ k⟩
      · exact .inr (k.mono fun a b h => h.mono g.ev)
    · exact .inl hx
  qs := fun x hx => by
    rcases g.sq x hx with hx | hx
    · exact h.qs x hx
    · exact hx
  qe := fun x hx => by
    rcases g.eq x hx with hx | hx
    · exact h.qe x hx
    · exact hx
/-- the last of those that wait is taken, gone through, and all that it makes known waits -/
theorem InvM.popS {G : Prop} {σ τ : McS} {W : WtL StmtD} {k : TwK} {c : Nat × Nat} {a b : List StmtD} (h : InvM G σ) (hw : σ.ws = W ++ [(k, c, a, b)]) (g : Grow G { σ with ws := W } τ) (hd : AllOk (StOk τ.ve τ.vs) a b) : InvM G τ where
  ds := fun x hx => by
    rcases g.sn x hx with hx | hx
    · rcases h.ds x hx with ⟨c', k'⟩ | k'
      · rw [hw] at k'
        rcases List.mem_append.1 k' with k' | k'
        · exact .inl ⟨c', g.sw _ k'⟩
        · rw [List.mem_singleton] at k'
          simp only [Prod.mk.injEq] at k'
          obtain ⟨_, _, e⟩ := k'
          rw [e]
          exact .inr hd
      · exact .inr (k'.mono fun a b h => h.mono g.ev g.sv)
    · exact .inl hx
  de := fun x hx => by
    rcases g.en x hx with hx | hx
    · rcases h.de x hx with ⟨c, k⟩ | k
      · exact .inl ⟨c, g.ew _ k⟩
      · exact .inr (k.mono fun a b h => h.mono g.ev)
    · exact .inl hx
  qs := fun x hx => by
    rcases g.sq x hx with hx | hx
    · exact h.qs x hx
    · exact hx
  qe := fun x hx => by
    rcases g.eq x hx with hx | hx
    · exact h.qe x hx
    · exact hx
/-- the last of those that wait is taken, gone through, and all that it makes known waits -/
theorem InvM.popE {G : Prop} {σ τ : McS} {W : WtL ExprD} {k : TwK} {c : Nat × Nat} {a b : List ExprD} (h : InvM G σ) (hw : σ.we = W ++ [(k, c, a, b)]) (g : Grow G { σ with we := W } τ) (hd : AllOk (ExOk τ.ve) a b) : InvM G τ where
  ds := fun x hx => by
    rcases g.sn x hx with hx | hx
    · rcases h.ds x hx with ⟨c, k⟩ | k
      · exact .inl ⟨c, g.sw _ k⟩
      · exact .inr (k.mono fun a b h => h.mono g.ev g.sv)
    · exact .inl hx
  de := fun x hx => by
    rcases g.en x hx with hx | hx
    · rcases h.de x hx with ⟨c', k'⟩ | k'
      · rw [hw] at k'
        rcases List.mem_append.1 k' with k' | k'
        · exact .inl ⟨c', g.ew _ k'⟩
        · rw [List.mem_singleton] at k'
          simp only [Prod.mk.injEq] at k'
          obtain ⟨_, _, e⟩ := k'
          rw [e]
          exact .inr hd
      · exact .inr (k'.mono fun a b h => h.mono g.ev)
    · exact .inl hx
  qs := fun x hx => by
    rcases g.sq x hx with hx | hx
    · exact h.qs x hx
    · exact hx
  qe := fun x hx => by
    rcases g.eq x hx with hx | hx
    · exact h.qe x hx
    · exact hx
/-- the last one of a row of one's own is let go -/
theorem ownsRow_pop {w : World} {base : Nat} {e : TypeId} {size : Nat} {A : Option Addr} {n c : Nat} {xs ys : List Value} (h : w.ownsRow base e size (.slice A (n + 1) c) (n + 1) (xs ++ ys)) (hx : xs.length = n * size) :
    ∃ g, A = some ⟨g, 0, none⟩ ∧ n + 1 ≤ c ∧ c ≤ maxLen ∧ w.ownsRow base e size (.slice A n c) n xs ∧ (∀ j u, ys[j]? = some u → w.cell? ⟨g, n * size + j, none⟩ = some u) := by
  obtain ⟨hl, h | ⟨g, cap, cur, hv, hb, hc, h1, h2, h3, h4⟩⟩ := h
  · omega
  · simp only [Value.slice.injEq] at hv
    obtain ⟨rfl, _, rfl⟩ := hv
    have hys : ys.length = size := by rw [List.length_append, hx, Nat.add_mul] at hl; omega
    have hx2 : cur.toList.take (n * size) = xs := by
      have := congrArg (List.take (n * size)) h4
      rw [List.take_take, Nat.min_eq_left (Nat.mul_le_mul_right _ (by omega)), List.take_append_of_le_length (by omega), List.take_of_length_le (Nat.le_of_eq hx)] at this
      exact this
    refine ⟨g, rfl, h1, h2, ⟨hx, .inr ⟨g, _, cur, rfl, hb, hc, by omega, h2, h3, hx2⟩⟩, fun j u hu => ?_⟩
    have hj : j < ys.length := (List.getElem?_eq_some_iff.1 hu).1
    rw [cell_of_row w g (n * size + j) _ _ _ hc]
    have e1 : (cur.toList.take ((n + 1) * size))[n * size + j]? = some u := by
      rw [h4, List.getElem?_append_right (by omega), hx]
      rw [show n * size + j - n * size = j by omega]
      exact hu
    rw [List.getElem?_take_of_lt (by rw [Nat.add_mul]; omega)] at e1
    simpa using e1
end Go.Proofs.YtbhdbglhejibbaaGreatDoor
namespace Go.Proofs.YtbhdbglhejibbaaGreatDoor
set_option maxRecDepth 100000
open Go.RowKit
set_option linter.unusedVariables false
theorem McV.box {C : McC} {F : Nat → Prop} {w : World} {σ : McS} {us ue : Value} (h : McV C F w σ us ue) (x : Obj) : McV C (NBo F w.heap.size) (w.alloc x) σ us ue := by
  have hb := h.below ((Below.refl w.heap.size w).alloc (Nat.le_refl _) x)
  have h1 := h.ltS
  have h2 := h.ltE
  have h3 := h.mapS.lt
  have h4 := h.mapE.lt
  refine { hb with fp := ⟨⟨hb.fp.1, by omega⟩, ⟨hb.fp.2.1, by omega⟩, ⟨hb.fp.2.2.1, by omega⟩, hb.fp.2.2.2, by omega⟩, fs := fun b e => ⟨hb.fs b e, ?_⟩, fe := fun b e => ⟨hb.fe b e, ?_⟩, fn := fun b e => ⟨hb.fn b e, ?_⟩, fk := fun b e => hb.fk b e.1 }
  · have := (ownO_lt h.rowS e).1; omega
  · have := (ownO_lt h.rowE e).1; omega
  · simp at e; omega
theorem grown_self (w : World) (r : Option Nat) : w.grownBy w r := ⟨rfl, rfl, rfl, Nat.le_refl _, fun _ _ _ => rfl⟩
theorem phi_ws (σ : McS) : phS σ.ws ≤ σ.phi := by unfold McS.phi; omega
theorem phi_we (σ : McS) : phE σ.we ≤ σ.phi := by unfold McS.phi; omega
theorem prC_len {α : Type} : ∀ (W : WtL α), (W.flatMap prC).length = W.length * 2
  | [] => rfl
  | y :: ys => by
    rw [List.flatMap_cons, List.length_append, prC_len ys, List.length_cons, Nat.add_mul]
    show 2 + _ = _
    omega
theorem eq_snoc {α : Type} (l : List α) : l = [] ∨ ∃ a x, l = a ++ [x] := by
  rcases List.eq_nil_or_concat l with h | ⟨a, x, h⟩
  · exact .inl h
  · exact .inr ⟨a, x, by simpa using h⟩
def AlSP (C : McC) (F : Nat → Prop) (G : Prop) (w : World) (σ : McS) (e : Ending) (w' : World) : Prop :=
  ∃ r τ, e = .returned (.bool r) ∧ McIs C F w' τ ∧ OutO F w w' ∧ τ.phi ≤ σ.phi ∧ (∀ x ∈ σ.vs, x ∈ τ.vs) ∧ (∀ x ∈ σ.ve, x ∈ τ.ve) ∧ (r = true → InvM G τ ∧ τ.ws = []) ∧ (r = false → ¬ G)
set_option maxHeartbeats 4000000 in
theorem alikeS_any (C : McC) (F : Nat → Prop) (G : Prop) (σ : McS) (w : World) (hC : StmC C G) (h : McIs C F w σ) (hi : InvM G σ) (hp : σ.phi ≤ 1000000) :
    Calls Tryz.prog 64 #[.pointer (some ⟨C.rs, 0, none⟩), .func (.func 65) #[.pointer (some ⟨C.p, 0, none⟩)] #[]] w (AlSP C F G w σ) := by
  have HF := Lib.hid h.fk
  have HM := Lib.hid h
  have HI := Lib.hid hi
  have HP := Lib.hid hp
  have HC := Lib.hid hC
  clear h hi hp hC
  go_enter Tryz.func64, Tryz.ntmps64
  go_wp2
  go_loopg [] σ.phi (fun g wr => ∃ (τ : McS), Hid (McIs C F wr τ) ∧ Hid (OutO F w wr) ∧ Hid (τ.phi ≤ g ∧ g ≤ σ.phi) ∧ Hid (InvM G τ) ∧ Hid ((∀ x ∈ σ.vs, x ∈ τ.vs) ∧ (∀ x ∈ σ.ve, x ∈ τ.ve)))
  case atStart => exact ⟨σ, HM, Lib.hid (OutO.refl F w), Lib.hid ⟨Nat.le_refl _, Nat.le_refl _⟩, HI, Lib.hid ⟨fun _ h => h, fun _ h => h⟩⟩
  case round =>
    obtain ⟨τ, HT, HO, HG, HIn, HMo⟩ := hrel
    clear HM HI
    obtain ⟨us, ue, hV⟩ := HT.out
    have x0 := hV.cs0
    have xz := hV.zs 0
    obtain ⟨A, c, rfl⟩ := ownO_slice hV.rowS
    rcases eq_snoc τ.ws with hw | ⟨W, ⟨⟨b1, o1, b2, o2, n⟩, ⟨ca, cb⟩, a, b⟩, hw⟩
    · rw [hw] at x0
      have HR := Lib.hid (show AlSP C F G w σ (.returned (.bool true)) wr from ⟨true, τ, rfl, HT.out, HO.out, by have := HG.out; omega, HMo.out.1, HMo.out.2, fun _ => ⟨HIn.out, hw⟩, fun e => (by cases e)⟩)
      clear hV hw xz
      go_wp2
      go_ret
      exact HR.out
    · have hlen : τ.ws.length = W.length + 1 := by rw [hw]; simp
      have hown := hV.rowS
      rw [hlen] at x0 hown
      rw [hw] at hown
      rw [List.flatMap_append] at hown
      obtain ⟨g, rfl, hc1, hc2, hpop, hcel⟩ := ownsRow_pop hown (prC_len W)
      have y0 : wr.cell? ⟨g, W.length * 2, none⟩ = some (.slice (some ⟨b1, o1, none⟩) n ca) := hcel 0 _ rfl
      have y1 : wr.cell? ⟨g, W.length * 2 + 1, none⟩ = some (.slice (some ⟨b2, o2, none⟩) n cb) := hcel 1 _ rfl
      have hwl : W.length + 1 ≤ 1000000 := by have := phS_len τ.ws; have := HP.out; have := HG.out; have := phi_ws τ; omega
      have hm0 : (0 : Int) < ((W.length + 1 : Nat) : Int) := by omega
      have hb1 := hV.box (.cells #[.slice (some ⟨b1, o1, none⟩) n ca, .slice (some ⟨b2, o2, none⟩) n cb] 174)
      have hbe := (Below.refl wr.heap.size wr).alloc (Nat.le_refl _) (.cells #[.slice (some ⟨b1, o1, none⟩) n ca, .slice (some ⟨b2, o2, none⟩) n cb] 174)
      obtain ⟨hV2, hO2⟩ := hb1.waitS (w2 := wr.alloc (.cells #[.slice (some ⟨b1, o1, none⟩) n ca, .slice (some ⟨b2, o2, none⟩) n cb] 174)) (W := W) (u' := .slice (some ⟨g, 0, none⟩) W.length c) (rowO_below hpop hbe) (grown_self _ _) (.inl rfl) (fun x hx => hb1.inS x (by rw [hw]; exact List.mem_append_left _ hx))
      have hlay := hV.layS _ (hV.inS ((b1, o1, b2, o2, n), (ca, cb), a, b) (by rw [hw]; exact List.mem_append_right _ (List.mem_singleton.2 rfl)))
      have hqs := HIn.out.qs _ (hV.inS ((b1, o1, b2, o2, n), (ca, cb), a, b) (by rw [hw]; exact List.mem_append_right _ (List.mem_singleton.2 rfl)))
      have hphi : McS.phi { τ with ws := W } + stsNz a = τ.phi := by unfold McS.phi; simp only [hw, phS_snoc]; omega
      have q0 := hb1.cs0
      have q1 := hb1.zs 0
      have z := (heap_setCell_other (wr.alloc (.cells #[.slice (some ⟨b1, o1, none⟩) n ca, .slice (some ⟨b2, o2, none⟩) n cb] 174)) ⟨C.rs, 0, none⟩ wr.heap.size (.slice (some ⟨g, 0, none⟩) W.length c) (show wr.heap.size ≠ C.rs by have := hV.ltS; omega)).trans (heap_alloc_new wr (.cells #[.slice (some ⟨b1, o1, none⟩) n ca, .slice (some ⟨b2, o2, none⟩) n cb] 174))
      have z0 := cell_of_row _ _ 0 _ _ _ z
      have z1 := cell_of_row _ _ 1 _ _ _ z
      simp only [List.getElem?_toArray, List.getElem?_cons_zero, List.getElem?_cons_succ] at z0 z1
      have HE := Lib.hid (eqS_any C (NBo F wr.heap.size) G { τ with ws := W } a b b1 o1 b2 o2 n ca cb _ ⟨_, _, hV2⟩ HC.out hlay hqs (by have := HP.out; have := HG.out; omega))
      have HO2 := Lib.hid (HO.out.trans ((OutO.of_below (F := F) hbe).trans hO2.unbox))
      have HPh := Lib.hid hphi
      have HW := Lib.hid hw
      have hWc : W.length ≤ c := by omega
      clear hb1 hbe hV2 hO2 hlay hqs hphi hV hown hpop hcel hw hlen hc1 hc2 z
      go_wp2_with fail
      refine HE.out.mono ?_
      rintro e w2 ⟨r, υ, rfl, m1, u1, g1, p1, k1, k2⟩
      have HM2 := Lib.hid (m1.unbox HF.out)
      have HO3 := Lib.hid (HO2.out.trans u1.unbox)
      have HMo2 := Lib.hid (show (∀ x ∈ σ.vs, x ∈ υ.vs) ∧ (∀ x ∈ σ.ve, x ∈ υ.ve) from ⟨fun x hx => g1.sv x (HMo.out.1 x hx), fun x hx => g1.ev x (HMo.out.2 x hx)⟩)
      have hph : υ.phi + 1 ≤ τ.phi := by have := HPh.out; omega
      cases r with
      | true =>
        have HI2 := Lib.hid (HIn.out.popS HW.out g1 (k1 rfl))
        have HG2 := Lib.hid (show υ.phi ≤ υ.phi ∧ υ.phi ≤ σ.phi by have := HG.out; omega)
        have hlt : υ.phi < gk := by have := HG.out; omega
        clear m1 u1 g1 p1 k1 k2 hph
        go_wp2
        go_roundg υ.phi
        case measure => exact hlt
        case rel => exact ⟨υ, HM2, HO3, HG2, HI2, HMo2⟩
      | false =>
        have HR := Lib.hid (show AlSP C F G w σ (.returned (.bool false)) w2 from ⟨false, υ, rfl, HM2.out, HO3.out, by have := HG.out; omega, HMo2.out.1, HMo2.out.2, fun e => (by cases e), fun _ => k2 rfl⟩)
        clear m1 u1 g1 p1 k1 k2 hph
        go_wp2
        go_ret
        exact HR.out
def AlEP (C : McC) (F : Nat → Prop) (G : Prop) (w : World) (σ : McS) (e : Ending) (w' : World) : Prop :=
  ∃ r τ, e = .returned (.bool r) ∧ McIs C F w' τ ∧ OutO F w w' ∧ τ.phi ≤ σ.phi ∧ (∀ x ∈ σ.vs, x ∈ τ.vs) ∧ (∀ x ∈ σ.ve, x ∈ τ.ve) ∧ (r = true → InvM G τ ∧ τ.we = []) ∧ (r = false → ¬ G) ∧ τ.ws = σ.ws
set_option maxHeartbeats 4000000 in
theorem alikeE_any (C : McC) (F : Nat → Prop) (G : Prop) (σ : McS) (w : World) (h : McIs C F w σ) (hi : InvM G σ) (hp : σ.phi ≤ 1000000) :
    Calls Tryz.prog 66 #[.pointer (some ⟨C.re, 0, none⟩), .func (.func 67) #[.pointer (some ⟨C.p, 0, none⟩)] #[]] w (AlEP C F G w σ) := by
  have HF := Lib.hid h.fk
  have HM := Lib.hid h
  have HI := Lib.hid hi
  have HP := Lib.hid hp
  clear h hi hp
  go_enter Tryz.func66, Tryz.ntmps66
  go_wp2
  go_loopg [] σ.phi (fun g wr => ∃ (τ : McS), Hid (McIs C F wr τ) ∧ Hid (OutO F w wr) ∧ Hid (τ.phi ≤ g ∧ g ≤ σ.phi) ∧ Hid (InvM G τ) ∧ Hid ((∀ x ∈ σ.vs, x ∈ τ.vs) ∧ (∀ x ∈ σ.ve, x ∈ τ.ve) ∧ τ.ws = σ.ws))
  case atStart => exact ⟨σ, HM, Lib.hid (OutO.refl F w), Lib.hid ⟨Nat.le_refl _, Nat.le_refl _⟩, HI, Lib.hid ⟨fun _ h => h, fun _ h => h, rfl⟩⟩
  case round =>
    obtain ⟨τ, HT, HO, HG, HIn, HMo⟩ := hrel
    clear HM HI
    obtain ⟨us, ue, hV⟩ := HT.out
    have x0 := hV.ce0
    have xz := hV.ze 0
    obtain ⟨A, c, rfl⟩ := ownO_slice hV.rowE
    rcases eq_snoc τ.we with hw | ⟨W, ⟨⟨b1, o1, b2, o2, n⟩, ⟨ca, cb⟩, a, b⟩, hw⟩
    · rw [hw] at x0
      have HR := Lib.hid (show AlEP C F G w σ (.returned (.bool true)) wr from ⟨true, τ, rfl, HT.out, HO.out, by have := HG.out; omega, HMo.out.1, HMo.out.2.1, fun _ => ⟨HIn.out, hw⟩, fun e => (by cases e), HMo.out.2.2⟩)
      clear hV hw xz
      go_wp2
      go_ret
      exact HR.out
    · have hlen : τ.we.length = W.length + 1 := by rw [hw]; simp
      have hown := hV.rowE
      rw [hlen] at x0 hown
      rw [hw] at hown
      rw [List.flatMap_append] at hown
      obtain ⟨g, rfl, hc1, hc2, hpop, hcel⟩ := ownsRow_pop hown (prC_len W)
      have y0 : wr.cell? ⟨g, W.length * 2, none⟩ = some (.slice (some ⟨b1, o1, none⟩) n ca) := hcel 0 _ rfl
      have y1 : wr.cell? ⟨g, W.length * 2 + 1, none⟩ = some (.slice (some ⟨b2, o2, none⟩) n cb) := hcel 1 _ rfl
      have hwl : W.length + 1 ≤ 1000000 := by have := phE_len τ.we; have := HP.out; have := HG.out; have := phi_we τ; omega
      have hm0 : (0 : Int) < ((W.length + 1 : Nat) : Int) := by omega
      have hb1 := hV.box (.cells #[.slice (some ⟨b1, o1, none⟩) n ca, .slice (some ⟨b2, o2, none⟩) n cb] 177)
      have hbe := (Below.refl wr.heap.size wr).alloc (Nat.le_refl _) (.cells #[.slice (some ⟨b1, o1, none⟩) n ca, .slice (some ⟨b2, o2, none⟩) n cb] 177)
      obtain ⟨hV2, hO2⟩ := hb1.waitE (w2 := wr.alloc (.cells #[.slice (some ⟨b1, o1, none⟩) n ca, .slice (some ⟨b2, o2, none⟩) n cb] 177)) (W := W) (u' := .slice (some ⟨g, 0, none⟩) W.length c) (rowO_below hpop hbe) (grown_self _ _) (.inl rfl) (fun x hx => hb1.inE x (by rw [hw]; exact List.mem_append_left _ hx))
      have hlay := hV.layE _ (hV.inE ((b1, o1, b2, o2, n), (ca, cb), a, b) (by rw [hw]; exact List.mem_append_right _ (List.mem_singleton.2 rfl)))
      have hqs := HIn.out.qe _ (hV.inE ((b1, o1, b2, o2, n), (ca, cb), a, b) (by rw [hw]; exact List.mem_append_right _ (List.mem_singleton.2 rfl)))
      have hphi : McS.phi { τ with we := W } + exsNz a = τ.phi := by unfold McS.phi; simp only [hw, phE_snoc]; omega
      have q0 := hb1.ce0
      have q1 := hb1.ze 0
      have z := (heap_setCell_other (wr.alloc (.cells #[.slice (some ⟨b1, o1, none⟩) n ca, .slice (some ⟨b2, o2, none⟩) n cb] 177)) ⟨C.re, 0, none⟩ wr.heap.size (.slice (some ⟨g, 0, none⟩) W.length c) (show wr.heap.size ≠ C.re by have := hV.ltE; omega)).trans (heap_alloc_new wr (.cells #[.slice (some ⟨b1, o1, none⟩) n ca, .slice (some ⟨b2, o2, none⟩) n cb] 177))
      have z0 := cell_of_row _ _ 0 _ _ _ z
      have z1 := cell_of_row _ _ 1 _ _ _ z
      simp only [List.getElem?_toArray, List.getElem?_cons_zero, List.getElem?_cons_succ] at z0 z1
      have HE := Lib.hid (eqE_any C (NBo F wr.heap.size) G { τ with we := W } a b b1 o1 b2 o2 n ca cb _ ⟨_, _, hV2⟩ hlay hqs (by have := HP.out; have := HG.out; omega))
      have HO2 := Lib.hid (HO.out.trans ((OutO.of_below (F := F) hbe).trans hO2.unbox))
      have HPh := Lib.hid hphi
      have HW := Lib.hid hw
      have hWc : W.length ≤ c := by omega
      clear hb1 hbe hV2 hO2 hlay hqs hphi hV hown hpop hcel hw hlen hc1 hc2 z
      go_wp2_with fail
      refine HE.out.mono ?_
      rintro e w2 ⟨r, υ, rfl, m1, u1, g1, p1, k1, k2, zz⟩
      have HM2 := Lib.hid (m1.unbox HF.out)
      have HO3 := Lib.hid (HO2.out.trans u1.unbox)
      have HMo2 := Lib.hid (show (∀ x ∈ σ.vs, x ∈ υ.vs) ∧ (∀ x ∈ σ.ve, x ∈ υ.ve) ∧ υ.ws = σ.ws from ⟨fun x hx => g1.sv x (HMo.out.1 x hx), fun x hx => g1.ev x (HMo.out.2.1 x hx), zz.trans HMo.out.2.2⟩)
      have hph : υ.phi + 1 ≤ τ.phi := by have := HPh.out; omega
      cases r with
      | true =>
        have HI2 := Lib.hid (HIn.out.popE HW.out g1 (k1 rfl))
        have HG2 := Lib.hid (show υ.phi ≤ υ.phi ∧ υ.phi ≤ σ.phi by have := HG.out; omega)
        have hlt : υ.phi < gk := by have := HG.out; omega
        clear m1 u1 g1 p1 k1 k2 hph
        go_wp2
        go_roundg υ.phi
        case measure => exact hlt
        case rel => exact ⟨υ, HM2, HO3, HG2, HI2, HMo2⟩
      | false =>
        have HR := Lib.hid (show AlEP C F G w σ (.returned (.bool false)) w2 from ⟨false, υ, rfl, HM2.out, HO3.out, by have := HG.out; omega, HMo2.out.1, HMo2.out.2.1, fun e => (by cases e), fun _ => k2 rfl, HMo2.out.2.2⟩)
        clear m1 u1 g1 p1 k1 k2 hph
        go_wp2
        go_ret
        exact HR.out
end Go.Proofs.YtbhdbglhejibbaaGreatDoor
namespace Go.Proofs.YtbhdbglhejibbaaGreatDoor
set_option maxRecDepth 100000
open Go.RowKit
set_option linter.unusedVariables false
theorem InvM.alike {G : Prop} {τ : McS} (h : InvM G τ) (hs : τ.ws = []) (he : τ.we = []) : ∀ x ∈ τ.vs, x.2.1 = x.2.2 := by
  have hE : ∀ x ∈ τ.ve, AllOk (ExOk τ.ve) x.2.1 x.2.2 := fun x hx => by
    rcases h.de x hx with ⟨c, k⟩ | k
    · rw [he] at k; cases k
    · exact k
  have hS : ∀ x ∈ τ.vs, AllOk (StOk τ.ve τ.vs) x.2.1 x.2.2 := fun x hx => by
    rcases h.ds x hx with ⟨c, k⟩ | k
    · rw [hs] at k; cases k
    · exact k
  exact fun x hx => same_of_doneS hE hS _ _ _ (Nat.le_refl _) (hS x hx)
def RestP (F : Nat → Prop) (G : Prop) (w : World) (σ : McS) (e : Ending) (w' : World) : Prop :=
  ∃ r, e = .returned (.bool r) ∧ OutO F w w' ∧ (r = true → ∀ x ∈ σ.vs, x.2.1 = x.2.2) ∧ (r = false → ¬ G)
set_option maxHeartbeats 2000000 in
theorem rest_any (C : McC) (F : Nat → Prop) (G : Prop) (σ : McS) (w : World) (hC : StmC C G) (h : McIs C F w σ) (hi : InvM G σ) (hp : σ.phi ≤ 1000000) :
    Calls Tryz.prog 39 #[.pointer (some ⟨C.p, 0, none⟩)] w (RestP F G w σ) := by
  have hmf : ∀ (fn : Fn) (first cap : Array Value) (w : World), (Instr.makeFunc fn first cap).run Tryz.prog w = .ok (.func fn first cap) w := fun _ _ _ _ => rfl
  have HA := Lib.hid (alikeS_any C F G σ w hC h hi hp)
  have HE := Lib.hid (fun (w2 : World) (τ : McS) (h2 : McIs C F w2 τ) (h3 : InvM G τ) (h4 : τ.phi ≤ 1000000) => alikeE_any C F G τ w2 h2 h3 h4)
  have HP := Lib.hid hp
  have x0 : w.cell? ⟨C.p, 0, none⟩ = some (.pointer (some ⟨C.rs, 0, none⟩)) := by obtain ⟨us, ue, h⟩ := h; exact h.cp0
  clear hC h hi hp
  go_enter Tryz.func39, Tryz.ntmps39
  go_wp2_with fail
  refine HA.out.mono ?_
  rintro e w2 ⟨r, τ, rfl, m1, o1, p1, v1, v2, k1, k2⟩
  cases r with
  | false =>
    have HR := Lib.hid (show RestP F G w σ (.returned (.bool false)) w2 from ⟨false, rfl, o1, fun e => (by cases e), fun _ => k2 rfl⟩)
    clear m1 o1 p1 v1 v2 k1 k2
    go_wp2
    go_ret
    exact HR.out
  | true =>
    obtain ⟨hi2, hw2⟩ := k1 rfl
    have x1 : w2.cell? ⟨C.p, 1, none⟩ = some (.pointer (some ⟨C.re, 0, none⟩)) := by obtain ⟨us, ue, h⟩ := m1; exact h.cp1
    have HE2 := Lib.hid (HE.out w2 τ m1 hi2 (by have := HP.out; omega))
    have HO := Lib.hid o1
    have HW := Lib.hid hw2
    have HV := Lib.hid v1
    clear m1 o1 p1 v1 v2 k1 k2 hi2 hw2
    go_wp2_with fail
    refine HE2.out.mono ?_
    rintro e w3 ⟨r, υ, rfl, m3, o3, p3, v3, v4, k3, k4, hws⟩
    have HR := Lib.hid (show RestP F G w σ (.returned (.bool r)) w3 from ⟨r, rfl, HO.out.trans o3, fun e => (by
      obtain ⟨hi3, hw3⟩ := k3 e
      exact fun x hx => hi3.alike (hws.trans HW.out) hw3 x (v3 x (HV.out x hx))), k4⟩)
    clear m3 o3 p3 v3 v4 k3 k4 hws
    go_wp2
    go_ret
    exact HR.out
theorem newRowS_any (w : World) : Calls Tryz.prog 60 #[] w fun e w' => e = .returned (.pointer (some ⟨w.heap.size + 1, 0, none⟩)) ∧ w' = (w.alloc (.map #[] 0)).alloc (.cells #[.slice none 0 0, .map (some w.heap.size)] 164) := by
  have hmm := @run_makeMap Tryz.prog
  have hbd : ∀ (a : Nat) (w : World), (Instr.build 164 #[(1, .map (some a))]).run Tryz.prog w = .ok (.agg #[.slice none 0 0, .map (some a)]) w := fun a w => run_build w 164 _ _ (by kernel_rfl)
  go_enter Tryz.func60, Tryz.ntmps60
  go_wp2
  go_ret
  exact ⟨rfl, rfl⟩
theorem newRowE_any (w : World) : Calls Tryz.prog 61 #[] w fun e w' => e = .returned (.pointer (some ⟨w.heap.size + 1, 0, none⟩)) ∧ w' = (w.alloc (.map #[] 0)).alloc (.cells #[.slice none 0 0, .map (some w.heap.size)] 168) := by
  have hmm := @run_makeMap Tryz.prog
  have hbd : ∀ (a : Nat) (w : World), (Instr.build 168 #[(1, .map (some a))]).run Tryz.prog w = .ok (.agg #[.slice none 0 0, .map (some a)]) w := fun a w => run_build w 168 _ _ (by kernel_rfl)
  go_enter Tryz.func61, Tryz.ntmps61
  go_wp2
  go_ret
  exact ⟨rfl, rfl⟩
def emptyM : McS := ⟨[], [], [], []⟩
def mcOf (w : World) (S : Nat → Prop) : McC := ⟨w, S, w.heap.size + 4, w.heap.size + 1, w.heap.size + 3, w.heap.size, w.heap.size + 2, w.heap.size + 5⟩
theorem newMatcher_any (w : World) (S : Nat → Prop) (hS : ∀ b, S b → PlB w b) : Calls Tryz.prog 35 #[] w fun e w' => e = .returned (.pointer (some ⟨w.heap.size + 4, 0, none⟩)) ∧ McIs (mcOf w S) (fun b => w.heap.size ≤ b) w' emptyM ∧ Below w.heap.size w w' := by
  have hbd : ∀ (a b : Nat) (w : World), (Instr.build 132 #[(0, .pointer (some ⟨a, 0, none⟩)), (1, .pointer (some ⟨b, 0, none⟩))]).run Tryz.prog w = .ok (.agg #[.pointer (some ⟨a, 0, none⟩), .pointer (some ⟨b, 0, none⟩)]) w := fun a b w => run_build w 132 _ _ (by kernel_rfl)
  have s1 : (w.alloc (.map #[] 0)).heap.size = w.heap.size + 1 := by simp
  have s2 : ((w.alloc (.map #[] 0)).alloc (.cells #[.slice none 0 0, .map (some w.heap.size)] 164)).heap.size = w.heap.size + 2 := by simp
  have s3 : (((w.alloc (.map #[] 0)).alloc (.cells #[.slice none 0 0, .map (some w.heap.size)] 164)).alloc (.map #[] 0)).heap.size = w.heap.size + 3 := by simp
  have s4 : ((((w.alloc (.map #[] 0)).alloc (.cells #[.slice none 0 0, .map (some w.heap.size)] 164)).alloc (.map #[] 0)).alloc (.cells #[.slice none 0 0, .map (some (w.heap.size + 2))] 168)).heap.size = w.heap.size + 4 := by simp
  have g0 := heap_alloc_new w (.map #[] 0)
  have g1 := heap_alloc_new (w.alloc (.map #[] 0)) (.cells #[.slice none 0 0, .map (some w.heap.size)] 164)
  have g2 := heap_alloc_new ((w.alloc (.map #[] 0)).alloc (.cells #[.slice none 0 0, .map (some w.heap.size)] 164)) (.map #[] 0)
  have g3 := heap_alloc_new (((w.alloc (.map #[] 0)).alloc (.cells #[.slice none 0 0, .map (some w.heap.size)] 164)).alloc (.map #[] 0)) (.cells #[.slice none 0 0, .map (some (w.heap.size + 2))] 168)
  have g4 := heap_alloc_new ((((w.alloc (.map #[] 0)).alloc (.cells #[.slice none 0 0, .map (some w.heap.size)] 164)).alloc (.map #[] 0)).alloc (.cells #[.slice none 0 0, .map (some (w.heap.size + 2))] 168)) (.cells #[.pointer (some ⟨w.heap.size + 1, 0, none⟩), .pointer (some ⟨w.heap.size + 3, 0, none⟩)] 132)
  rw [s1] at g1
  rw [s2] at g2
  rw [s3] at g3
  rw [s4] at g4
  have up : ∀ {W : World} {b : Nat} {o x : Obj}, W.heap[b]? = some o → (W.alloc x).heap[b]? = some o := fun {W b o x} h => (heap_alloc_old W x (Array.getElem?_eq_some_iff.1 h).1).trans h
  have hb := (((((Below.refl w.heap.size w).alloc (Nat.le_refl _) (.map #[] 0)).alloc (by simp) (.cells #[.slice none 0 0, .map (some w.heap.size)] 164)).alloc (by simp; omega) (.map #[] 0)).alloc (by simp; omega) (.cells #[.slice none 0 0, .map (some (w.heap.size + 2))] 168)).alloc (by simp; omega) (.cells #[.pointer (some ⟨w.heap.size + 1, 0, none⟩), .pointer (some ⟨w.heap.size + 3, 0, none⟩)] 132)
  have HW := Lib.hid (show McIs (mcOf w S) (fun b => w.heap.size ≤ b) (((((w.alloc (.map #[] 0)).alloc (.cells #[.slice none 0 0, .map (some w.heap.size)] 164)).alloc (.map #[] 0)).alloc (.cells #[.slice none 0 0, .map (some (w.heap.size + 2))] 168)).alloc (.cells #[.pointer (some ⟨w.heap.size + 1, 0, none⟩), .pointer (some ⟨w.heap.size + 3, 0, none⟩)] 132)) emptyM from
    ⟨.slice none 0 0, .slice none 0 0, { ok := ⟨hS, by unfold mcOf; simp only; omega, by unfold mcOf; simp only; omega⟩, blk := g4, blS := up (up (up g1)), blE := up g3, rowS := World.ownsRow_nil _ _ _ _, rowE := World.ownsRow_nil _ _ _ _, mapS := ⟨#[], 0, up (up (up (up g0))), rfl, by simp⟩, mapE := ⟨#[], 0, up (up g2), rfl, by simp⟩, layS := (fun x hx => by cases hx), layE := (fun x hx => by cases hx), inS := (fun x hx => by cases hx), inE := (fun x hx => by cases hx), off := (fun b e => by cases e), fp := by unfold mcOf; simp only; omega, fs := (fun b e => by cases e), fe := (fun b e => by cases e), fn := (fun b hb' => by have := hb.size; omega), fk := (fun b hb => hb), base := hb, bound := by unfold mcOf; simp }⟩)
  have HB := Lib.hid hb
  clear hb g0 g1 g2 g3 g4 up hS
  have HS := Lib.hid (newRowS_any w)
  have HE := Lib.hid (newRowE_any ((w.alloc (.map #[] 0)).alloc (.cells #[.slice none 0 0, .map (some w.heap.size)] 164)))
  rw [s2] at HE
  clear s1 s2 s3 s4
  go_enter Tryz.func35, Tryz.ntmps35
  go_wp2_with fail
  refine HS.out.mono ?_
  rintro e w2 ⟨rfl, rfl⟩
  go_wp2_with fail
  refine HE.out.mono ?_
  rintro e w2 ⟨rfl, rfl⟩
  go_wp2
  go_ret
  exact ⟨rfl, HW.out, HB.out⟩
end Go.Proofs.YtbhdbglhejibbaaGreatDoor
namespace Go.Proofs.YtbhdbglhejibbaaGreatDoor
set_option maxRecDepth 100000
open Go.RowKit
set_option linter.unusedVariables false
theorem str_iff {s s' : ByteArray} : s.toList = s'.toList ↔ s = s' := by
  have := str_eq (x := s) (s := s')
  constructor
  · intro h
    rw [h] at this
    simpa using this.symm
  · rintro rfl; rfl
theorem neqArr (s s' : ByteArray) (n n' : Int) (w : World) : (binOp .neq 55 (.agg #[.string s, .int .i64 n]) (.agg #[.string s', .int .i64 n'])).run Tryz.prog w = .ok (.bool (!(decide ((s, n) = (s', n'))))) w := by
  rw [run_neq_struct]
  have hE : (Op.equalIn 10000 55 (.agg #[.string s, .int .i64 n]) (.agg #[.string s', .int .i64 n'])).run Tryz.prog w = .ok (decide ((s, n) = (s', n'))) w := by
    have ai := Tryz.isAgg3
    have ui := Tryz.underlying3
    have ast : ∀ w, (isAgg 9).run Tryz.prog w = .ok false w := fun w => by kernel_rfl
    have us := Tryz.underlying9
    have hS : Tryz.prog.underlying 55 = some (.struct (Tryz.prog.fieldsOf 55)) := by kernel_rfl
    have hh : Tryz.prog.stoodInHeld 55 = false := by kernel_rfl
    rw [show (10000 : Nat) = 9999 + 1 from rfl, run_equalIn_agg w 9999 _ _ _ hS hh]
    simp only [Program.fieldsOf, Tryz.underlying55]
    rw [show (9999 : Nat) = 9998 + 1 from rfl]
    simp only [Op.eqFields]
    go_simp
    by_cases h1 : s = s' <;> by_cases h2 : n = n' <;> simp [*, str_iff]
  rw [hE, Result.andThen_ok]
theorem neqPar (s s' : ByteArray) (k k' n n' : Int) (w : World) : (binOp .neq 58 (.agg #[.string s, .int .i64 k, .int .i64 n]) (.agg #[.string s', .int .i64 k', .int .i64 n'])).run Tryz.prog w = .ok (.bool (!(decide ((s, k, n) = (s', k', n'))))) w := by
  rw [run_neq_struct]
  have hE : (Op.equalIn 10000 58 (.agg #[.string s, .int .i64 k, .int .i64 n]) (.agg #[.string s', .int .i64 k', .int .i64 n'])).run Tryz.prog w = .ok (decide ((s, k, n) = (s', k', n'))) w := by
    have ai := Tryz.isAgg3
    have ui := Tryz.underlying3
    have ast : ∀ w, (isAgg 9).run Tryz.prog w = .ok false w := fun w => by kernel_rfl
    have us := Tryz.underlying9
    have hS : Tryz.prog.underlying 58 = some (.struct (Tryz.prog.fieldsOf 58)) := by kernel_rfl
    have hh : Tryz.prog.stoodInHeld 58 = false := by kernel_rfl
    rw [show (10000 : Nat) = 9999 + 1 from rfl, run_equalIn_agg w 9999 _ _ _ hS hh]
    simp only [Program.fieldsOf, Tryz.underlying58]
    rw [show (9999 : Nat) = 9998 + 1 from rfl]
    simp only [Op.eqFields]
    go_simp
    by_cases h1 : s = s' <;> by_cases h2 : k = k' <;> by_cases h3 : n = n' <;> simp [*, str_iff]
  rw [hE, Result.andThen_ok]
set_option maxHeartbeats 2000000 in
theorem equalArr_any (S S' : Nat → Prop) (la lb : List ArrD) (A B : Option Addr) (c d : Nat) (hmx : la.length ≤ 1000000000) (w : World) (hA : ArrsAt w S la A) (hB : ArrsAt w S' lb B) :
    Calls Tryz.prog 36 #[.slice A la.length c, .slice B lb.length d] w fun e w' => e = .returned (.bool (decide (la = lb))) ∧ ∃ k, w' = w.drewN k := by
  obtain ⟨n, hn⟩ : ∃ n, la.length = n := ⟨_, rfl⟩
  obtain ⟨m, hm⟩ : ∃ m, lb.length = m := ⟨_, rfl⟩
  rw [hn] at hmx
  rw [hn, hm]
  by_cases hnm : n = m
  case neg =>
    have HF := Lib.hid (show decide (la = lb) = false from decide_eq_false (fun e => hnm (by rw [← hn, ← hm, e])))
    have t0 : ((n : Int) != (m : Int)) = true := by simpa using fun e => hnm (by omega)
    clear hA hB
    go_enter Tryz.func36, Tryz.ntmps36
    go_wp2
    go_ret
    exact ⟨by rw [HF.out]; rfl, 0, by simp [World.drewN_zero]⟩
  case pos =>
    subst hnm
    have HLa := Lib.hid hn
    have HLb := Lib.hid hm
    have HA := Lib.hid hA
    have HB := Lib.hid hB
    clear hA hB hn hm
    go_enter Tryz.func36, Tryz.ntmps36
    go_wp2
    go_loopw [13] (fun i wr => ∃ (k : Nat) (q : Nat), k ≤ n ∧ i = .int .i64 k ∧ Hid (wr = w.drewN q) ∧ Hid (∀ j, j < k → ∀ (h : j < la.length) (h' : j < lb.length), la[j] = lb[j])) (fun i _ => n - (intOf i).toNat)
    case atStart => exact ⟨0, 0, by omega, rfl, Lib.hid (by simp [World.drewN_zero]), Lib.hid (fun j hj => by omega)⟩
    case round =>
      obtain ⟨k, q, hk, rfl, HW, HS⟩ := hrel
      have hw := HW.out
      clear HW
      subst hw
      by_cases hlt : k < n
      · have hla : k < la.length := by rw [HLa.out]; exact hlt
        have hlb : k < lb.length := by rw [HLb.out]; exact hlt
        rcases HA.out with h0 | ⟨ba, oa, rfl, _, hca⟩
        · rw [h0] at hla; simp at hla
        rcases HB.out with h0 | ⟨bb, ob, rfl, _, hcb⟩
        · rw [h0] at hlb; simp at hlb
        obtain ⟨g1, g2⟩ := hca k hla
        obtain ⟨g3, g4⟩ := hcb k hlb
        have HSn' := Lib.hid (show la[k] = lb[k] → ∀ j, j < k + 1 → ∀ (h : j < la.length) (h' : j < lb.length), la[j] = lb[j] from fun e j hj h h' => by
          by_cases hj' : j = k
          · subst hj'; exact e
          · exact HS.out j (by omega) h h')
        have HNe := Lib.hid (show la[k] ≠ lb[k] → decide (la = lb) = false from fun h => decide_eq_false (fun e => h (by subst e; rfl)))
        have h0k : (0 : Int) ≤ (k : Int) := by omega
        have hkn : (k : Int) < (n : Int) := by omega
        clear hca hcb HA HB HS
        generalize la[k] = s at *
        generalize lb[k] = t at *
        obtain ⟨s1, s2⟩ := s
        obtain ⟨t1, t2⟩ := t
        simp only at g1 g2 g3 g4
        have hq := fun W => neqArr s1 t1 s2 t2 W
        clear hla hlb
        by_cases hst : (s1, s2) = (t1, t2)
        · have HE := Lib.hid hst
          rw [decide_eq_true hst] at hq
          clear hst
          go_wp2
          go_quiet (fail)
          go_wp2
          go_roundw
          case rel => exact ⟨k + 1, q + nq, by omega, by go_num, Lib.hid (by first | rfl | (rw [World.drewN_drewN])), Lib.hid (HSn'.out HE.out)⟩
          case measure => simp [intOf]; omega
        · have HE := Lib.hid (HNe.out hst)
          rw [decide_eq_false hst] at hq
          clear hst
          go_wp2
          go_quiet (fail)
          go_wp2
          go_ret
          exact ⟨by rw [HE.out]; rfl, q + nq, by first | rfl | (rw [World.drewN_drewN])⟩
      · obtain rfl : k = n := by omega
        have HT := Lib.hid (show decide (la = lb) = true from decide_eq_true (List.ext_getElem (HLa.out.trans HLb.out.symm) fun i h1 h2 => HS.out i (by have := HLa.out; omega) h1 h2))
        clear HA HB HS
        go_wp2
        go_ret
        exact ⟨by rw [HT.out]; rfl, q, rfl⟩
set_option maxHeartbeats 2000000 in
theorem equalPar_any (S S' : Nat → Prop) (la lb : List ParD) (A B : Option Addr) (c d : Nat) (hmx : la.length ≤ 1000000000) (w : World) (hA : ParsAt w S la A) (hB : ParsAt w S' lb B) :
    Calls Tryz.prog 62 #[.slice A la.length c, .slice B lb.length d] w fun e w' => e = .returned (.bool (decide (la = lb))) ∧ ∃ k, w' = w.drewN k := by
  obtain ⟨n, hn⟩ : ∃ n, la.length = n := ⟨_, rfl⟩
  obtain ⟨m, hm⟩ : ∃ m, lb.length = m := ⟨_, rfl⟩
  rw [hn] at hmx
  rw [hn, hm]
  by_cases hnm : n = m
  case neg =>
    have HF := Lib.hid (show decide (la = lb) = false from decide_eq_false (fun e => hnm (by rw [← hn, ← hm, e])))
    have t0 : ((n : Int) != (m : Int)) = true := by simpa using fun e => hnm (by omega)
    clear hA hB
    go_enter Tryz.func62, Tryz.ntmps62
    go_wp2
    go_ret
    exact ⟨by rw [HF.out]; rfl, 0, by simp [World.drewN_zero]⟩
  case pos =>
    subst hnm
    have HLa := Lib.hid hn
    have HLb := Lib.hid hm
    have HA := Lib.hid hA
    have HB := Lib.hid hB
    clear hA hB hn hm
    go_enter Tryz.func62, Tryz.ntmps62
    go_wp2
    go_loopw [13] (fun i wr => ∃ (k : Nat) (q : Nat), k ≤ n ∧ i = .int .i64 k ∧ Hid (wr = w.drewN q) ∧ Hid (∀ j, j < k → ∀ (h : j < la.length) (h' : j < lb.length), la[j] = lb[j])) (fun i _ => n - (intOf i).toNat)
    case atStart => exact ⟨0, 0, by omega, rfl, Lib.hid (by simp [World.drewN_zero]), Lib.hid (fun j hj => by omega)⟩
    case round =>
      obtain ⟨k, q, hk, rfl, HW, HS⟩ := hrel
      have hw := HW.out
      clear HW
      subst hw
      by_cases hlt : k < n
      · have hla : k < la.length := by rw [HLa.out]; exact hlt
        have hlb : k < lb.length := by rw [HLb.out]; exact hlt
        rcases HA.out with h0 | ⟨ba, oa, rfl, _, hca⟩
        · rw [h0] at hla; simp at hla
        rcases HB.out with h0 | ⟨bb, ob, rfl, _, hcb⟩
        · rw [h0] at hlb; simp at hlb
        obtain ⟨g1, g2, g5⟩ := hca k hla
        obtain ⟨g3, g4, g6⟩ := hcb k hlb
        have HSn' := Lib.hid (show la[k] = lb[k] → ∀ j, j < k + 1 → ∀ (h : j < la.length) (h' : j < lb.length), la[j] = lb[j] from fun e j hj h h' => by
          by_cases hj' : j = k
          · subst hj'; exact e
          · exact HS.out j (by omega) h h')
        have HNe := Lib.hid (show la[k] ≠ lb[k] → decide (la = lb) = false from fun h => decide_eq_false (fun e => h (by subst e; rfl)))
        have h0k : (0 : Int) ≤ (k : Int) := by omega
        have hkn : (k : Int) < (n : Int) := by omega
        clear hca hcb HA HB HS
        generalize la[k] = s at *
        generalize lb[k] = t at *
        obtain ⟨s1, s2, s3⟩ := s
        obtain ⟨t1, t2, t3⟩ := t
        simp only at g1 g2 g5 g3 g4 g6
        have hq := fun W => neqPar s1 t1 s2 t2 s3 t3 W
        clear hla hlb
        by_cases hst : (s1, s2, s3) = (t1, t2, t3)
        · have HE := Lib.hid hst
          rw [decide_eq_true hst] at hq
          clear hst
          go_wp2
          go_quiet (fail)
          go_wp2
          go_roundw
          case rel => exact ⟨k + 1, q + nq, by omega, by go_num, Lib.hid (by first | rfl | (rw [World.drewN_drewN])), Lib.hid (HSn'.out HE.out)⟩
          case measure => simp [intOf]; omega
        · have HE := Lib.hid (HNe.out hst)
          rw [decide_eq_false hst] at hq
          clear hst
          go_wp2
          go_quiet (fail)
          go_wp2
          go_ret
          exact ⟨by rw [HE.out]; rfl, q + nq, by first | rfl | (rw [World.drewN_drewN])⟩
      · obtain rfl : k = n := by omega
        have HT := Lib.hid (show decide (la = lb) = true from decide_eq_true (List.ext_getElem (HLa.out.trans HLb.out.symm) fun i h1 h2 => HS.out i (by have := HLa.out; omega) h1 h2))
        clear HA HB HS
        go_wp2
        go_ret
        exact ⟨by rw [HT.out]; rfl, q, rfl⟩
end Go.Proofs.YtbhdbglhejibbaaGreatDoor
namespace Go.Proofs.YtbhdbglhejibbaaGreatDoor
set_option maxRecDepth 100000
open Go.RowKit
set_option linter.unusedVariables false
def FnOk (U : TwL StmtD) (x y : FunD) : Prop := x.1 = y.1 ∧ x.2.1 = y.2.1 ∧ x.2.2.1 = y.2.2.1 ∧ PutOk U x.2.2.2 y.2.2.2
theorem FnOk.mono {U U' : TwL StmtD} {x y : FunD} (hs : ∀ x ∈ U, x ∈ U') (h : FnOk U x y) : FnOk U' x y := ⟨h.1, h.2.1, h.2.2.1, h.2.2.2.mono hs⟩
def MfnP (C : McC) (F : Nat → Prop) (G : Prop) (w : World) (σ : McS) (x y : FunD) (e : Ending) (w' : World) : Prop :=
  ∃ r τ, e = .returned (.bool r) ∧ McIs C F w' τ ∧ OutO F w w' ∧ Grow G σ τ ∧ τ.phi ≤ σ.phi + stsNz x.2.2.2 ∧ (r = true → FnOk τ.vs x y) ∧ (r = false → ¬ G)
theorem bel_drewN0 (w : World) (n : Nat) : Below w.heap.size w (w.drewN n) := ⟨rfl, rfl, rfl, Nat.le_refl _, fun _ _ => rfl⟩
set_option maxHeartbeats 8000000 in
theorem mfun_any (C : McC) (F : Nat → Prop) (G : Prop) (σ : McS) (s s' : ByteArray) (o o' : Bool) (ps ps' : List ParD) (l l' : List StmtD) (P P' A A' : Option Addr) (cp cp' c c' : Nat) (w : World) (h : McIs C F w σ) (hps : ParsAt C.w0 C.S ps P) (hps' : ParsAt C.w0 C.S ps' P') (ha : StmtsAt C.w0 C.S l A) (hb : StmtsAt C.w0 C.S l' A') (hpl : ps.length ≤ 1000000000)
    (hq : G → ((s, o, ps, l) : FunD) = (s', o', ps', l')) (hp : σ.phi ≤ 1000000) :
    Calls Tryz.prog 38 #[.pointer (some ⟨C.p, 0, none⟩), .agg #[.string s, .bool o, .slice P ps.length cp, .slice A l.length c], .agg #[.string s', .bool o', .slice P' ps'.length cp', .slice A' l'.length c']] w (MfnP C F G w σ (s, o, ps, l) (s', o', ps', l')) := by
  obtain ⟨hM, hX, hB⟩ := h.boxes (c1 := #[.string s, .bool o, .slice P ps.length cp, .slice A l.length c]) (c2 := #[.string s', .bool o', .slice P' ps'.length cp', .slice A' l'.length c']) (T := 48)
  have HS := Lib.hid (exS_of hX)
  have HM := Lib.hid hM
  have HB := Lib.hid hB
  have HF := Lib.hid h.fk
  have HQ := Lib.hid hq
  have HNo := Lib.hid (show ∀ m : Nat, ¬ G → MfnP C F G w σ (s, o, ps, l) (s', o', ps', l') (.returned (.bool false)) (((w.alloc (.cells #[.string s, .bool o, .slice P ps.length cp, .slice A l.length c] 48)).alloc (.cells #[.string s', .bool o', .slice P' ps'.length cp', .slice A' l'.length c'] 48)).drewN m) from
    fun m hg => ⟨false, σ, rfl, h.below (hB.trans ⟨rfl, rfl, rfl, Nat.le_refl _, fun _ _ => rfl⟩), OutO.of_below (hB.trans ⟨rfl, rfl, rfl, Nat.le_refl _, fun _ _ => rfl⟩), Grow.refl G σ, by omega, fun e => (by cases e), fun _ => hg⟩)
  have hEq := fun (w' : World) (υ : McS) (F' : Nat → Prop) (h2 : McIs C F' w' υ) => equalPar_any C.S C.S ps ps' P P' cp cp' hpl w' (by obtain ⟨us, ue, h2⟩ := h2; exact hps.move (fun _ h => h) (fun b hb => h2.keep b hb)) (by obtain ⟨us, ue, h2⟩ := h2; exact hps'.move (fun _ h => h) (fun b hb => h2.keep b hb))
  have HEq := Lib.hid (fun (w' : World) (h1 : ExS C w.heap.size (w.heap.size + 1) (.string s) (.bool o) (.slice P ps.length cp) (.slice A l.length c) (.string s') (.bool o') (.slice P' ps'.length cp') (.slice A' l'.length c') 48 w') (h2 : McIs C (NBo (NBo F w.heap.size) (w.heap.size + 1)) w' σ) => (hEq w' σ _ h2).mono (fun e w2 h3 => show e = .returned (.bool (decide (ps = ps'))) ∧ McIs C (NBo (NBo F w.heap.size) (w.heap.size + 1)) w2 σ ∧ OutO (NBo (NBo F w.heap.size) (w.heap.size + 1)) w' w2 ∧ ExS C w.heap.size (w.heap.size + 1) (.string s) (.bool o) (.slice P ps.length cp) (.slice A l.length c) (.string s') (.bool o') (.slice P' ps'.length cp') (.slice A' l'.length c') 48 w2 from by
      obtain ⟨e1, m, rfl⟩ := h3
      have hm := h2.below (bel_drewN0 w' m)
      exact ⟨e1, hm, OutO.of_below (bel_drewN0 w' m), exS_of (h1.2.out (OutO.of_below (bel_drewN0 w' m)) hm)⟩))
  have HEq2 := Lib.hid (fun (n : Nat) => hEq (((w.alloc (.cells #[.string s, .bool o, .slice P ps.length cp, .slice A l.length c] 48)).alloc (.cells #[.string s', .bool o', .slice P' ps'.length cp', .slice A' l'.length c'] 48)).drewN n) σ _ (hM.below (show Below _ _ (((w.alloc (.cells #[.string s, .bool o, .slice P ps.length cp, .slice A l.length c] 48)).alloc (.cells #[.string s', .bool o', .slice P' ps'.length cp', .slice A' l'.length c'] 48)).drewN n) from ⟨rfl, rfl, rfl, Nat.le_refl _, fun _ _ => rfl⟩)))
  have HPut := Lib.hid (fun (w' : World) (h1 : ExS C w.heap.size (w.heap.size + 1) (.string s) (.bool o) (.slice P ps.length cp) (.slice A l.length c) (.string s') (.bool o') (.slice P' ps'.length cp') (.slice A' l'.length c') 48 w') (h2 : McIs C (NBo (NBo F w.heap.size) (w.heap.size + 1)) w' σ) =>
    (putS_any C (NBo (NBo F w.heap.size) (w.heap.size + 1)) G σ l l' A A' c c' w' h2 ha hb (fun g => by have := hq g; simp only [Prod.mk.injEq] at this; exact this.2.2.2) hp).mono (fun e w2 h3 => show e = .returned (.bool (decide (l.length = l'.length))) ∧ (∃ τ, McIs C (NBo (NBo F w.heap.size) (w.heap.size + 1)) w2 τ ∧ OutO (NBo (NBo F w.heap.size) (w.heap.size + 1)) w' w2 ∧ Grow G σ τ ∧ τ.phi ≤ σ.phi + stsNz l ∧ (l.length = l'.length → PutOk τ.vs l l')) ∧ ExS C w.heap.size (w.heap.size + 1) (.string s) (.bool o) (.slice P ps.length cp) (.slice A l.length c) (.string s') (.bool o') (.slice P' ps'.length cp') (.slice A' l'.length c') 48 w2 from by
      obtain ⟨e1, τ, m1, o1, g1, p1, q1, z1⟩ := h3
      exact ⟨e1, ⟨τ, m1, o1, g1, p1, q1⟩, exS_of (h1.2.out o1 m1)⟩))
  clear hM hX hB hq h hEq
  by_cases hs : s = s'
  · have ts : (s.toList == s'.toList) = true := by rw [str_eq, decide_eq_true_iff]; exact hs
    have HSs := Lib.hid hs
    clear hs
    by_cases ho : o = o'
    · have to_ : (o == o') = true := by simpa using ho
      have HOo := Lib.hid ho
      clear ho
      by_cases hpp : ps = ps'
      · have tp : decide (ps = ps') = true := decide_eq_true hpp
        rw [tp] at HEq
        have HE := Lib.hid (And.intro HSs.out (And.intro HOo.out hpp))
        clear hpp tp HEq2
        by_cases hl : l.length = l'.length
        · have tl : decide (l.length = l'.length) = true := decide_eq_true hl
          rw [tl] at HPut
          have HL := Lib.hid hl
          clear hl tl
          have hS := HS.out
          have hM := HM.out
          generalize l.length = a at *
          generalize l'.length = a' at *
          generalize ps.length = q at *
          generalize ps'.length = q' at *
          go_enter Tryz.func38, Tryz.ntmps38
          go_wp2
          go_region_held3 (fun w' => ExS C w.heap.size (w.heap.size + 1) (.string s) (.bool o) (.slice P q cp) (.slice A a c) (.string s') (.bool o') (.slice P' q' cp') (.slice A' a' c') 48 w') (with_reducible assumption)
            (first
            | (go_at_call 62; (with_reducible refine (HEq.out _ ?hs ?hm).mono ?_); (case hs => (with_reducible assumption)); (case hm => (with_reducible assumption)); rintro e wq ⟨rfl, hmq, oq, hhq⟩)
            | (go_at_call 63; (with_reducible refine (HPut.out wq hhq hmq).mono ?_); rintro e w' ⟨rfl, hτ, hh⟩))
          go_wp2
          go_ret
          obtain ⟨τ, m1, o1, g1, p1, q1⟩ := hτ
          obtain ⟨e1, e2, e3⟩ := HE.out
          exact ⟨true, τ, rfl, (m1.unbox (fun b hb => HF.out b hb.1)).unbox HF.out, (OutO.of_below HB.out).trans (OutO.trans oq.unbox.unbox o1.unbox.unbox), g1, p1, fun _ => ⟨e1, e2, e3, q1 HL.out⟩, fun e => (by cases e)⟩
        · have tl : decide (l.length = l'.length) = false := decide_eq_false hl
          rw [tl] at HPut
          have HL := Lib.hid (show ¬ G from fun g => hl (by have := HQ.out g; simp only [Prod.mk.injEq] at this; rw [this.2.2.2]))
          clear hl tl
          have hS := HS.out
          have hM := HM.out
          generalize l.length = a at *
          generalize l'.length = a' at *
          generalize ps.length = q at *
          generalize ps'.length = q' at *
          go_enter Tryz.func38, Tryz.ntmps38
          go_wp2
          go_region_held3 (fun w' => ExS C w.heap.size (w.heap.size + 1) (.string s) (.bool o) (.slice P q cp) (.slice A a c) (.string s') (.bool o') (.slice P' q' cp') (.slice A' a' c') 48 w') (with_reducible assumption)
            (first
            | (go_at_call 62; (with_reducible refine (HEq.out _ ?hs ?hm).mono ?_); (case hs => (with_reducible assumption)); (case hm => (with_reducible assumption)); rintro e wq ⟨rfl, hmq, oq, hhq⟩)
            | (go_at_call 63; (with_reducible refine (HPut.out wq hhq hmq).mono ?_); rintro e w' ⟨rfl, hτ, hh⟩))
          go_wp2
          go_ret
          obtain ⟨τ, m1, o1, g1, p1, q1⟩ := hτ
          exact ⟨false, τ, rfl, (m1.unbox (fun b hb => HF.out b hb.1)).unbox HF.out, (OutO.of_below HB.out).trans (OutO.trans oq.unbox.unbox o1.unbox.unbox), g1, p1, fun e => (by cases e), fun _ => HL.out⟩
      · rw [decide_eq_false hpp] at HEq2
        have HNE := Lib.hid hpp
        clear hpp HPut HEq
        have hS := HS.out
        generalize l.length = a at *
        generalize l'.length = a' at *
        generalize ps.length = q at *
        generalize ps'.length = q' at *
        obtain ⟨⟨x0, x1, x2, x3, x4, x5, x6, x7, x8, x9⟩, _⟩ := hS
        go_enter Tryz.func38, Tryz.ntmps38
        go_wp2
        go_quiet ((go_at_call 62; exact Calls.quiet_of (HEq2.out _)))
        go_wp2
        go_ret
        exact HNo.out _ (fun g => HNE.out (by have := HQ.out g; simp only [Prod.mk.injEq] at this; exact this.2.2.1))
    · have to_ : (o == o') = false := by simpa using ho
      have HNE := Lib.hid ho
      clear ho HPut HEq HEq2
      have hS := HS.out
      generalize l.length = a at *
      generalize l'.length = a' at *
      generalize ps.length = q at *
      generalize ps'.length = q' at *
      obtain ⟨⟨x0, x1, x2, x3, x4, x5, x6, x7, x8, x9⟩, _⟩ := hS
      go_enter Tryz.func38, Tryz.ntmps38
      go_wp2
      go_quiet (fail)
      go_wp2
      go_ret
      exact HNo.out _ (fun g => HNE.out (by have := HQ.out g; simp only [Prod.mk.injEq] at this; exact this.2.1))
  · have ts : (s.toList == s'.toList) = false := by rw [str_eq, decide_eq_false_iff_not]; exact hs
    have HNE := Lib.hid hs
    clear hs HPut HEq HEq2
    have hS := HS.out
    generalize l.length = a at *
    generalize l'.length = a' at *
    generalize ps.length = q at *
    generalize ps'.length = q' at *
    obtain ⟨⟨x0, x1, x2, x3, x4, x5, x6, x7, x8, x9⟩, _⟩ := hS
    go_enter Tryz.func38, Tryz.ntmps38
    go_wp2
    go_quiet (fail)
    go_wp2
    go_ret
    exact HNo.out _ (fun g => HNE.out (by have := HQ.out g; simp only [Prod.mk.injEq] at this; exact this.1))
end Go.Proofs.YtbhdbglhejibbaaGreatDoor
namespace Go.Proofs.YtbhdbglhejibbaaGreatDoor
set_option maxRecDepth 100000
open Go.RowKit
set_option linter.unusedVariables false
def funZ (l : List FunD) : Nat := (l.map fun f => stsNz f.2.2.2).sum
theorem funZ_drop {l : List FunD} {j : Nat} (h : j < l.length) : funZ (l.drop j) = stsNz l[j].2.2.2 + funZ (l.drop (j + 1)) := by
  rw [List.drop_eq_getElem_cons h]; unfold funZ; rw [List.map_cons, List.sum_cons]
theorem funZ_len : ∀ l : List FunD, l.length ≤ funZ l
  | [] => Nat.zero_le _
  | f :: l => by
    have := funZ_len l
    have := stsNz_pos f.2.2.2
    unfold funZ at *
    rw [List.map_cons, List.sum_cons, List.length_cons]
    omega
theorem funAt_cells {w : World} {S : Nat → Prop} {f : FunD} {b o : Nat} (h : FunAt w S f b o) : ∃ s u ps l A c A1 c1, f = (s, u, ps, l) ∧ w.cell? ⟨b, o, none⟩ = some (.string s) ∧ w.cell? ⟨b, o + 1, none⟩ = some (.bool u) ∧ w.cell? ⟨b, o + 2, none⟩ = some (.slice A ps.length c) ∧ w.cell? ⟨b, o + 3, none⟩ = some (.slice A1 l.length c1) ∧ ParsAt w S ps A ∧ StmtsAt w S l A1 := by
  obtain ⟨s, u, ps, l⟩ := f
  obtain ⟨g0, g1, ⟨A, c, g2, g3, g4⟩, A1, c1, g5, g6, g7⟩ := h
  exact ⟨s, u, ps, l, A, c, A1, c1, rfl, g0, g1, g2, g5, g4, g7⟩
def EqFP (C : McC) (F : Nat → Prop) (G : Prop) (w : World) (σ : McS) (a b : List FunD) (e : Ending) (w' : World) : Prop :=
  ∃ r τ, e = .returned (.bool r) ∧ McIs C F w' τ ∧ OutO F w w' ∧ Grow G σ τ ∧ τ.phi ≤ σ.phi + funZ a ∧ (r = true → AllOk (FnOk τ.vs) a b) ∧ (r = false → ¬ G)
set_option maxHeartbeats 4000000 in
theorem eqF_any (C : McC) (F : Nat → Prop) (G : Prop) (σ : McS) (a b : List FunD) (b1 o1 b2 o2 n ca cb : Nat) (w : World) (h : McIs C F w σ) (s1 : C.S b1) (s2 : C.S b2) (hn : 0 < n) (la : a.length = n) (lb : b.length = n) (l1 : ∀ i (h : i < a.length), FunAt C.w0 C.S a[i] b1 (o1 + i * 4)) (l2 : ∀ i (h : i < b.length), FunAt C.w0 C.S b[i] b2 (o2 + i * 4)) (hps : ∀ f ∈ a, f.2.2.1.length ≤ 1000000000) (hq : G → a = b) (hp : σ.phi + funZ a ≤ 1000000) :
    Calls Tryz.prog 37 #[.slice (some ⟨b1, o1, none⟩) n ca, .slice (some ⟨b2, o2, none⟩) n cb, .func (.func 38) #[.pointer (some ⟨C.p, 0, none⟩)] #[]] w (EqFP C F G w σ a b) := by
  have hcf : ∀ (args : Array Value) (w : World), (callFunc 38 args).run Tryz.prog w = .ok (.enter 38 args) w := fun args w => by kernel_rfl
  have HF := Lib.hid h.fk
  have HM := Lib.hid h
  have HPs := Lib.hid hps
  have HL1 := Lib.hid l1
  have HL2 := Lib.hid l2
  have HS1 := Lib.hid s1
  have HS2 := Lib.hid s2
  have HLA := Lib.hid la
  have HLB := Lib.hid lb
  have HQ := Lib.hid hq
  have HP := Lib.hid hp
  have HW := Lib.hid (Below.refl w.heap.size w)
  have HN6 := Lib.hid (show n ≤ 1000000 by have := funZ_len a; omega)
  clear hps h l1 l2 s1 s2 hq hp la lb
  go_enter Tryz.func37, Tryz.ntmps37
  go_wp2
  go_loopw [17] (fun i wr => ∃ (j : Nat) (τ : McS), j ≤ n ∧ i = .int .i64 j ∧ Hid (McIs C F wr τ) ∧ Hid (OutO F w wr) ∧ Hid (Grow G σ τ) ∧ Hid (τ.phi + funZ (a.drop j) ≤ σ.phi + funZ a) ∧ Hid (∀ i, i < j → ∀ (h : i < a.length) (h' : i < b.length), FnOk τ.vs a[i] b[i])) (fun i _ => n - (intOf i).toNat)
  case atStart => exact ⟨0, σ, by omega, rfl, HM, Lib.hid (OutO.refl F w), Lib.hid (Grow.refl G σ), Lib.hid (by simp), Lib.hid (fun i hi => by omega)⟩
  case round =>
    obtain ⟨j, τ, hj, rfl, HT, HO, HGr, HPh, HAll⟩ := hrel
    clear HM
    by_cases hlt : j < n
    · have ha : j < a.length := by have := HLA.out; omega
      have hb : j < b.length := by have := HLB.out; omega
      have hpz := funZ_drop ha
      have h1 := funAt_cells (HL1.out j ha)
      have h2 := funAt_cells (HL2.out j hb)
      have HQe := Lib.hid (show G → a[j] = b[j] from fun g => by have := HQ.out g; subst this; rfl)
      have HSt := Lib.hid (show ∀ (υ : McS), Grow G τ υ → FnOk υ.vs a[j] b[j] → ∀ i, i < j + 1 → ∀ (h : i < a.length) (h' : i < b.length), FnOk υ.vs a[i] b[i] from fun υ hg hx i hi p q => by
        by_cases e : i = j
        · subst e; exact hx
        · exact (HAll.out i (by omega) p q).mono hg.sv)
      have hpj := HPs.out _ (List.getElem_mem ha)
      generalize a[j] = x at *
      generalize b[j] = y at *
      obtain ⟨s, u, ps, l, A, c, A1, c1, rfl, y0, y1, y2, y3, y4, y5⟩ := h1
      obtain ⟨s', u', ps', l', D, d, D1, d1, rfl, z0, z1, z2, z3, z4, z5⟩ := h2
      have x0 := HT.out.cellK HS1.out y0
      have x1 := HT.out.cellK HS1.out y1
      have x2 := HT.out.cellK HS1.out y2
      have x3 := HT.out.cellK HS1.out y3
      have hb0 := (Below.refl wr.heap.size wr).alloc (Nat.le_refl _) (.cells #[.string s, .bool u, .slice A ps.length c, .slice A1 l.length c1] 48)
      have t0 := (HT.out.below hb0).cellK HS2.out z0
      have t1 := (HT.out.below hb0).cellK HS2.out z1
      have t2 := (HT.out.below hb0).cellK HS2.out z2
      have t3 := (HT.out.below hb0).cellK HS2.out z3
      have j0 : (0 : Int) ≤ j := by omega
      have j1 : (j : Int) < n := by omega
      have hb2 := ((Below.refl wr.heap.size wr).alloc (Nat.le_refl _) (.cells #[.string s, .bool u, .slice A ps.length c, .slice A1 l.length c1] 48)).alloc (by simp) (.cells #[.string s', .bool u', .slice D ps'.length d, .slice D1 l'.length d1] 48)
      have HC := Lib.hid (mfun_any C F G τ s s' u u' ps ps' l l' A D A1 D1 c d c1 d1 _ (HT.out.below hb2) y4 z4 y5 z5 hpj HQe.out (by have := HPh.out; have := HP.out; omega))
      have HO2 := Lib.hid (HO.out.trans (OutO.of_below hb2))
      simp only at hpz
      have HZ := Lib.hid hpz
      have HLt := Lib.hid hlt
      clear y0 y1 y2 y3 y4 y5 z0 z1 z2 z3 z4 z5 hpj hb2 hb0 hpz hlt hj ha hb
      generalize ps.length = la at *
      generalize ps'.length = lb at *
      generalize l.length = lc at *
      generalize l'.length = ld at *
      have HM' := Lib.hid HC.out
      clear HC
      go_wp2_with fail
      refine HM'.out.mono ?_
      rintro e w2 ⟨r, υ, rfl, m1, o1, g1, p1, q1, q2⟩
      simp only at p1
      have HM2 := Lib.hid m1
      have HO3 := Lib.hid (HO2.out.trans o1)
      have HG2 := Lib.hid (HGr.out.trans g1)
      cases r with
      | true =>
        have HA2 := Lib.hid (HSt.out υ g1 (q1 rfl))
        have HP2 := Lib.hid (show υ.phi + funZ (a.drop (j + 1)) ≤ σ.phi + funZ a by have := HPh.out; have := HZ.out; omega)
        clear m1 o1 g1 p1 q1 q2
        have hN6 := HN6.out
        have hLt := HLt.out
        go_wp2
        go_roundw
        case rel => exact ⟨j + 1, υ, by have := HLt.out; omega, by go_num, HM2, HO3, HG2, HP2, HA2⟩
        case measure => have := HLt.out; simp [intOf]; omega
      | false =>
        have HR := Lib.hid (show EqFP C F G w σ a b (.returned (.bool false)) w2 from ⟨false, υ, rfl, HM2.out, HO3.out, HG2.out, by have := HPh.out; have := HZ.out; omega, fun e => (by cases e), fun _ => q2 rfl⟩)
        clear m1 o1 g1 p1 q1 q2
        go_wp2
        go_ret
        exact HR.out
    · obtain rfl : j = n := by omega
      have HR := Lib.hid (show EqFP C F G w σ a b (.returned (.bool true)) wr from ⟨true, τ, rfl, HT.out, HO.out, HGr.out, by have := HPh.out; omega, fun _ => ⟨HLA.out.trans HLB.out.symm, fun i h1 h2 => HAll.out i (by have := HLA.out; omega) h1 h2⟩, fun e => (by cases e)⟩)
      clear hlt hj
      go_wp2
      go_ret
      exact HR.out
end Go.Proofs.YtbhdbglhejibbaaGreatDoor
namespace Go.Proofs.YtbhdbglhejibbaaGreatDoor
set_option maxRecDepth 100000
open Go.RowKit
set_option linter.unusedVariables false
set_option maxHeartbeats 2000000 in
theorem eqFs_any (C : McC) (F : Nat → Prop) (G : Prop) (σ : McS) (a b : List FunD) (A B : Option Addr) (ca cb : Nat) (w : World) (h : McIs C F w σ) (ha : FunsAt C.w0 C.S a A) (hb : FunsAt C.w0 C.S b B) (hps : ∀ f ∈ a, f.2.2.1.length ≤ 1000000000) (hq : G → a = b) (hp : σ.phi + funZ a ≤ 1000000) :
    Calls Tryz.prog 37 #[.slice A a.length ca, .slice B b.length cb, .func (.func 38) #[.pointer (some ⟨C.p, 0, none⟩)] #[]] w (EqFP C F G w σ a b) := by
  by_cases hl : a.length = b.length
  · by_cases ha0 : a = []
    · subst ha0
      have hb0 : b = [] := List.length_eq_zero_iff.1 hl.symm
      subst hb0
      have HR := Lib.hid (show EqFP C F G w σ [] [] (.returned (.bool true)) w from ⟨true, σ, rfl, h, OutO.refl F w, Grow.refl G σ, by omega, fun _ => ⟨rfl, fun i hi => by cases hi⟩, fun e => (by cases e)⟩)
      clear h ha hb hps hq hp
      simp only [List.length_nil]
      go_enter Tryz.func37, Tryz.ntmps37
      go_wp2
      go_loopw [17] (fun i wr => i = .int .i64 0 ∧ wr = w) (fun i _ => 0)
      case atStart => exact ⟨rfl, rfl⟩
      case round =>
        obtain ⟨rfl, rfl⟩ := hrel
        go_wp2
        go_ret
        exact HR.out
    · have hpos : 0 < a.length := List.length_pos_iff.2 ha0
      rcases ha with e | ⟨b1, o1, rfl, s1, h1⟩
      · exact absurd e ha0
      rcases hb with e | ⟨b2, o2, rfl, s2, h2⟩
      · rw [e] at hl; simp only [List.length_nil] at hl; omega
      rw [← hl]
      exact eqF_any C F G σ a b b1 o1 b2 o2 a.length ca cb w h s1 s2 hpos rfl hl.symm h1 h2 hps hq hp
  · have HR := Lib.hid (show EqFP C F G w σ a b (.returned (.bool false)) w from ⟨false, σ, rfl, h, OutO.refl F w, Grow.refl G σ, by omega, fun e => (by cases e), fun _ g => hl (by rw [hq g])⟩)
    have hne2 : ((a.length : Int) != (b.length : Int)) = true := by rw [bne_iff_ne]; omega
    clear h ha hb hps hq hp
    generalize a.length = n at *
    generalize b.length = m at *
    go_enter Tryz.func37, Tryz.ntmps37
    go_wp2
    go_ret
    exact HR.out
theorem funs_alike {U : TwL StmtD} {a b : List FunD} (h : AllOk (FnOk U) a b) (hu : ∀ x ∈ U, x.2.1 = x.2.2) : a = b := by
  refine List.ext_getElem h.1 fun i h1 h2 => ?_
  obtain ⟨g1, g2, g3, g4, g5⟩ := h.2 i h1 h2
  refine Prod.ext g1 (Prod.ext g2 (Prod.ext g3 ?_))
  rcases g5 with e | ⟨k, hm⟩
  · rw [e] at g4 ⊢
    exact (List.length_eq_zero_iff.1 (by simpa using g4.symm)).symm
  · exact hu _ hm
def SameP (p q : ProD) (w : World) (e : Ending) (w' : World) : Prop := ∃ r : Bool, e = .returned (.bool r) ∧ (r = true ↔ p = q) ∧ Below w.heap.size w w'
set_option maxHeartbeats 4000000 in
theorem tsame_any (p q : ProD) (S : Nat → Prop) (A1 A2 B1 B2 : Option Addr) (c1 c2 d1 d2 : Nat) (w : World) (hS : ∀ b, S b → PlB w b) (hV : ProV w S p A1 c1 A2 c2) (hU : ProV w S q B1 d1 B2 d2) (hC : ∀ C, StmC C (p = q)) (hn : p.1.length ≤ 1000000000) (hps : ∀ f ∈ p.2, f.2.2.1.length ≤ 1000000000) (hz : funZ p.2 ≤ 1000000) :
    Calls Tryz.prog 17 #[.agg #[.slice A1 p.1.length c1, .slice A2 p.2.length c2], .agg #[.slice B1 q.1.length d1, .slice B2 q.2.length d2]] w (SameP p q w) := by
  have hmf : ∀ (fn : Fn) (first cap : Array Value) (w : World), (Instr.makeFunc fn first cap).run Tryz.prog w = .ok (.func fn first cap) w := fun _ _ _ _ => rfl
  have hb := ((Below.refl w.heap.size w).alloc (Nat.le_refl _) (.cells #[.slice A1 p.1.length c1, .slice A2 p.2.length c2] 25)).alloc (by simp) (.cells #[.slice B1 q.1.length d1, .slice B2 q.2.length d2] 25)
  obtain ⟨hV2, hS2⟩ := hV.below hS hb
  obtain ⟨hU2, _⟩ := hU.below hS hb
  have h0 := heap_alloc_new w (.cells #[.slice A1 p.1.length c1, .slice A2 p.2.length c2] 25)
  have h1 := heap_alloc_new (w.alloc (.cells #[.slice A1 p.1.length c1, .slice A2 p.2.length c2] 25)) (.cells #[.slice B1 q.1.length d1, .slice B2 q.2.length d2] 25)
  have s1 : (w.alloc (.cells #[.slice A1 p.1.length c1, .slice A2 p.2.length c2] 25)).heap.size = w.heap.size + 1 := by simp
  rw [s1] at h1
  have h0 := (heap_alloc_old (w.alloc (.cells #[.slice A1 p.1.length c1, .slice A2 p.2.length c2] 25)) (.cells #[.slice B1 q.1.length d1, .slice B2 q.2.length d2] 25) (Array.getElem?_eq_some_iff.1 h0).1).trans h0
  generalize hW : (w.alloc (.cells #[.slice A1 p.1.length c1, .slice A2 p.2.length c2] 25)).alloc (.cells #[.slice B1 q.1.length d1, .slice B2 q.2.length d2] 25) = W at *
  have HN := Lib.hid (newMatcher_any W S hS2)
  have HB := Lib.hid hb
  have HX0 := Lib.hid h0
  have HX1 := Lib.hid h1
  have HV := Lib.hid hV2
  have HU := Lib.hid hU2
  have HC := Lib.hid hC
  have HLn := Lib.hid hn
  have HPs := Lib.hid hps
  have HZ := Lib.hid hz
  have HSS := Lib.hid hS2
  clear hb hV2 hS2 hU2 hV hU hS h0 h1 hC hn hps hz s1
  subst hW
  go_enter Tryz.func17, Tryz.ntmps17
  go_wp2_with fail
  generalize (w.alloc (.cells #[.slice A1 p.1.length c1, .slice A2 p.2.length c2] 25)).alloc (.cells #[.slice B1 q.1.length d1, .slice B2 q.2.length d2] 25) = W at *
  refine HN.out.mono ?_
  rintro e w2 ⟨rfl, hM, hb2⟩
  have hx0 := (hb2.block _ (Array.getElem?_eq_some_iff.1 HX0.out).1).trans HX0.out
  have hx1 := (hb2.block _ (Array.getElem?_eq_some_iff.1 HX1.out).1).trans HX1.out
  obtain ⟨x0, x1⟩ := row2c hx0
  obtain ⟨y0, y1⟩ := row2c hx1
  have HM := Lib.hid hM
  have HB2 := Lib.hid hb2
  have hlt : ∀ b, S b → w2.heap[b]? = W.heap[b]? := fun b h => hb2.block b (HSS.out b h).ltU
  have HA := Lib.hid (equalArr_any S S p.1 q.1 A1 B1 c1 d1 HLn.out w2 (HV.out.2.2.1.move (fun _ h => h) hlt) (HU.out.2.2.1.move (fun _ h => h) hlt))
  clear hM hb2 hx0 hx1 hlt
  by_cases he : p.1 = q.1
  case neg =>
    rw [decide_eq_false he] at HA
    have HE := Lib.hid he
    clear he
    generalize p.1.length = la at *
    generalize q.1.length = lb at *
    go_wp2_with fail
    refine HA.out.mono ?_
    rintro e w3 ⟨rfl, k, rfl⟩
    have HR := Lib.hid (show SameP p q w (.returned (.bool false)) (w2.drewN k) from ⟨false, rfl, ⟨fun e => (by cases e), fun e => absurd (by rw [e]) HE.out⟩, (HB.out.trans (HB2.out.mono HB.out.size)).trans ((bel_drewN0 w2 k).mono (Nat.le_trans HB.out.size HB2.out.size))⟩)
    go_wp2
    go_ret
    exact HR.out
  case pos =>
    rw [decide_eq_true he] at HA
    have HE := Lib.hid he
    have HF := Lib.hid (fun (w3 : World) (h : McIs (mcOf W S) (fun b => W.heap.size ≤ b) w3 emptyM) => eqFs_any (mcOf W S) (fun b => W.heap.size ≤ b) (p = q) emptyM p.2 q.2 A2 B2 c2 d2 w3 h HV.out.2.2.2 HU.out.2.2.2 HPs.out (fun g => by rw [g]) (by have := HZ.out; unfold emptyM McS.phi phS phE; simpa using this))
    clear he
    have x1' := x1
    have y1' := y1
    generalize p.1.length = la at *
    generalize q.1.length = lb at *
    generalize p.2.length = lc at *
    generalize q.2.length = ld at *
    go_wp2_with fail
    refine HA.out.mono ?_
    rintro e w3 ⟨rfl, k, rfl⟩
    have z1 : (w2.drewN k).cell? ⟨w.heap.size, 1, none⟩ = some (.slice A2 lc c2) := x1
    have z2 : (w2.drewN k).cell? ⟨w.heap.size + 1, 1, none⟩ = some (.slice B2 ld d2) := y1
    have HF2 := Lib.hid (HF.out (w2.drewN k) (HM.out.below (bel_drewN0 w2 k)))
    go_wp2_with fail
    refine HF2.out.mono ?_
    rintro e w4 ⟨r, τ, rfl, m1, o1, g1, p1, k1, k2⟩
    have HO := Lib.hid (show Below w.heap.size w w4 from (HB.out.trans (HB2.out.mono HB.out.size)).trans (((bel_drewN0 w2 k).mono (Nat.le_trans HB.out.size HB2.out.size)).trans ((o1.to_below HB2.out.size).mono HB.out.size)))
    cases r with
    | false =>
      have HR := Lib.hid (show SameP p q w (.returned (.bool false)) w4 from ⟨false, rfl, ⟨fun e => (by cases e), fun e => absurd e (k2 rfl)⟩, HO.out⟩)
      clear m1 o1 g1 p1 k1 k2
      go_wp2
      go_ret
      exact HR.out
    | true =>
      have HRs := Lib.hid (rest_any (mcOf W S) (fun b => W.heap.size ≤ b) (p = q) τ w4 (HC.out _) m1 (InvM.grow ⟨(fun x hx => by cases hx), (fun x hx => by cases hx), (fun x hx => by cases hx), (fun x hx => by cases hx)⟩ g1) (by have := HZ.out; have : emptyM.phi = 0 := rfl; omega))
      have HO4 := Lib.hid o1
      have HK := Lib.hid (k1 rfl)
      have hsz : W.heap.size ≤ w4.heap.size := by have := o1.size; have := HB2.out.size; have : (w2.drewN k).heap.size = w2.heap.size := rfl; omega
      clear m1 o1 g1 p1 k1 k2
      go_wp2_with fail
      refine HRs.out.mono ?_
      rintro e w5 ⟨r, rfl, o5, k5, k6⟩
      have HR := Lib.hid (show SameP p q w (.returned (.bool r)) w5 from ⟨r, rfl, ⟨fun e => Prod.ext HE.out (funs_alike HK.out (k5 e)), fun e => by cases r; exact absurd e (k6 rfl); rfl⟩, HO.out.trans ((o5.to_below hsz).mono HB.out.size)⟩)
      clear o5 k5 k6 hsz
      go_wp2
      go_ret
      exact HR.out
end Go.Proofs.YtbhdbglhejibbaaGreatDoor
