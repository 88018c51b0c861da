/- Layer 8: Address, target. Condition: the tables of package ins read as they should. -/
import Derived.Test.YtjngkifoaljmaaaDoorPlaC
namespace Go.Proofs.YtjngkifoaljmaaaDoor
set_option maxRecDepth 100000
open Go.RowKit
set_option linter.unusedVariables false
theorem row4 {W : World} {b : Nat} {v0 v1 v2 v3 : Value} {T : TypeId} (h : W.heap[b]? = some (.cells #[v0, v1, v2, v3] T (0, 0))) : W.cell? ⟨b, 0, none⟩ = some v0 ∧ W.cell? ⟨b, 1, none⟩ = some v1 ∧ W.cell? ⟨b, 2, none⟩ = some v2 ∧ W.cell? ⟨b, 3, none⟩ = some v3 ∧ ∀ o, W.frozen? ⟨b, o, none⟩ = false := by
  have y0 := cell_of_row W b 0 _ _ _ h
  have y1 := cell_of_row W b 1 _ _ _ h
  have y2 := cell_of_row W b 2 _ _ _ h
  have y3 := cell_of_row W b 3 _ _ _ h
  simp only [List.getElem?_toArray, List.getElem?_cons_zero, List.getElem?_cons_succ] at y0 y1 y2 y3
  exact ⟨y0, y1, y2, y3, fun o => frozen_of_row W b o _ _ h⟩
theorem SpAt.at_ {w : World} {base i n c : Nat} {xs : List (Int × Int)} {A : Option Addr} (h : SpAt w base xs (.slice A n c)) (hi : i < xs.length) : ∃ b o, A = some ⟨b, o, none⟩ ∧ w.cell? ⟨b, o + i * 2, none⟩ = some (.int .u64 xs[i].1) ∧ w.cell? ⟨b, o + i * 2 + 1, none⟩ = some (.int .u64 xs[i].2) := by
  obtain ⟨A', c', e, ho⟩ := h
  cases e
  obtain ⟨b, o, rfl, _, _, hc⟩ := (RowC.of_own ho).at_ (sz := 2) (fun x => rfl) (by omega) (by omega)
  have y0 := hc i hi 0 _ rfl
  have y1 := hc i hi 1 _ rfl
  rw [show o + (i * 2 + 0) = o + i * 2 by omega] at y0
  rw [show o + (i * 2 + 1) = o + i * 2 + 1 by omega] at y1
  exact ⟨b, o, rfl, y0, y1⟩
theorem SpAt.below {w w' : World} {b : Nat} {xs : List (Int × Int)} {v : Value} (h : SpAt w b xs v) (hb : Below w.heap.size w w') : SpAt w' b xs v := by
  obtain ⟨A, c, e, h⟩ := h; exact ⟨A, c, e, rowO_below h hb⟩
theorem SpAt.len {w : World} {b n c : Nat} {xs : List (Int × Int)} {A : Option Addr} (h : SpAt w b xs (.slice A n c)) : xs.length = n := by
  obtain ⟨A', c', e, h⟩ := h; cases e; rfl
/-- a Sym's address, where its object's text and data begin -/
def adr1 (s : Int × Int) (inD : Bool) (off : Int) : Int := IntKind.u64.wrap ((if inD then s.2 else s.1) + IntKind.u64.wrap off)
theorem pwithin_at (i : Int) (n : Nat) (b : Bool) (hi : IsI i) (hn : n ≤ maxLen) (hb : (decide (0 ≤ i) && decide (i < n)) = b) (w : World) : Calls Tryd.prog 38 #[.int .i64 i, .int .i64 n] w fun e w' => e = .returned (.bool b) ∧ w' = w := by
  subst hb
  exact (pwithin_any i n hi hn w).mono fun _ _ h => ⟨h.1, h.2.symm⟩
def AdrP (r : Option Int) (w : World) (e : Ending) (w' : World) : Prop := Below w.heap.size w w' ∧ e = .returned (.tuple #[.int .u64 (r.getD 0), .bool r.isSome])
set_option maxHeartbeats 4000000 in
/-- of a Sym that is there -/
theorem addr_yes (l : List ObjD) (A : Option Addr) (n c lo hi : Nat) (hn : l.length = n) (hmx : n ≤ 1000000) (xs : List (Int × Int)) (As : Option Addr) (cs base : Nat) (w : World) (hA : ObjsAt w lo hi l A) (hh : hi ≤ w.heap.size) (hS : SpAt w base xs (.slice As n cs))
    (o j : Nat) (ho : o < l.length) (hj : j < l[o].syms.length) (hjm : l[o].syms.length ≤ 1000000) (hx : o < xs.length) :
    Calls Tryd.prog 16 #[.slice A n c, .slice As n cs, .agg #[.int .i64 o, .int .i64 j]] w (AdrP (some (adr1 xs[o] l[o].syms[j].2.1 l[o].syms[j].2.2.1)) w) := by
  obtain ⟨b, p, n3, c3, b3, p3, rfl, x2, hn3, y0, y1, y2, y3⟩ := hA.symAt ho hj
  obtain ⟨b4, p4, rfl, z0, z1⟩ := hS.at_ hx
  have HB0 := Lib.hid ((Below.refl w.heap.size w).alloc (Nat.le_refl _) (.cells #[.int .i64 o, .int .i64 j] 49))
  have hi1 : IsI (o : Int) := ⟨by omega, by omega⟩
  have hi2 : IsI (j : Int) := ⟨by omega, by omega⟩
  have w1 : (decide ((0 : Int) ≤ (o : Int)) && decide ((o : Int) < n)) = true := by
    simp only [Bool.and_eq_true, decide_eq_true_eq]; omega
  have w2 : (decide ((0 : Int) ≤ (j : Int)) && decide ((j : Int) < n3)) = true := by
    simp only [Bool.and_eq_true, decide_eq_true_eq]; omega
  have HI := Lib.hid (And.intro hi1 hi2)
  have HWi := Lib.hid (And.intro w1 w2)
  have HM := Lib.hid (show n ≤ maxLen ∧ n3 ≤ maxLen from ⟨Nat.le_trans hmx (by decide), by rw [← hn3]; exact Nat.le_trans hjm (by decide)⟩)
  have hon : (o : Int) < n := by omega
  have hjn : (j : Int) < n3 := by omega
  have ho0 : (0 : Int) ≤ o := by omega
  have hj0 : (0 : Int) ≤ j := by omega
  obtain ⟨s1, hs1⟩ : ∃ s, xs[o].1 = s := ⟨_, rfl⟩
  obtain ⟨s2, hs2⟩ : ∃ s, xs[o].2 = s := ⟨_, rfl⟩
  obtain ⟨nm, hnm⟩ : ∃ s, l[o].syms[j].1 = s := ⟨_, rfl⟩
  obtain ⟨iD, hiD⟩ : ∃ s, l[o].syms[j].2.1 = s := ⟨_, rfl⟩
  obtain ⟨off, hoff⟩ : ∃ s, l[o].syms[j].2.2.1 = s := ⟨_, rfl⟩
  obtain ⟨ot, hot⟩ : ∃ s, l[o].syms[j].2.2.2 = s := ⟨_, rfl⟩
  have HR := Lib.hid (show adr1 xs[o] iD off = IntKind.u64.wrap ((if iD then s2 else s1) + IntKind.u64.wrap off) from by unfold adr1; rw [hs1, hs2])
  rw [hiD, hoff]
  obtain ⟨R, hRr⟩ : ∃ R, adr1 xs[o] iD off = R := ⟨_, rfl⟩
  rw [hRr] at HR ⊢
  rw [hs1] at z0
  rw [hs2] at z1
  rw [hnm] at y0
  rw [hiD] at y1
  rw [hoff] at y2
  rw [hot] at y3
  have y0b := (HB0.out.cell (p := ⟨b3, p3 + j * 4, none⟩) (block_lt y0)).trans y0
  have y1b := (HB0.out.cell (p := ⟨b3, p3 + j * 4 + 1, none⟩) (block_lt y1)).trans y1
  have y2b := (HB0.out.cell (p := ⟨b3, p3 + j * 4 + 2, none⟩) (block_lt y2)).trans y2
  have y3b := (HB0.out.cell (p := ⟨b3, p3 + j * 4 + 3, none⟩) (block_lt y3)).trans y3
  have x2b := (HB0.out.cell (p := ⟨b, p + o * 5 + 2, none⟩) (block_lt x2)).trans x2
  have z0b := (HB0.out.cell (p := ⟨b4, p4 + o * 2, none⟩) (block_lt z0)).trans z0
  have z1b := (HB0.out.cell (p := ⟨b4, p4 + o * 2 + 1, none⟩) (block_lt z1)).trans z1
  obtain ⟨q0, q1, qf⟩ := row2 (heap_alloc_new w (.cells #[.int .i64 o, .int .i64 j] 49))
  clear hA hS hh hn3 hn hmx hs1 hs2 hnm hiD hoff hot hjm hi1 hi2 w1 w2 hRr ho hj hx
  go_enter Tryd.func16, Tryd.ntmps16
  go_upto_region 1 with fail
  go_quiet ((first | (go_at_call 38; (with_reducible refine quiet_same (pwithin_at o n true HI.out.1 HM.out.1 HWi.out.1 _))) | (go_at_call 38; (with_reducible refine quiet_same (pwithin_at j n3 true HI.out.2 HM.out.2 HWi.out.2 _)))))
  have HB1 := Lib.hid (below_drewN HB0.out nq)
  clear HI HWi HM
  go_upto_region 3 with fail
  generalize hWW : (w.alloc (.cells #[.int .i64 o, .int .i64 j] 49)).drewN nq = W at *
  have hcw : ∀ p, W.cell? p = (w.alloc (.cells #[.int .i64 o, .int .i64 j] 49)).cell? p := fun p => by rw [← hWW]; rfl
  rw [← hcw] at y0b y1b y2b y3b x2b z0b z1b q0 q1
  clear qf y0 y1 y2 y3 x2 z0 z1
  clear hWW hcw
  go_cut [8] (fun sp wx => sp = .pointer (some ⟨W.heap.size, 0, none⟩) ∧ Hid (wx.heap[W.heap.size]? = some (.cells #[.string nm, .bool iD, .int .i64 off, .bool ot] 53 (0, 0)) ∧ Below W.heap.size W wx))
  case first =>
    have HBw := Lib.hid ((Below.refl W.heap.size W).alloc (Nat.le_refl _) (.cells #[.string ⟨#[]⟩, .bool false, .int .i64 0, .bool false] 53))
    have HNw := Lib.hid (heap_alloc_new W (.cells #[.string ⟨#[]⟩, .bool false, .int .i64 0, .bool false] 53))
    have v0 := (HBw.out.cell (p := ⟨b3, p3 + j * 4, none⟩) (block_lt y0b)).trans y0b
    have v1 := (HBw.out.cell (p := ⟨b3, p3 + j * 4 + 1, none⟩) (block_lt y1b)).trans y1b
    have v2 := (HBw.out.cell (p := ⟨b3, p3 + j * 4 + 2, none⟩) (block_lt y2b)).trans y2b
    have v3 := (HBw.out.cell (p := ⟨b3, p3 + j * 4 + 3, none⟩) (block_lt y3b)).trans y3b
    have u2 := (HBw.out.cell (p := ⟨b, p + o * 5 + 2, none⟩) (block_lt x2b)).trans x2b
    have u0 := (HBw.out.cell (p := ⟨w.heap.size, 0, none⟩) (block_lt q0)).trans q0
    have u1 := (HBw.out.cell (p := ⟨w.heap.size, 1, none⟩) (block_lt q1)).trans q1
    obtain ⟨n0, n1, n2, n3', nf⟩ := row4 HNw.out
    have HEnd := Lib.hid (show (W.alloc (.cells #[.string nm, .bool iD, .int .i64 off, .bool ot] 53)).drew.heap[W.heap.size]? = some (.cells #[.string nm, .bool iD, .int .i64 off, .bool ot] 53 (0, 0)) ∧ Below W.heap.size W (W.alloc (.cells #[.string nm, .bool iD, .int .i64 off, .bool ot] 53)).drew from
      ⟨heap_alloc_new W _, ((Below.refl _ _).alloc (Nat.le_refl _) _).drew⟩)
    go_region_law (fail)
    all_goals
      go_wp2
      go_meet
      case rel => exact ⟨rfl, HEnd⟩
  case rest =>
    obtain ⟨rfl, HX⟩ := hcut
    obtain ⟨n0, n1, n2, n3', nf⟩ := row4 HX.out.1
    have u0 := (HX.out.2.cell (p := ⟨w.heap.size, 0, none⟩) (block_lt q0)).trans q0
    have u1 := (HX.out.2.cell (p := ⟨w.heap.size, 1, none⟩) (block_lt q1)).trans q1
    have t0 := (HX.out.2.cell (p := ⟨b4, p4 + o * 2, none⟩) (block_lt z0b)).trans z0b
    have t1 := (HX.out.2.cell (p := ⟨b4, p4 + o * 2 + 1, none⟩) (block_lt z1b)).trans z1b
    have HB2 := Lib.hid (HB1.out.trans (HX.out.2.mono HB1.out.size))
    cases iD
    · go_wp2
      go_ret2
      exact ⟨HB2.out, by rw [HR.out]; rfl⟩
    · go_wp2
      go_ret2
      exact ⟨HB2.out, by rw [HR.out]; rfl⟩
end Go.Proofs.YtjngkifoaljmaaaDoor
