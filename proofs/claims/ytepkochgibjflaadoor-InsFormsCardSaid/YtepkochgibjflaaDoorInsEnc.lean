/- Layer 2: what Encode of package ins answers. Conditions: the two tables read as they should. -/
import Derived.Test.YtepkochgibjflaaDoorInsMay
namespace Go.Proofs.YtepkochgibjflaaDoor
open Go.RowKit
set_option linter.unusedVariables false

theorem may_at (n : Nat) (rd r1 r2 imm : Int) (w : World) (hn : n < 43) (hT : Tabs w) (i0 : IsI rd) (i1 : IsI r1) (i2 : IsI r2) (b : Bool) (hb : mayB n rd r1 r2 imm = b) :
    Calls Tryd.prog 6 #[.agg #[.int .i64 n, .int .i64 rd, .int .i64 r1, .int .i64 r2, .int .i64 imm]] w fun e w' => e = .returned (.bool b) ∧ Below w.heap.size w w' := by
  subst hb
  exact may_any n rd r1 r2 imm w hn hT i0 i1 i2
theorem may_out (op rd r1 r2 imm : Int) (w : World) (h : op < 0 ∨ 43 ≤ op) :
    Calls Tryd.prog 6 #[.agg #[.int .i64 op, .int .i64 rd, .int .i64 r1, .int .i64 r2, .int .i64 imm]] w fun e w' => e = .returned (.bool false) ∧ Below w.heap.size w w' := may_no op rd r1 r2 imm w h
theorem encode_out (op rd r1 r2 imm : Int) (w : World) (h : op < 0 ∨ 43 ≤ op) :
    Calls Tryd.prog 7 #[.agg (insA op rd r1 r2 imm)] w fun e w' => e = .returned (.tuple #[.int .u32 0, .int .i64 1]) ∧ Below w.heap.size w w' := by
  unfold insA
  have H := Lib.hid h
  clear h
  go_enter Tryd.func7, Tryd.ntmps7
  go_wp2_with fail
  refine (may_out _ _ _ _ _ _ H.out).mono ?_
  rintro e w1 ⟨rfl, hb⟩
  have Hb := Lib.hid (((Below.refl w.heap.size w).alloc (Nat.le_refl _) _).trans (hb.mono (by simp)))
  clear hb
  go_wp2
  go_ret2
  exact ⟨rfl, Hb.out⟩
theorem encode_no (n : Nat) (rd r1 r2 imm : Int) (w : World) (hn : n < 43) (hT : Tabs w) (i0 : IsI rd) (i1 : IsI r1) (i2 : IsI r2) (hM : mayB n rd r1 r2 imm = false) :
    Calls Tryd.prog 7 #[.agg (insA n rd r1 r2 imm)] w fun e w' => e = .returned (.tuple #[.int .u32 0, .int .i64 1]) ∧ Below w.heap.size w w' := by
  unfold insA
  have HT := Lib.hid (hT.alloc (.cells #[.int .i64 n, .int .i64 rd, .int .i64 r1, .int .i64 r2, .int .i64 imm] 25))
  have HM := Lib.hid hM
  clear hT hM
  go_enter Tryd.func7, Tryd.ntmps7
  go_wp2_with fail
  refine (may_at n _ _ _ _ _ hn HT.out i0 i1 i2 _ HM.out).mono ?_
  rintro e w1 ⟨rfl, hb⟩
  have Hb := Lib.hid (((Below.refl w.heap.size w).alloc (Nat.le_refl _) _).trans (hb.mono (by simp)))
  clear hb
  go_wp2
  go_ret2
  exact ⟨rfl, Hb.out⟩
attribute [local go_sem ↓] loadAt_lay
theorem LayAt.drewN {w : World} {b o s : Nat} (h : LayAt w b o s) (n : Nat) : LayAt (w.drewN n) b o s := h
/-- the word that the text lays together -/
def encW (f k r s : Nat) (rd r1 r2 imm : Int) : Int :=
  bits .or .u32 (bits .or .u32 (bits .or .u32 (bits .or .u32 f ((k : Int) * 4096 % 4294967296)) ((r : Int) * 2 ^ min (lRest s) 32 % 4294967296))
    (bits .or .u32 (bits .or .u32 (rd % 4294967296 * 128 % 4294967296) (r1 % 4294967296 * 32768 % 4294967296)) (r2 % 4294967296 * 1048576 % 4294967296))) (spreadI imm s)
def encI (n : Nat) (rd r1 r2 imm : Int) : Int := encW (opF n) (opK n) (opR n) (opS n) rd r1 r2 imm
/-- a told's row in block b -/
abbrev ToldC (w : World) (b : Nat) (s f k r : Int) : Prop := w.cell? ⟨b, 0, none⟩ = some (.int .i64 s) ∧ w.cell? ⟨b, 1, none⟩ = some (.int .u32 f) ∧ w.cell? ⟨b, 2, none⟩ = some (.int .u32 k) ∧ w.cell? ⟨b, 3, none⟩ = some (.int .u32 r)
def toldA (s f k r : Int) : Array Value := #[.int .i64 s, .int .u32 f, .int .u32 k, .int .u32 r]
theorem toldC_new {w : World} {s f k r : Int} {t : TypeId} : ToldC (w.alloc (.cells (toldA s f k r) t)) w.heap.size s f k r := by
  refine ⟨?_, ?_, ?_, ?_⟩ <;> simp [toldA]
theorem ToldC.below {w w' : World} {b : Nat} {s f k r : Int} (h : ToldC w b s f k r) (hb : Below w.heap.size w w') : ToldC w' b s f k r :=
  ⟨cell_kept hb h.1, cell_kept hb h.2.1, cell_kept hb h.2.2.1, cell_kept hb h.2.2.2⟩
theorem enc_start {w0 w : World} {b s : Nat} {op rd r1 r2 imm f k r : Int} {t u : TypeId} (h : InsC w b op rd r1 r2 imm) (hb : Below w0.heap.size w0 w) :
    InsC ((w.alloc (.cells (toldA s f k r) t)).alloc (.cells (layA s) u)) b op rd r1 r2 imm ∧ ToldC ((w.alloc (.cells (toldA s f k r) t)).alloc (.cells (layA s) u)) w.heap.size s f k r ∧ HeldL ((w.alloc (.cells (toldA s f k r) t)).alloc (.cells (layA s) u)) (w.heap.size + 1) s ∧ LayAt ((w.alloc (.cells (toldA s f k r) t)).alloc (.cells (layA s) u)) (w.heap.size + 1) 0 s ∧ Below w0.heap.size w0 ((w.alloc (.cells (toldA s f k r) t)).alloc (.cells (layA s) u)) := by
  have e : w.heap.size + 1 = (w.alloc (.cells (toldA s f k r) t)).heap.size := by simp
  have hl : LayAt ((w.alloc (.cells (toldA s f k r) t)).alloc (.cells (layA s) u)) (w.heap.size + 1) 0 s := by
    rw [e]; exact layC_iff.1 layC_new
  have b1 : Below w.heap.size w (w.alloc (.cells (toldA s f k r) t)) := (Below.refl _ _).alloc (Nat.le_refl _) _
  have b2 : Below w.heap.size w ((w.alloc (.cells (toldA s f k r) t)).alloc (.cells (layA s) u)) := b1.alloc (by simp) _
  exact ⟨InsC.below h b2, ToldC.below toldC_new ((Below.refl _ _).alloc (Nat.le_refl _) _), heldL_of hl, hl, hb.trans (b2.mono hb.size)⟩
theorem ret_tup2 {a b : Int} {c d : Int} (h : a = b) (h2 : c = d) : Ending.returned (.tuple #[.int .u32 a, .int .i64 c]) = Ending.returned (.tuple #[.int .u32 b, .int .i64 d]) := by rw [h, h2]
theorem toldInfo : (Tryd.prog.info? 42).map (·.size) = some 4 := by kernel_rfl
set_option maxHeartbeats 1000000 in
theorem encode_yes (n : Nat) (rd r1 r2 imm : Int) (w : World) (hn : n < 43) (hT : Tabs w) (i0 : IsI rd) (i1 : IsI r1) (i2 : IsI r2) (hM : mayB n rd r1 r2 imm = true) :
    Calls Tryd.prog 7 #[.agg (insA n rd r1 r2 imm)] w fun e w' => e = .returned (.tuple #[.int .u32 (encI n rd r1 r2 imm), .int .i64 0]) ∧ Below w.heap.size w w' := by
  unfold insA
  have T1 := hT.alloc (.cells #[.int .i64 n, .int .i64 rd, .int .i64 r1, .int .i64 r2, .int .i64 imm] 25)
  have HT := Lib.hid T1
  have HM := Lib.hid hM
  have HC := Lib.hid (insC_new (w := w) (op := n) (rd := rd) (r1 := r1) (r2 := r2) (imm := imm) (t := 25))
  have hs := opS_lt hn
  have h0 : (0 : Int) ≤ n := by omega
  have h2 : (n : Int) < 43 := by omega
  clear hT T1 hM
  go_enter Tryd.func7, Tryd.ntmps7
  go_wp2_with fail
  refine (may_at n _ _ _ _ _ hn HT.out i0 i1 i2 _ HM.out).mono ?_
  rintro e w1 ⟨rfl, hb⟩
  have Hb := Lib.hid (((Below.refl w.heap.size w).alloc (Nat.le_refl _) _).trans (hb.mono (by simp)))
  have T := HT.out.below hb
  have XC := InsC.below HC.out hb
  have HE := Lib.hid (enc_start (s := opS n) (f := opF n) (k := opK n) (r := opR n) (t := 42) (u := 39) XC Hb.out)
  obtain ⟨x0, x1, x2, x3, x4⟩ := XC
  have hw : w.heap.size + 1 ≤ w1.heap.size := by have := hb.size; simp at this; omega
  have c0 := T.1 n hn 0 (by omega)
  have c1 := T.1 n hn 1 (by omega)
  have c2 := T.1 n hn 2 (by omega)
  have c3 := T.1 n hn 3 (by omega)
  simp only [nthV, opCells, Nat.add_zero, List.getD_cons_zero, List.getD_cons_succ] at c0 c1 c2 c3
  have h3 : (0 : Int) ≤ opS n := by omega
  have h4 : ((opS n : Nat) : Int) < 8 := by omega
  have h5 : (0 : Int) ≤ lRest (opS n) := by omega
  have z1 : 1 < w1.heap.size := T.size
  have z0 : 0 < w1.heap.size := by omega
  have zb : w.heap.size < w1.heap.size := by omega
  have L := Lib.hid ((T.alloc (.cells #[.int .i64 (opS n), .int .u32 (opF n), .int .u32 (opK n), .int .u32 (opR n)] 42)).layAt hs)
  clear hb T
  go_wp2_with (first | (refine wpList_load_lay rfl _ rfl _ _ (opS n) rfl L.out ?_) | (refine wpList_store_new rfl 39 _ _ rfl _ _ _ _ rfl rfl ?hi ?hs ?h1 rfl ?hg ?_; (case hi => exact layInfo); (case hs => exact rfl); (case h1 => simp [Value.oneCell']); (case hg => simp)))
  have hE := HE.out
  unfold toldA layA at hE
  generalize (w1.alloc (.cells #[.int .i64 (opS n), .int .u32 (opF n), .int .u32 (opK n), .int .u32 (opR n)] 42)).alloc _ = W at hE ⊢
  clear HE L c0 c1 c2 c3 x0 x1 x2 x3 x4 HT HC
  obtain ⟨⟨x0, x1, x2, x3, x4⟩, ⟨t0, t1, t2, t3⟩, ⟨y1, y2, y3, y4, y5, y6⟩, hL, HB⟩ := hE
  have L2 := Lib.hid hL
  clear hL y6
  have HBel := Lib.hid HB
  clear HB Hb
  have HEq := Lib.hid (show encW (opF n) (opK n) (opR n) (opS n) rd r1 r2 imm = encI n rd r1 r2 imm from rfl)
  generalize opS n = s at *
  generalize opF n = f at *
  generalize opK n = k at *
  generalize opR n = r at *
  go_quiet (fail)
  go_wp2_with (first | (refine wpList_load_lay rfl _ rfl _ 0 s rfl (L2.out.drewN _) ?_) | (go_at_call 12; (with_reducible refine (spread_at imm s hs _).mono ?_); rintro e w' ⟨rfl, hb⟩))
  go_ret2
  exact ⟨ret_tup2 HEq.out rfl, (below_drewN HBel.out _).trans (hb.mono (below_drewN HBel.out _).size)⟩
end Go.Proofs.YtepkochgibjflaaDoor
