/- Layer 5's statements: instructions as bytes (words of package caponierlaw05).
   Layer 5's statements: a world as a struct of 38 cells: built, stored and read at once; what a law's walk has at hand.
   Layer 5's statements: what awake's run comes to: plain mathematics.
   Layer 5's statements: awake answers true. Conditions: the tables of packages ins and alu read as they should.
   Layer 5's statements: small words that all walks share: rows of instructions as cells, rows of bytes, instructions that may be.
   Layer 5's statements: one region whose first bytes are instructions: what is fetched, loaded and stored there. Plain mathematics.
   Layer 5's statements: a world of one row of bytes as a law lays it: what holds in it, with a register set or without.
   Layer 5's statements: two processors apart: what one run writes leaves the other as it stands. -/
import Derived.Test.YtoeagbcjnffpaaaGreatDoorCpuA
import Derived.Test.YtoeagbcjnffpaaaGreatDoorInsE
import Derived.Test.YtoeagbcjnffpaaaGreatDoorBitA
import Derived.Test.YtoeagbcjnffpaaaGreatDoorMemC
import Derived.Maps.AppendAt
import Derived.Test.YtoeagbcjnffpaaaGreatDoorCpuG
import Derived.LaidEqlPtr
namespace Go.Proofs.YtoeagbcjnffpaaaGreatDoor
set_option maxRecDepth 100000
open Go.RowKit Go.Maps
set_option linter.unusedVariables false
/-- an instruction that may be -/
def MayX (x : X) : Prop := x.op < 43 ∧ IsI x.imm ∧ mayB x.op x.rd x.r1 x.r2 x.imm = true
def encX (x : X) : Int := encI x.op x.rd x.r1 x.r2 x.imm
def wordsL (l : List X) : List Int := l.flatMap (fun x => bytesL (encX x) 4)
theorem wordsL_snoc (l : List X) (x : X) : wordsL (l ++ [x]) = wordsL l ++ bytesL (encX x) 4 := by simp [wordsL]
theorem wordsL_len (l : List X) : (wordsL l).length = 4 * l.length := by
  induction l with
  | nil => rfl
  | cons x l ih => simp only [wordsL, List.flatMap_cons, List.length_append, bytesL_length, List.length_cons] at *; omega
theorem wordsL_all (l : List X) : AllB (wordsL l) := by
  intro x hx
  simp only [wordsL, List.mem_flatMap] at hx
  obtain ⟨y, _, h⟩ := hx
  exact bytesL_all _ _ x h
/-- the cells of a row of instructions -/
def XsAt (w : World) (b off : Nat) (l : List X) : Prop := ∀ j x, l[j]? = some x →
  w.cell? ⟨b, off + j * 5, none⟩ = some (.int .i64 x.op) ∧ w.cell? ⟨b, off + j * 5 + 1, none⟩ = some (.int .i64 x.rd) ∧ w.cell? ⟨b, off + j * 5 + 2, none⟩ = some (.int .i64 x.r1) ∧ w.cell? ⟨b, off + j * 5 + 3, none⟩ = some (.int .i64 x.r2) ∧ w.cell? ⟨b, off + j * 5 + 4, none⟩ = some (.int .i64 x.imm)
theorem XsAt.below {w w' : World} {b off : Nat} {l : List X} (h : XsAt w b off l) (hb : Below w.heap.size w w') : XsAt w' b off l := by
  intro j x hj
  obtain ⟨h0, h1, h2, h3, h4⟩ := h j x hj
  have lt := block_lt h0
  exact ⟨by rw [hb.cell (p := ⟨b, _, none⟩) lt]; exact h0, by rw [hb.cell (p := ⟨b, _, none⟩) lt]; exact h1, by rw [hb.cell (p := ⟨b, _, none⟩) lt]; exact h2, by rw [hb.cell (p := ⟨b, _, none⟩) lt]; exact h3, by rw [hb.cell (p := ⟨b, _, none⟩) lt]; exact h4⟩
theorem encX_w {x : X} (h : MayX x) : IsW (encX x) := (enc_read h.1 h.2.2).1
theorem decX {x : X} (h : MayX x) : decI (encX x) = some x := by
  obtain ⟨_, q1, q2, q3, q4, q5⟩ := enc_read h.1 h.2.2
  have := decI_yes h.1 q1
  unfold encX
  rw [this]
  unfold xOf
  rw [q2, q3, q4, q5]
theorem row_below {w w' : World} {base n s : Nat} {e : TypeId} {v : Value} {xs : List Value} (h : w.ownsRow base e s v n xs) (hb : Below w.heap.size w w') : w'.ownsRow base e s v n xs := by
  refine ⟨h.1, ?_⟩
  rcases h.2 with h | ⟨g, cap, cur, rfl, h1, h2, h3⟩
  · exact .inl h
  · exact .inr ⟨g, cap, cur, rfl, h1, by rw [hb.block g (Array.getElem?_eq_some_iff.1 h2).1]; exact h2, h3⟩
theorem ownBlockO {w : World} {base n s : Nat} {e : TypeId} {v : Value} {xs : List Value} (h : w.ownsRow base e s v n xs) : ∀ b, v.ownBlock = some b → base ≤ b := fun b hb => (h.lt b hb).1
/-- what words answers: a new row of bytes -/
def WordsP (w : World) (l : List X) (e : Ending) (w' : World) : Prop :=
  ∃ v, e = .returned v ∧ w'.ownsRow w.heap.size 5 1 v (4 * l.length) ((wordsL l).map (Value.int .u8)) ∧ Below w.heap.size w w'
set_option maxHeartbeats 1000000 in
theorem words_any (b off c n : Nat) (l : List X) (hn : l.length = n) (hm : n ≤ 1000) (hx : ∀ x ∈ l, MayX x) (w : World) (hX : XsAt w b off l) :
    Calls Tryz.prog 30 #[.slice (some ⟨b, off, none⟩) n c] w (WordsP w l) := by
  have HX := Lib.hid hX
  have HN := Lib.hid hn
  have HO := Lib.hid hx
  obtain ⟨i0, hi, hz0, hz1, hz2⟩ := info_parts info5
  clear hX hn hx
  go_enter Tryz.func30, Tryz.ntmps30
  go_wp2
  go_loopw [3, 4] (fun v i wr => ∃ (k : Nat) (v0 : Value), v0 = v ∧ k ≤ n ∧ i = .int .i64 k ∧ wr.ownsRow w.heap.size 5 1 v0 (4 * k) ((wordsL (l.take k)).map (Value.int .u8)) ∧ Below w.heap.size w wr) (fun _ i _ => n - (intOf i).toNat)
  case atStart => exact ⟨0, _, rfl, by omega, rfl, World.ownsRow_nil _ _ _ _, Below.refl _ _⟩
  case round =>
    obtain ⟨k, v0, rfl, hk, rfl, hown, hb⟩ := hrel
    by_cases hlt : k < n
    · have hkl : k < l.length := by have := HN.out; omega
      have HOwn := Lib.hid hown
      have HB := Lib.hid hb
      obtain ⟨x, hxk, hmy, htk⟩ : ∃ x, l[k]? = some x ∧ MayX x ∧ wordsL (l.take (k + 1)) = wordsL (l.take k) ++ bytesL (encX x) 4 :=
        ⟨l[k], List.getElem?_eq_getElem hkl, HO.out l[k] (List.getElem_mem hkl), by rw [List.take_succ_eq_append_getElem hkl, wordsL_snoc]⟩
      have HMy := Lib.hid hmy
      have hc := (HX.out.below hb) k x hxk
      have HTk := Lib.hid htk
      have HWd := Lib.hid (encX_w hmy)
      have HEc := Lib.hid (fun w => renc_yes x.op x.rd x.r1 x.r2 x.imm w HMy.out.1 HMy.out.2.1 HMy.out.2.2)
      clear hxk hmy htk
      obtain ⟨c0, c1, c2, c3, c4⟩ := hc
      have k0 : (0 : Int) ≤ k := by omega
      have k1 : (k : Int) < n := by omega
      clear hown hb hkl
      go_wp2_with fail
      refine (HEc.out _).mono ?_
      rintro e w1 ⟨rfl, hb1⟩
      have HOwn1 := Lib.hid (row_below HOwn.out hb1)
      have HB1 := Lib.hid (HB.out.trans (hb1.mono HB.out.size))
      clear hb1 HOwn HB c0 c1 c2 c3 c4
      have e4 : encI x.op x.rd x.r1 x.r2 x.imm = encX x := rfl
      have HE4 := Lib.hid e4
      obtain ⟨e0, e1⟩ := HWd.out
      rw [← e4] at e0 e1
      clear e4
      go_wp2_with fail
      refine (rbytes_fresh _ 4 ⟨e0, by omega⟩ (by omega) _).mono ?_
      rintro e w2 ⟨A, c2, rfl, hs, hb2, _⟩
      obtain ⟨ad, rfl⟩ := sl_some hs (by rw [bytesL_length]; omega)
      have HOwn2 := Lib.hid (row_below HOwn1.out hb2)
      have HB2 := Lib.hid (HB1.out.trans (hb2.mono HB1.out.size))
      have HS := Lib.hid (sl_newsO hs)
      have HLn := Lib.hid (show ((bytesL (encI x.op x.rd x.r1 x.r2 x.imm) 4).map (Value.int .u8)).length = 4 * 1 by simp [bytesL_length])
      have H1 := Lib.hid (show ∀ u ∈ (bytesL (encI x.op x.rd x.r1 x.r2 x.imm) 4).map (Value.int .u8), u.oneCell' = true from fun u hu => by obtain ⟨x, _, rfl⟩ := List.mem_map.1 hu; rfl)
      clear hs hb2 HOwn1 HB1 hlt
      go_wp2_with (at_builtin; refine wpList_append_own _ rfl _ _ 52 rfl w.heap.size 5 i0 (.int .u8 0) 1 1 Tryz.underlying52 hi hz0 hz1 hz2 rfl (by decide) v0 (4 * k) ((wordsL (l.take k)).map (Value.int .u8)) rfl HOwn2.out ad 4 c2 ((bytesL (encI x.op x.rd x.r1 x.r2 x.imm) 4).map (Value.int .u8)) rfl HLn.out HS.out H1.out ?c3 ?c4 HB2.out.size ?_)
      case c3 => unfold maxLen; omega
      case c4 => omega
      intro v3 w3 hown3 hg3 _
      have HR := Lib.hid (show w3.ownsRow w.heap.size 5 1 v3 (4 * (k + 1)) ((wordsL (l.take (k + 1))).map (Value.int .u8)) from by
        rw [HTk.out, List.map_append, show 4 * (k + 1) = 4 * k + 4 by omega]
        exact hown3)
      have HB3 := Lib.hid (HB2.out.grown hg3 HB2.out.size (fun b hb => ((ownBlockO HOwn2.out) b hb)))
      clear hown3 hg3
      go_wp2
      go_roundw
      case rel => exact ⟨k + 1, v3, rfl, by omega, by go_num, HR.out, HB3.out⟩
      case measure => simp [intOf]; omega
    · obtain rfl : k = n := by omega
      have HZ := Lib.hid (show WordsP w l (.returned v0) _ from ⟨v0, rfl, by rw [HN.out]; rw [List.take_of_length_le (by have := HN.out; omega)] at hown; exact hown, hb⟩)
      clear hown hb hk hlt
      go_wp2
      go_ret
      exact HZ.out
end Go.Proofs.YtoeagbcjnffpaaaGreatDoor
namespace Go.Proofs.YtoeagbcjnffpaaaGreatDoor
set_option maxRecDepth 100000
open Go.RowKit Go.Maps
set_option linter.unusedVariables false

def zeroR : List Int := List.replicate 32 0
def s0 (p : Int) (own : Bool) : CS := ⟨zeroR, p, own, 0⟩
def stBuild (parts : Array (Nat × Value)) : Sem Value := Instr.build 28 parts
theorem build_st (parts : Array (Nat × Value)) : Instr.build 28 parts = stBuild parts := rfl
theorem stBuild_own (b : Bool) (w : World) : (stBuild #[(2, .bool b)]).run Tryz.prog w = .ok (.agg (stateL (s0 0 b)).toArray) w := by
  show _ = _; kernel_rfl
theorem stBuild_pc (p : Int) (w : World) : (stBuild #[(1, .int .u64 p)]).run Tryz.prog w = .ok (.agg (stateL (s0 p false)).toArray) w := by
  show _ = _; kernel_rfl
def wdBuild (parts : Array (Nat × Value)) : Sem Value := Instr.build 30 parts
theorem build_wd (parts : Array (Nat × Value)) : Instr.build 30 parts = wdBuild parts := rfl
theorem wdBuild_is (a b : Option Addr) (n n' c c' : Nat) (s : CS) (h : s.R.length = 32) (w : World) :
    (wdBuild #[(0, .slice a n c), (1, .slice b n' c'), (3, .agg (stateL s).toArray)]).run Tryz.prog w = .ok (.agg (worldL (.slice a n c) (.slice b n' c') (.slice none 0 0) s).toArray) w := by
  unfold wdBuild worldL
  have hl := stateL_len h
  generalize stateL s = L at *
  match L, hl with
  | c0 :: c1 :: c2 :: c3 :: c4 :: c5 :: c6 :: c7 :: c8 :: c9 :: c10 :: c11 :: c12 :: c13 :: c14 :: c15 :: c16 :: c17 :: c18 :: c19 :: c20 :: c21 :: c22 :: c23 :: c24 :: c25 :: c26 :: c27 :: c28 :: c29 :: c30 :: c31 :: c32 :: c33 :: c34 :: [], _ => show _ = _; kernel_rfl
theorem wdBuild_ent (a b d : Option Addr) (n n' n2 c c' c2' : Nat) (s : CS) (h : s.R.length = 32) (w : World) :
    (wdBuild #[(0, .slice a n c), (1, .slice b n' c'), (2, .slice d n2 c2'), (3, .agg (stateL s).toArray)]).run Tryz.prog w = .ok (.agg (worldL (.slice a n c) (.slice b n' c') (.slice d n2 c2') s).toArray) w := by
  unfold wdBuild worldL
  have hl := stateL_len h
  generalize stateL s = L at *
  match L, hl with
  | c0 :: c1 :: c2 :: c3 :: c4 :: c5 :: c6 :: c7 :: c8 :: c9 :: c10 :: c11 :: c12 :: c13 :: c14 :: c15 :: c16 :: c17 :: c18 :: c19 :: c20 :: c21 :: c22 :: c23 :: c24 :: c25 :: c26 :: c27 :: c28 :: c29 :: c30 :: c31 :: c32 :: c33 :: c34 :: [], _ => show _ = _; kernel_rfl
/-- block g is a world -/
def WdB (w : World) (g : Nat) (tS bS eS : Value) (s : CS) : Prop := w.heap[g]? = some (.cells (worldL tS bS eS s).toArray 30 (0, 0)) ∧ s.R.length = 32
def wdLoad (v : Value) : Sem Value := Instr.loadAt 30 v
theorem loadAt_wd (v : Value) : Instr.loadAt 30 v = wdLoad v := rfl
theorem worldL_len {tS bS eS : Value} {s : CS} (h : s.R.length = 32) : (worldL tS bS eS s).length = 38 := by simp [worldL, stateL_len h]
theorem wdSize (w : World) : (sizeOf 30).run Tryz.prog w = .ok 38 w := by kernel_rfl
theorem wdInfo : (Tryz.prog.info? 30).map (·.size) = some 38 := by kernel_rfl
section
variable {w w' : World} {g : Nat} {tS bS eS : Value} {s : CS}
theorem WdB.cell (h : WdB w g tS bS eS s) (k : Nat) : w.cell? ⟨g, k, none⟩ = (worldL tS bS eS s)[k]? := by rw [cell_of_row w g k _ _ _ h.1]; simp
theorem WdB.free (h : WdB w g tS bS eS s) (k : Nat) : w.frozen? ⟨g, k, none⟩ = false := frozen_of_row w g k _ _ h.1
theorem WdB.lt (h : WdB w g tS bS eS s) : g < w.heap.size := (Array.getElem?_eq_some_iff.1 h.1).1
theorem WdB.below (h : WdB w g tS bS eS s) (hb : Below w.heap.size w w') : WdB w' g tS bS eS s := ⟨by rw [hb.block g h.lt]; exact h.1, h.2⟩
theorem WdB.drew (h : WdB w g tS bS eS s) : WdB w.drew g tS bS eS s := h
theorem WdB.load (h : WdB w g tS bS eS s) : (wdLoad (.pointer (some ⟨g, 0, none⟩))).run Tryz.prog w = .ok (.agg (worldL tS bS eS s).toArray) w := by
  have h1 : (loadCells ⟨g, 0, none⟩ (worldL tS bS eS s).length).run Tryz.prog w = .ok (worldL tS bS eS s).toArray w :=
    run_loadCells_list (P := Tryz.prog) w ⟨g, 0, none⟩ (worldL tS bS eS s) (fun j v hv => by rw [add_off, Nat.zero_add, h.cell j, hv])
  have hagg : (isAgg 30).run Tryz.prog w = .ok true w := by
    unfold isAgg
    rw [Sem.run_bind, run_underlying Tryz.underlying30 w]
    rfl
  rw [worldL_len h.2] at h1
  unfold wdLoad
  simp only [Instr.loadAt, Instr.sureAddr, Sem.run_bind, Sem.run_pure, Result.andThen_ok]
  unfold loadVar
  simp only [Sem.run_bind, hagg, wdSize, h1, Result.andThen_ok, if_true, Sem.run_pure]
theorem WdB.loadS (h : WdB w g tS bS eS s) : (stLoad (.pointer (some ⟨g, 3, none⟩))).run Tryz.prog w = .ok (.agg (stateL s).toArray) w := by
  unfold stLoad
  simp only [Instr.loadAt, Instr.sureAddr, Sem.run_bind, Sem.run_pure, Result.andThen_ok]
  refine run_load_state (stateL_len h.2) (fun j v hv => ?_)
  rw [h.cell, show 3 + j = j + 1 + 1 + 1 by omega]
  exact hv
theorem WdB.ents (h : WdB w g tS bS eS s) : w.cell? ⟨g, 2, none⟩ = some eS := by rw [h.cell]; rfl
theorem WdB.new (s : CS) (h : s.R.length = 32) : WdB (w.alloc (.cells (worldL tS bS eS s).toArray 30)) w.heap.size tS bS eS s := ⟨heap_alloc_last _ _, h⟩
theorem WdB.setReg (h : WdB w g tS bS eS s) {r : Nat} (hr : r < 32) (v : Int) : WdB (w.setCell ⟨g, 3 + r, none⟩ (.int .u64 v)) g tS bS eS { s with R := s.R.set r v } := by
  refine ⟨?_, by simpa using h.2⟩
  rw [heap_setCell_same w g (3 + r) _ _ _ h.1]
  have e : (stateL s).set r (.int .u64 v) = stateL { s with R := s.R.set r v } := by
    unfold stateL
    rw [List.set_append_left _ _ (by simp [regsL]; have := h.2; omega)]
    congr 1
    simp [regsL, List.map_set]
  have e2 : (worldL tS bS eS s).set (3 + r) (.int .u64 v) = worldL tS bS eS { s with R := s.R.set r v } := by
    rw [show 3 + r = r + 1 + 1 + 1 by omega]
    unfold worldL
    simp only [List.set_cons_succ]
    rw [e]
  rw [← e2]; simp
end
theorem worldL_one {a b d : Option Addr} {n n' n2 c c' c2 : Nat} {s : CS} : (worldL (.slice a n c) (.slice b n' c') (.slice d n2 c2) s).toArray.all (·.oneCell') = true := by
  have h := stateL_one s
  rw [Array.all_eq_true_iff_forall_mem] at h ⊢
  intro x hx
  simp only [worldL, List.mem_toArray, List.mem_cons] at hx
  rcases hx with rfl | rfl | rfl | hx
  · rfl
  · rfl
  · rfl
  · exact h x (by simpa using hx)
/-- what lies in the tables -/
theorem env_of {w0 w : World} (hT : Tabs w0) (hA : TabA w0) (hb : Below w0.heap.size w0 w) : Env w (fun b => w0.heap.size ≤ b) := by
  have h1 := block_lt (hT.1 0 (by omega) 0 (by omega))
  have h2 := block_lt (hT.2 0 (by omega) 0 (by omega))
  have h3 := block_lt (hA 0 (by omega))
  exact (⟨hT, hA, by omega, by omega, by omega⟩ : Env w0 (fun b => w0.heap.size ≤ b)).out (Out.of_below hb)
end Go.Proofs.YtoeagbcjnffpaaaGreatDoor
namespace Go.Proofs.YtoeagbcjnffpaaaGreatDoor
set_option maxRecDepth 100000
open Go.RowKit Go.Maps
def awX : List X := [⟨16, 1, 0, 0, 5⟩, ⟨42, 0, 0, 0, 0⟩]
def awSt : St := { s := newS (s0 0 true), ev := [], lk := [], B := bB (T1 0 16 7 0) [wordsL awX] 1 }
def awFin : St := ranS (T1 0 16 7 0) [] 9 awSt
theorem aw_n : ranN (T1 0 16 7 0) [] 9 awSt = 2 := by decide +kernel
theorem aw_reg : nth awFin.s.R 1 = 5 := by decide +kernel
theorem aw_dn : awFin.s.dn = 1 := by decide +kernel
theorem aw_pc : awFin.s.pc = 4 := by decide +kernel
theorem aw_lk : awFin.lk.length = 2 := by decide +kernel
theorem aw_ev : awFin.ev.length = 0 := by decide +kernel
theorem aw_len : awFin.s.R.length = 32 := by decide +kernel
theorem zeroR_u (p : Int) (own : Bool) : ∀ x ∈ (s0 p own).R, IsU x := by
  intro x hx
  rw [List.eq_of_mem_replicate hx]
  exact ⟨by omega, by omega⟩
end Go.Proofs.YtoeagbcjnffpaaaGreatDoor
namespace Go.Proofs.YtoeagbcjnffpaaaGreatDoor
set_option maxRecDepth 100000
open Go.RowKit Go.Maps
set_option linter.unusedVariables false
attribute [local go_sem ↓] loadAt_st loadAt_wd build_st build_wd
theorem below_alloc2 {w : World} {o o' : Obj} : Below w.heap.size w ((w.alloc o).alloc o') := ((Below.refl w.heap.size w).alloc (Nat.le_refl _) o).alloc (by simp) o'
theorem row_len {w : World} {base n s : Nat} {e : TypeId} {v : Value} {xs : List Value} (h : w.ownsRow base e s v n xs) : ∃ A c, v = .slice A n c := by
  rcases h.2 with ⟨h1, h2⟩ | ⟨g, cap, _, h, _⟩
  · exact ⟨none, 0, by rw [h1, h2]⟩
  · exact ⟨_, cap, h⟩
theorem infoMem : ∃ j, Tryz.prog.info? 151 = some j := Option.isSome_iff_exists.1 (by kernel_rfl)
theorem eqPtrM (m : Nat) (w : World) : (binOp .eql 34 (.pointer (some ⟨m, 0, none⟩)) (.pointer (some ⟨m, 0, none⟩))).run Tryz.prog w = .ok (.bool true) w := by
  obtain ⟨j, hj⟩ := infoMem
  exact run_eql_ptr_same w _ Tryz.underlying34 hj
theorem rows_one {w : World} {b g cap : Nat} {l : List Int} (h : w.cell? ⟨b, 0, none⟩ = some (.slice (some ⟨g, 0, none⟩) l.length cap)) (hs : Sl w (some ⟨g, 0, none⟩) l) (ha : AllB l) (hg : g < w.heap.size) (hl : l.length ≤ 1000000 := by decide) : RowsAt w b 0 [l] := by
  intro i hi
  obtain rfl : i = 0 := by simp at hi; omega
  exact ⟨some ⟨g, 0, none⟩, cap, h, hs, ha, hl, fun _ a ha => by cases ha; exact hg⟩
theorem awX_may : ∀ x ∈ awX, MayX x := by
  intro x hx
  simp only [awX, List.mem_cons, List.not_mem_nil, or_false] at hx
  rcases hx with rfl | rfl
  · exact ⟨by decide, ⟨by decide, by decide⟩, by decide +kernel⟩
  · exact ⟨by decide, ⟨by decide, by decide⟩, by decide +kernel⟩
theorem awX_at (w : World) : XsAt (w.alloc (.cells #[.int .i64 16, .int .i64 1, .int .i64 0, .int .i64 0, .int .i64 5, .int .i64 42, .int .i64 0, .int .i64 0, .int .i64 0, .int .i64 0] 74)) w.heap.size 0 awX := by
  intro j x hj
  have : j < 2 := (List.getElem?_eq_some_iff.1 hj).1
  obtain rfl | rfl : j = 0 ∨ j = 1 := by omega
  all_goals
    simp only [awX, List.getElem?_cons_zero, List.getElem?_cons_succ, Option.some.injEq] at hj
    subst hj
    refine ⟨?_, ?_, ?_, ?_, ?_⟩ <;> simp [go_sem]
theorem xsAt_two {w : World} : XsAt ((w.alloc (.cells #[.int .u64 0, .int .u64 16, .int .i64 7, .int .i64 0] 57)).alloc (.cells #[.int .i64 16, .int .i64 1, .int .i64 0, .int .i64 0, .int .i64 5, .int .i64 42, .int .i64 0, .int .i64 0, .int .i64 0, .int .i64 0] 74)) (w.heap.size + 1) 0 awX := by
  have e : w.heap.size + 1 = (w.alloc (.cells #[.int .u64 0, .int .u64 16, .int .i64 7, .int .i64 0] 57)).heap.size := by simp
  rw [e]
  exact awX_at _
set_option maxHeartbeats 4000000 in
theorem awake5 (w : World) (hT : Tabs w) (hA : TabA w) :
    Calls Tryz.prog 6 #[] w fun e w' => e = .returned (.bool true) ∧ Below w.heap.size w w' := by
  have HT := Lib.hid (And.intro hT hA)
  have hso := stBuild_own true
  clear hT hA
  go_enter Tryz.func6, Tryz.ntmps6
  go_wp2_with fail
  refine (words_any _ 0 _ 2 awX rfl (by omega) awX_may _ ?hx).mono ?_
  case hx => exact xsAt_two
  rintro e w1 ⟨v, rfl, ho, hb⟩
  obtain ⟨g, cap, rfl⟩ := row_some (n := 7) ho
  have hwd := wdBuild_is (h := (rfl : (s0 0 true).R.length = 32))
  have hwn := WdB.new (w := w1.alloc (.cells #[.slice (some ⟨g, 0, none⟩) 8 cap] 52)) (tS := .slice (some ⟨w.heap.size, 0, none⟩) 1 1) (bS := .slice (some ⟨w1.heap.size, 0, none⟩) 1 1) (eS := .slice none 0 0) (s0 0 true) rfl
  have hsz : (w1.alloc (.cells #[.slice (some ⟨g, 0, none⟩) 8 cap] 52)).heap.size = w1.heap.size + 1 := by simp
  rw [hsz] at hwn
  have hld := hwn.load
  have HWd := Lib.hid hwn
  have HO := Lib.hid ho
  have hb2 : Below w.heap.size w ((w.alloc (.cells #[.int .u64 0, .int .u64 16, .int .i64 7, .int .i64 0] 57)).alloc (.cells #[.int .i64 16, .int .i64 1, .int .i64 0, .int .i64 0, .int .i64 5, .int .i64 42, .int .i64 0, .int .i64 0, .int .i64 0, .int .i64 0] 74)) :=
    ((Below.refl w.heap.size w).alloc (Nat.le_refl _) _).alloc (by simp) _
  have HB := Lib.hid (hb2.trans (hb.mono hb2.size))
  have HT1 := Lib.hid (show TabAt w1 w.heap.size 0 (T1 0 16 7 0) from ((t1_tab w).below ((Below.refl _ _).alloc (Nat.le_refl _) _)).below hb)
  clear hwn hsz ho hb hb2
  go_wp2_with (refine wpList_store_new rfl 30 _ _ rfl _ _ _ _ rfl rfl ?hi ?hs ?h1 rfl ?hg ?_; (case hi => exact wdInfo); (case hs => rfl); (case h1 => exact worldL_one); (case hg => simp))
  have hbW : Below w1.heap.size w1 ((w1.alloc (.cells #[.slice (some ⟨g, 0, none⟩) 8 cap] 52)).alloc (.cells (worldL (.slice (some ⟨w.heap.size, 0, none⟩) 1 1) (.slice (some ⟨w1.heap.size, 0, none⟩) 1 1) (.slice none 0 0) (s0 0 true)).toArray 30)) := below_alloc2
  have HRows := Lib.hid (show RowsAt ((w1.alloc (.cells #[.slice (some ⟨g, 0, none⟩) 8 cap] 52)).alloc (.cells (worldL (.slice (some ⟨w.heap.size, 0, none⟩) 1 1) (.slice (some ⟨w1.heap.size, 0, none⟩) 1 1) (.slice none 0 0) (s0 0 true)).toArray 30)) w1.heap.size 0 [wordsL awX] from rows_one (cap := cap) (by rw [show (wordsL awX).length = 8 from rfl]; simp [go_sem]) ((sl_of_owned (n := 8) HO.out).below hbW) (wordsL_all _) (by have := (HO.out.lt g rfl).2; simp; omega))
  have HTab := Lib.hid (HT1.out.below hbW)
  have HBW := Lib.hid (HB.out.trans (hbW.mono HB.out.size))
  have h38 := HWd.out.load
  clear hbW hld
  generalize ((w1.alloc (.cells #[.slice (some ⟨g, 0, none⟩) 8 cap] 52)).alloc (.cells (worldL (.slice (some ⟨w.heap.size, 0, none⟩) 1 1) (.slice (some ⟨w1.heap.size, 0, none⟩) 1 1) (.slice none 0 0) (s0 0 true)).toArray 30)) = W at *
  clear HO HT1 HB hso hwd
  refine (build_yes w.heap.size 0 1 1 w1.heap.size 0 1 1 (T1 0 16 7 0) [wordsL awX] _ _ (s0 0 true) rfl rfl (t1_w (by omega) (by omega) (by omega) ⟨by omega, by omega⟩ ⟨by omega, by omega⟩) (t1_may (by omega) (by omega) (by omega) (by omega) (by omega) ⟨by omega, by omega⟩ ⟨by omega, by omega⟩) rfl (by omega) W HTab.out (.inr ⟨rfl, HRows.out⟩)).mono ?_
  rintro e w2 ⟨m, tb, tc, hb, G, r, bb, bc, rfl, hM, hR, _, _, _, hb2⟩
  have HM := Lib.hid (hM.rebase (Nat.le_trans HBW.out.size (Nat.le_refl _)))
  have HB2 := Lib.hid (HBW.out.trans (hb2.mono HBW.out.size))
  have hS := (HWd.out.below hb2).loadS
  clear hM hR hb2 HTab HRows HBW h38 HWd
  go_wp2_with fail
  refine (new_cpu m tb tc hb 1 (T1 0 16 7 0) G _ none 0 [] (fun b => w.heap.size ≤ b) (s0 0 true) w2 ⟨HM.out.rebase (Nat.zero_le _), .inl rfl, fun _ => rfl, by simp, by simp, rfl, zeroR_u _ _, ⟨by decide, by decide⟩, by omega⟩ (fun i hi => HM.out.from_ i hi) (fun b hb => Nat.le_trans HB2.out.size hb)).mono ?_
  rintro e w3 ⟨K, rfl, k1, k2, k3, k4, k5, k6, k7, k8, k9, hA3, hb3⟩
  have HA3 := Lib.hid (show CpuAt w3 K (fun b => w.heap.size ≤ b) awSt from hA3)
  have HB3 := Lib.hid (HB2.out.trans (hb3.mono HB2.out.size))
  have HK := Lib.hid (And.intro k1 (And.intro k5 k7))
  clear hA3 hb3 k1 k2 k3 k4 k5 k6 k7 k8 k9 hS HM HB2
  go_wp2_with fail
  refine (run_any K _ awSt w3 9 HA3.out (env_of HT.out.1 HT.out.2 HB3.out) (by show 0 + 9 < _; omega) (by show 0 + 2 * 9 < _; omega)).mono ?_
  rw [HK.out.2.1, HK.out.2.2, aw_n]
  rintro e w4 ⟨rfl, hA4, hO4⟩
  have HA4 := Lib.hid (show CpuAt w4 K (fun b => w.heap.size ≤ b) awFin from hA4)
  have HB4 := Lib.hid (HB3.out.trans ((hO4.to_below HB3.out.size).mono (Nat.le_refl _)))
  clear hA4 hO4 HA3 HB3
  go_wp2_with fail
  refine (state_any K _ awFin w4 HA4.out).mono ?_
  rintro e w5 ⟨rfl, hb5⟩
  have HA5 := Lib.hid (HA4.out.below hb5)
  have HB5 := Lib.hid (HB4.out.trans (hb5.mono HB4.out.size))
  clear hb5 HA4 HB4
  have hs6 := StB.new (w := w5) awFin.s aw_len
  have q1 : (w5.alloc (.cells (stateL awFin.s).toArray 28)).cell? ⟨w5.heap.size, 1, none⟩ = some (.int .u64 5) := by rw [hs6.cell 1, stateL_reg aw_len (by omega), aw_reg]
  have q32 : (w5.alloc (.cells (stateL awFin.s).toArray 28)).cell? ⟨w5.heap.size, 32, none⟩ = some (.int .u64 4) := by rw [hs6.cell 32, show (32 : Nat) = 32 + 0 from rfl, stateL_at aw_len 0]; simp [aw_pc]
  have q34 : (w5.alloc (.cells (stateL awFin.s).toArray 28)).cell? ⟨w5.heap.size, 34, none⟩ = some (.int .i64 1) := by rw [hs6.dn, aw_dn]
  have hb6 : Below w5.heap.size w5 (w5.alloc (.cells (stateL awFin.s).toArray 28)) := (Below.refl _ _).alloc (Nat.le_refl _) _
  have HA6 := Lib.hid (HA5.out.below hb6)
  have HB6 := Lib.hid (HB5.out.trans (hb6.mono HB5.out.size))
  clear hs6 hb6 HA5 HB5
  go_wp2_with (first | (refine wpList_store_new rfl 28 _ _ rfl _ _ _ _ rfl rfl ?hi ?hs ?h1 rfl ?hg ?_; (case hi => (rw [stateInfo]; simp [stateL_len aw_len])); (case hs => simp [stateL_len aw_len]); (case h1 => exact stateL_one _); (case hg => rfl)))
  refine (leaks_any K _ awFin _ HA6.out).mono ?_
  rw [aw_lk]
  rintro e w7 ⟨v7, rfl, ho7, hb7⟩
  obtain ⟨g7, c7, rfl⟩ := row_some (n := 1) ho7
  have HA7 := Lib.hid (HA6.out.below hb7)
  have HB7 := Lib.hid (HB6.out.trans (hb7.mono HB6.out.size))
  clear ho7 hb7 HA6 HB6 q1 q32 q34
  go_wp2_with fail
  refine (events_any K _ awFin _ HA7.out).mono ?_
  rw [aw_ev]
  rintro e w8 ⟨v8, rfl, ho8, hb8⟩
  obtain ⟨A8, c8, rfl⟩ := row_len ho8
  have HA8 := Lib.hid (HA7.out.below hb8)
  have HB8 := Lib.hid (HB7.out.trans (hb8.mono HB7.out.size))
  clear ho8 hb8 HA7 HB7
  have hpe := eqPtrM m
  go_wp2_with fail
  refine (memory_any K _ awFin _ HA8.out).mono ?_
  rw [HK.out.1]
  rintro e w9 ⟨rfl, rfl⟩
  go_wp2
  go_ret
  exact ⟨rfl, HB8.out⟩
end Go.Proofs.YtoeagbcjnffpaaaGreatDoor
namespace Go.Proofs.YtoeagbcjnffpaaaGreatDoor
set_option maxRecDepth 100000
open Go.RowKit Go.Maps
set_option linter.unusedVariables false
def xC (x : X) : List Value := [.int .i64 x.op, .int .i64 x.rd, .int .i64 x.r1, .int .i64 x.r2, .int .i64 x.imm]
theorem flat_at : ∀ (l : List X) (j i : Nat) (x : X), l[j]? = some x → i < 5 → (l.flatMap xC)[j * 5 + i]? = (xC x)[i]? := by
  intro l
  induction l with
  | nil => intro j i x h; simp at h
  | cons y l ih =>
    intro j i x h hi
    cases j with
    | zero =>
      simp only [List.getElem?_cons_zero, Option.some.injEq] at h
      subst h
      rw [List.flatMap_cons, List.getElem?_append_left (by simp [xC]; omega)]
      congr 1; omega
    | succ j =>
      simp only [List.getElem?_cons_succ] at h
      rw [List.flatMap_cons, List.getElem?_append_right (by simp [xC]; omega)]
      rw [← ih j i x h hi]
      congr 1
      simp [xC]; omega
theorem xs_at (w : World) (l : List X) (cs : Array Value) (h : cs.toList = l.flatMap xC) : XsAt (w.alloc (.cells cs 74)) w.heap.size 0 l := by
  intro j x hj
  have hc : ∀ k, (w.alloc (.cells cs 74)).cell? ⟨w.heap.size, k, none⟩ = (l.flatMap xC)[k]? := fun k => by
    rw [cell_of_row _ _ k _ _ _ (heap_alloc_last w _), ← h]; simp
  refine ⟨?_, ?_, ?_, ?_, ?_⟩ <;> rw [Nat.zero_add, hc]
  · exact (flat_at l j 0 x hj (by omega)).trans rfl
  · exact (flat_at l j 1 x hj (by omega)).trans rfl
  · exact (flat_at l j 2 x hj (by omega)).trans rfl
  · exact (flat_at l j 3 x hj (by omega)).trans rfl
  · exact (flat_at l j 4 x hj (by omega)).trans rfl
/-- the same where the block's number is told -/
theorem xs_to (w : World) (l : List X) (cs : Array Value) (n : Nat) (hn : w.heap.size = n) (h : cs.toList = l.flatMap xC) : XsAt (w.alloc (.cells cs 74)) n 0 l := by
  subst hn; exact xs_at w l cs h
def mayXB (x : X) : Bool := decide (x.op < 43) && decide (-9223372036854775808 ≤ x.imm) && decide (x.imm ≤ 9223372036854775807) && mayB x.op x.rd x.r1 x.r2 x.imm
theorem mayX_of {x : X} (h : mayXB x = true) : MayX x := by
  unfold mayXB at h
  simp only [Bool.and_eq_true, decide_eq_true_eq] at h
  exact ⟨h.1.1.1, ⟨h.1.1.2, h.1.2⟩, h.2⟩
theorem mayL {l : List X} (h : l.all mayXB = true) : ∀ x ∈ l, MayX x := fun x hx => mayX_of (List.all_eq_true.1 h x hx)
theorem rows_two {w : World} {b g1 c1 g2 c2 : Nat} {l1 l2 : List Int} (h1 : w.cell? ⟨b, 0, none⟩ = some (.slice (some ⟨g1, 0, none⟩) l1.length c1)) (h2 : w.cell? ⟨b, 1, none⟩ = some (.slice (some ⟨g2, 0, none⟩) l2.length c2)) (s1 : Sl w (some ⟨g1, 0, none⟩) l1) (s2 : Sl w (some ⟨g2, 0, none⟩) l2) (a1 : AllB l1) (a2 : AllB l2) (q1 : g1 < w.heap.size) (q2 : g2 < w.heap.size) (n1 : l1.length ≤ 1000000) (n2 : l2.length ≤ 1000000) : RowsAt w b 0 [l1, l2] := by
  intro i hi
  obtain rfl | rfl : i = 0 ∨ i = 1 := by simp at hi; omega
  · exact ⟨some ⟨g1, 0, none⟩, c1, h1, s1, a1, n1, fun _ a ha => by cases ha; exact q1⟩
  · exact ⟨some ⟨g2, 0, none⟩, c2, h2, s2, a2, n2, fun _ a ha => by cases ha; exact q2⟩
/-- a table of two regions, as cells -/
def T2R (a b c d e f g h : Int) : List Rg := [(a, b, c, d), (e, f, g, h)]
theorem t2r_tab (w : World) (a b c d e f g h : Int) : TabAt (w.alloc (.cells #[.int .u64 a, .int .u64 b, .int .i64 c, .int .i64 d, .int .u64 e, .int .u64 f, .int .i64 g, .int .i64 h] 57)) w.heap.size 0 (T2R a b c d e f g h) := by
  intro j hj
  obtain rfl | rfl : j = 0 ∨ j = 1 := by simp [T2R] at hj; omega
  · exact ⟨by simp [go_sem]; rfl, by simp [go_sem]; rfl, by simp [go_sem]; rfl, by simp [go_sem]; rfl⟩
  · exact ⟨by simp [go_sem]; rfl, by simp [go_sem]; rfl, by simp [go_sem]; rfl, by simp [go_sem]; rfl⟩
instance (v : Int) : Decidable (IsU v) := by unfold IsU; infer_instance
instance (v : Int) : Decidable (IsI v) := by unfold IsI; infer_instance
instance (r : Rg) : Decidable (RgW r) := by unfold RgW; infer_instance
def tabWB (T : List Rg) : Bool := (List.range T.length).all (fun i => decide (RgW (nthR T i)))
theorem tabW_of {T : List Rg} (h : tabWB T = true) : TabW T := fun i hi => by
  have := List.all_eq_true.1 h i (by simpa using hi)
  simpa using this
end Go.Proofs.YtoeagbcjnffpaaaGreatDoor
namespace Go.Proofs.YtoeagbcjnffpaaaGreatDoor
set_option maxRecDepth 100000
open Go.RowKit Go.Maps
/-- a step at an instruction that may be fetched by who runs -/
theorem step_own {T : List Rg} {E : List Int} {st : St} {x : X} (hd : st.s.dn = 0) (hl : loadM T st.B st.s.pc 4 st.s.own 4 = some (encX x)) (hx : MayX x) : stepC T E st = execC T x (showC st 0 st.s.pc 0) := by
  unfold stepC fetchC
  rw [if_neg (by simpa using hd), hl]
  simp only [decX hx]
theorem cut_wordsL : ∀ (xs : List X) (t : List Int) (k : Nat) (x : X), xs[k]? = some x → ((wordsL xs ++ t).drop (4 * k)).take 4 = bytesL (encX x) 4 := by
  intro xs
  induction xs with
  | nil => intro t k x h; simp at h
  | cons y xs ih =>
    intro t k x h
    have hc : wordsL (y :: xs) = bytesL (encX y) 4 ++ wordsL xs := by simp [wordsL]
    rw [hc, List.append_assoc]
    cases k with
    | zero =>
      simp only [List.getElem?_cons_zero, Option.some.injEq] at h
      subst h
      rw [Nat.mul_zero, List.drop_zero, List.take_append_of_le_length (by rw [bytesL_length]; omega), List.take_of_length_le (by rw [bytesL_length]; omega)]
    | succ k =>
      simp only [List.getElem?_cons_succ] at h
      rw [show 4 * (k + 1) = 4 + 4 * k by omega, ← List.drop_drop, List.drop_append_of_le_length (by rw [bytesL_length]; omega), List.drop_of_length_le (l := bytesL (encX y) 4) (by rw [bytesL_length]; omega), List.nil_append]
      exact ih t k x h
theorem word4 {v : Int} (h : IsW v) : wordI (bytesL v 4) = v := by
  obtain ⟨h0, h1⟩ := h
  rw [word_of_bytes ⟨h0, by omega⟩ (by omega)]
  show ((v.toNat / 2 ^ 0 % 2 ^ 32 : Nat) : Int) = v
  omega
theorem word8 {v : Int} (h : IsU v) : wordI (bytesL v 8) = v := by
  obtain ⟨h0, h1⟩ := h
  rw [word_of_bytes ⟨h0, h1⟩ (by omega)]
  show ((v.toNat / 2 ^ 0 % 2 ^ 64 : Nat) : Int) = v
  omega
theorem word4m {v : Int} (h : IsU v) : wordI (bytesL v 4) = v % 4294967296 := by
  obtain ⟨h0, h1⟩ := h
  rw [word_of_bytes ⟨h0, h1⟩ (by omega)]
  show ((v.toNat / 2 ^ 0 % 2 ^ 32 : Nat) : Int) = _
  omega
theorem word1m {v : Int} (h : IsU v) : wordI (bytesL v 1) = v % 256 := by
  obtain ⟨h0, h1⟩ := h
  rw [word_of_bytes ⟨h0, h1⟩ (by omega)]
  show ((v.toNat / 2 ^ 0 % 2 ^ 8 : Nat) : Int) = _
  omega
section
variable {hi x y : Int}
theorem allI_one {p n : Int} {own : Bool} {q : Int} (h0 : 0 ≤ p) (hn : n = 1 ∨ n = 4 ∨ n = 8) (hm : p % n = 0) (h1 : p + n ≤ hi) (hr : hasB (if own then x else y) q = true) : allI (T1 0 hi x y) p n own q = some 0 :=
  allI_yes ⟨by unfold accB; exact decide_eq_true ⟨hn, hm⟩, t1_f h0 (by omega) h1, by rw [t1_right]; exact hr⟩
theorem load_one {B : Nat → List Int} {p n : Int} {own : Bool} {q : Int} (h0 : 0 ≤ p) (hn : n = 1 ∨ n = 4 ∨ n = 8) (hm : p % n = 0) (h1 : p + n ≤ hi) (hr : hasB (if own then x else y) q = true) : loadM (T1 0 hi x y) B p n own q = some (wordI (((B 0).drop p.toNat).take n.toNat)) := by
  unfold loadM
  rw [allI_one h0 hn hm h1 hr]
  simp [cut, t1_zero, rlo]
theorem store_one {B : Nat → List Int} {p n : Int} {own : Bool} {v : Int} (h0 : 0 ≤ p) (hn : n = 1 ∨ n = 4 ∨ n = 8) (hm : p % n = 0) (h1 : p + n ≤ hi) (hr : hasB (if own then x else y) 2 = true) : storeM (T1 0 hi x y) B p n own v = some (setB B 0 (splice (B 0) p.toNat (bytesL v n.toNat))) := by
  unfold storeM
  rw [allI_one h0 hn hm h1 hr]
  simp [t1_zero, rlo]
/-- a step at instruction k -/
theorem step_at {E : List Int} {st : St} {xs : List X} {t : List Int} (k : Nat) (z : X) (hd : st.s.dn = 0) (hp : st.s.pc = 4 * k) (hB : st.B 0 = wordsL xs ++ t) (hz : xs[k]? = some z) (hx : MayX z) (h1 : 4 * (k : Int) + 4 ≤ hi) (hr : hasB (if st.s.own then x else y) 4 = true) :
    stepC (T1 0 hi x y) E st = execC (T1 0 hi x y) z (showC st 0 st.s.pc 0) := by
  refine step_own hd ?_ hx
  rw [load_one (by omega) (by omega) (by omega) (by omega) hr, hB, hp, show (4 * (k : Int)).toNat = 4 * k by omega, show (4 : Int).toNat = 4 from rfl, cut_wordsL xs t k z hz, word4 (encX_w hx)]
/-- what lies there at first -/
theorem b_one {l : List Int} {n : Nat} (hh : hi = n) (h1 : 1 ≤ l.length) (h2 : l.length ≤ n) : bB (T1 0 hi x y) [l] 1 0 = l ++ List.replicate (n - l.length) 0 := by
  subst hh
  have e : lenR (nthR (T1 0 (n : Int) x y) 0) = n := by rw [t1_zero]; unfold lenR rhi rlo; simp
  show pokeB _ _ 0 (rowK [l] 0) 0 = _
  unfold pokeB
  rw [if_pos ⟨h1, by rw [e]; exact h2⟩, setB_same]
  show splice (List.replicate (lenR _) 0) 0 l = _
  rw [e]
  simp [splice]
end
theorem exec_store {T : List Rg} {x : X} {st : St} {B' : Nat → List Int} (h : 29 ≤ x.op) (h' : x.op < 32) (hs : storeM T st.B (sumP st.s x) (lenOf x.op) st.s.own (reg st.s x.r2) = some B') : execC T x st = withS (withB (showC st 1 (sumP st.s x) 0) B') (goTo st.s (nextP st.s)) := by
  unfold execC
  rw [if_neg (by omega), if_neg (by omega), if_neg (by omega), if_pos h', hs]
theorem exec_load {T : List Rg} {x : X} {st : St} {v : Int} (h : 25 ≤ x.op) (h' : x.op < 29) (hs : loadM T st.B (sumP st.s x) (lenOf x.op) st.s.own 1 = some v) : execC T x st = writeC (showC st 1 (sumP st.s x) 0) x.rd (loadV x.op v) := by
  unfold execC
  rw [if_neg (by omega), if_neg (by omega), if_pos h', hs]
theorem mayX_num {n : Nat} {rd r1 r2 imm : Int} (hn : n < 43) (hf : (fitB rd (lRd (opS n)) && fitB r1 (lR1 (opS n)) && fitB r2 (lR2 (opS n))) = true) (hi : IsI imm) (h : NumOk (opS n) imm) : MayX ⟨n, rd, r1, r2, imm⟩ := by
  refine ⟨hn, hi, ?_⟩
  unfold mayB
  rw [hf, (num_ok imm hi (opS_lt hn)).2 h]
  simp
theorem splice_past {a t x : List Int} {p : Nat} (h : a.length ≤ p) : splice (a ++ t) p x = a ++ splice t (p - a.length) x := by
  unfold splice
  rw [List.take_append, List.drop_append, List.take_of_length_le h, List.drop_of_length_le (by omega), List.nil_append, List.append_assoc, show p + x.length - a.length = p - a.length + x.length by omega]
end Go.Proofs.YtoeagbcjnffpaaaGreatDoor
namespace Go.Proofs.YtoeagbcjnffpaaaGreatDoor
set_option maxRecDepth 100000
open Go.RowKit Go.Maps
set_option linter.unusedVariables false
/-- rows, then the struct -/
abbrev oneW (u : World) (g n c q k : Nat) (s : CS) : World := (u.alloc (.cells #[.slice (some ⟨g, 0, none⟩) n c] 52)).alloc (.cells (worldL (.slice (some ⟨q, 0, none⟩) k k) (.slice (some ⟨u.heap.size, 0, none⟩) 1 1) (.slice none 0 0) s).toArray 30)
structure OneOk (u W : World) (q k : Nat) (T : List Rg) (l : List Int) (s : CS) : Prop where
  wd : WdB W (u.heap.size + 1) (.slice (some ⟨q, 0, none⟩) k k) (.slice (some ⟨u.heap.size, 0, none⟩) 1 1) (.slice none 0 0) s
  rows : RowsAt W u.heap.size 0 [l]
  tab : TabAt W q 0 T
  bel : Below u.heap.size u W
  size : W.heap.size = u.heap.size + 2
theorem one_world {u : World} {B g n c q k : Nat} {l : List Int} {T : List Rg} (s : CS) (hs : s.R.length = 32) (hl : l.length = n) (hl2 : n ≤ 1000000) (ho : u.ownsRow B 5 1 (.slice (some ⟨g, 0, none⟩) n c) n (l.map (Value.int .u8))) (ha : AllB l) (hT : TabAt u q 0 T) :
    OneOk u (oneW u g n c q k s) q k T l s := by
  subst hl
  have hbW : Below u.heap.size u (oneW u g l.length c q k s) := below_alloc2
  have hwn := WdB.new (w := u.alloc (.cells #[.slice (some ⟨g, 0, none⟩) l.length c] 52)) (tS := .slice (some ⟨q, 0, none⟩) k k) (bS := .slice (some ⟨u.heap.size, 0, none⟩) 1 1) (eS := .slice none 0 0) s hs
  have hsz : (u.alloc (.cells #[.slice (some ⟨g, 0, none⟩) l.length c] 52)).heap.size = u.heap.size + 1 := by simp
  rw [hsz] at hwn
  have hz : (oneW u g l.length c q k s).heap.size = u.heap.size + 2 := by simp [oneW]
  exact ⟨hwn, rows_one (cap := c) (by simp [oneW, go_sem]) ((sl_of_owned ho).below hbW) ha (by have := (ho.lt g rfl).2; rw [hz]; omega) hl2, hT.below hbW, hbW, hz⟩
/-- a register is set -/
theorem one_reg {u : World} {B g n c q k : Nat} {l : List Int} {T : List Rg} (s : CS) {r : Nat} (v : Int) (hr : r < 32) (hs : s.R.length = 32) (hl : l.length = n) (hl2 : n ≤ 1000000) (ho : u.ownsRow B 5 1 (.slice (some ⟨g, 0, none⟩) n c) n (l.map (Value.int .u8))) (ha : AllB l) (hT : TabAt u q 0 T) :
    OneOk u ((oneW u g n c q k s).setCell ⟨u.heap.size + 1, 3 + r, none⟩ (.int .u64 v)) q k T l { s with R := s.R.set r v } := by
  have h := one_world (k := k) s hs hl hl2 ho ha hT
  subst hl
  have hbW := h.bel.setCell (p := ⟨u.heap.size + 1, 3 + r, none⟩) (by show u.heap.size ≤ u.heap.size + 1; omega) (.int .u64 v)
  have hz : ((oneW u g l.length c q k s).setCell ⟨u.heap.size + 1, 3 + r, none⟩ (.int .u64 v)).heap.size = u.heap.size + 2 := by rw [← h.size]; simp
  exact ⟨h.wd.setReg hr v, rows_one (cap := c) (by simp [oneW, go_sem]) ((sl_of_owned ho).below hbW) ha (by have := (ho.lt g rfl).2; rw [hz]; omega) hl2, hT.below hbW, hbW, hz⟩
end Go.Proofs.YtoeagbcjnffpaaaGreatDoor
namespace Go.Proofs.YtoeagbcjnffpaaaGreatDoor
set_option maxRecDepth 100000
open Go.RowKit Go.Maps
set_option linter.unusedVariables false
section
variable {w w' : World}
/-- block b is as it was -/
def SameB (w w' : World) (b : Nat) : Prop := w'.heap[b]? = w.heap[b]?
theorem SameB.cell {b o : Nat} (h : SameB w w' b) : w'.cell? ⟨b, o, none⟩ = w.cell? ⟨b, o, none⟩ := by
  unfold World.cell?
  rw [show w'.heap[(⟨b, o, none⟩ : Addr).block]? = w.heap[(⟨b, o, none⟩ : Addr).block]? from h]
theorem row_sameB {base n s : Nat} {e : TypeId} {v : Value} {xs : List Value} (h : w.ownsRow base e s v n xs) (hs : ∀ b, v.ownBlock = some b → SameB w w' b) : w'.ownsRow base e s v n xs := by
  refine ⟨h.1, ?_⟩
  rcases h.2 with h | ⟨g, cap, cur, rfl, h1, h2, h3⟩
  · exact .inl h
  · exact .inr ⟨g, cap, cur, rfl, h1, (hs g rfl).trans h2, h3⟩
theorem MemIs.sameB {base m tb tc hb n : Nat} {T : List Rg} {G : Nat → Nat} {B : Nat → List Int} (h : MemIs w base m tb tc hb n T G B) (h0 : SameB w w' m) (h1 : SameB w w' tb) (h2 : SameB w w' hb) (h3 : ∀ i, i < n → SameB w w' (G i)) : MemIs w' base m tb tc hb n T G B := by
  obtain ⟨⟨a1, a2, a3, a4, a5, a6, a7⟩, r, a, l, ap, aw, fr, ow⟩ := h
  refine ⟨⟨a1, a2, a3, by rw [h0.cell]; exact a4, by rw [h0.cell]; exact a5, fun i hi => ?_, ?_⟩, fun i hi => (h3 i hi).trans (r i hi), a, l, ap, aw, fr, ow⟩
  · obtain ⟨c0, c1, c2, c3⟩ := a6 i hi
    exact ⟨by rw [h1.cell]; exact c0, by rw [h1.cell]; exact c1, by rw [h1.cell]; exact c2, by rw [h1.cell]; exact c3⟩
  · obtain ⟨D, ⟨es, clock, q1, q2⟩, q3⟩ := a7
    exact ⟨D, ⟨es, clock, h2.trans q1, q2⟩, q3⟩
theorem CpuIs.sameB {K : CK} {ve vl : Value} {st : St} (h : CpuIs w K ve vl st) (h0 : SameB w w' K.c) (h1 : SameB w w' K.m) (h2 : SameB w w' K.tb) (h3 : SameB w w' K.hb) (h4 : ∀ i, i < K.n → SameB w w' (K.G i)) (h5 : SameB w w' K.md)
    (h6 : ∀ b, ve.ownBlock = some b → SameB w w' b) (h7 : ∀ b, vl.ownBlock = some b → SameB w w' b) (h8 : ∀ a, K.EA = some a → SameB w w' a.block) : CpuIs w' K ve vl st := by
  refine ⟨⟨h0.trans h.blk.1, h.blk.2⟩, row_sameB h.evr h6, row_sameB h.lkr h7, h.mem.sameB h1 h2 h3 h4, ⟨h.ent.1, h.ent.2.1, ?_⟩, ?_, h.wf, h.low, h.few⟩
  · rcases h.ent.2.2 with e | ⟨b, off, q1, q2, q3, q4⟩
    · exact .inl e
    · exact .inr ⟨b, off, q1, q2, q3, fun k hk => by rw [(h8 _ q1).cell]; exact q4 k hk⟩
  · obtain ⟨D, ⟨es, clock, q1, q2⟩, q3⟩ := h.ops
    exact ⟨D, ⟨es, clock, h5.trans q1, q2⟩, q3⟩
theorem CpuIs.lts {K : CK} {ve vl : Value} {st : St} (h : CpuIs w K ve vl st) : K.c < w.heap.size ∧ K.m < w.heap.size ∧ K.tb < w.heap.size ∧ K.hb < w.heap.size ∧ (∀ i, i < K.n → K.G i < w.heap.size) ∧ K.md < w.heap.size ∧ (∀ b, ve.ownBlock = some b → b < w.heap.size) ∧ ∀ b, vl.ownBlock = some b → b < w.heap.size := by
  have lc := h.blk.lt
  obtain ⟨l0, l1, l2, l3⟩ := h.low
  exact ⟨lc, by omega, by omega, by omega, fun i hi => by have := l3 i hi; omega, h.ops.lt, fun b hb => (ownBlock_lt h.evr hb).1, fun b hb => (ownBlock_lt h.lkr hb).1⟩
/-- what another run writes (F2) touches none of this one's: neither what it may write (F), nor what it only reads -/
theorem CpuAt.apart {K : CK} {F F2 : Nat → Prop} {st : St} (h : CpuAt w K F st) (hO : Out F2 w w') (hd : ∀ b, b < w.heap.size → F b → ¬ F2 b) (h1 : ¬ F2 K.m) (h2 : ¬ F2 K.tb) (h3 : ¬ F2 K.hb) (h5 : ¬ F2 K.md) (h8 : ∀ a, K.EA = some a → K.E = [] ∨ (a.block < w.heap.size ∧ ¬ F2 a.block)) : CpuAt w' K F st := by
  obtain ⟨ve, vl, hC, hF⟩ := h
  obtain ⟨f0, f1, f2, f3, f4⟩ := hF
  obtain ⟨t0, t1, t2, t3, t4, t5, t6, t7⟩ := hC.lts
  have hs : ∀ b, b < w.heap.size → ¬ F2 b → SameB w w' b := fun b hb hn => hO.block b hb hn
  have hC' : CpuIs w' K ve vl st := by
    refine ⟨⟨(hs _ t0 (hd _ t0 f0)).trans hC.blk.1, hC.blk.2⟩, row_sameB hC.evr (fun b hb => hs b (t6 b hb) (hd b (t6 b hb) (f2 b hb))), row_sameB hC.lkr (fun b hb => hs b (t7 b hb) (hd b (t7 b hb) (f3 b hb))),
      hC.mem.sameB (hs _ t1 h1) (hs _ t2 h2) (hs _ t3 h3) (fun i hi => hs _ (t4 i hi) (hd _ (t4 i hi) (f1 i hi))), ⟨hC.ent.1, hC.ent.2.1, ?_⟩, ?_, hC.wf, hC.low, hC.few⟩
    · rcases hC.ent.2.2 with e | ⟨b, off, q1, q2, q3, q4⟩
      · exact .inl e
      · rcases h8 _ q1 with e | ⟨e1, e2⟩
        · exact .inl e
        · exact .inr ⟨b, off, q1, q2, q3, fun k hk => by rw [(hs b e1 e2).cell]; exact q4 k hk⟩
    · obtain ⟨D, ⟨es, clock, q1, q2⟩, q3⟩ := hC.ops
      exact ⟨D, ⟨es, clock, (hs _ t5 h5).trans q1, q2⟩, q3⟩
  exact ⟨ve, vl, hC', f0, f1, f2, f3, fun b hb => f4 b (Nat.le_trans hO.size hb)⟩
theorem Out.sub {F F' : Nat → Prop} (h : Out F w w') (k : ∀ b, F b → F' b) : Out F' w w' := ⟨h.os, h.tape, h.output, h.size, fun b hb hn => h.block b hb (fun hf => hn (k b hf))⟩
theorem Env.sub {F F' : Nat → Prop} (h : Env w F) (k : ∀ b, F' b → F b) : Env w F' := ⟨h.tabs, h.taba, fun hf => h.ops (k _ hf), fun hf => h.lays (k _ hf), fun hf => h.two (k _ hf)⟩
/-- one memory's regions, and all from s on -/
def Foot (G : Nat → Nat) (n s : Nat) (b : Nat) : Prop := (∃ i, i < n ∧ G i = b) ∨ s ≤ b
theorem foot_ge {G : Nat → Nat} {n s q : Nat} (h : ∀ i, i < n → q ≤ G i) (h2 : q ≤ s) : ∀ b, Foot G n s b → q ≤ b := by
  rintro b (⟨i, hi, rfl⟩ | hb)
  · exact h i hi
  · omega
end
end Go.Proofs.YtoeagbcjnffpaaaGreatDoor
