/- Layer 7: the names that relocations have, gathered. No condition. -/
import Derived.Test.YthoehbmbmjmpbaaDoorSymI
namespace Go.Proofs.YthoehbmbmjmpbaaDoor
set_option maxRecDepth 100000
open Go.RowKit Go.Maps
set_option linter.unusedVariables false
theorem UsK.look1 {w : World} {b n : Nat} {U : Us → Option Int} (h : UsK w b n U) {t : Us} (ht : UsW t) :
    (Instr.lookup 84 (.map (some b)) (usV t) false).run Tryd.prog w = .ok (.int .i64 ((U t).getD 0)) w := by
  obtain ⟨D, h1, _, _, h3⟩ := h
  obtain ⟨c, hrun, hat, _⟩ := h1.lookup_int lawUs Tryd.underlying84 Tryd.underlying3 (zeroIntO w) (uKey_of ht)
  obtain ⟨k1, k2⟩ := h3 t ht
  rw [hrun]
  cases hU : U t with
  | none =>
    rw [atKey_of_not_has (k1 hU)] at hat
    simp only [DataW.lit.injEq, Lit.int.injEq, true_and] at hat
    rw [← hat]; rfl
  | some d =>
    rw [(k2 d hU).2] at hat
    simp only [DataW.lit.injEq, Lit.int.injEq, true_and] at hat
    rw [← hat]; rfl
/-- one use more -/
def putU (U : Us → Option Int) (t : Us) : Us → Option Int := fun u => if u = t then some ((U t).getD 0 + 1) else U u
def usR (i : Int) (rs : List RelD) (U : Us → Option Int) : Nat → Us → Option Int
  | 0 => U
  | j + 1 => putU (usR i rs U j) ((rs.getD j (0, 0, ByteArray.empty, 0)).2.2.1, i)
def usL (l : List ObjD) : Nat → Us → Option Int
  | 0 => fun _ => none
  | k + 1 => usR (k : Int) (l.getD k dNo).rels (usL l k) (l.getD k dNo).rels.length
def sumR (l : List ObjD) (k : Nat) : Nat := ((l.take k).map fun d => d.rels.length).sum
theorem sumR_go {l : List ObjD} {k : Nat} (h : k < l.length) : sumR l (k + 1) = sumR l k + l[k].rels.length := by
  unfold sumR
  rw [List.take_succ_eq_append_getElem h, List.map_append, List.sum_append]
  simp
theorem sumR_le (l : List ObjD) (k : Nat) : sumR l k ≤ sumR l l.length := by
  unfold sumR
  rw [List.take_length]
  conv => rhs; rw [← List.take_append_drop k l]
  rw [List.map_append, List.sum_append]
  omega
theorem usL_go {l : List ObjD} {k : Nat} (h : k < l.length) : usL l (k + 1) = usR (k : Int) l[k].rels (usL l k) l[k].rels.length := by
  have e : l.getD k dNo = l[k] := by rw [List.getD_eq_getElem?_getD, List.getElem?_eq_getElem h]; rfl
  show usR (k : Int) (l.getD k dNo).rels (usL l k) (l.getD k dNo).rels.length = _
  rw [e]
theorem usR_go {i : Int} {rs : List RelD} {U : Us → Option Int} {j : Nat} (h : j < rs.length) : usR i rs U (j + 1) = putU (usR i rs U j) (rs[j].2.2.1, i) := by
  show putU (usR i rs U j) ((rs.getD j (0, 0, ByteArray.empty, 0)).2.2.1, i) = _
  rw [List.getD_eq_getElem?_getD, List.getElem?_eq_getElem h]; rfl
/-- counts are no more than what has gone by -/
def CntU (U : Us → Option Int) (N : Nat) : Prop := ∀ t, 0 ≤ (U t).getD 0 ∧ (U t).getD 0 ≤ N
theorem CntU.put {U : Us → Option Int} {N : Nat} (h : CntU U N) (t : Us) : CntU (putU U t) (N + 1) := fun u => by
  unfold putU
  split
  · have := h t; simp only [Option.getD_some]; omega
  · have := h u; omega
/-- the map as far as it is written -/
structure US (w0 : World) (N : Nat) (U : Us → Option Int) (w : World) : Prop where
  k : UsK w w0.heap.size N U
  c : CntU U N
  b : Below w0.heap.size w0 w
section
variable {w0 w w' : World} {N N' : Nat} {U U' : Us → Option Int}
theorem US.below (h : US w0 N U w) (hb : Below w.heap.size w w') : US w0 N U w' := ⟨h.k.below hb, h.c, h.b.trans (hb.mono h.b.size)⟩
theorem US.mono (h : US w0 N U w) (hn : N ≤ N') : US w0 N' U w := ⟨h.k.mono hn, fun t => by have := h.c t; omega, h.b⟩
end
set_option maxHeartbeats 4000000 in
theorem uses_any (l : List ObjD) (hW : ∀ d ∈ l, ObjW d) (A : Option Addr) (n c lo hi : Nat) (hn : l.length = n) (hmx : n ≤ 1000000) (hsum : sumR l l.length < 900000) (w : World) (hA : ObjsAt w lo hi l A) (hh : hi ≤ w.heap.size) :
    Calls Tryd.prog 35 #[.slice A n c] w fun e w' => e = .returned (.map (some w.heap.size)) ∧ UsK w' w.heap.size (sumR l l.length) (usL l n) ∧ Below w.heap.size w w' := by
  have HW := Lib.hid hW
  have HN := Lib.hid hn
  have HA := Lib.hid hA
  have HH := Lib.hid hh
  have HSum := Lib.hid hsum
  have HMx := Lib.hid hmx
  have HS0 := Lib.hid (show US w 0 (fun _ => none) (w.alloc (.map #[] 0)) from ⟨UsK.made w, fun t => by simp, (Below.refl _ _).alloc (Nat.le_refl _) _⟩)
  clear hW hn hA hh hsum
  have hmm := @run_makeMap Tryd.prog
  go_enter Tryd.func35, Tryd.ntmps35
  go_wp2
  go_loopw [11] (fun i wr => ∃ k : Nat, k ≤ n ∧ i = .int .i64 k ∧ Hid (US w (sumR l k) (usL l k) wr)) (fun i _ => n - (intOf i).toNat)
  case atStart => exact ⟨0, by omega, rfl, HS0⟩
  case round =>
    clear HS0
    obtain ⟨k, hk, rfl, HS⟩ := hrel
    by_cases hlt : k < n
    · have k0 : (0 : Int) ≤ k := by omega
      have k1 : (k : Int) < n := by omega
      have HLk := Lib.hid (show k < l.length by rw [HN.out]; exact hlt)
      obtain ⟨b, o, A1, n1, c1, A2, n2, c2, A3, n3, c3, A4, n4, c4, A5, n5, c5, rfl, hb, ⟨x0, x1, x2, x3, x4⟩, ho, -, hn4, -⟩ := (HA.out.below HH.out HS.out.b).at_ HLk.out
      have HSg := Lib.hid (sumR_go HLk.out)
      have HWg := Lib.hid (usL_go HLk.out)
      have HSl := Lib.hid (Nat.le_trans (Nat.le_of_eq HSg.out.symm) (sumR_le l (k + 1)))
      have HWk := Lib.hid (HW.out _ (List.getElem_mem HLk.out)).rels
      obtain ⟨f1, f2, f3, f4, f5, f6, f7, f8, f9, f10, es, he, -, -, -, hrow, -, -⟩ := ho
      simp only [Value.agg.injEq, Array.mk.injEq, List.cons.injEq, Value.slice.injEq, and_true] at he
      obtain ⟨-, -, -, ⟨e41, -, -⟩, -⟩ := he
      subst e41
      have HRw := Lib.hid (show RowC w lo hi A4 _ from hrow.move (Nat.le_refl _) (Nat.le_refl _) (fun b _ h2 => (HS.out.b.block b (by have := HH.out; omega)).symm))
      have HN4 := Lib.hid hn4
      have hn4b : n4 ≤ 1000000 := by have := HSl.out; have := HSum.out; rw [hn4] at *; omega
      have HS1 := Lib.hid (HS.out.below ((Below.refl wr.heap.size wr).alloc (Nat.le_refl _) (.cells #[.slice A1 n1 c1, .slice A2 n2 c2, .slice A3 n3 c3, .slice A4 n4 c4, .slice A5 n5 c5] 31)))
      generalize l[k].rels = rs at *
      clear hrow hn4
      go_wp2
      clear x0 x1 x2 x3 x4 HS
      generalize (wr.alloc (.cells #[.slice A1 n1 c1, .slice A2 n2 c2, .slice A3 n3 c3, .slice A4 n4 c4, .slice A5 n5 c5] 31)) = wk at *
      go_loopw [19] (fun i wr => ∃ j : Nat, j ≤ n4 ∧ i = .int .i64 j ∧ Hid (US w (sumR l k + j) (usR k rs (usL l k) j) wr)) (fun i _ => n4 - (intOf i).toNat)
      case atStart => exact ⟨0, by omega, rfl, HS1⟩
      case round =>
        clear HS1
        obtain ⟨j, hj, rfl, HS⟩ := hrel
        by_cases hlj : j < n4
        · have j0 : (0 : Int) ≤ j := by omega
          have j1 : (j : Int) < n4 := by omega
          have HLj := Lib.hid (show j < rs.length by rw [HN4.out]; exact hlj)
          have hsj := usR_go (i := (k : Int)) (U := usL l k) HLj.out
          obtain ⟨b3, o3, eA3, _, hb3, hc3⟩ := HRw.out.at_ (sz := 4) (fun x => rfl) (by omega) (by have := HLj.out; omega)
          subst eA3
          have hbk := HS.out.b.block b3 (by have := HH.out; omega)
          have hWj := HWk.out _ (List.getElem_mem HLj.out)
          have hcj := hc3 j HLj.out
          obtain ⟨ra, rk, nm, rd, hrj⟩ : ∃ ra rk nm rd, rs[j]'HLj.out = (ra, rk, nm, rd) := ⟨_, _, _, _, rfl⟩
          rw [hrj] at hWj hcj hsj
          have HSq := Lib.hid hsj
          have y0 := (World.cell?_of_block (a := ⟨b3, o3 + (j * 4 + 0), none⟩) hbk).trans (hcj 0 _ rfl)
          have y1 := (World.cell?_of_block (a := ⟨b3, o3 + (j * 4 + 1), none⟩) hbk).trans (hcj 1 _ rfl)
          have y2 := (World.cell?_of_block (a := ⟨b3, o3 + (j * 4 + 2), none⟩) hbk).trans (hcj 2 _ rfl)
          have y3 := (World.cell?_of_block (a := ⟨b3, o3 + (j * 4 + 3), none⟩) hbk).trans (hcj 3 _ rfl)
          rw [show o3 + (j * 4 + 0) = o3 + j * 4 by omega] at y0
          rw [show o3 + (j * 4 + 1) = o3 + j * 4 + 1 by omega] at y1
          rw [show o3 + (j * 4 + 2) = o3 + j * 4 + 2 by omega] at y2
          rw [show o3 + (j * 4 + 3) = o3 + j * 4 + 3 by omega] at y3
          have HUw := Lib.hid (show UsW (nm, (k : Int)) from ⟨hWj.2.2.1, by show (-9223372036854775808 : Int) ≤ k ∧ (k : Int) ≤ 9223372036854775807; have := HMx.out; omega⟩)
          have HS1 := Lib.hid (HS.out.below ((Below.refl wr.heap.size wr).alloc (Nat.le_refl _) (.cells #[.int .i64 ra, .int .i64 rk, .string nm, .int .i64 rd] 43)))
          have HBx := Lib.hid (heap_alloc_new wr (.cells #[.int .i64 ra, .int .i64 rk, .string nm, .int .i64 rd] 43))
          clear hWj hcj hrj hsj hbk hc3 HS
          go_upto_region 8 with fail
          clear y0 y1 y2 y3
          generalize (wr.alloc (.cells #[.int .i64 ra, .int .i64 rk, .string nm, .int .i64 rd] 43)) = wa at *
          generalize wr.heap.size = bx at *
          generalize usR (k : Int) rs (usL l k) j = U at *
          have hS := HS1.out.below (Below.drew (Below.refl wa.heap.size wa))
          obtain ⟨v0, st, wb, hme, hg1, hz1, ⟨U1, hU1, hU1e⟩, hes⟩ := hS.k.entry (by have := HSl.out; have := HSum.out; have := HN4.out; omega) HUw.out
          have hl0 := hS.k.look1 HUw.out
          have hl1 := hU1.look1 HUw.out
          rw [hU1e] at hl1
          have hcc := hS.c (nm, (k : Int))
          obtain ⟨wc, hst, hUc, hg2, hz2⟩ := hes wb ((U (nm, (k : Int))).getD 0 + 1) rfl (by omega) (by have := HSl.out; have := HSum.out; have := HN4.out; omega)
          obtain ⟨z0, z1, z2, z3, zf⟩ := row_cells4 HBx.out
          have HB2 := Lib.hid (hS.b.grown (hg1.trans hg2) hS.b.size (fun g e => by cases e; exact Nat.le_refl _))
          have HU2 := Lib.hid (show US w (sumR l k + (j + 1)) (putU U (nm, (k : Int))) wc from ⟨hUc, hS.c.put _, HB2.out⟩)
          unfold usV at hme hl0 hl1
          simp only at hme hl0 hl1
          have hcu : (U (nm, (k : Int))).getD 0 ≤ 1000000 := by have := HSl.out; have := HSum.out; have := HN4.out; omega
          have hcl := hcc.1
          generalize (U (nm, (k : Int))).getD 0 = cc at *
          unfold goInt at hme hst
          have hwr : IntKind.i64.wrap (cc + 1) = cc + 1 := by rw [IntKind.wrap_i64]; omega
          clear hS hg1 hz1 hU1 hU1e hes hcc hUc hg2 hz2
          go_region
          all_goals
            go_wp2
            go_roundw
            case rel => exact ⟨j + 1, by omega, by go_num, Lib.hid (by rw [HSq.out]; exact HU2.out)⟩
            case measure => simp [intOf]; omega
        · have hjn : j = n4 := by omega
          have j1 : ¬ (j : Int) < n4 := by omega
          have HS2 := Lib.hid (show US w (sumR l (k + 1)) (usL l (k + 1)) wr from by rw [HSg.out, HWg.out, HN4.out, ← hjn]; exact HS.out)
          clear hjn hlj HS
          go_wp2
          go_roundw
          case rel => exact ⟨k + 1, by omega, by go_num, HS2⟩
          case measure => simp [intOf]; omega
    · have hkn : k = n := by omega
      have k1 : ¬ (k : Int) < n := by omega
      have HS2 := Lib.hid (show US w (sumR l l.length) (usL l n) wr from by rw [show usL l n = usL l k by rw [hkn]]; exact HS.out.mono (sumR_le l k))
      clear hkn hlt HS
      go_wp2
      go_ret
      exact ⟨rfl, HS2.out.k, HS2.out.b⟩
end Go.Proofs.YthoehbmbmjmpbaaDoor
