/- Layer 10: become, of statements. Condition: the tables read as they should.
   Layer 10: a statement, read. Condition: the tables read as they should.
   Layer 10: a secret array, read. Condition: the library's variables are what they are.
   Layer 10: a function, read. Condition: the tables read as they should.
   Layer 10: a function, read (the walk). Condition: the tables read as they should.
   Layer 10: fun, export; become, of sources. Condition: the tables read as they should.
   Layer 10: become, of sources. Condition: the tables read as they should.
   Layer 10: what a source's items come to together; rows of arrays and of functions; appending nothing. No condition.
   Layer 10: where the reading of a source stands. No condition. -/
import Derived.Test.YtbhdbglhejibbaaGreatDoorTsQ
import Derived.Test.YtbhdbglhejibbaaGreatDoorTsaJ
import Derived.Deep.AppendSrc
namespace Go.Proofs.YtbhdbglhejibbaaGreatDoor
set_option maxRecDepth 100000
open Go.RowKit
set_option linter.unusedVariables false
theorem zeroFS (w : World) : (zeroValue 112).run Tryz.prog w = .ok .nilFunc w := by kernel_rfl
theorem stmtsL_find (r : Nat) (s : ByteArray) : strF (stmtsL r) s = (kinS s).map fun k => .func (.func 55) #[stV8 r k] #[] := by
  unfold strF stmtsL kinS
  rw [List.find?_map]
  have : ((fun x : ByteArray × Value => decide (x.1 = s)) ∘ fun (k : Nat) => (stmW (k : Int), Value.func (.func 55) #[stV8 r k] #[])) = fun (k : Nat) => decide (stmW (k : Int) = s) := rfl
  rw [this]
  cases (List.range 5).find? (fun (k : Nat) => decide (stmW (k : Int) = s)) <;> rfl
theorem kinS_lt {s : ByteArray} {k : Nat} (h : kinS s = some k) : k < 5 := by
  unfold kinS at h
  have := List.mem_of_find?_eq_some h
  simpa using this
theorem elS_shape {w : World} {S : Nat → Prop} {x : StmtD} {cs : List Value} (h : ElS w S x cs) : ∃ k s n A m c A' m' c' A'' m'' c'', cs = [.int .i64 k, .string s, .int .i64 n, .slice A m c, .slice A' m' c', .slice A'' m'' c''] := by
  obtain ⟨kx, sx, nx, ax, ox, tx⟩ := x
  obtain ⟨A1, c1, A2, c2, A3, c3, e1, _⟩ := h
  exact ⟨_, _, _, _, _, _, _, _, _, _, _, _, e1⟩
set_option maxHeartbeats 4000000 in
theorem becomeS_of (R : RdC) (t : TokD) (hok : TokOk t) (hB : TokB t) (ihS : ∀ ts, t = .l ts → ∀ u ∈ ts, RdSt R u) (ihB : ∀ ts, t = .l ts → ∀ u ∈ ts, RdBk R u) (w : World) (v : Value) (hR : RdIs R w) (hv : ItemV w t v) :
    Calls Tryz.prog 111 #[.map (some R.rs), v] w fun e w' => Below w.heap.size w w' ∧ StmtP w.heap.size w' (becS t) e := by
  have hb := (Below.refl w.heap.size w).alloc (Nat.le_refl _) (.cells #[.int .i64 0, .string ⟨#[]⟩, .int .i64 0, .slice none 0 0, .slice none 0 0, .slice none 0 0] 45)
  have h0 := heap_alloc_new w (.cells #[.int .i64 0, .string ⟨#[]⟩, .int .i64 0, .slice none 0 0, .slice none 0 0, .slice none 0 0] 45)
  have hv1 := hv.below hb
  have HR := Lib.hid (hR.below hb)
  have HB := Lib.hid hb
  have HX := Lib.hid h0
  have hsz : (w.alloc (.cells #[.int .i64 0, .string ⟨#[]⟩, .int .i64 0, .slice none 0 0, .slice none 0 0, .slice none 0 0] 45)).heap.size = w.heap.size + 1 := by simp
  have HV := Lib.hid hv
  obtain ⟨a0, q0, c0, rfl, _⟩ := hv
  cases t with
  | w s =>
    have HI := Lib.hid (inside_no s _ _ hv1)
    clear hv1 hb h0 hR ihS ihB
    go_enter Tryz.func111, Tryz.ntmps111
    go_wp2_with fail
    refine HI.out.mono ?_
    rintro e w2 ⟨rfl, rfl⟩
    exact ⟨rfl, HB.out, rfl⟩
  | l ts =>
    have HI := Lib.hid (inside_yes ts _ hok hB _ hv1)
    have HTb := Lib.hid hB
    have HIh := Lib.hid (And.intro (ihS ts rfl) (ihB ts rfl))
    clear hv1 hb h0 hR ihS ihB
    go_enter Tryz.func111, Tryz.ntmps111
    go_wp2_with fail
    generalize (w.alloc (.cells #[.int .i64 0, .string ⟨#[]⟩, .int .i64 0, .slice none 0 0, .slice none 0 0, .slice none 0 0] 45)) = W at *
    refine HI.out.mono ?_
    rintro e w2 ⟨p, rfl, hp, hpt, hb2⟩
    have HR2 := Lib.hid (HR.out.below hb2)
    have HB2 := Lib.hid (HB.out.trans (hb2.mono HB.out.size))
    have HX2 := Lib.hid ((hb2.block _ (Array.getElem?_eq_some_iff.1 HX.out).1).trans HX.out)
    have HP := Lib.hid (And.intro hp (Nat.le_trans HR.out.top hp))
    have HW := Lib.hid (pword_any p ts w2 hpt)
    have HPt := Lib.hid hpt
    have hpg : w.heap.size < p := by omega
    clear hb2 hpt hp
    go_wp2_with fail
    refine HW.out.mono ?_
    rintro e w3 ⟨hO, h3⟩
    have HO3 := Lib.hid hO
    have HB3 := Lib.hid (HB2.out.trans (But.low hO (by omega) HB2.out.size))
    have HR3 := Lib.hid (HR2.out.move (But.low hO HP.out.2 HR2.out.top))
    have HX3 := Lib.hid ((hO.block _ (Array.getElem?_eq_some_iff.1 HX2.out).1 (by omega)).trans HX2.out)
    clear hO
    cases hw : wdF ts with
    | none =>
      rw [hw] at h3
      have h3 : e = tlackP := h3
      subst h3
      exact ⟨rfl, HB3.out, by rw [becS_l, hw]; rfl⟩
    | some sx =>
    obtain ⟨s, us⟩ := sx
    rw [hw] at h3
    obtain ⟨rfl, hP3⟩ := h3
    have hts := wdF_some hw
    have hlk := HR3.out.stmts.look Tryz.underlying101 Tryz.underlying9 (zeroFS w3) s
    rw [stmtsL_find] at hlk
    cases hk : kinS s with
    | none =>
      have HN := Lib.hid (show becS (.l ts) = none from by rw [becS_l, hw]; simp only; rw [hk])
      rw [hk] at hlk
      simp only [Option.map_none, Option.getD_none, Option.isSome_none] at hlk
      clear hP3 hw hts hk
      go_wp2_with fail
      refine (twant_no _).mono ?_
      rintro e w4 ⟨rfl, rfl⟩
      exact ⟨rfl, HB3.out, by rw [HN.out]; rfl⟩
    | some y =>
      have HN := Lib.hid (show becS (.l ts) = (rdQ y us).bind fun z => if z.2 = [] then some z.1 else none from by rw [becS_l, hw]; simp only; rw [hk]; exact rdS_eq y us)
      have hy5 : y < 5 := kinS_lt hk
      rw [hk] at hlk
      simp only [Option.map_some, Option.getD_some, Option.isSome_some] at hlk
      have hcf : ∀ (args : Array Value) (w : World), (callFunc 55 args).run Tryz.prog w = .ok (.enter 55 args) w := fun args w => by kernel_rfl
      have HRd := Lib.hid (stread_of R us (fun u hu => HIh.out.1 u (by rw [hts]; simp [hu])) (fun u hu => HIh.out.2 u (by rw [hts]; simp [hu])) y hy5 p w3 HR3.out HP.out.2 hP3)
      unfold stV8 at hlk HRd
      clear hP3 hw hts hk
      go_wp2_with fail
      refine (twant_yes _).mono ?_
      rintro e w4 ⟨rfl, rfl⟩
      go_wp2_with fail
      refine HRd.out.mono ?_
      rintro e w4 ⟨hO, h4⟩
      have HB4 := Lib.hid (HB3.out.trans (But.low hO (by omega) HB3.out.size))
      have hX4 := (hO.block _ (Array.getElem?_eq_some_iff.1 HX3.out).1 (by omega)).trans HX3.out
      have HSz3 := Lib.hid (show w.heap.size < w3.heap.size from by have := (Array.getElem?_eq_some_iff.1 HX3.out).1; omega)
      generalize hrd : rdQ y us = rr at *
      cases rr with
      | none =>
        have h4 : e = tlackP := h4
        subst h4
        exact ⟨rfl, HB4.out, by rw [HN.out]; rfl⟩
      | some z =>
        obtain ⟨x, rest⟩ := z
        obtain ⟨cs, rfl, hel, hpt⟩ := h4
        obtain ⟨vk, vs4, vn, A4, n4, c4, A6, n6, c6, A7, n7, c7, rfl⟩ := elS_shape hel
        obtain ⟨Ap, cp, hblk, _⟩ := hpt.blk
        have hbx := (Below.refl w4.heap.size w4).alloc (Nat.le_refl _) (.cells #[.int .i64 vk, .string vs4, .int .i64 vn, .slice A4 n4 c4, .slice A6 n6 c6, .slice A7 n7 c7] 45)
        have hblk2 := (hbx.block p (Array.getElem?_eq_some_iff.1 hblk).1).trans hblk
        have hX5 := (hbx.block _ (Array.getElem?_eq_some_iff.1 hX4).1).trans hX4
        have xp := cell_of_row _ p 0 _ _ _ hblk2
        have z0 := cell_of_row _ _ 0 _ _ _ hX5
        have z1 := cell_of_row _ _ 1 _ _ _ hX5
        have z2 := cell_of_row _ _ 2 _ _ _ hX5
        have z3 := cell_of_row _ _ 3 _ _ _ hX5
        have z4 := cell_of_row _ _ 4 _ _ _ hX5
        have z5 := cell_of_row _ _ 5 _ _ _ hX5
        simp only [List.getElem?_toArray, List.getElem?_cons_zero, List.getElem?_cons_succ] at xp z0 z1 z2 z3 z4 z5
        have q0 := frozen_of_row _ _ 0 _ _ hX5
        have q1 := frozen_of_row _ _ 1 _ _ hX5
        have q2 := frozen_of_row _ _ 2 _ _ hX5
        have q3 := frozen_of_row _ _ 3 _ _ hX5
        have q4 := frozen_of_row _ _ 4 _ _ hX5
        have q5 := frozen_of_row _ _ 5 _ _ hX5
        have HB5 := Lib.hid (HB4.out.trans (hbx.mono HB4.out.size))
        have HFd := Lib.hid (show (((((((w4.alloc (.cells #[.int .i64 vk, .string vs4, .int .i64 vn, .slice A4 n4 c4, .slice A6 n6 c6, .slice A7 n7 c7] 45)).setCell ⟨w.heap.size, 0, none⟩ (.int .i64 vk)).setCell ⟨w.heap.size, 1, none⟩ (.string vs4)).setCell ⟨w.heap.size, 2, none⟩ (.int .i64 vn)).setCell ⟨w.heap.size, 3, none⟩ (.slice A4 n4 c4)).setCell ⟨w.heap.size, 4, none⟩ (.slice A6 n6 c6)).setCell ⟨w.heap.size, 5, none⟩ (.slice A7 n7 c7)).heap[w.heap.size]? = some (.cells #[.int .i64 vk, .string vs4, .int .i64 vn, .slice A4 n4 c4, .slice A6 n6 c6, .slice A7 n7 c7] 45 (0, 0)) ∧ Below w.heap.size w (((((((w4.alloc (.cells #[.int .i64 vk, .string vs4, .int .i64 vn, .slice A4 n4 c4, .slice A6 n6 c6, .slice A7 n7 c7] 45)).setCell ⟨w.heap.size, 0, none⟩ (.int .i64 vk)).setCell ⟨w.heap.size, 1, none⟩ (.string vs4)).setCell ⟨w.heap.size, 2, none⟩ (.int .i64 vn)).setCell ⟨w.heap.size, 3, none⟩ (.slice A4 n4 c4)).setCell ⟨w.heap.size, 4, none⟩ (.slice A6 n6 c6)).setCell ⟨w.heap.size, 5, none⟩ (.slice A7 n7 c7)) ∧ ElS (((((((w4.alloc (.cells #[.int .i64 vk, .string vs4, .int .i64 vn, .slice A4 n4 c4, .slice A6 n6 c6, .slice A7 n7 c7] 45)).setCell ⟨w.heap.size, 0, none⟩ (.int .i64 vk)).setCell ⟨w.heap.size, 1, none⟩ (.string vs4)).setCell ⟨w.heap.size, 2, none⟩ (.int .i64 vn)).setCell ⟨w.heap.size, 3, none⟩ (.slice A4 n4 c4)).setCell ⟨w.heap.size, 4, none⟩ (.slice A6 n6 c6)).setCell ⟨w.heap.size, 5, none⟩ (.slice A7 n7 c7)) (NewS w.heap.size (((((((w4.alloc (.cells #[.int .i64 vk, .string vs4, .int .i64 vn, .slice A4 n4 c4, .slice A6 n6 c6, .slice A7 n7 c7] 45)).setCell ⟨w.heap.size, 0, none⟩ (.int .i64 vk)).setCell ⟨w.heap.size, 1, none⟩ (.string vs4)).setCell ⟨w.heap.size, 2, none⟩ (.int .i64 vn)).setCell ⟨w.heap.size, 3, none⟩ (.slice A4 n4 c4)).setCell ⟨w.heap.size, 4, none⟩ (.slice A6 n6 c6)).setCell ⟨w.heap.size, 5, none⟩ (.slice A7 n7 c7))) x [.int .i64 vk, .string vs4, .int .i64 vn, .slice A4 n4 c4, .slice A6 n6 c6, .slice A7 n7 c7] from
          ⟨sfill6 hX5 _ _ _ _ _ _, tbelow_set (tbelow_set (tbelow_set (tbelow_set (tbelow_set (tbelow_set HB5.out (Nat.le_refl _)) (Nat.le_refl _)) (Nat.le_refl _)) (Nat.le_refl _)) (Nat.le_refl _)) (Nat.le_refl _), by
            have hk : ∀ b, NewS w3.heap.size w4 b → (((((((w4.alloc (.cells #[.int .i64 vk, .string vs4, .int .i64 vn, .slice A4 n4 c4, .slice A6 n6 c6, .slice A7 n7 c7] 45)).setCell ⟨w.heap.size, 0, none⟩ (.int .i64 vk)).setCell ⟨w.heap.size, 1, none⟩ (.string vs4)).setCell ⟨w.heap.size, 2, none⟩ (.int .i64 vn)).setCell ⟨w.heap.size, 3, none⟩ (.slice A4 n4 c4)).setCell ⟨w.heap.size, 4, none⟩ (.slice A6 n6 c6)).setCell ⟨w.heap.size, 5, none⟩ (.slice A7 n7 c7)).heap[b]? = w4.heap[b]? := fun b hb => by
              have := hb.1
              have := HSz3.out
              rw [sfill6_off (by omega), hbx.block b hb.2.lt]
            exact elS_ok.move hel (fun b hb => ⟨by have := hb.1; have := HSz3.out; omega, hb.2.move (hk b hb)⟩) hk⟩)
        simp only [Option.bind_some] at HN
        cases hrest : rest with
        | nil =>
          have HNx := Lib.hid (HN.out.trans (if_pos hrest))
          rw [hrest, show ([] : List TokD).length = 0 from rfl] at xp
          clear hO hpt hblk hbx hblk2 hX4 hX5 hrest hel
          go_wp2_with fail
          refine (twant_yes _).mono ?_
          rintro e w5 ⟨rfl, rfl⟩
          go_wp2
          refine bodyPost_ret (v := .agg #[.int .i64 vk, .string vs4, .int .i64 vn, .slice A4 n4 c4, .slice A6 n6 c6, .slice A7 n7 c7]) (res_cell6 (j := 4) (b := w.heap.size) rfl rfl HFd.out.1) rfl ⟨HFd.out.2.1, ?_⟩
          rw [HNx.out]
          exact ⟨_, rfl, HFd.out.2.2⟩
        | cons t0 rest' =>
          have HNx := Lib.hid (HN.out.trans (if_neg (by rw [hrest]; simp)))
          have hne : (((rest.length : Nat) : Int) == 0) = false := by rw [beq_eq_false_iff_ne, hrest]; simp; omega
          clear hO hpt hblk hbx hblk2 hX4 hX5 hrest hel
          go_wp2_with fail
          refine (twant_no _).mono ?_
          rintro e w5 ⟨rfl, rfl⟩
          exact ⟨rfl, HB5.out, by rw [HNx.out]; rfl⟩
end Go.Proofs.YtbhdbglhejibbaaGreatDoor
namespace Go.Proofs.YtbhdbglhejibbaaGreatDoor
set_option maxRecDepth 100000
open Go.RowKit
set_option linter.unusedVariables false
theorem chkS_yes {k : Int} {s : ByteArray} {n : Int} {args : List ExprD} {one two : List StmtD} (h : stB k s n args.length one.length two.length = true) : chkS (.mk k s n args one two) = some (.mk k s n args one two) := by
  show (if stB k s n args.length one.length two.length = true then some (StmtD.mk k s n args one two) else none) = _
  rw [if_pos h]
theorem chkS_no {k : Int} {s : ByteArray} {n : Int} {args : List ExprD} {one two : List StmtD} (h : stB k s n args.length one.length two.length = false) : chkS (.mk k s n args one two) = none := by
  show (if stB k s n args.length one.length two.length = true then some (StmtD.mk k s n args one two) else none) = _
  rw [if_neg (by rw [h]; simp)]
theorem pSt_eq (t : TokD) : pSt t = (becS t).bind chkS := by
  cases t with
  | w s => unfold pSt; rw [pS_w]; rfl
  | l ts => exact pS_l ts
set_option maxHeartbeats 4000000 in
theorem stmt_one (R : RdC) (t : TokD) (ihS : ∀ ts, t = .l ts → ∀ u ∈ ts, RdSt R u) (ihB : ∀ ts, t = .l ts → ∀ u ∈ ts, RdBk R u) : RdSt R t := by
  intro hok hB w v hR hv
  have hb := (Below.refl w.heap.size w).alloc (Nat.le_refl _) (.cells #[.int .i64 0, .string ⟨#[]⟩, .int .i64 0, .slice none 0 0, .slice none 0 0, .slice none 0 0] 45)
  have h0 := heap_alloc_new w (.cells #[.int .i64 0, .string ⟨#[]⟩, .int .i64 0, .slice none 0 0, .slice none 0 0, .slice none 0 0] 45)
  have HBc := Lib.hid (becomeS_of R t hok hB ihS ihB _ v (hR.below hb) (hv.below hb))
  have HB := Lib.hid hb
  have HX := Lib.hid h0
  have HR := Lib.hid (hR.below hb)
  have i0 : (w.alloc (.cells #[.int .i64 0, .string ⟨#[]⟩, .int .i64 0, .slice none 0 0, .slice none 0 0, .slice none 0 0] 45)).cell? ⟨R.r, 2, none⟩ = some (.map (some R.rs)) := by rw [cell_of_row _ _ 2 _ _ _ (hR.below hb).blk]; rfl
  have hsz : (w.alloc (.cells #[.int .i64 0, .string ⟨#[]⟩, .int .i64 0, .slice none 0 0, .slice none 0 0, .slice none 0 0] 45)).heap.size = w.heap.size + 1 := by simp
  have HPE := Lib.hid (pSt_eq t)
  obtain ⟨a, q, c, rfl, _⟩ := hv
  clear hb h0 hR hok hB ihS ihB
  go_enter Tryz.func87, Tryz.ntmps87
  go_wp2_with fail
  generalize (w.alloc (.cells #[.int .i64 0, .string ⟨#[]⟩, .int .i64 0, .slice none 0 0, .slice none 0 0, .slice none 0 0] 45)) = W at *
  refine HBc.out.mono ?_
  rintro e w2 ⟨hb2, h2⟩
  have hg := (hb2.block _ (Array.getElem?_eq_some_iff.1 HX.out).1).trans HX.out
  have HB2 := Lib.hid (HB.out.trans (hb2.mono HB.out.size))
  cases hr : becS t with
  | none =>
    rw [hr] at h2
    have h2 : e = tlackP := h2
    subst h2
    exact ⟨rfl, HB2.out, by rw [HPE.out, hr]; rfl⟩
  | some x =>
    rw [hr] at h2
    obtain ⟨cs, rfl, hel⟩ := h2
    obtain ⟨kx, sx, nx, ax, ox, tx⟩ := x
    obtain ⟨A1, c1, A2, c2, A3, c3, rfl, hls, hA, hO, hT, hWx⟩ := hel
    have HEl := Lib.hid (show ElS w2 (NewS W.heap.size w2) (.mk kx sx nx ax ox tx) [.int .i64 kx, .string sx, .int .i64 nx, .slice A1 ax.length c1, .slice A2 ox.length c2, .slice A3 tx.length c3] from ⟨A1, c1, A2, c2, A3, c3, rfl, hls, hA, hO, hT, hWx⟩)
    have hbx := (Below.refl w2.heap.size w2).alloc (Nat.le_refl _) (.cells #[.int .i64 kx, .string sx, .int .i64 nx, .slice A1 ax.length c1, .slice A2 ox.length c2, .slice A3 tx.length c3] 45)
    have HR3 := Lib.hid ((HR.out.below hb2).below hbx)
    have HM := Lib.hid (mayStmt_any kx sx nx A1 A2 A3 ax.length c1 ox.length c2 tx.length c3 _ HR3.out.tabs)
    have HB3 := Lib.hid (HB2.out.trans (hbx.mono HB2.out.size))
    have HX3 := Lib.hid ((hbx.block _ (Array.getElem?_eq_some_iff.1 hg).1).trans hg)
    have HY3 := Lib.hid (heap_alloc_new w2 (.cells #[.int .i64 kx, .string sx, .int .i64 nx, .slice A1 ax.length c1, .slice A2 ox.length c2, .slice A3 tx.length c3] 45))
    have HP2 := Lib.hid (show pSt t = chkS (.mk kx sx nx ax ox tx) from by rw [HPE.out, hr]; rfl)
    have HS2 := Lib.hid (show w.heap.size < w2.heap.size from by have := (Array.getElem?_eq_some_iff.1 hg).1; omega)
    have HK3 := Lib.hid (show ∀ b, b < w2.heap.size → (w2.alloc (.cells #[.int .i64 kx, .string sx, .int .i64 nx, .slice A1 ax.length c1, .slice A2 ox.length c2, .slice A3 tx.length c3] 45)).heap[b]? = w2.heap[b]? from fun b hb => hbx.block b hb)
    clear hb2 hbx hg hr hls hA hO hT hWx
    go_wp2_with fail
    refine HM.out.mono ?_
    rintro e w4 ⟨rfl, hb4⟩
    have hg1 := (hb4.block _ (Array.getElem?_eq_some_iff.1 HX3.out).1).trans HX3.out
    have hg2 := (hb4.block _ (Array.getElem?_eq_some_iff.1 HY3.out).1).trans HY3.out
    have HB4 := Lib.hid (HB3.out.trans (hb4.mono HB3.out.size))
    cases hx : stB kx sx nx ax.length ox.length tx.length with
    | false =>
      have HN := Lib.hid (HP2.out.trans (chkS_no hx))
      clear hb4 hg1 hg2 hx
      go_wp2_with fail
      refine (twant_no _).mono ?_
      rintro e w5 ⟨rfl, rfl⟩
      exact ⟨rfl, HB4.out, by rw [HN.out]; rfl⟩
    | true =>
      have HN := Lib.hid (HP2.out.trans (chkS_yes hx))
      have hk : ∀ b, NewS W.heap.size w2 b → ((((((w4.setCell ⟨w.heap.size, 0, none⟩ (.int .i64 kx)).setCell ⟨w.heap.size, 1, none⟩ (.string sx)).setCell ⟨w.heap.size, 2, none⟩ (.int .i64 nx)).setCell ⟨w.heap.size, 3, none⟩ (.slice A1 ax.length c1)).setCell ⟨w.heap.size, 4, none⟩ (.slice A2 ox.length c2)).setCell ⟨w.heap.size, 5, none⟩ (.slice A3 tx.length c3)).heap[b]? = w2.heap[b]? := fun b hb => by
        have := hb.1
        have hlt := hb.2.lt
        rw [sfill6_off (by omega), hb4.block b (by simp; omega), HK3.out b hlt]
      have HFd := Lib.hid (show ((((((w4.setCell ⟨w.heap.size, 0, none⟩ (.int .i64 kx)).setCell ⟨w.heap.size, 1, none⟩ (.string sx)).setCell ⟨w.heap.size, 2, none⟩ (.int .i64 nx)).setCell ⟨w.heap.size, 3, none⟩ (.slice A1 ax.length c1)).setCell ⟨w.heap.size, 4, none⟩ (.slice A2 ox.length c2)).setCell ⟨w.heap.size, 5, none⟩ (.slice A3 tx.length c3)).heap[w.heap.size]? = some (.cells #[.int .i64 kx, .string sx, .int .i64 nx, .slice A1 ax.length c1, .slice A2 ox.length c2, .slice A3 tx.length c3] 45 (0, 0)) ∧ Below w.heap.size w ((((((w4.setCell ⟨w.heap.size, 0, none⟩ (.int .i64 kx)).setCell ⟨w.heap.size, 1, none⟩ (.string sx)).setCell ⟨w.heap.size, 2, none⟩ (.int .i64 nx)).setCell ⟨w.heap.size, 3, none⟩ (.slice A1 ax.length c1)).setCell ⟨w.heap.size, 4, none⟩ (.slice A2 ox.length c2)).setCell ⟨w.heap.size, 5, none⟩ (.slice A3 tx.length c3)) ∧ ElS ((((((w4.setCell ⟨w.heap.size, 0, none⟩ (.int .i64 kx)).setCell ⟨w.heap.size, 1, none⟩ (.string sx)).setCell ⟨w.heap.size, 2, none⟩ (.int .i64 nx)).setCell ⟨w.heap.size, 3, none⟩ (.slice A1 ax.length c1)).setCell ⟨w.heap.size, 4, none⟩ (.slice A2 ox.length c2)).setCell ⟨w.heap.size, 5, none⟩ (.slice A3 tx.length c3)) (NewS w.heap.size ((((((w4.setCell ⟨w.heap.size, 0, none⟩ (.int .i64 kx)).setCell ⟨w.heap.size, 1, none⟩ (.string sx)).setCell ⟨w.heap.size, 2, none⟩ (.int .i64 nx)).setCell ⟨w.heap.size, 3, none⟩ (.slice A1 ax.length c1)).setCell ⟨w.heap.size, 4, none⟩ (.slice A2 ox.length c2)).setCell ⟨w.heap.size, 5, none⟩ (.slice A3 tx.length c3))) (.mk kx sx nx ax ox tx) [.int .i64 kx, .string sx, .int .i64 nx, .slice A1 ax.length c1, .slice A2 ox.length c2, .slice A3 tx.length c3] from
        ⟨sfill6 hg1 _ _ _ _ _ _, tbelow_set (tbelow_set (tbelow_set (tbelow_set (tbelow_set (tbelow_set HB4.out (Nat.le_refl _)) (Nat.le_refl _)) (Nat.le_refl _)) (Nat.le_refl _)) (Nat.le_refl _)) (Nat.le_refl _),
          elS_ok.move HEl.out (fun b hb => ⟨by have := hb.1; omega, hb.2.move (hk b hb)⟩) hk⟩)
      have z0 := cell_of_row w4 _ 0 _ _ _ hg1
      have z1 := cell_of_row w4 _ 1 _ _ _ hg1
      have z2 := cell_of_row w4 _ 2 _ _ _ hg1
      have z3 := cell_of_row w4 _ 3 _ _ _ hg1
      have z4 := cell_of_row w4 _ 4 _ _ _ hg1
      have z5 := cell_of_row w4 _ 5 _ _ _ hg1
      have x0 := cell_of_row w4 _ 0 _ _ _ hg2
      have x1 := cell_of_row w4 _ 1 _ _ _ hg2
      have x2 := cell_of_row w4 _ 2 _ _ _ hg2
      have x3 := cell_of_row w4 _ 3 _ _ _ hg2
      have x4 := cell_of_row w4 _ 4 _ _ _ hg2
      have x5 := cell_of_row w4 _ 5 _ _ _ hg2
      simp only [List.getElem?_toArray, List.getElem?_cons_zero, List.getElem?_cons_succ] at z0 z1 z2 z3 z4 z5 x0 x1 x2 x3 x4 x5
      have q0 := frozen_of_row w4 _ 0 _ _ hg1
      have q1 := frozen_of_row w4 _ 1 _ _ hg1
      have q2 := frozen_of_row w4 _ 2 _ _ hg1
      have q3 := frozen_of_row w4 _ 3 _ _ hg1
      have q4 := frozen_of_row w4 _ 4 _ _ hg1
      have q5 := frozen_of_row w4 _ 5 _ _ hg1
      clear hb4 hg1 hg2 hx hk
      go_wp2_with fail
      refine (twant_yes _).mono ?_
      rintro e w5 ⟨rfl, rfl⟩
      go_wp2
      refine bodyPost_ret (v := .agg #[.int .i64 kx, .string sx, .int .i64 nx, .slice A1 ax.length c1, .slice A2 ox.length c2, .slice A3 tx.length c3]) (res_cell6 (j := 4) (b := w.heap.size) rfl rfl HFd.out.1) rfl ⟨HFd.out.2.1, ?_⟩
      rw [HN.out]
      exact ⟨_, rfl, HFd.out.2.2⟩
theorem rdStmt_any (R : RdC) (t : TokD) : RdSt R t ∧ RdBk R t := by
  revert t
  refine TokD.ind ?_ ?_
  · intro s
    exact ⟨stmt_one R (.w s) (fun ts e => by cases e) (fun ts e => by cases e), block_no R s⟩
  · intro ts ih
    exact ⟨stmt_one R (.l ts) (fun ts' e u hu => by cases e; exact (ih u hu).1) (fun ts' e u hu => by cases e; exact (ih u hu).2), block_yes R ts fun u hu => (ih u hu).1⟩
end Go.Proofs.YtbhdbglhejibbaaGreatDoor
namespace Go.Proofs.YtbhdbglhejibbaaGreatDoor
set_option maxRecDepth 100000
open Go.RowKit
set_option linter.unusedVariables false
def LsA (B : Nat) (w : World) (xs : List ArrD) (v : Value) : Prop := ∃ A c, v = .slice A xs.length c ∧ xs.length ≤ c ∧ c ≤ maxLen ∧ ArrsAt w (NewS B w) xs A ∧ ∀ x ∈ xs, ArrW x
def LsF (B : Nat) (w : World) (xs : List FunD) (v : Value) : Prop := ∃ A c, v = .slice A xs.length c ∧ xs.length ≤ c ∧ c ≤ maxLen ∧ FunsAt w (NewS B w) xs A ∧ ∀ x ∈ xs, FunW x
/-- what reading an item of a source hands back -/
def ReadQP (w : World) (p : Nat) (r : Option (ProD × List TokD)) (e : Ending) (w' : World) : Prop := But p w w' ∧ match r with
  | none => e = tlackP
  | some y => ∃ v1 v2, e = .returned (.agg #[v1, v2]) ∧ PtAt w' p y.2 ∧ LsA w.heap.size w' y.1.1 v1 ∧ LsF w.heap.size w' y.1.2 v2
def rdA (ts : List TokD) : Option (ProD × List TokD) := match wdF ts with
  | none => none
  | some x => match cnF x.2 with
    | none => none
    | some y => if arrB (x.1, y.1) = true then some (([(x.1, y.1)], []), y.2) else none
theorem res_cell2P {fn : Func} {T : Array Value} {j b : Nat} {W : World} {v0 v1 : Value} {ty : TypeId} (hf : fn.results = #[.cell j 25]) (h2 : T[j]? = some (.pointer (some ⟨b, 0, none⟩))) (hr : W.heap[b]? = some (.cells #[v0, v1] ty (0, 0))) :
    (results fn T).run Tryz.prog W = .ok (.agg #[v0, v1]) W := by
  have y0 := cell_of_row W b 0 _ _ _ hr
  have y1 := cell_of_row W b 1 _ _ _ hr
  simp only [List.getElem?_toArray, List.getElem?_cons_zero, List.getElem?_cons_succ] at y0 y1
  simp [results, hf, go_sem, h2, y0, y1]
theorem sfill2 {W : World} {b : Nat} {a0 a1 : Value} {T : TypeId} (h : W.heap[b]? = some (.cells #[a0, a1] T (0, 0))) (v0 v1 : Value) :
    ((W.setCell ⟨b, 0, none⟩ v0).setCell ⟨b, 1, none⟩ v1).heap[b]? = some (.cells #[v0, v1] T (0, 0)) := by
  rw [heap_setCell_same _ b 1 _ _ _ (heap_setCell_same W b 0 _ _ _ h)]
  rfl
theorem sfill2_off {W : World} {b g : Nat} (h : b ≠ g) (v0 v1 : Value) : ((W.setCell ⟨g, 0, none⟩ v0).setCell ⟨g, 1, none⟩ v1).heap[b]? = W.heap[b]? := by
  rw [heap_set_off h, heap_set_off h]
set_option maxHeartbeats 2000000 in
theorem secret_any (R : RdC) (ts : List TokD) (p : Nat) (w : World) (hR : RdIs R w) (hp : R.top ≤ p) (h : PtAt w p ts) :
    Calls Tryz.prog 50 #[.pointer (some ⟨R.r, 0, none⟩), .pointer (some ⟨p, 0, none⟩)] w (ReadQP w p (rdA ts)) := by
  obtain ⟨h1, h2, hbl, hsz⟩ := two_new w (.cells #[.slice none 0 0, .slice none 0 0] 25) (.cells #[.string ⟨#[]⟩, .int .i64 0] 55)
  have HW := Lib.hid (pword_any p ts _ (h.below hbl))
  have HB := Lib.hid hbl
  have HX := Lib.hid (And.intro h1 h2)
  have hlt := h.lt
  have HF := Lib.hid h.few
  have HRd := Lib.hid (And.intro (hR.below hbl) hp)
  clear h1 h2 hbl hsz h hR hp
  go_enter Tryz.func50, Tryz.ntmps50
  go_wp2_with fail
  generalize ((w.alloc (.cells #[.slice none 0 0, .slice none 0 0] 25)).alloc (.cells #[.string ⟨#[]⟩, .int .i64 0] 55)) = W at *
  refine HW.out.mono ?_
  rintro e w2 ⟨hO, h2⟩
  have HO := Lib.hid ((But.of_below (p := p) HB.out).trans hO)
  cases hw : wdF ts with
  | none =>
    rw [hw] at h2
    have h2 : e = tlackP := h2
    subst h2
    exact ⟨rfl, HO.out, by unfold rdA; rw [hw]; rfl⟩
  | some sx =>
    obtain ⟨s, us⟩ := sx
    rw [hw] at h2
    obtain ⟨rfl, hP⟩ := h2
    have hg1 := (hO.block _ (Array.getElem?_eq_some_iff.1 HX.out.1).1 (by omega)).trans HX.out.1
    have hg2 := (hO.block _ (Array.getElem?_eq_some_iff.1 HX.out.2).1 (by omega)).trans HX.out.2
    have HS := Lib.hid (word_size HF.out hw)
    have HRD := Lib.hid (show rdA ts = (match cnF us with
      | none => none
      | some y => if arrB (s, y.1) = true then some (([(s, y.1)], []), y.2) else none) from by unfold rdA; rw [hw])
    have HR3 := Lib.hid (HRd.out.1.move ((But.low hO HRd.out.2 HRd.out.1.top).setCell (p := ⟨w.heap.size + 1, 0, none⟩) (by have := HRd.out.2; show R.top ≤ w.heap.size + 1; omega) (.string s)))
    have HP3 := Lib.hid (show PtAt (w2.setCell ⟨w.heap.size + 1, 0, none⟩ (.string s)) p us from hP.keep fun b hb => heap_set_off (by omega))
    have HO3 := Lib.hid (But.set (b := w.heap.size + 1) (o := 0) (v := .string s) HO.out (by omega))
    have HG3 := Lib.hid (show (w2.setCell ⟨w.heap.size + 1, 0, none⟩ (.string s)).heap[w.heap.size]? = some (.cells #[.slice none 0 0, .slice none 0 0] 25 (0, 0)) ∧ (w2.setCell ⟨w.heap.size + 1, 0, none⟩ (.string s)).heap[w.heap.size + 1]? = some (.cells #[.string s, .int .i64 0] 55 (0, 0)) from
      ⟨by rw [heap_set_off (by omega)]; exact hg1, by rw [heap_setCell_same _ _ 0 _ _ _ hg2]; rfl⟩)
    have HC := Lib.hid (pcount_any R p us _ HR3.out HRd.out.2 HP3.out)
    have y0 := cell_of_row w2 _ 0 _ _ _ hg2
    have f0 := frozen_of_row w2 _ 0 _ _ hg2
    simp only [List.getElem?_toArray, List.getElem?_cons_zero] at y0
    clear hO hP hg1 hg2 hw
    go_wp2_with fail
    refine HC.out.mono ?_
    rintro e w3 ⟨hO, h3⟩
    cases hc : cnF us with
    | none =>
      rw [hc] at h3
      have h3 : e = tlackP := h3
      subst h3
      exact ⟨rfl, HO3.out.trans hO, by rw [HRD.out, hc]; rfl⟩
    | some nx =>
      obtain ⟨n, vs⟩ := nx
      rw [hc] at h3
      obtain ⟨rfl, hP⟩ := h3
      have hn := cnF_some hc
      have HN := Lib.hid (show fitsI n from by obtain ⟨_, _, h1, h2⟩ := hn; unfold fitsI; omega)
      have HRr := Lib.hid (show rdA ts = (if arrB (s, n) = true then some (([(s, n)], []), vs) else none) from by rw [HRD.out, hc])
      have hg1 := (hO.block _ (Array.getElem?_eq_some_iff.1 HG3.out.1).1 (by omega)).trans HG3.out.1
      have hg2 := (hO.block _ (Array.getElem?_eq_some_iff.1 HG3.out.2).1 (by omega)).trans HG3.out.2
      have HO4 := Lib.hid (But.set (b := w.heap.size + 1) (o := 1) (v := .int .i64 n) (HO3.out.trans hO) (by omega))
      have HP4 := Lib.hid (show PtAt (w3.setCell ⟨w.heap.size + 1, 1, none⟩ (.int .i64 n)) p vs from hP.keep fun b hb => heap_set_off (by omega))
      have HG4 := Lib.hid (show (w3.setCell ⟨w.heap.size + 1, 1, none⟩ (.int .i64 n)).heap[w.heap.size]? = some (.cells #[.slice none 0 0, .slice none 0 0] 25 (0, 0)) ∧ (w3.setCell ⟨w.heap.size + 1, 1, none⟩ (.int .i64 n)).heap[w.heap.size + 1]? = some (.cells #[.string s, .int .i64 n] 55 (0, 0)) from
        ⟨by rw [heap_set_off (by omega)]; exact hg1, by rw [heap_setCell_same _ _ 1 _ _ _ hg2]; rfl⟩)
      have HM := Lib.hid (mayArray_any (s, n) (w3.setCell ⟨w.heap.size + 1, 1, none⟩ (.int .i64 n)))
      have y0 := cell_of_row w3 _ 0 _ _ _ hg2
      have y1 := cell_of_row w3 _ 1 _ _ _ hg2
      simp only [List.getElem?_toArray, List.getElem?_cons_zero, List.getElem?_cons_succ] at y0 y1
      have f1 := frozen_of_row w3 _ 1 _ _ hg2
      clear hO hP hg1 hg2 hc hn
      go_wp2_with fail
      refine HM.out.mono ?_
      rintro e w4 ⟨rfl, hb4⟩
      have hg1 := (hb4.block _ (Array.getElem?_eq_some_iff.1 HG4.out.1).1).trans HG4.out.1
      have hg2 := (hb4.block _ (Array.getElem?_eq_some_iff.1 HG4.out.2).1).trans HG4.out.2
      have HO5 := Lib.hid (HO4.out.trans (But.of_below (p := p) hb4))
      have HP5 := Lib.hid (HP4.out.below hb4)
      cases hx : arrB (s, n) with
      | false =>
        have HN2 := Lib.hid (show rdA ts = none from HRr.out.trans (by rw [if_neg (by rw [hx]; simp)]))
        clear hb4 hg1 hg2 hx
        go_wp2_with fail
        refine (twant_no _).mono ?_
        rintro e w5 ⟨rfl, rfl⟩
        exact ⟨rfl, HO5.out, by rw [HN2.out]; rfl⟩
      | true =>
        have HN2 := Lib.hid (show rdA ts = some (([(s, n)], []), vs) from HRr.out.trans (by rw [if_pos hx]))
        have hbx := (Below.refl w4.heap.size w4).alloc (Nat.le_refl _) (.cells #[.string s, .int .i64 n] 55)
        have hgx := (hbx.block _ (Array.getElem?_eq_some_iff.1 hg1).1).trans hg1
        have HG5 := Lib.hid hgx
        have HBx := Lib.hid hbx
        have HNx := Lib.hid (heap_alloc_new w4 (.cells #[.string s, .int .i64 n] 55))
        have HSz := Lib.hid (show w.heap.size < w4.heap.size from (Array.getElem?_eq_some_iff.1 hg1).1)
        have z0 := cell_of_row _ _ 0 _ _ _ hgx
        have z1 := cell_of_row _ _ 1 _ _ _ hgx
        have x0 := cell_of_row w4 _ 0 _ _ _ hg2
        have x1 := cell_of_row w4 _ 1 _ _ _ hg2
        simp only [List.getElem?_toArray, List.getElem?_cons_zero, List.getElem?_cons_succ] at z0 z1 x0 x1
        have q0 := frozen_of_row _ _ 0 _ _ hgx
        have q1 := frozen_of_row _ _ 1 _ _ hgx
        clear hbx hgx
        clear hb4 hg1 hg2 hx
        go_wp2_with fail
        refine (twant_yes _).mono ?_
        rintro e w5 ⟨rfl, rfl⟩
        go_wp2
        have HK := Lib.hid (show ∀ b, b ≠ w.heap.size → (((w4.alloc (.cells #[.string s, .int .i64 n] 55)).setCell ⟨w.heap.size, 0, none⟩ (.slice (some ⟨w4.heap.size, 0, none⟩) 1 1)).setCell ⟨w.heap.size, 1, none⟩ (.slice none 0 0)).heap[b]? = (w4.alloc (.cells #[.string s, .int .i64 n] 55)).heap[b]? from fun b hb => sfill2_off hb _ _)
        refine bodyPost_ret (v := .agg #[.slice (some ⟨w4.heap.size, 0, none⟩) 1 1, .slice none 0 0]) (res_cell2P (j := 4) (b := w.heap.size) rfl rfl (sfill2 HG5.out _ _)) rfl ⟨But.set (But.set (HO5.out.trans (But.of_below (p := p) HBx.out)) (Nat.le_refl _)) (Nat.le_refl _), ?_⟩
        rw [HN2.out]
        have hnew := (HK.out w4.heap.size (by have := HSz.out; omega)).trans HNx.out
        refine ⟨_, _, rfl, (HP5.out.below HBx.out).keep (fun b hb => HK.out b (by omega)), ⟨_, 1, rfl, Nat.le_refl _, by unfold maxLen; omega, Or.inr ⟨_, 0, rfl, ⟨Nat.le_of_lt HSz.out, ⟨_, _, hnew⟩⟩, ?_⟩, ?_⟩, ⟨_, 0, rfl, Nat.le_refl _, Nat.zero_le _, Or.inl rfl, by simp⟩⟩
        · intro i hi
          have : i = 0 := by simp at hi; exact hi
          subst this
          have y0 := cell_of_row _ _ 0 _ _ _ hnew
          have y1 := cell_of_row _ _ 1 _ _ _ hnew
          exact ⟨y0, y1⟩
        · intro x hx
          simp at hx
          subst hx
          exact ⟨by have := HS.out; show s.size ≤ maxLen; unfold maxLen; omega, HN.out⟩
end Go.Proofs.YtbhdbglhejibbaaGreatDoor
namespace Go.Proofs.YtbhdbglhejibbaaGreatDoor
set_option maxRecDepth 100000
open Go.RowKit
set_option linter.unusedVariables false
theorem LsP.keep {B : Nat} {w w' : World} {xs : List ParD} {v : Value} (h : LsP B w xs v) (hk : ∀ b, B ≤ b → b < w.heap.size → w'.heap[b]? = w.heap[b]?) : LsP B w' xs v := by
  obtain ⟨A, c, h1, h2, h3, h4, h5⟩ := h
  have hk' : ∀ b, NewS B w b → w'.heap[b]? = w.heap[b]? := fun b hb => hk b hb.1 (by obtain ⟨_, _, _, q⟩ := hb; exact (Array.getElem?_eq_some_iff.1 q).1)
  exact ⟨A, c, h1, h2, h3, h4.move (fun b hb => ⟨hb.1, by obtain ⟨cs, T, q⟩ := hb.2; exact ⟨cs, T, (hk' b hb).trans q⟩⟩) hk', h5⟩
theorem LsP.base {B B' : Nat} {w : World} {xs : List ParD} {v : Value} (h : LsP B w xs v) (hb : B' ≤ B) : LsP B' w xs v := by
  obtain ⟨A, c, h1, h2, h3, h4, h5⟩ := h
  exact ⟨A, c, h1, h2, h3, h4.move (fun b hb' => ⟨Nat.le_trans hb hb'.1, hb'.2⟩) (fun b _ => rfl), h5⟩
theorem LsP.nil {B : Nat} {w : World} {A : Option Addr} : LsP B w [] (.slice A 0 0) := ⟨A, 0, rfl, Nat.le_refl _, Nat.zero_le _, .inl rfl, by simp⟩
def rdF (out : Bool) (ts : List TokD) : Option (ProD × List TokD) := match wdF ts with
  | none => none
  | some x => match x.2 with
    | [] => none
    | .w _ :: _ => none
    | .l ps :: us => match allO (ps.map pP) with
      | none => none
      | some pars => match allO (us.map pSt) with
        | none => none
        | some body => if funB x.1 pars.length = true then some (([], [(x.1, out, pars, body)]), []) else none
/-- where the reading of a function stands -/
structure FnE (w : World) (p : Nat) (ts : List TokD) (nm : ByteArray) (out : Bool) (ps : List ParD) (bs : List StmtD) (w' : World) : Prop where
  but : But p w w'
  plt : p < w.heap.size
  res : w'.heap[w.heap.size]? = some (.cells #[.slice none 0 0, .slice none 0 0] 25 (0, 0))
  row : ∃ A1 c1 A2 c2, w'.heap[w.heap.size + 1]? = some (.cells #[.string nm, .bool out, .slice A1 ps.length c1, .slice A2 bs.length c2] 48 (0, 0)) ∧ LsP (w.heap.size + 1 + 1) w' ps (.slice A1 ps.length c1) ∧ LsS (w.heap.size + 1 + 1) w' bs (.slice A2 bs.length c2)
  parts : PtAt w' p ts
theorem FnE.step {w w1 w2 : World} {p : Nat} {ts us : List TokD} {nm : ByteArray} {out : Bool} {ps : List ParD} {bs : List StmtD} (h : FnE w p ts nm out ps bs w1) (hO : But p w1 w2) (hp : PtAt w2 p us) : FnE w p us nm out ps bs w2 where
  but := h.but.trans hO
  plt := h.plt
  res := (hO.block _ (Array.getElem?_eq_some_iff.1 h.res).1 (by have := h.plt; omega)).trans h.res
  row := by
    obtain ⟨A1, c1, A2, c2, h1, h2, h3⟩ := h.row
    have hlt := h.plt
    exact ⟨A1, c1, A2, c2, (hO.block _ (Array.getElem?_eq_some_iff.1 h1).1 (by omega)).trans h1, h2.keep (fun b hb hl => hO.block b hl (by omega)), h3.keep (fun b hb hl => hO.block b hl (by omega))⟩
  parts := hp
theorem FnE.below {w w1 w2 : World} {p : Nat} {ts : List TokD} {nm : ByteArray} {out : Bool} {ps : List ParD} {bs : List StmtD} (h : FnE w p ts nm out ps bs w1) (hb : Below w1.heap.size w1 w2) : FnE w p ts nm out ps bs w2 := h.step (But.of_below hb) (h.parts.below hb)
theorem FnE.name {w w1 : World} {p : Nat} {ts : List TokD} {nm s : ByteArray} {out : Bool} {ps : List ParD} {bs : List StmtD} (h : FnE w p ts nm out ps bs w1) : FnE w p ts s out ps bs (w1.setCell ⟨w.heap.size + 1, 0, none⟩ (.string s)) := by
  obtain ⟨A1, c1, A2, c2, h1, h2, h3⟩ := h.row
  have hlt := h.plt
  have hk : ∀ b, b ≠ w.heap.size + 1 → (w1.setCell ⟨w.heap.size + 1, 0, none⟩ (.string s)).heap[b]? = w1.heap[b]? := fun b hb => heap_set_off hb
  exact ⟨But.set h.but (by omega), hlt, (hk _ (by omega)).trans h.res, ⟨A1, c1, A2, c2, by rw [heap_setCell_same _ _ 0 _ _ _ h1]; rfl, h2.keep (fun b hb _ => hk b (by omega)), h3.keep (fun b hb _ => hk b (by omega))⟩, h.parts.keep fun b hb => hk b (by omega)⟩
theorem FnE.pars {w w1 : World} {p : Nat} {ts : List TokD} {nm : ByteArray} {out : Bool} {ps qs : List ParD} {bs : List StmtD} {A : Option Addr} {c : Nat} (h : FnE w p ts nm out ps bs w1) (hq : LsP (w.heap.size + 1 + 1) w1 qs (.slice A qs.length c)) : FnE w p ts nm out qs bs (w1.setCell ⟨w.heap.size + 1, 2, none⟩ (.slice A qs.length c)) := by
  obtain ⟨A1, c1, A2, c2, h1, h2, h3⟩ := h.row
  have hlt := h.plt
  have hk : ∀ b, b ≠ w.heap.size + 1 → (w1.setCell ⟨w.heap.size + 1, 2, none⟩ (.slice A qs.length c)).heap[b]? = w1.heap[b]? := fun b hb => heap_set_off hb
  exact ⟨But.set h.but (by omega), hlt, (hk _ (by omega)).trans h.res, ⟨A, c, A2, c2, by rw [heap_setCell_same _ _ 2 _ _ _ h1]; rfl, hq.keep (fun b hb _ => hk b (by omega)), h3.keep (fun b hb _ => hk b (by omega))⟩, h.parts.keep fun b hb => hk b (by omega)⟩
theorem FnE.body {w w1 : World} {p : Nat} {ts : List TokD} {nm : ByteArray} {out : Bool} {ps : List ParD} {bs ds : List StmtD} {A : Option Addr} {c : Nat} (h : FnE w p ts nm out ps bs w1) (hq : LsS (w.heap.size + 1 + 1) w1 ds (.slice A ds.length c)) : FnE w p ts nm out ps ds (w1.setCell ⟨w.heap.size + 1, 3, none⟩ (.slice A ds.length c)) := by
  obtain ⟨A1, c1, A2, c2, h1, h2, h3⟩ := h.row
  have hlt := h.plt
  have hk : ∀ b, b ≠ w.heap.size + 1 → (w1.setCell ⟨w.heap.size + 1, 3, none⟩ (.slice A ds.length c)).heap[b]? = w1.heap[b]? := fun b hb => heap_set_off hb
  exact ⟨But.set h.but (by omega), hlt, (hk _ (by omega)).trans h.res, ⟨A1, c1, A, c, by rw [heap_setCell_same _ _ 3 _ _ _ h1]; rfl, h2.keep (fun b hb _ => hk b (by omega)), hq.keep (fun b hb _ => hk b (by omega))⟩, h.parts.keep fun b hb => hk b (by omega)⟩
/-- the world in which a function is handed back -/
def endW (w w1 : World) (cs : Array Value) : World := ((w1.alloc (.cells cs 48)).setCell ⟨w.heap.size, 0, none⟩ (.slice none 0 0)).setCell ⟨w.heap.size, 1, none⟩ (.slice (some ⟨w1.heap.size, 0, none⟩) 1 1)
theorem FnE.done {w w1 : World} {p : Nat} {nm : ByteArray} {out : Bool} {ps : List ParD} {bs : List StmtD} {A1 A2 : Option Addr} {c1 c2 : Nat} (h : FnE w p [] nm out ps bs w1) (hnm : nm.size ≤ 100000)
    (h1 : w1.heap[w.heap.size + 1]? = some (.cells #[.string nm, .bool out, .slice A1 ps.length c1, .slice A2 bs.length c2] 48 (0, 0))) (h2 : LsP (w.heap.size + 1 + 1) w1 ps (.slice A1 ps.length c1)) (h3 : LsS (w.heap.size + 1 + 1) w1 bs (.slice A2 bs.length c2)) :
    But p w (endW w w1 #[.string nm, .bool out, .slice A1 ps.length c1, .slice A2 bs.length c2]) ∧ PtAt (endW w w1 #[.string nm, .bool out, .slice A1 ps.length c1, .slice A2 bs.length c2]) p [] ∧
    LsF w.heap.size (endW w w1 #[.string nm, .bool out, .slice A1 ps.length c1, .slice A2 bs.length c2]) [(nm, out, ps, bs)] (.slice (some ⟨w1.heap.size, 0, none⟩) 1 1) ∧
    (endW w w1 #[.string nm, .bool out, .slice A1 ps.length c1, .slice A2 bs.length c2]).heap[w.heap.size]? = some (.cells #[.slice none 0 0, .slice (some ⟨w1.heap.size, 0, none⟩) 1 1] 25 (0, 0)) := by
  have hlt := h.plt
  have hlt1 : w.heap.size + 1 < w1.heap.size := (Array.getElem?_eq_some_iff.1 h1).1
  have hbx := (Below.refl w1.heap.size w1).alloc (Nat.le_refl _) (.cells #[.string nm, .bool out, .slice A1 ps.length c1, .slice A2 bs.length c2] 48)
  have hres := (hbx.block _ (Array.getElem?_eq_some_iff.1 h.res).1).trans h.res
  have hnew := heap_alloc_new w1 (.cells #[.string nm, .bool out, .slice A1 ps.length c1, .slice A2 bs.length c2] 48)
  have hk : ∀ b, b ≠ w.heap.size → (endW w w1 #[.string nm, .bool out, .slice A1 ps.length c1, .slice A2 bs.length c2]).heap[b]? = (w1.alloc (.cells #[.string nm, .bool out, .slice A1 ps.length c1, .slice A2 bs.length c2] 48)).heap[b]? := fun b hb => sfill2_off hb _ _
  have hk1 : ∀ b, b ≠ w.heap.size → b < w1.heap.size → (endW w w1 #[.string nm, .bool out, .slice A1 ps.length c1, .slice A2 bs.length c2]).heap[b]? = w1.heap[b]? := fun b hb hl => (hk b hb).trans (hbx.block b hl)
  have hg := (hk w1.heap.size (by omega)).trans hnew
  have hP := (h2.keep (w' := endW w w1 #[.string nm, .bool out, .slice A1 ps.length c1, .slice A2 bs.length c2]) (fun b hb hl => hk1 b (by omega) hl)).base (B' := w.heap.size) (by omega)
  have hS := (h3.keep (w' := endW w w1 #[.string nm, .bool out, .slice A1 ps.length c1, .slice A2 bs.length c2]) (fun b hb hl => hk1 b (by omega) hl)).base (B' := w.heap.size) (by omega)
  obtain ⟨_, _, q1, q2, q3, q4, q5⟩ := hP
  obtain ⟨_, _, r1, r2, r3, r4, r5⟩ := hS
  injection q1 with e1 e2 e3
  injection r1 with g1 g2 g3
  subst e1 e3 g1 g3
  refine ⟨But.set (But.set (h.but.trans (But.of_below hbx)) (Nat.le_refl _)) (Nat.le_refl _), h.parts.keep (fun b hb => hk1 b (by omega) (by omega)), ⟨_, 1, rfl, Nat.le_refl _, by unfold maxLen; omega, .inr ⟨_, 0, rfl, ⟨by omega, ⟨_, _, hg⟩⟩, ?_⟩, ?_⟩, sfill2 hres _ _⟩
  · intro i hi
    have : i = 0 := by simp at hi; exact hi
    subst this
    have y0 := cell_of_row _ _ 0 _ _ _ hg
    have y1 := cell_of_row _ _ 1 _ _ _ hg
    have y2 := cell_of_row _ _ 2 _ _ _ hg
    have y3 := cell_of_row _ _ 3 _ _ _ hg
    exact ⟨y0, y1, ⟨_, _, y2, q2, q4⟩, ⟨_, _, y3, r2, r4⟩⟩
  · intro x hx
    simp at hx
    subst hx
    exact ⟨by show nm.size ≤ maxLen; unfold maxLen; omega, ⟨Nat.le_trans q2 q3, q5⟩, Nat.le_trans r2 r3, r5⟩
end Go.Proofs.YtbhdbglhejibbaaGreatDoor
namespace Go.Proofs.YtbhdbglhejibbaaGreatDoor
set_option maxRecDepth 100000
open Go.RowKit
set_option linter.unusedVariables false
theorem rdF_none {out : Bool} {ts : List TokD} (h : wdF ts = none) : rdF out ts = none := by unfold rdF; rw [h]
theorem rdF_end {out : Bool} {ts : List TokD} {s : ByteArray} (h : wdF ts = some (s, [])) : rdF out ts = none := by unfold rdF; rw [h]
theorem rdF_word {out : Bool} {ts us : List TokD} {s q : ByteArray} (h : wdF ts = some (s, .w q :: us)) : rdF out ts = none := by unfold rdF; rw [h]
theorem rdF_list {out : Bool} {ts us ps : List TokD} {s : ByteArray} (h : wdF ts = some (s, .l ps :: us)) : rdF out ts = match allO (ps.map pP) with
      | none => none
      | some pars => match allO (us.map pSt) with
        | none => none
        | some body => if funB s pars.length = true then some (([], [(s, out, pars, body)]), []) else none := by unfold rdF; rw [h] <;> rfl
set_option maxHeartbeats 4000000 in
theorem function_any (R : RdC) (out : Bool) (ts : List TokD) (p : Nat) (w : World) (hR : RdIs R w) (hp : R.top ≤ p) (h : PtAt w p ts) :
    Calls Tryz.prog 83 #[.pointer (some ⟨R.r, 0, none⟩), .pointer (some ⟨p, 0, none⟩), .bool out] w (ReadQP w p (rdF out ts)) := by
  have hmf : ∀ (fn : Fn) (first cap : Array Value) (w : World), (Instr.makeFunc fn first cap).run Tryz.prog w = .ok (.func fn first cap) w := fun _ _ _ _ => rfl
  obtain ⟨h1, h2, hbl, hsz⟩ := two_new w (.cells #[.slice none 0 0, .slice none 0 0] 25) (.cells #[.string ⟨#[]⟩, .bool out, .slice none 0 0, .slice none 0 0] 48)
  have HW := Lib.hid (pword_any p ts _ (h.below hbl))
  have hlt := h.lt
  have HE := Lib.hid (show FnE w p ts ⟨#[]⟩ out [] [] _ from ⟨But.of_below hbl, hlt, h1, ⟨none, 0, none, 0, h2, LsP.nil, LsS.nil⟩, h.below hbl⟩)
  have HF := Lib.hid h.few
  have HRd := Lib.hid (And.intro (hR.below hbl) hp)
  have HT := Lib.hid hR.top
  have HR0 := Lib.hid hR
  clear h1 h2 hbl hsz h hR hp
  go_enter Tryz.func83, Tryz.ntmps83
  go_wp2_with fail
  generalize ((w.alloc (.cells #[.slice none 0 0, .slice none 0 0] 25)).alloc (.cells #[.string ⟨#[]⟩, .bool out, .slice none 0 0, .slice none 0 0] 48)) = W at *
  refine HW.out.mono ?_
  rintro e w2 ⟨hO, h2⟩
  cases hw : wdF ts with
  | none =>
    rw [hw] at h2
    have h2 : e = tlackP := h2
    subst h2
    exact ⟨rfl, HE.out.but.trans hO, by rw [rdF_none hw]; rfl⟩
  | some sx =>
    obtain ⟨s, us⟩ := sx
    rw [hw] at h2
    obtain ⟨rfl, hP⟩ := h2
    have HS := Lib.hid (word_size HF.out hw)
    have hE2 := HE.out.step hO hP
    have HE2 := Lib.hid (hE2.name (s := s))
    obtain ⟨A1, c1, A2, c2, hg, _, _⟩ := hE2.row
    have HN := Lib.hid (pnext_any p us _ HE2.out.parts)
    have HW2 := Lib.hid hw
    have y0 := cell_of_row w2 _ 0 _ _ _ hg
    have f0 := frozen_of_row w2 _ 0 _ _ hg
    simp only [List.getElem?_toArray, List.getElem?_cons_zero] at y0
    clear hO hP hg hw hE2
    go_wp2_with fail
    refine HN.out.mono ?_
    rintro e w3 h3
    cases us with
    | nil =>
      obtain ⟨rfl, rfl⟩ := h3
      exact ⟨rfl, HE2.out.but, by rw [rdF_end HW2.out]; rfl⟩
    | cons t us =>
    obtain ⟨v, rfl, hit, hpt, hO3⟩ := h3
    have hE3 := HE2.out.step hO3 hpt
    have HE3 := Lib.hid hE3
    have hok := toksOk_iff.1 HE2.out.parts.ok t (by simp)
    have hB := HE2.out.parts.few t (by simp)
    have hiv := hit.arg
    cases t with
    | w q =>
      have HI := Lib.hid (inside_no q v w3 hiv)
      have HR2 := Lib.hid (rdF_word (out := out) HW2.out)
      obtain ⟨a, q1, c, rfl, _⟩ := hit
      clear hE3 hok hB hiv hpt hO3
      go_wp2_with fail
      refine HI.out.mono ?_
      rintro e w4 ⟨rfl, rfl⟩
      exact ⟨rfl, HE3.out.but, by rw [HR2.out]; rfl⟩
    | l ps =>
      have HI := Lib.hid (inside_yes ps v hok hB w3 hiv)
      have HR2 := Lib.hid (rdF_list (out := out) HW2.out)
      have hlow := But.low (K := R.top) hE3.but HRd.out.2 HT.out
      have HR3 := Lib.hid (HR0.out.move hlow)
      obtain ⟨a, q1, c, rfl, _⟩ := hit
      clear hE3 hok hB hiv hpt hO3 hlow
      go_wp2_with fail
      refine HI.out.mono ?_
      rintro e w4 ⟨p2, rfl, hp2, hpt2, hb4⟩
      have HE4 := Lib.hid (HE3.out.below hb4)
      have HR4 := Lib.hid (HR3.out.below hb4)
      have HB4 := Lib.hid (And.intro hb4 hp2)
      have HLs := Lib.hid (listP_of R ps (fun t _ => rdParam_any R t) p2 w4 HR4.out (Nat.le_trans HR3.out.top hp2) hpt2)
      clear hb4 hp2 hpt2
      go_wp2_with fail
      refine HLs.out.mono ?_
      rintro e w5 ⟨hO5, h5⟩
      have hb5 : Below w3.heap.size w3 w5 := HB4.out.1.trans (But.low hO5 HB4.out.2 HB4.out.1.size)
      have HE5 := Lib.hid (HE3.out.below hb5)
      have HR5 := Lib.hid (HR3.out.below hb5)
      cases hr : allO (ps.map pP) with
      | none =>
        rw [hr] at h5
        have h5 : e = tlackP := h5
        subst h5
        exact ⟨rfl, HE5.out.but, by rw [HR2.out, hr]; rfl⟩
      | some pars =>
      rw [hr] at h5
      obtain ⟨v, rfl, hls, _⟩ := h5
      obtain ⟨A, c, rfl, q2, q3, q4, q5⟩ := hls
      have hsz3 : w.heap.size + 1 + 1 ≤ w4.heap.size := by
        obtain ⟨_, _, _, _, hg, _, _⟩ := HE4.out.row
        exact (Array.getElem?_eq_some_iff.1 hg).1
      have HE6 := Lib.hid (HE5.out.pars (qs := pars) (A := A) (c := c) ((show LsP w4.heap.size w5 pars (.slice A pars.length c) from ⟨A, c, rfl, q2, q3, q4, q5⟩).base hsz3))
      have hlow := But.low (K := R.top) HE6.out.but HRd.out.2 HT.out
      have HR6 := Lib.hid (HR0.out.move hlow)
      have HLS := Lib.hid (listS_of R us (fun t _ => (rdStmt_any R t).1) p _ HR6.out HRd.out.2 HE6.out.parts)
      have HRr := Lib.hid (show rdF out ts = match allO (us.map pSt) with
        | none => none
        | some body => if funB s pars.length = true then some (([], [(s, out, pars, body)]), []) else none from by rw [HR2.out, hr])
      obtain ⟨A1, c1, A2, c2, hg, _, _⟩ := HE5.out.row
      have y2 := cell_of_row w5 _ 2 _ _ _ hg
      have f2 := frozen_of_row w5 _ 2 _ _ hg
      simp only [List.getElem?_toArray, List.getElem?_cons_zero, List.getElem?_cons_succ] at y2
      have HSz := Lib.hid hsz3
      clear hO5 hb5 hr hg hlow q2 q3 q4 q5 hsz3
      go_wp2_with fail
      refine HLS.out.mono ?_
      rintro e w7 ⟨hO7, h7⟩
      cases hr : allO (us.map pSt) with
      | none =>
        rw [hr] at h7
        have h7 : e = tlackP := h7
        subst h7
        exact ⟨rfl, HE6.out.but.trans hO7, by rw [HRr.out, hr]; rfl⟩
      | some body =>
      rw [hr] at h7
      obtain ⟨v, rfl, hls, hp7⟩ := h7
      have hE7 := HE6.out.step hO7 hp7
      obtain ⟨A3, c3, rfl, q2, q3, q4, q5⟩ := hls
      have hsz6 : w.heap.size + 1 + 1 ≤ (w5.setCell ⟨w.heap.size + 1, 2, none⟩ (.slice A pars.length c)).heap.size := by
        obtain ⟨_, _, _, _, hg, _, _⟩ := HE6.out.row
        exact (Array.getElem?_eq_some_iff.1 hg).1
      have HE8 := Lib.hid (hE7.body (ds := body) (A := A3) (c := c3) ((show LsS _ w7 body (.slice A3 body.length c3) from ⟨A3, c3, rfl, q2, q3, q4, q5⟩).base hsz6))
      have HRs := Lib.hid (show rdF out ts = if funB s pars.length = true then some (([], [(s, out, pars, body)]), []) else none from by rw [HRr.out, hr])
      obtain ⟨B1, d1, B2, d2, hg, _, _⟩ := hE7.row
      have y3 := cell_of_row w7 _ 3 _ _ _ hg
      have f3 := frozen_of_row w7 _ 3 _ _ hg
      simp only [List.getElem?_toArray, List.getElem?_cons_zero, List.getElem?_cons_succ] at y3
      obtain ⟨A4, c4, A5, c5, hg8, hP8, hS8⟩ := HE8.out.row
      have z0 := cell_of_row _ _ 0 _ _ _ hg8
      have z1 := cell_of_row _ _ 1 _ _ _ hg8
      have z2 := cell_of_row _ _ 2 _ _ _ hg8
      have z3 := cell_of_row _ _ 3 _ _ _ hg8
      simp only [List.getElem?_toArray, List.getElem?_cons_zero, List.getElem?_cons_succ] at z0 z1 z2 z3
      have HM := Lib.hid (mayFunc_any s out A4 A5 pars.length c4 body.length c5 (w7.setCell ⟨w.heap.size + 1, 3, none⟩ (.slice A3 body.length c3)))
      have HG8 := Lib.hid (And.intro hg8 (And.intro hP8 hS8))
      clear hO7 hr hg hE7 hp7 q2 q3 q4 q5 hsz6 hg8 hP8 hS8
      go_wp2_with fail
      refine HM.out.mono ?_
      rintro e w8 ⟨rfl, hb8⟩
      have hE9 := HE8.out.below hb8
      have hg9 := (hb8.block _ (Array.getElem?_eq_some_iff.1 HG8.out.1).1).trans HG8.out.1
      have HP9 := Lib.hid (HG8.out.2.1.keep (w' := w8) fun b _ hl => hb8.block b hl)
      have HS9 := Lib.hid (HG8.out.2.2.keep (w' := w8) fun b _ hl => hb8.block b hl)
      have HE9 := Lib.hid hE9
      cases hx : funB s pars.length with
      | false =>
        have HN2 := Lib.hid (show rdF out ts = none from HRs.out.trans (by rw [if_neg (by rw [hx]; simp)]))
        clear hb8 hg9 hx hE9
        go_wp2_with fail
        refine (twant_no _).mono ?_
        rintro e w9 ⟨rfl, rfl⟩
        exact ⟨rfl, HE9.out.but, by rw [HN2.out]; rfl⟩
      | true =>
        have HN2 := Lib.hid (show rdF out ts = some (([], [(s, out, pars, body)]), []) from HRs.out.trans (by rw [if_pos hx]))
        have HG9 := Lib.hid hg9
        have hbx := (Below.refl w8.heap.size w8).alloc (Nat.le_refl _) (.cells #[.string s, .bool out, .slice A4 pars.length c4, .slice A5 body.length c5] 48)
        have hgx := (hbx.block _ (Array.getElem?_eq_some_iff.1 hE9.res).1).trans hE9.res
        have v0 := cell_of_row _ _ 0 _ _ _ hgx
        have v1 := cell_of_row _ _ 1 _ _ _ hgx
        have u0 := cell_of_row w8 _ 0 _ _ _ hg9
        have u1 := cell_of_row w8 _ 1 _ _ _ hg9
        have u2 := cell_of_row w8 _ 2 _ _ _ hg9
        have u3 := cell_of_row w8 _ 3 _ _ _ hg9
        simp only [List.getElem?_toArray, List.getElem?_cons_zero, List.getElem?_cons_succ] at v0 v1 u0 u1 u2 u3
        have q0 := frozen_of_row _ _ 0 _ _ hgx
        have q1 := frozen_of_row _ _ 1 _ _ hgx
        clear hbx hgx hb8 hg9 hx hE9
        go_wp2_with fail
        refine (twant_yes _).mono ?_
        rintro e w9 ⟨rfl, rfl⟩
        go_wp2
        obtain ⟨hO, hP, hF, hres⟩ := HE9.out.done HS.out HG9.out HP9.out HS9.out
        refine bodyPost_ret (v := .agg #[.slice none 0 0, .slice (some ⟨w8.heap.size, 0, none⟩) 1 1]) (res_cell2P (j := 6) (b := w.heap.size) rfl rfl hres) rfl ⟨hO, ?_⟩
        rw [HN2.out]
        exact ⟨_, _, rfl, hP, ⟨_, 0, rfl, Nat.le_refl _, Nat.zero_le _, Or.inl rfl, by simp⟩, hF⟩
end Go.Proofs.YtbhdbglhejibbaaGreatDoor
namespace Go.Proofs.YtbhdbglhejibbaaGreatDoor
set_option maxRecDepth 100000
open Go.RowKit
set_option linter.unusedVariables false
theorem LsA.move {B B' : Nat} {w w' : World} {xs : List ArrD} {v : Value} (h : LsA B w xs v) (hb : B' ≤ B) (hk : ∀ b, B ≤ b → b < w.heap.size → w'.heap[b]? = w.heap[b]?) : LsA B' w' xs v := by
  obtain ⟨A, c, h1, h2, h3, h4, h5⟩ := h
  exact ⟨A, c, h1, h2, h3, h4.move (fun b hb' => ⟨Nat.le_trans hb hb'.1, hb'.2.move (hk b hb'.1 hb'.2.lt)⟩) (fun b hb => hk b hb.1 hb.2.lt), h5⟩
theorem LsF.move {B B' : Nat} {w w' : World} {xs : List FunD} {v : Value} (h : LsF B w xs v) (hb : B' ≤ B) (hk : ∀ b, B ≤ b → b < w.heap.size → w'.heap[b]? = w.heap[b]?) : LsF B' w' xs v := by
  obtain ⟨A, c, h1, h2, h3, h4, h5⟩ := h
  exact ⟨A, c, h1, h2, h3, h4.move (fun b hb' => ⟨Nat.le_trans hb hb'.1, hb'.2.move (hk b hb'.1 hb'.2.lt)⟩) (fun b hb => hk b hb.1 hb.2.lt), h5⟩
/-- the two lists of what was read, laid into a box of the caller's -/
theorem prog_boxed {w w1 w2 : World} {p : Nat} {x : ProD} {v1 v2 : Value} {B : Nat} (hB : w.heap.size < B) (hX : w2.heap[w.heap.size]? = some (.cells #[.slice none 0 0, .slice none 0 0] 25 (0, 0))) (h1 : LsA B w2 x.1 v1) (h2 : LsF B w2 x.2 v2) :
    LsA w.heap.size ((w2.setCell ⟨w.heap.size, 0, none⟩ v1).setCell ⟨w.heap.size, 1, none⟩ v2) x.1 v1 ∧ LsF w.heap.size ((w2.setCell ⟨w.heap.size, 0, none⟩ v1).setCell ⟨w.heap.size, 1, none⟩ v2) x.2 v2 :=
  ⟨h1.move (by omega) fun b hb _ => sfill2_off (by omega) _ _, h2.move (by omega) fun b hb _ => sfill2_off (by omega) _ _⟩
set_option maxHeartbeats 2000000 in
theorem fun_any (R : RdC) (ts : List TokD) (p : Nat) (w : World) (hR : RdIs R w) (hp : R.top ≤ p) (h : PtAt w p ts) :
    Calls Tryz.prog 51 #[.pointer (some ⟨R.r, 0, none⟩), .pointer (some ⟨p, 0, none⟩)] w (ReadQP w p (rdF false ts)) := by
  have hbl := (Below.refl w.heap.size w).alloc (Nat.le_refl _) (.cells #[.slice none 0 0, .slice none 0 0] 25)
  have HX := Lib.hid (heap_alloc_new w (.cells #[.slice none 0 0, .slice none 0 0] 25))
  have HC := Lib.hid (function_any R false ts p _ (hR.below hbl) hp (h.below hbl))
  have HB := Lib.hid hbl
  have hlt := h.lt
  have hsz : (w.alloc (.cells #[.slice none 0 0, .slice none 0 0] 25)).heap.size = w.heap.size + 1 := by simp
  clear hbl h hR hp
  go_enter Tryz.func51, Tryz.ntmps51
  go_wp2_with fail
  generalize (w.alloc (.cells #[.slice none 0 0, .slice none 0 0] 25)) = W at *
  refine HC.out.mono ?_
  rintro e w2 ⟨hO, h2⟩
  have HO := Lib.hid ((But.of_below (p := p) HB.out).trans hO)
  have hX2 := (hO.block _ (Array.getElem?_eq_some_iff.1 HX.out).1 (by omega)).trans HX.out
  cases hr : rdF false ts with
  | none =>
    rw [hr] at h2
    have h2 : e = tlackP := h2
    subst h2
    exact ⟨rfl, HO.out, rfl⟩
  | some y =>
    rw [hr] at h2
    obtain ⟨v1, v2, rfl, hpt, hA, hF⟩ := h2
    obtain ⟨A1, c1, rfl, q1⟩ := hA
    obtain ⟨A2, c2, rfl, q2⟩ := hF
    have HA := Lib.hid (prog_boxed (p := p) (w1 := w) (x := y.1) (by omega) hX2 (show LsA W.heap.size w2 y.1.1 _ from ⟨A1, c1, rfl, q1⟩) (show LsF W.heap.size w2 y.1.2 _ from ⟨A2, c2, rfl, q2⟩))
    have HP := Lib.hid hpt
    have HRr := Lib.hid hr
    have HX2 := Lib.hid hX2
    have z0 := cell_of_row _ _ 0 _ _ _ hX2
    have z1 := cell_of_row _ _ 1 _ _ _ hX2
    simp only [List.getElem?_toArray, List.getElem?_cons_zero, List.getElem?_cons_succ] at z0 z1
    have f0 := frozen_of_row _ _ 0 _ _ hX2
    have f1 := frozen_of_row _ _ 1 _ _ hX2
    clear hO hr hX2 q1 q2 hpt
    go_wp2
    refine bodyPost_ret (v := .agg #[.slice A1 y.1.1.length c1, .slice A2 y.1.2.length c2]) (res_cell2P (j := 4) (b := w.heap.size) rfl rfl (sfill2 HX2.out _ _)) rfl ⟨But.set (But.set HO.out (Nat.le_refl _)) (Nat.le_refl _), ?_⟩
    rw [HRr.out]
    exact ⟨_, _, rfl, HP.out.keep (fun b hb => sfill2_off (by omega) _ _), HA.out.1, HA.out.2⟩
set_option maxHeartbeats 2000000 in
theorem export_any (R : RdC) (ts : List TokD) (p : Nat) (w : World) (hR : RdIs R w) (hp : R.top ≤ p) (h : PtAt w p ts) :
    Calls Tryz.prog 52 #[.pointer (some ⟨R.r, 0, none⟩), .pointer (some ⟨p, 0, none⟩)] w (ReadQP w p (rdF true ts)) := by
  have hbl := (Below.refl w.heap.size w).alloc (Nat.le_refl _) (.cells #[.slice none 0 0, .slice none 0 0] 25)
  have HX := Lib.hid (heap_alloc_new w (.cells #[.slice none 0 0, .slice none 0 0] 25))
  have HC := Lib.hid (function_any R true ts p _ (hR.below hbl) hp (h.below hbl))
  have HB := Lib.hid hbl
  have hlt := h.lt
  have hsz : (w.alloc (.cells #[.slice none 0 0, .slice none 0 0] 25)).heap.size = w.heap.size + 1 := by simp
  clear hbl h hR hp
  go_enter Tryz.func52, Tryz.ntmps52
  go_wp2_with fail
  generalize (w.alloc (.cells #[.slice none 0 0, .slice none 0 0] 25)) = W at *
  refine HC.out.mono ?_
  rintro e w2 ⟨hO, h2⟩
  have HO := Lib.hid ((But.of_below (p := p) HB.out).trans hO)
  have hX2 := (hO.block _ (Array.getElem?_eq_some_iff.1 HX.out).1 (by omega)).trans HX.out
  cases hr : rdF true ts with
  | none =>
    rw [hr] at h2
    have h2 : e = tlackP := h2
    subst h2
    exact ⟨rfl, HO.out, rfl⟩
  | some y =>
    rw [hr] at h2
    obtain ⟨v1, v2, rfl, hpt, hA, hF⟩ := h2
    obtain ⟨A1, c1, rfl, q1⟩ := hA
    obtain ⟨A2, c2, rfl, q2⟩ := hF
    have HA := Lib.hid (prog_boxed (p := p) (w1 := w) (x := y.1) (by omega) hX2 (show LsA W.heap.size w2 y.1.1 _ from ⟨A1, c1, rfl, q1⟩) (show LsF W.heap.size w2 y.1.2 _ from ⟨A2, c2, rfl, q2⟩))
    have HP := Lib.hid hpt
    have HRr := Lib.hid hr
    have HX2 := Lib.hid hX2
    have z0 := cell_of_row _ _ 0 _ _ _ hX2
    have z1 := cell_of_row _ _ 1 _ _ _ hX2
    simp only [List.getElem?_toArray, List.getElem?_cons_zero, List.getElem?_cons_succ] at z0 z1
    have f0 := frozen_of_row _ _ 0 _ _ hX2
    have f1 := frozen_of_row _ _ 1 _ _ hX2
    clear hO hr hX2 q1 q2 hpt
    go_wp2
    refine bodyPost_ret (v := .agg #[.slice A1 y.1.1.length c1, .slice A2 y.1.2.length c2]) (res_cell2P (j := 4) (b := w.heap.size) rfl rfl (sfill2 HX2.out _ _)) rfl ⟨But.set (But.set HO.out (Nat.le_refl _)) (Nat.le_refl _), ?_⟩
    rw [HRr.out]
    exact ⟨_, _, rfl, HP.out.keep (fun b hb => sfill2_off (by omega) _ _), HA.out.1, HA.out.2⟩
end Go.Proofs.YtbhdbglhejibbaaGreatDoor
namespace Go.Proofs.YtbhdbglhejibbaaGreatDoor
set_option maxRecDepth 100000
open Go.RowKit
set_option linter.unusedVariables false
theorem zeroFQ (w : World) : (zeroValue 107).run Tryz.prog w = .ok .nilFunc w := by kernel_rfl
/-- an item's kind, by its first word: a secret array, or a function (for contexts too?) -/
def kinQ (s : ByteArray) : Option (Option Bool) := if s = wSecret then some none else if s = wFun then some (some false) else if s = wExport then some (some true) else none
def fnQ (y : Option Bool) : FuncId := match y with
  | none => 50
  | some false => 51
  | some true => 52
def rdItm (y : Option Bool) (ts : List TokD) : Option (ProD × List TokD) := match y with
  | none => rdA ts
  | some b => rdF b ts
theorem itemsL_find (r : Nat) (s : ByteArray) : strF (itemsL r) s = (kinQ s).map fun y => .func (.func (fnQ y)) #[.pointer (some ⟨r, 0, none⟩)] #[] := by
  unfold strF itemsL kinQ
  by_cases h1 : wSecret = s
  · subst h1
    rw [List.find?_cons_of_pos (by simp), if_pos rfl]; rfl
  · rw [List.find?_cons_of_neg (by simpa using h1), if_neg (fun e => h1 e.symm)]
    by_cases h2 : wFun = s
    · subst h2
      rw [List.find?_cons_of_pos (by simp), if_pos rfl]; rfl
    · rw [List.find?_cons_of_neg (by simpa using h2), if_neg (fun e => h2 e.symm)]
      by_cases h3 : wExport = s
      · subst h3
        rw [List.find?_cons_of_pos (by simp), if_pos rfl]; rfl
      · rw [List.find?_cons_of_neg (by simpa using h3), if_neg (fun e => h3 e.symm)]; rfl
/-- an item, read -/
def becQ : TokD → Option ProD
  | .w _ => none
  | .l ts => match wdF ts with
    | some x => match kinQ x.1 with
      | some y => match rdItm y x.2 with
        | some z => if z.2 = [] then some z.1 else none
        | none => none
      | none => none
    | none => none
theorem becQ_l (ts : List TokD) : becQ (.l ts) = match wdF ts with
    | some x => match kinQ x.1 with
      | some y => match rdItm y x.2 with
        | some z => if z.2 = [] then some z.1 else none
        | none => none
      | none => none
    | none => none := rfl
def ProgP (B : Nat) (w' : World) (r : Option ProD) (e : Ending) : Prop := match r with
  | none => e = tlackP
  | some x => ∃ v1 v2, e = .returned (.agg #[v1, v2]) ∧ LsA B w' x.1 v1 ∧ LsF B w' x.2 v2
set_option maxHeartbeats 4000000 in
theorem becomeQ_of (R : RdC) (t : TokD) (hok : TokOk t) (hB : TokB t) (w : World) (v : Value) (hR : RdIs R w) (hv : ItemV w t v) :
    Calls Tryz.prog 58 #[.map (some R.ri), v] w fun e w' => Below w.heap.size w w' ∧ ProgP w.heap.size w' (becQ t) e := by
  have hb := (Below.refl w.heap.size w).alloc (Nat.le_refl _) (.cells #[.slice none 0 0, .slice none 0 0] 25)
  have h0 := heap_alloc_new w (.cells #[.slice none 0 0, .slice none 0 0] 25)
  have hv1 := hv.below hb
  have HR := Lib.hid (hR.below hb)
  have HB := Lib.hid hb
  have HX := Lib.hid h0
  have hsz : (w.alloc (.cells #[.slice none 0 0, .slice none 0 0] 25)).heap.size = w.heap.size + 1 := by simp
  have HV := Lib.hid hv
  obtain ⟨a0, q0, c0, rfl, _⟩ := hv
  cases t with
  | w s =>
    have HI := Lib.hid (inside_no s _ _ hv1)
    clear hv1 hb h0 hR
    go_enter Tryz.func58, Tryz.ntmps58
    go_wp2_with fail
    refine HI.out.mono ?_
    rintro e w2 ⟨rfl, rfl⟩
    exact ⟨rfl, HB.out, rfl⟩
  | l ts =>
    have HI := Lib.hid (inside_yes ts _ hok hB _ hv1)
    have HTb := Lib.hid hB
    clear hv1 hb h0 hR
    go_enter Tryz.func58, Tryz.ntmps58
    go_wp2_with fail
    generalize (w.alloc (.cells #[.slice none 0 0, .slice none 0 0] 25)) = W at *
    refine HI.out.mono ?_
    rintro e w2 ⟨p, rfl, hp, hpt, hb2⟩
    have HR2 := Lib.hid (HR.out.below hb2)
    have HB2 := Lib.hid (HB.out.trans (hb2.mono HB.out.size))
    have HX2 := Lib.hid ((hb2.block _ (Array.getElem?_eq_some_iff.1 HX.out).1).trans HX.out)
    have HP := Lib.hid (And.intro hp (Nat.le_trans HR.out.top hp))
    have HW := Lib.hid (pword_any p ts w2 hpt)
    have HPt := Lib.hid hpt
    have hpg : w.heap.size < p := by omega
    clear hb2 hpt hp
    go_wp2_with fail
    refine HW.out.mono ?_
    rintro e w3 ⟨hO, h3⟩
    have HO3 := Lib.hid hO
    have HB3 := Lib.hid (HB2.out.trans (But.low hO (by omega) HB2.out.size))
    have HR3 := Lib.hid (HR2.out.move (But.low hO HP.out.2 HR2.out.top))
    have HX3 := Lib.hid ((hO.block _ (Array.getElem?_eq_some_iff.1 HX2.out).1 (by omega)).trans HX2.out)
    clear hO
    cases hw : wdF ts with
    | none =>
      rw [hw] at h3
      have h3 : e = tlackP := h3
      subst h3
      exact ⟨rfl, HB3.out, by rw [becQ_l, hw]; rfl⟩
    | some sx =>
    obtain ⟨s, us⟩ := sx
    rw [hw] at h3
    obtain ⟨rfl, hP3⟩ := h3
    have hts := wdF_some hw
    have hlk := HR3.out.items.look Tryz.underlying103 Tryz.underlying9 (zeroFQ w3) s
    rw [itemsL_find] at hlk
    cases hk : kinQ s with
    | none =>
      have HN := Lib.hid (show becQ (.l ts) = none from by rw [becQ_l, hw]; simp only; rw [hk])
      rw [hk] at hlk
      simp only [Option.map_none, Option.getD_none, Option.isSome_none] at hlk
      clear hP3 hw hts hk
      go_wp2_with fail
      refine (twant_no _).mono ?_
      rintro e w4 ⟨rfl, rfl⟩
      exact ⟨rfl, HB3.out, by rw [HN.out]; rfl⟩
    | some y =>
      have HN := Lib.hid (show becQ (.l ts) = match rdItm y us with
        | some z => if z.2 = [] then some z.1 else none
        | none => none from by rw [becQ_l, hw]; simp only; rw [hk])
      rw [hk] at hlk
      simp only [Option.map_some, Option.getD_some, Option.isSome_some] at hlk
      have hcf0 : ∀ (args : Array Value) (w : World), (callFunc 50 args).run Tryz.prog w = .ok (.enter 50 args) w := fun args w => by kernel_rfl
      have hcf1 : ∀ (args : Array Value) (w : World), (callFunc 51 args).run Tryz.prog w = .ok (.enter 51 args) w := fun args w => by kernel_rfl
      have hcf2 : ∀ (args : Array Value) (w : World), (callFunc 52 args).run Tryz.prog w = .ok (.enter 52 args) w := fun args w => by kernel_rfl
      have HRd : Hid (Calls Tryz.prog (fnQ y) #[.pointer (some ⟨R.r, 0, none⟩), .pointer (some ⟨p, 0, none⟩)] w3 (ReadQP w3 p (rdItm y us))) := Lib.hid (by
        rcases y with _ | _ | _
        · exact secret_any R us p w3 HR3.out HP.out.2 hP3
        · exact fun_any R us p w3 HR3.out HP.out.2 hP3
        · exact export_any R us p w3 HR3.out HP.out.2 hP3)
      clear hP3 hw hts hk
      rcases y with _ | _ | _
      all_goals
        simp only [fnQ] at HRd hlk
        go_wp2_with fail
        refine (twant_yes _).mono ?_
        rintro e w4 ⟨rfl, rfl⟩
        go_wp2_with fail
        refine HRd.out.mono ?_
        rintro e w4 ⟨hO, h4⟩
        have HB4 := Lib.hid (HB3.out.trans (But.low hO (by omega) HB3.out.size))
        have hX4 := (hO.block _ (Array.getElem?_eq_some_iff.1 HX3.out).1 (by omega)).trans HX3.out
        generalize hrd : rdItm _ us = rr at *
        cases rr with
        | none =>
          have h4 : e = tlackP := h4
          subst h4
          exact ⟨rfl, HB4.out, by rw [HN.out]; rfl⟩
        | some z =>
          obtain ⟨x, rest⟩ := z
          obtain ⟨v1, v2, rfl, hpt, hA, hF⟩ := h4
          obtain ⟨A1, c1, rfl, q1⟩ := hA
          obtain ⟨A2, c2, rfl, q2⟩ := hF
          obtain ⟨Ap, cp, hblk, _⟩ := hpt.blk
          have hbx := (Below.refl w4.heap.size w4).alloc (Nat.le_refl _) (.cells #[.slice A1 x.1.length c1, .slice A2 x.2.length c2] 25)
          have hblk2 := (hbx.block p (Array.getElem?_eq_some_iff.1 hblk).1).trans hblk
          have hX5 := (hbx.block _ (Array.getElem?_eq_some_iff.1 hX4).1).trans hX4
          have HPw := Lib.hid (prog_boxed (p := p) (w1 := w) (x := x) (B := w3.heap.size) (by have := HB3.out.size; have := (Array.getElem?_eq_some_iff.1 HX3.out).1; omega) hX5
            ((show LsA w3.heap.size w4 x.1 _ from ⟨A1, c1, rfl, q1⟩).move (Nat.le_refl _) fun b _ hl => hbx.block b hl) ((show LsF w3.heap.size w4 x.2 _ from ⟨A2, c2, rfl, q2⟩).move (Nat.le_refl _) fun b _ hl => hbx.block b hl))
          have xp := cell_of_row _ p 0 _ _ _ hblk2
          have z0 := cell_of_row _ _ 0 _ _ _ hX5
          have z1 := cell_of_row _ _ 1 _ _ _ hX5
          simp only [List.getElem?_toArray, List.getElem?_cons_zero, List.getElem?_cons_succ] at xp z0 z1
          have q0 := frozen_of_row _ _ 0 _ _ hX5
          have q1' := frozen_of_row _ _ 1 _ _ hX5
          have HX5 := Lib.hid hX5
          have HB5 := Lib.hid (HB4.out.trans (hbx.mono HB4.out.size))
          simp only at HN
          cases hrest : rest with
          | nil =>
            have HNx := Lib.hid (HN.out.trans (if_pos hrest))
            rw [hrest, show ([] : List TokD).length = 0 from rfl] at xp
            clear hO hpt hblk hbx hblk2 hX4 hX5 hrest q1 q2
            go_wp2_with fail
            refine (twant_yes _).mono ?_
            rintro e w5 ⟨rfl, rfl⟩
            go_wp2
            refine bodyPost_ret (v := .agg #[.slice A1 x.1.length c1, .slice A2 x.2.length c2]) (res_cell2P (j := 4) (b := w.heap.size) rfl rfl (sfill2 HX5.out _ _)) rfl ⟨tbelow_set (tbelow_set HB5.out (Nat.le_refl _)) (Nat.le_refl _), ?_⟩
            rw [HNx.out]
            exact ⟨_, _, rfl, HPw.out.1, HPw.out.2⟩
          | cons t0 rest' =>
            have HNx := Lib.hid (HN.out.trans (if_neg (by rw [hrest]; simp)))
            have hne : (((rest.length : Nat) : Int) == 0) = false := by rw [beq_eq_false_iff_ne, hrest]; simp; omega
            clear hO hpt hblk hbx hblk2 hX4 hX5 hrest q1 q2
            go_wp2_with fail
            refine (twant_no _).mono ?_
            rintro e w5 ⟨rfl, rfl⟩
            exact ⟨rfl, HB5.out, by rw [HNx.out]; rfl⟩
end Go.Proofs.YtbhdbglhejibbaaGreatDoor
namespace Go.Proofs.YtbhdbglhejibbaaGreatDoor
set_option maxRecDepth 100000
open Go.RowKit
set_option linter.unusedVariables false
def ElA : ElT ArrD := fun w S x cs => cs = [.string x.1, .int .i64 x.2] ∧ ArrW x
theorem elA_ok : ElOk ElA 2 where
  move := fun {w w' S S' x cs} h _ _ => h
  len := fun {w S x cs} h => by rw [h.1]; rfl
  one := fun {w S x cs} h => by
    rw [h.1]
    intro u hu
    simp only [List.mem_cons, List.not_mem_nil, or_false] at hu
    rcases hu with rfl | rfl <;> rfl
theorem RowG.lsA {w : World} {B : Nat} {v : Value} {xs : List ArrD} {css : List (List Value)} (h : RowG ElA 55 2 w B v xs css) : LsA B w xs v := by
  obtain ⟨A, c, h1, h2, h3, h4⟩ := h.fin elA_ok (by omega)
  have hw : ∀ x ∈ xs, ArrW x := fun e he => by
    obtain ⟨j, hj, rfl⟩ := List.mem_iff_getElem.1 he
    obtain ⟨cs, _, q2⟩ := h.els j hj
    exact q2.2
  refine ⟨A, c, h1, h2, h3, ?_, hw⟩
  rcases h4 with rfl | ⟨g, rfl, hg, h5⟩
  · exact .inl rfl
  · refine .inr ⟨g, 0, rfl, hg, fun i hi => ?_⟩
    obtain ⟨cs, q1, q2⟩ := h5 i hi
    obtain ⟨rfl, _⟩ := q1
    exact ⟨q2 0 (by omega), q2 1 (by omega)⟩
def ElF : ElT FunD := fun w S f cs => ∃ A1 c1 A2 c2, cs = [.string f.1, .bool f.2.1, .slice A1 f.2.2.1.length c1, .slice A2 f.2.2.2.length c2] ∧ (f.2.2.1.length ≤ c1 ∧ f.2.2.2.length ≤ c2) ∧ ParsAt w S f.2.2.1 A1 ∧ StmtsAt w S f.2.2.2 A2 ∧ FunW f
theorem elF_ok : ElOk ElF 4 where
  move := fun {w w' S S' x cs} h hl hk => by
    obtain ⟨A1, c1, A2, c2, h1, h2, h3, h4, h5⟩ := h
    exact ⟨A1, c1, A2, c2, h1, h2, h3.move hl hk, h4.move hl hk, h5⟩
  len := fun {w S x cs} h => by
    obtain ⟨A1, c1, A2, c2, rfl, _⟩ := h
    rfl
  one := fun {w S x cs} h => by
    obtain ⟨A1, c1, A2, c2, rfl, _⟩ := h
    intro u hu
    simp only [List.mem_cons, List.not_mem_nil, or_false] at hu
    rcases hu with rfl | rfl | rfl | rfl <;> rfl
theorem RowG.lsF {w : World} {B : Nat} {v : Value} {xs : List FunD} {css : List (List Value)} (h : RowG ElF 48 4 w B v xs css) : LsF B w xs v := by
  obtain ⟨A, c, h1, h2, h3, h4⟩ := h.fin elF_ok (by omega)
  have hw : ∀ x ∈ xs, FunW x := fun e he => by
    obtain ⟨j, hj, rfl⟩ := List.mem_iff_getElem.1 he
    obtain ⟨cs, _, q2⟩ := h.els j hj
    obtain ⟨_, _, _, _, _, _, _, _, q⟩ := q2
    exact q
  refine ⟨A, c, h1, h2, h3, ?_, hw⟩
  rcases h4 with rfl | ⟨g, rfl, hg, h5⟩
  · exact .inl rfl
  · refine .inr ⟨g, 0, rfl, hg, fun i hi => ?_⟩
    obtain ⟨cs, q1, q2⟩ := h5 i hi
    obtain ⟨A1, c1, A2, c2, rfl, ⟨e1, e2⟩, e3, e4, _⟩ := q1
    exact ⟨q2 0 (by omega), q2 1 (by omega), ⟨_, _, q2 2 (by omega), e1, e3⟩, ⟨_, _, q2 3 (by omega), e2, e4⟩⟩
/-- one array, as it lies -/
theorem LsA.one {B : Nat} {w : World} {x : ArrD} {v : Value} (h : LsA B w [x] v) : ∃ g o c, v = .slice (some ⟨g, o, none⟩) 1 c ∧ NewS B w g ∧ (∀ j u, ([.string x.1, .int .i64 x.2] : List Value)[j]? = some u → w.cell? ((⟨g, o, none⟩ : Addr).add j) = some u) ∧ ArrW x := by
  obtain ⟨A, c, rfl, _, _, h4, h5⟩ := h
  rcases h4 with h | ⟨g, o, rfl, hg, hc⟩
  · cases h
  · refine ⟨g, o, c, rfl, hg, fun j u hj => ?_, h5 x (by simp)⟩
    have := hc 0 (by simp)
    rw [Addr.add_lit]
    match j with
    | 0 => simp at hj; subst hj; simpa using this.1
    | 1 => simp at hj; subst hj; simpa using this.2
    | j + 2 => simp at hj
theorem LsF.one {B : Nat} {w : World} {x : FunD} {v : Value} (h : LsF B w [x] v) : ∃ g o c cs, v = .slice (some ⟨g, o, none⟩) 1 c ∧ NewS B w g ∧ (∀ j u, cs[j]? = some u → w.cell? ((⟨g, o, none⟩ : Addr).add j) = some u) ∧ ElF w (NewS B w) x cs := by
  obtain ⟨A, c, rfl, _, _, h4, h5⟩ := h
  rcases h4 with h | ⟨g, o, rfl, hg, hc⟩
  · cases h
  · obtain ⟨q0, q1, ⟨A1, c1, q2, q3, q4⟩, A2, c2, q5, q6, q7⟩ := hc 0 (by simp)
    simp only [List.getElem_cons_zero, Nat.zero_mul, Nat.add_zero] at q0 q1 q2 q3 q4 q5 q6 q7
    refine ⟨g, o, c, _, rfl, hg, fun j u hj => ?_, ⟨A1, c1, A2, c2, rfl, ⟨q3, q6⟩, q4, q7, h5 x (by simp)⟩⟩
    rw [Addr.add_lit]
    match j with
    | 0 => simp at hj; subst hj; exact q0
    | 1 => simp at hj; subst hj; exact q1
    | 2 => simp at hj; subst hj; exact q2
    | 3 => simp at hj; subst hj; exact q5
    | j + 4 => simp at hj
theorem becQ_shape {t : TokD} {y : ProD} (h : becQ t = some y) : (∃ a, y = ([a], [])) ∨ ∃ f, y = ([], [f]) := by
  cases t with
  | w s => cases h
  | l ts =>
    rw [becQ_l] at h
    cases hw : wdF ts with
    | none => rw [hw] at h; cases h
    | some x =>
      rw [hw] at h
      simp only at h
      cases hk : kinQ x.1 with
      | none => rw [hk] at h; cases h
      | some k =>
        rw [hk] at h
        simp only at h
        cases hr : rdItm k x.2 with
        | none => rw [hr] at h; cases h
        | some z =>
          rw [hr] at h
          simp only at h
          split at h
          · cases h
            rcases k with _ | b
            · refine .inl ?_
              have hr : rdA x.2 = some z := hr
              unfold rdA at hr
              split at hr
              · cases hr
              · split at hr
                · cases hr
                · split at hr
                  · cases hr; exact ⟨_, rfl⟩
                  · cases hr
            · refine .inr ?_
              have hr : rdF b x.2 = some z := hr
              unfold rdF at hr
              split at hr
              · cases hr
              · split at hr
                · cases hr
                · cases hr
                · split at hr
                  · cases hr
                  · split at hr
                    · cases hr
                    · split at hr
                      · cases hr; exact ⟨_, rfl⟩
                      · cases hr
          · cases h
/-- an item, put behind what was read -/
def srcS (acc : Option ProD) (t : TokD) : Option ProD := match acc with
  | none => none
  | some p => match becQ t with
    | none => none
    | some y => if y.1 = [] ∨ p.2 = [] then some (p.1 ++ y.1, p.2 ++ y.2) else none
def srcF (ts : List TokD) : Option ProD := ts.foldl srcS (some ([], []))
/-- a source's items, read -/
def srcP (ts : List TokD) : Option ProD := match srcF ts with
  | none => none
  | some p => if progB p.1.length p.2.length = true then some p else none
theorem srcS_none (ts : List TokD) : ts.foldl srcS none = none := by
  induction ts with
  | nil => rfl
  | cons t ts ih => rw [List.foldl_cons]; exact ih
theorem srcF_stop {ts : List TokD} {k : Nat} (hk : k < ts.length) (h : srcS (srcF (ts.take k)) ts[k] = none) : srcP ts = none := by
  have : srcF ts = none := by
    unfold srcF at h ⊢
    rw [← List.take_append_drop k ts, List.foldl_append, List.drop_eq_getElem_cons hk, List.foldl_cons]
    rw [h]
    exact srcS_none _
  unfold srcP
  rw [this]
theorem srcF_step {ts : List TokD} {k : Nat} (hk : k < ts.length) : srcF (ts.take (k + 1)) = srcS (srcF (ts.take k)) ts[k] := by
  unfold srcF
  rw [List.take_succ_eq_append_getElem hk, List.foldl_append]
  rfl
/-- appending nothing changes nothing -/
theorem append_nothing {P : Program} {w : World} {t ty e : TypeId} {i : TypeInfo} {base sz n : Nat} {v : Value} {xs : List Value} (ht : P.underlying t = some (.slice e)) (hi : P.info? e = some i) (h : w.ownsRow base e sz v n xs) :
    (Builtin.append_ #[t, t] ty #[v, .slice none 0 0]).run P w = .ok v w := by
  rcases h.2 with ⟨rfl, rfl⟩ | ⟨g, cap, cur, rfl, _, _, hc, _⟩
  · have hs := Src.ofNil (P := P) w (size := i.size) ht 0
    simp [Builtin.append_, run_underlying ht, sizeOf, typeInfo, hi, hs.len, hs.cells]
  · have := run_append_room_src (P := P) (w := w) t t ty e i ht hi g 0 n cap (.slice none 0 0) 0 [] (Src.ofNil w ht 0) (by omega) (by simp) (by simp)
    simpa [World.setCells] using this
end Go.Proofs.YtbhdbglhejibbaaGreatDoor
namespace Go.Proofs.YtbhdbglhejibbaaGreatDoor
set_option maxRecDepth 100000
open Go.RowKit
set_option linter.unusedVariables false
theorem Src.none_of {P : Program} {w : World} {size : Nat} {tx e' : TypeId} (hk : P.underlying tx = some (.slice e')) (A : Option Addr) (c : Nat) : Src P size tx (.slice A 0 c) 0 [] w := by
  cases A with
  | none => exact Src.ofNil w hk c
  | some a => exact Src.ofSlice w hk a 0 c [] (by simp) (by simp) (by simp)
theorem append_none_at {P : Program} {w : World} {t ty e : TypeId} {i : TypeInfo} {base sz n c : Nat} {A : Option Addr} {v : Value} {xs : List Value} (ht : P.underlying t = some (.slice e)) (hi : P.info? e = some i) (h : w.ownsRow base e sz v n xs) :
    (Builtin.append_ #[t, t] ty #[v, .slice A 0 c]).run P w = .ok v w := by
  have hs := Src.none_of (P := P) (w := w) (size := i.size) ht A c
  rcases h.2 with ⟨rfl, rfl⟩ | ⟨g, cap, cur, rfl, _, _, hc, _⟩
  · simp [Builtin.append_, run_underlying ht, sizeOf, typeInfo, hi, hs.len, hs.cells]
  · have := run_append_room_src (P := P) (w := w) t t ty e i ht hi g 0 n cap (.slice A 0 c) 0 [] hs (by omega) (by simp) (by simp)
    simpa [World.setCells] using this
theorem wpList_append_none {P : Program} {ops : Array Oper} {rest : List Oper} {o : Oper} {a : Act} {Q : Exit → Act → World → Prop} {w : World} (hgd : o.guard = none) (s x : Operand) (t : TypeId)
    (ho : o.op = .call { callee := .builtin .append, args := #[s, x], argTypes := #[t, t] }) {e : TypeId} {i : TypeInfo} {base sz n c : Nat} {A : Option Addr} {v : Value} {xs : List Value} (ht : P.underlying t = some (.slice e)) (hi : P.info? e = some i)
    (hs : a.eval s = v) (hx : a.eval x = .slice A 0 c) (hown : w.ownsRow base e sz v n xs) (h : wpList P ops Q rest (a.put o.dst v) w) : wpList P ops Q (o :: rest) a w := by
  refine wpList_plain hgd fun K' hK' => ?_
  have hr := append_none_at (P := P) (ty := o.type) (A := A) (c := c) ht hi hown
  unfold Oper.wp execOp
  simp only [ho, resolve, invoke, builtin, Sem.run_bind, Sem.run_pure, Result.andThen_ok, List.map_toArray, List.map_cons, List.map_nil, hs, hx, hr]
  exact hK' _ _ h
theorem step_append_none {P : Program} {ops : Array Oper} {o : Oper} {a : Act} {w : World} {K : Act → World → Prop} {Q : Exit → Act → World → Prop} {E : Prop} (hgd : o.guard = none) (s x : Operand) (t : TypeId)
    (ho : o.op = .call { callee := .builtin .append, args := #[s, x], argTypes := #[t, t] }) {e : TypeId} {i : TypeInfo} {base sz n c : Nat} {A : Option Addr} {v : Value} {xs : List Value} (ht : P.underlying t = some (.slice e)) (hi : P.info? e = some i)
    (hs : a.eval s = v) (hx : a.eval x = .slice A 0 c) (hown : w.ownsRow base e sz v n xs) (h : K (a.put o.dst v) w) :
    if Region.wanted o (yielded ops a.tmps) = true then Oper.wp P o a w K Q else E := by
  have hw : Region.wanted o (yielded ops a.tmps) = true := by simp [Region.wanted, hgd]
  rw [if_pos hw]
  have hr := append_none_at (P := P) (ty := o.type) (A := A) (c := c) ht hi hown
  unfold Oper.wp execOp
  simp only [ho, resolve, invoke, builtin, Sem.run_bind, Sem.run_pure, Result.andThen_ok, List.map_toArray, List.map_cons, List.map_nil, hs, hx, hr]
  exact h
/-- where the reading of a source stands: Q is where the items' rows end -/
structure SrcE (W : World) (Q : Nat) (p : ProD) (v1 v2 : Value) (css1 css2 : List (List Value)) (wr : World) : Prop where
  low : Below Q W wr
  blk : wr.heap[Q]? = some (.cells #[v1, v2] 25 (0, 0))
  r1 : RowG ElA 55 2 wr (Q + 1) v1 p.1 css1
  r2 : RowG ElF 48 4 wr (Q + 1) v2 p.2 css2
  nil2 : p.2 = [] → v2 = .slice none 0 0
  ap : ∀ g, v1.ownBlock = some g → v2.ownBlock ≠ some g
section
variable {W w w' : World} {Q : Nat} {p : ProD} {v1 v2 : Value} {css1 css2 : List (List Value)}
theorem SrcE.lt (h : SrcE W Q p v1 v2 css1 css2 w) : Q < w.heap.size := (Array.getElem?_eq_some_iff.1 h.blk).1
theorem SrcE.below (h : SrcE W Q p v1 v2 css1 css2 w) (hb : Below w.heap.size w w') : SrcE W Q p v1 v2 css1 css2 w' where
  low := h.low.trans (hb.mono (Nat.le_of_lt h.lt))
  blk := (hb.block _ h.lt).trans h.blk
  r1 := h.r1.below elA_ok hb
  r2 := h.r2.below elF_ok hb
  nil2 := h.nil2
  ap := h.ap
theorem SrcE.same (h : SrcE W Q p v1 v2 css1 css2 w) (o : Nat) (u : Value) (hu : (#[v1, v2] : Array Value)[o]? = some u) : SrcE W Q p v1 v2 css1 css2 (w.setCell ⟨Q, o, none⟩ u) := by
  have hs : (w.setCell ⟨Q, o, none⟩ u).heap[Q]? = some (.cells #[v1, v2] 25 (0, 0)) := by
    rw [heap_setCell_same _ _ o _ _ _ h.blk]
    congr 2
    match o with
    | 0 => simp at hu; subst hu; rfl
    | 1 => simp at hu; subst hu; rfl
    | o + 2 => simp at hu
  have hk : ∀ b, w.heap[b]? = (w.setCell ⟨Q, o, none⟩ u).heap[b]? := fun b => by
    by_cases hb : b = Q
    · rw [hb, hs, h.blk]
    · rw [heap_set_off hb]
  have hbl : Below w.heap.size w (w.setCell ⟨Q, o, none⟩ u) := ⟨rfl, rfl, rfl, by simp, fun b _ => (hk b).symm⟩
  exact h.below hbl
/-- an array is put behind; no function came yet -/
theorem SrcE.push1 {v' : Value} {x : ArrD} (h : SrcE W Q p v1 v2 css1 css2 w) (h2 : p.2 = []) (hx : ArrW x) (hr : w'.ownsRow (Q + 1) 55 2 v' (p.1.length + 1) (css1.flatten ++ [.string x.1, .int .i64 x.2])) (hg : w.grownBy w' v1.ownBlock) (hv : v'.ownBlock = v1.ownBlock ∨ v'.ownBlock = some w.heap.size) :
    SrcE W Q (p.1 ++ [x], p.2) v' v2 (css1 ++ [[.string x.1, .int .i64 x.2]]) css2 (w'.setCell ⟨Q, 0, none⟩ v') := by
  have hob : ∀ g, v1.ownBlock = some g → Q + 1 ≤ g := fun g e => (ownO_lt h.r1.row e).2.1
  have hq : w'.heap[Q]? = w.heap[Q]? := hg.block Q h.lt (fun e => by have := hob Q e.symm; omega)
  have hk : ∀ b, b ≠ Q → (w'.setCell ⟨Q, 0, none⟩ v').heap[b]? = w'.heap[b]? := fun b hb => heap_set_off hb
  have hp := h.r1.push elA_ok (x := x) (cs := [.string x.1, .int .i64 x.2]) ⟨rfl, hx⟩ hr hg hv
  have hv2 := h.nil2 h2
  have hc2 : css2 = [] := List.length_eq_zero_iff.1 (by rw [h.r2.len, h2]; rfl)
  subst hv2 hc2
  have hlow : Below Q W w' := h.low.trans ⟨hg.os, hg.tape, hg.output, hg.size, fun b hb => hg.block b (by have := h.lt; omega) (fun e => by have := hob b e.symm; omega)⟩
  refine ⟨hlow.setCell (Nat.le_refl _) v', ?_, hp.move elA_ok ⟨hp.row.1, ?_⟩ (fun b hb _ => hk b (by omega)), by rw [h2]; exact RowG.nil, fun _ => rfl, fun g _ => by simp [Value.ownBlock]⟩
  · rw [heap_setCell_same _ _ 0 _ _ _ (hq.trans h.blk)]; rfl
  · rcases hp.row.2 with h3 | ⟨g, cap, cur, q0, q1, q2, q3⟩
    · exact .inl h3
    · exact .inr ⟨g, cap, cur, q0, q1, (hk g (by omega)).trans q2, q3⟩
/-- a function is put behind -/
theorem SrcE.push2 {v' : Value} {x : FunD} {cs : List Value} (h : SrcE W Q p v1 v2 css1 css2 w) (hx : ElF w (RowS (Q + 1) w v2) x cs) (hr : w'.ownsRow (Q + 1) 48 4 v' (p.2.length + 1) (css2.flatten ++ cs)) (hg : w.grownBy w' v2.ownBlock) (hv : v'.ownBlock = v2.ownBlock ∨ v'.ownBlock = some w.heap.size) :
    SrcE W Q (p.1, p.2 ++ [x]) v1 v' css1 (css2 ++ [cs]) (w'.setCell ⟨Q, 1, none⟩ v') := by
  have hob : ∀ g, v2.ownBlock = some g → Q + 1 ≤ g := fun g e => (ownO_lt h.r2.row e).2.1
  have hq : w'.heap[Q]? = w.heap[Q]? := hg.block Q h.lt (fun e => by have := hob Q e.symm; omega)
  have hk : ∀ b, b ≠ Q → (w'.setCell ⟨Q, 1, none⟩ v').heap[b]? = w'.heap[b]? := fun b hb => heap_set_off hb
  have hp := h.r2.push elF_ok hx hr hg hv
  have hlow : Below Q W w' := h.low.trans ⟨hg.os, hg.tape, hg.output, hg.size, fun b hb => hg.block b (by have := h.lt; omega) (fun e => by have := hob b e.symm; omega)⟩
  have hr1 : w'.ownsRow (Q + 1) 55 2 v1 p.1.length css1.flatten := rowO_kept h.r1.row hg (fun b hb e => h.ap b hb e.symm)
  have hr1' : (w'.setCell ⟨Q, 1, none⟩ v').ownsRow (Q + 1) 55 2 v1 p.1.length css1.flatten := by
    refine ⟨hr1.1, ?_⟩
    rcases hr1.2 with h3 | ⟨g, cap, cur, q0, q1, q2, q3⟩
    · exact .inl h3
    · exact .inr ⟨g, cap, cur, q0, q1, (hk g (by omega)).trans q2, q3⟩
  refine ⟨hlow.setCell (Nat.le_refl _) v', ?_, ⟨h.r1.len, hr1', fun j hj => ?_⟩, hp.move elF_ok ⟨hp.row.1, ?_⟩ (fun b hb _ => hk b (by omega)), fun e => by simp at e, fun g hg1 e => ?_⟩
  · rw [heap_setCell_same _ _ 1 _ _ _ (hq.trans h.blk)]; rfl
  · obtain ⟨cs', q1, q2⟩ := h.r1.els j hj
    exact ⟨cs', q1, q2⟩
  · rcases hp.row.2 with h3 | ⟨g, cap, cur, q0, q1, q2, q3⟩
    · exact .inl h3
    · exact .inr ⟨g, cap, cur, q0, q1, (hk g (by omega)).trans q2, q3⟩
  · rcases hv with e2 | e2
    · exact h.ap g hg1 (e2.symm.trans e)
    · rw [e2] at e
      have := (ownO_lt h.r1.row hg1).1
      simp at e
      omega
end
end Go.Proofs.YtbhdbglhejibbaaGreatDoor
