/- The walk of the statement SymsLeast: it returns true, and writes nothing that was there. -/
import Derived.Test.YthoehbmbmjmpbaaGreatDoorSymY
import Derived.Test.YthoehbmbmjmpbaaGreatDoorSynR
namespace Go.Proofs.YthoehbmbmjmpbaaGreatDoor.SymsLeastWalk
set_option maxRecDepth 100000
open Go.RowKit
set_option linter.unusedVariables false
theorem ob_start (w0 w : World) (hb : Below w0.heap.size w0 w) : ∃ W, W = ((w.alloc (.cells #[.string ⟨#[97]⟩, .string ⟨#[98]⟩, .string ⟨#[99]⟩, .string ⟨#[100]⟩, .string ⟨#[101]⟩, .string ⟨#[102]⟩, .string ⟨#[103]⟩, .string ⟨#[104]⟩, .string ⟨#[105]⟩, .string ⟨#[106]⟩] 9)).alloc (.cells #[.slice none 0 0, .slice none 0 0, .slice none 0 0, .slice none 0 0, .slice none 0 0] 30)) ∧ Ob w0 w.heap.size [] [] (.slice none 0 0) (.slice none 0 0) W := by
  refine ⟨_, rfl, ?_⟩
  generalize h1 : w.alloc (.cells #[.string ⟨#[97]⟩, .string ⟨#[98]⟩, .string ⟨#[99]⟩, .string ⟨#[100]⟩, .string ⟨#[101]⟩, .string ⟨#[102]⟩, .string ⟨#[103]⟩, .string ⟨#[104]⟩, .string ⟨#[105]⟩, .string ⟨#[106]⟩] 9) = w1
  have s1 : w1.heap.size = w.heap.size + 1 := by rw [← h1, alloc_size7]
  have x1 := heap_alloc_new w (.cells #[.string ⟨#[97]⟩, .string ⟨#[98]⟩, .string ⟨#[99]⟩, .string ⟨#[100]⟩, .string ⟨#[101]⟩, .string ⟨#[102]⟩, .string ⟨#[103]⟩, .string ⟨#[104]⟩, .string ⟨#[105]⟩, .string ⟨#[106]⟩] 9)
  rw [h1] at x1
  have b1 : Below w.heap.size w w1 := by rw [← h1]; exact (Below.refl _ _).alloc (Nat.le_refl _) _
  generalize h2 : w1.alloc (.cells #[.slice none 0 0, .slice none 0 0, .slice none 0 0, .slice none 0 0, .slice none 0 0] 30) = w2
  have s2 : w2.heap.size = w.heap.size + 2 := by rw [← h2, alloc_size7, s1]
  have x2 := heap_alloc_new w1 (.cells #[.slice none 0 0, .slice none 0 0, .slice none 0 0, .slice none 0 0, .slice none 0 0] 30)
  rw [h2, s1] at x2
  have b2 : Below w1.heap.size w1 w2 := by rw [← h2]; exact (Below.refl _ _).alloc (Nat.le_refl _) _
  exact ⟨(b2.block _ (by omega)).trans x1, x2, World.ownsRow_nil _ _ _ _, World.ownsRow_nil _ _ _ _, hb.trans ((b1.trans (b2.mono (by omega))).mono hb.size), hb.size, by omega⟩
theorem pb_start {w0 w : World} {n0 : Nat} {T : List Int} {R : List RelD} {vt vr : Value} (h : Ob w0 n0 T R vt vr w) : ∃ W, W = ((w.alloc (.cells #[.int .u32 1048691] 33)).alloc (.cells #[.slice (some ⟨w.heap.size, 0, none⟩) 1 1, .slice none 0 0, .slice none 0 0, .slice none 0 0, .slice none 0 0] 30)) ∧ Pb w0 n0 T R vt vr w.heap.size (w.heap.size + 1) (smL 0) (.slice none 0 0) W := by
  refine ⟨_, rfl, ?_⟩
  generalize h1 : w.alloc (.cells #[.int .u32 1048691] 33) = y1
  have b1 : Below w.heap.size w y1 := by rw [← h1]; exact (Below.refl _ _).alloc (Nat.le_refl _) _
  have r1 := heap_alloc_new w (.cells #[.int .u32 1048691] 33)
  rw [h1] at r1
  have s1 : y1.heap.size = w.heap.size + 1 := by rw [← h1, alloc_size7]
  generalize h2 : y1.alloc (.cells #[.slice (some ⟨w.heap.size, 0, none⟩) 1 1, .slice none 0 0, .slice none 0 0, .slice none 0 0, .slice none 0 0] 30) = y2
  have b2 : Below y1.heap.size y1 y2 := by rw [← h2]; exact (Below.refl _ _).alloc (Nat.le_refl _) _
  have r2 := heap_alloc_new y1 (.cells #[.slice (some ⟨w.heap.size, 0, none⟩) 1 1, .slice none 0 0, .slice none 0 0, .slice none 0 0, .slice none 0 0] 30)
  rw [h2, s1] at r2
  exact ⟨h.below (b1.trans (b2.mono b1.size)), (b2.block _ (Array.getElem?_eq_some_iff.1 r1).1).trans r1, r2, World.ownsRow_nil _ _ _ _, by omega, h.z⟩
set_option maxHeartbeats 8000000 in
theorem walk (a0 a1 : Int) (w : World) (w0 : (Lit.int .u8 a0).wf = true) (w1 : (Lit.int .u8 a1).wf = true) (hT : Tabs w) :
    Calls Tryz.prog 3 #[.int .u8 a0, .int .u8 a1] w fun e w' => e = .returned (.bool true) ∧ Below w.heap.size w w' := by
  have hb := bounds_u8 w0
  have hb' := bounds_u8 w1
  have h0 : 0 ≤ a0 := by omega
  have h1 : a0 ≤ 255 := by omega
  have h2 : 0 ≤ a1 := by omega
  have h3 : a1 ≤ 255 := by omega
  have HT := Lib.hid hT
  have HAw := Lib.hid (awake7_yes w hT)
  obtain ⟨k, hk⟩ : ∃ k : Nat, 1 + a0 % 10 = (k : Int) := ⟨(1 + a0 % 10).toNat, by omega⟩
  have hk1 : 1 ≤ k := by omega
  have hk10 : k ≤ 10 := by omega
  have HK := Lib.hid hk
  clear hT hb hb' w0 w1 hk
  go_enter Tryz.func3, Tryz.ntmps3
  go_wp2_with fail
  refine HAw.out.mono ?_
  rintro e w2 ⟨rfl, hb1⟩
  have HB1 := Lib.hid hb1
  clear hb1 HAw
  obtain ⟨W, hWe, hX⟩ := ob_start w w2 HB1.out
  go_wp2
  rw [← hWe, HK.out]
  have HX := Lib.hid (show ∃ vt vr, Ob w w2.heap.size (txL k k) (rlL k k) vt vr W from ⟨_, _, by
    have e1 : txL k k = [] := by unfold txL; rw [Nat.sub_self]; rfl
    have e2 : rlL k k = [] := by unfold rlL; rw [Nat.sub_self]; rfl
    rw [e1, e2]; exact hX⟩)
  clear hWe hX HB1
  generalize w2.heap.size = n0 at *
  go_loopw [8] (fun i wr => ∃ c : Nat, c ≤ k ∧ i = .int .i64 ((c : Int) - 1) ∧ Hid (∃ vt vr, Ob w n0 (txL k c) (rlL k c) vt vr wr)) (fun i _ => ((intOf i) + 1).toNat)
  case atStart => exact ⟨k, Nat.le_refl _, rfl, HX⟩
  case round =>
    clear HX
    obtain ⟨c, hc, rfl, HH⟩ := hrel
    by_cases hlt : 1 ≤ c
    · obtain ⟨d, rfl⟩ : ∃ d, c = d + 1 := ⟨c - 1, by omega⟩
      have hd : ((d + 1 : Nat) : Int) - 1 = (d : Int) := by omega
      rw [hd]
      have hge : (0 : Int) ≤ (d : Int) := by omega
      have hd10 : d < 10 := by omega
      have hd10i : (d : Int) < 10 := by omega
      obtain ⟨q, hq⟩ : ∃ q, k - (d + 1) = q := ⟨_, rfl⟩
      have hq10 : q ≤ 10 := by omega
      have e1 : (txL k (d + 1)).length = q := by rw [txL_len]; exact hq
      have e2 : (rlL k (d + 1)).length = q := by rw [rlL_len]; exact hq
      have HE := Lib.hid (And.intro e1 e2)
      have HG1 := Lib.hid (rlL_go (k := k) (c := d) (by omega))
      have HG2 := Lib.hid (txL_go (k := k) (c := d) (by omega))
      rw [hq] at HG1
      obtain ⟨i0, hi0, hz0, hz1, hz2⟩ := info_parts info_rel
      obtain ⟨j0, hj0, hy0, hy1, hy2⟩ := info_parts info_u32
      clear e1 e2 hq hd hlt
      go_upto_region 9 with fail
      go_cut [] (fun wy => Hid (∃ vt vr, Ob w n0 (txL k (d + 1)) (rlL k d) vt vr wy))
      case first =>
        obtain ⟨vt, vr, hX⟩ := HH.out
        clear HH
        obtain ⟨At, ct, rfl⟩ := ownO_slice hX.ft
        obtain ⟨Ar, cr, rfl⟩ := ownO_slice hX.fr
        rw [HE.out.1, HE.out.2] at hX
        have HX := Lib.hid hX
        have hnm := hX.cell hd10
        obtain ⟨x0, x1, x2, x3, x4, xf⟩ := row5 hX.fo
        clear hX
        have HWx := Lib.hid (show IntKind.i64.wrap (4 * (q : Int)) = 4 * (q : Int) from by rw [IntKind.wrap_i64]; omega)
        have HTa := Lib.hid ((HX.out.below (Below.drew (Below.refl _ _))).below ((Below.refl wr.drew.heap.size wr.drew).alloc (Nat.le_refl _) (.cells #[.int .i64 (IntKind.i64.wrap (4 * (q : Int))), .int .i64 2, .string (nmK d), .int .i64 0] 32)))
        have HFr := Lib.hid (show (wr.drew.alloc (.cells #[.int .i64 (IntKind.i64.wrap (4 * (q : Int))), .int .i64 2, .string (nmK d), .int .i64 0] 32)).ownsRow (n0 + 2) 32 4 (.slice Ar q cr) q ((rlL k (d + 1)).flatMap encRel) from by have h := HTa.out.fr; rw [HE.out.2] at h; exact h)
        have hXa := HX.out.below ((Below.refl wr.heap.size wr).alloc (Nat.le_refl _) (.cells #[.int .i64 (IntKind.i64.wrap (4 * (q : Int))), .int .i64 2, .string (nmK d), .int .i64 0] 32))
        obtain ⟨p0, p1, p2, p3, p4, pf⟩ := row5 hXa.fo
        have hnma := hXa.cell hd10
        clear hXa
        have HNa := Lib.hid (news_at (w := wr.drew) (w2 := wr.drew.alloc (.cells #[.int .i64 (IntKind.i64.wrap (4 * (q : Int))), .int .i64 2, .string (nmK d), .int .i64 0] 32)) (cs := encRel (IntKind.i64.wrap (4 * (q : Int)), 2, nmK d, 0)) (ty := 32) rfl)
        have H1s := Lib.hid (one_rel7 (IntKind.i64.wrap (4 * (q : Int)), 2, nmK d, 0))
        have HMl := Lib.hid (show q + 1 ≤ maxLen by unfold maxLen; omega)
        have HBy := Lib.hid (show (q + 1) * 40 ≤ 140737488355328 by omega)
        go_region_law (first
          | (refine step_append_at6 rfl _ _ 27 rfl (n0 + 2) 32 i0 (.agg #[.int .i64 0, .int .i64 0, .string ⟨#[]⟩, .int .i64 0]) 4 40 Tryz.underlying27 hi0 hz0 hz1 hz2 rfl (by decide) (.slice Ar q cr) q ((rlL k (d + 1)).flatMap encRel) ?hs HFr.out ⟨wr.heap.size, 0, none⟩ 1 1 (encRel (IntKind.i64.wrap (4 * (q : Int)), 2, nmK d, 0)) ?hx rfl HNa.out H1s.out HMl.out HBy.out HTa.out.z ?_; (case hs => simp [go_sem]); (case hx => simp [go_sem]); intro v' w3 hr hg hv'; have HR := Lib.hid hr; have HG := Lib.hid hg; obtain ⟨z0, z1, z2, z3, z4, zf⟩ := row5 (HTa.out.box hg (own_ge HFr.out)); obtain ⟨A3, e3, rfl⟩ := ownO_slice hr; clear hr hg hv'))
        all_goals
          have HY := HTa.out.putR (r := (IntKind.i64.wrap (4 * (q : Int)), 2, nmK d, 0)) (by rw [HE.out.2]; exact HR.out) HG.out
          rw [HWx.out] at HY
          rw [← HG1.out] at HY
          have HZ := Lib.hid HY
          clear HY HR HG HNa H1s HMl HBy HTa HX HFr
          go_wp2
          go_meet
          case rel => exact Lib.hid ⟨_, _, HZ.out⟩
      case rest =>
        have HH1 := hcut
        clear HH hcut
        obtain ⟨vt, vr, hX⟩ := HH1.out
        clear HH1
        obtain ⟨At, ct, rfl⟩ := ownO_slice hX.ft
        rw [HE.out.1] at hX
        have HXa := Lib.hid (hX.below ((Below.refl wc.heap.size wc).alloc (Nat.le_refl _) (.cells #[.int .u32 111] 33)))
        obtain ⟨x0, x1, x2, x3, x4, xf⟩ := row5 hX.fo
        obtain ⟨p0, p1, p2, p3, p4, pf⟩ := row5 HXa.out.fo
        clear hX
        have HFt := Lib.hid (show (wc.alloc (.cells #[.int .u32 111] 33)).ownsRow (n0 + 2) 33 1 (.slice At q ct) q ((txL k (d + 1)).flatMap encU32) from by have h := HXa.out.ft; rw [HE.out.1] at h; exact h)
        have HNa := Lib.hid (news_at (w := wc) (w2 := wc.alloc (.cells #[.int .u32 111] 33)) (cs := encU32 111) (ty := 33) rfl)
        have H1s := Lib.hid (one_u32v 111)
        have HMl := Lib.hid (show q + 1 ≤ maxLen by unfold maxLen; omega)
        have HBy := Lib.hid (show (q + 1) * 4 ≤ 140737488355328 by omega)
        go_wp2_with (at_builtin; (refine wpList_append_at6 rfl _ _ 24 rfl (n0 + 2) 33 j0 (.int .u32 0) 1 4 Tryz.underlying24 hj0 hy0 hy1 hy2 rfl (by decide) (.slice At q ct) q ((txL k (d + 1)).flatMap encU32) ?hs HFt.out ⟨wc.heap.size, 0, none⟩ 1 1 (encU32 111) ?hx rfl HNa.out H1s.out HMl.out HBy.out HXa.out.z ?_; (case hs => rfl); (case hx => rfl); intro v' w3 hr hg hv'; obtain ⟨z0, z1, z2, z3, z4, zf⟩ := row5 (HXa.out.box hg (own_ge HFt.out)); obtain ⟨A3, e3, rfl⟩ := ownO_slice hr))
        have HR := Lib.hid hr
        have HG := Lib.hid hg
        clear hr hg hv'
        have HY := HXa.out.putT (x := 111) (by rw [HE.out.1]; exact HR.out) HG.out
        rw [← HG2.out] at HY
        have HZ := Lib.hid HY
        clear HY HR HG HNa H1s HMl HBy HXa HFt
        have hdk : d ≤ k := by omega
        go_wp2
        go_roundw
        case rel => exact ⟨d, hdk, rfl, Lib.hid ⟨_, _, HZ.out⟩⟩
        case measure => simp [intOf]
    · obtain rfl : c = 0 := by omega
      obtain ⟨vt, vr, hX⟩ := HH.out
      have HX := Lib.hid hX
      clear HH hlt hc hX
      rw [show (((0 : Nat) : Int) - 1) = -1 from rfl]
      obtain ⟨W2, hWe, hP⟩ := pb_start HX.out
      obtain ⟨m, hm⟩ : ∃ m : Nat, a1 % ((k : Int) + 1) = (m : Int) := ⟨(a1 % ((k : Int) + 1)).toNat, by have := Int.emod_nonneg a1 (show (k : Int) + 1 ≠ 0 by omega); omega⟩
      have hmk : m ≤ k := by have := Int.emod_lt_of_pos a1 (show (0 : Int) < (k : Int) + 1 by omega); omega
      have HM := Lib.hid hm
      clear hm
      go_wp2
      rw [HM.out, ← hWe]
      have HP := Lib.hid (show ∃ vs, Pb w n0 (txL k 0) (rlL k 0) vt vr wr.heap.size (wr.heap.size + 1) (smL 0) vs W2 from ⟨_, hP⟩)
      clear hWe hP HX
      generalize wr.heap.size = t at *
      obtain ⟨i0, hi0, hz0, hz1, hz2⟩ := info_parts info_sym
      go_loopw [11] (fun i wr => ∃ c : Nat, c ≤ m ∧ i = .int .i64 c ∧ Hid (∃ vs, Pb w n0 (txL k 0) (rlL k 0) vt vr t (t + 1) (smL c) vs wr)) (fun i _ => m - (intOf i).toNat)
      case atStart => exact ⟨0, by omega, rfl, HP⟩
      case round =>
        clear HP
        obtain ⟨c, hc, rfl, HH⟩ := hrel
        by_cases hlt : c < m
        · have k0 : (0 : Int) ≤ c := by omega
          have k1 : (c : Int) < m := by omega
          have hc10 : c < 10 := by omega
          have hc10i : (c : Int) < 10 := by omega
          obtain ⟨vs, hX⟩ := HH.out
          obtain ⟨As, cs, rfl⟩ := ownO_slice hX.fs
          rw [smL_len] at hX
          have HX := Lib.hid hX
          have hnm := hX.o.cell hc10
          obtain ⟨x0, x1, x2, x3, x4, xf⟩ := row5 hX.f2
          clear hX HH
          have HTa := Lib.hid ((HX.out.below (Below.drew (Below.refl _ _))).below ((Below.refl wr.drew.heap.size wr.drew).alloc (Nat.le_refl _) (.cells #[.string (nmK c), .bool false, .int .i64 0, .bool true] 35)))
          have HFs := Lib.hid (show (wr.drew.alloc (.cells #[.string (nmK c), .bool false, .int .i64 0, .bool true] 35)).ownsRow (t + 1 + 1) 35 4 (.slice As c cs) c ((smL c).flatMap encSym) from by have h := HTa.out.fs; rw [smL_len] at h; exact h)
          have hXa := HX.out.below ((Below.refl wr.heap.size wr).alloc (Nat.le_refl _) (.cells #[.string (nmK c), .bool false, .int .i64 0, .bool true] 35))
          obtain ⟨p0, p1, p2, p3, p4, pf⟩ := row5 hXa.f2
          have hnma := hXa.o.cell hc10
          clear hXa
          have HNa := Lib.hid (news_at (w := wr.drew) (w2 := wr.drew.alloc (.cells #[.string (nmK c), .bool false, .int .i64 0, .bool true] 35)) (cs := encSym (nmK c, false, 0, true)) (ty := 35) rfl)
          have H1s := Lib.hid (one_sym7 (nmK c, false, 0, true))
          have HMl := Lib.hid (show c + 1 ≤ maxLen by unfold maxLen; omega)
          have HBy := Lib.hid (show (c + 1) * 40 ≤ 140737488355328 by omega)
          have HSg := Lib.hid (smL_go c)
          have HRz := Lib.hid (show t + 1 + 1 ≤ (wr.drew.alloc (.cells #[.string (nmK c), .bool false, .int .i64 0, .bool true] 35)).heap.size from (Array.getElem?_eq_some_iff.1 HTa.out.f2).1)
          go_upto_region 16 with fail
          go_region_law (first
            | (refine step_append_at6 rfl _ _ 26 rfl (t + 1 + 1) 35 i0 (.agg #[.string ⟨#[]⟩, .bool false, .int .i64 0, .bool false]) 4 40 Tryz.underlying26 hi0 hz0 hz1 hz2 rfl (by decide) (.slice As c cs) c ((smL c).flatMap encSym) ?hs HFs.out ⟨wr.heap.size, 0, none⟩ 1 1 (encSym (nmK c, false, 0, true)) ?hx rfl HNa.out H1s.out HMl.out HBy.out HRz.out ?_; (case hs => simp [go_sem]); (case hx => simp [go_sem]); intro v' w3 hr hg hv'; have HR := Lib.hid hr; have HG := Lib.hid hg; obtain ⟨z0, z1, z2, z3, z4, zf⟩ := row5 (HTa.out.box hg); obtain ⟨A3, e3, rfl⟩ := ownO_slice hr; clear hr hg hv'))
          all_goals
            have HY := HTa.out.put (s := (nmK c, false, 0, true)) (by rw [smL_len]; exact HR.out) HG.out
            rw [← HSg.out] at HY
            have HZ := Lib.hid HY
            clear HY HR HG HNa H1s HMl HBy HTa HX HFs HRz HSg
            go_wp2
            go_roundw
            case rel => exact ⟨c + 1, by omega, by go_num, Lib.hid ⟨_, HZ.out⟩⟩
            case measure => simp [intOf]; omega
        · obtain rfl : c = m := by omega
          have k1 : ¬ (c : Int) < (c : Int) := by omega
          obtain ⟨vs, hX⟩ := HH.out
          obtain ⟨As, cs, rfl⟩ := ownO_slice hX.fs
          obtain ⟨At, ct, rfl⟩ := ownO_slice hX.o.ft
          obtain ⟨Ar, cr, rfl⟩ := ownO_slice hX.o.fr
          have HX := Lib.hid hX
          obtain ⟨x0, x1, x2, x3, x4, xf⟩ := row5 hX.f2
          obtain ⟨y0, y1, y2, y3, y4, yf⟩ := row5 hX.o.fo
          clear hX HH hlt k1 hc
          go_wp2_with fail
          have hk1000 : k ≤ 1000 := by omega
          have hOs := fun (W : World) (hP : Pb w n0 (txL k 0) (rlL k 0) (.slice At (txL k 0).length ct) (.slice Ar (rlL k 0).length cr) t (t + 1) (smL c) (.slice As (smL c).length cs) W) => objs_two (T := 30) (Nat.le_refl _) (show ObjAt W 0 W.heap.size (pD7 c) _ from hP.at) (show ObjAt W 0 W.heap.size (oD7 k) _ from hP.o.at)
          have HOs := Lib.hid hOs
          clear hOs
          refine (check_any [pD7 c, oD7 k] (po_w hk1000) _ 2 2 _ _ rfl (by unfold maxLen; omega) _ ((HT.out.below HX.out.o.b).alloc _) (HOs.out wr HX.out) (Nat.le_of_eq (alloc_size7 _ _).symm)).mono ?_
          rintro e w3 ⟨s3, c3, rfl, hc, hb⟩
          obtain ⟨hs3, hk3⟩ := chk_eq (po_w hk1000) (by simp) hc
          have hal := (Below.refl wr.heap.size wr).alloc (Nat.le_refl _) (.cells #[.slice (some ⟨t, 0, none⟩) 1 1, .slice none 0 0, .slice As (smL c).length cs, .slice none 0 0, .slice none 0 0, .slice At (txL k 0).length ct, .slice none 0 0, .slice none 0 0, .slice Ar (rlL k 0).length cr, .slice none 0 0] 30)
          have HX3 := Lib.hid (HX.out.below (hal.trans (hb.mono hal.size)))
          have HS3 := Lib.hid (And.intro hs3 hk3)
          clear hc hb hal hs3 hk3 HX x0 x1 x2 x3 x4 xf y0 y1 y2 y3 y4 yf
          obtain ⟨x0, x1, x2, x3, x4, xf⟩ := row5 HX3.out.f2
          obtain ⟨y0, y1, y2, y3, y4, yf⟩ := row5 HX3.out.o.fo
          go_wp2_with fail
          refine (rcheck7_any [pD7 c, oD7 k] (po_w hk1000) _ 2 2 _ _ rfl (by unfold maxLen; omega) _ (HOs.out w3 HX3.out) (Nat.le_of_eq (alloc_size7 _ _).symm)).mono ?_
          rintro e w4 ⟨rfl, hb⟩
          have hal := (Below.refl w3.heap.size w3).alloc (Nat.le_refl _) (.cells #[.slice (some ⟨t, 0, none⟩) 1 1, .slice none 0 0, .slice As (smL c).length cs, .slice none 0 0, .slice none 0 0, .slice At (txL k 0).length ct, .slice none 0 0, .slice none 0 0, .slice Ar (rlL k 0).length cr, .slice none 0 0] 30)
          have HX4 := Lib.hid (HX3.out.below (hal.trans (hb.mono hal.size)))
          obtain ⟨hs3, hk3⟩ := HS3.out
          rw [chk_po k (by omega) c (by omega) ⟨hk1, hmk⟩] at hs3 hk3
          rw [rchk_po k (by omega) c (by omega) ⟨hk1, hmk⟩]
          clear hb hal HX3 HS3 x0 x1 x2 x3 x4 xf y0 y1 y2 y3 y4 yf HOs
          by_cases hck : c = k
          · rw [if_pos hck] at hs3 hk3 ⊢
            simp only at hs3 hk3
            subst hs3 hk3 hck
            go_wp2
            go_ret
            exact ⟨rfl, HX4.out.o.b⟩
          · rw [if_neg hck] at hs3 hk3 ⊢
            simp only at hs3 hk3
            subst hs3 hk3
            have hcki : ¬ (c : Int) = (k : Int) := by omega
            have hckb : ((c : Int) == (k : Int)) = false := by simpa using hcki
            have hc0 : (0 : Int) ≤ (c : Int) := by omega
            have hc9 : (c : Int) < 10 := by omega
            have hnk := HX4.out.o.cell (c := c) (by omega)
            have hbe : ((nmK c).toList == (nmK c).toList) = true := by simp
            clear hck
            generalize nmK c = nk at *
            go_wp2
            go_ret
            exact ⟨rfl, HX4.out.o.b⟩
end Go.Proofs.YthoehbmbmjmpbaaGreatDoor.SymsLeastWalk
