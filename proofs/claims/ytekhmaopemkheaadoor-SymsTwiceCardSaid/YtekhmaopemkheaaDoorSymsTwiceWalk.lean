/- The walk of the statement SymsTwice: it returns true, and writes nothing that was there. -/
import Derived.Test.YtekhmaopemkheaaDoorSymY
import Derived.Test.YtekhmaopemkheaaDoorSymU
namespace Go.Proofs.YtekhmaopemkheaaDoor.SymsTwiceWalk
set_option maxRecDepth 100000
open Go.RowKit
set_option linter.unusedVariables false
theorem tw_start (w0 w : World) (hb : Below w0.heap.size w0 w) : ∃ W, W = (((((((w.alloc (.cells #[.string ⟨#[97]⟩, .string ⟨#[98]⟩, .string ⟨#[99]⟩, .string ⟨#[100]⟩, .string ⟨#[101]⟩, .string ⟨#[102]⟩, .string ⟨#[103]⟩, .string ⟨#[104]⟩, .string ⟨#[105]⟩, .string ⟨#[106]⟩] 9)).alloc (.cells #[.int .u32 1048691] 48)).alloc (.cells #[.slice (some ⟨w.heap.size + 1, 0, none⟩) 1 1, .slice none 0 0, .slice none 0 0, .slice none 0 0, .slice none 0 0] 31)).alloc (.cells #[.int .u32 1048691] 48)).alloc (.cells #[.slice (some ⟨w.heap.size + 1 + 1 + 1, 0, none⟩) 1 1, .slice none 0 0, .slice none 0 0, .slice none 0 0, .slice none 0 0] 31)).alloc (.cells #[.int .u32 1048691] 48)).alloc (.cells #[.slice (some ⟨w.heap.size + 1 + 1 + 1 + 1 + 1, 0, none⟩) 1 1, .slice none 0 0, .slice none 0 0, .slice none 0 0, .slice none 0 0] 31)) ∧ Tw w0 w.heap.size [] [] [] (.slice none 0 0) (.slice none 0 0) (.slice none 0 0) W := by
  refine ⟨_, rfl, ?_⟩
  generalize h1 : w.alloc (.cells #[.string ⟨#[97]⟩, .string ⟨#[98]⟩, .string ⟨#[99]⟩, .string ⟨#[100]⟩, .string ⟨#[101]⟩, .string ⟨#[102]⟩, .string ⟨#[103]⟩, .string ⟨#[104]⟩, .string ⟨#[105]⟩, .string ⟨#[106]⟩] 9) = w1
  have s1 : w1.heap.size = w.heap.size + 1 := by rw [← h1, alloc_size7]
  have x1 := heap_alloc_new w (.cells #[.string ⟨#[97]⟩, .string ⟨#[98]⟩, .string ⟨#[99]⟩, .string ⟨#[100]⟩, .string ⟨#[101]⟩, .string ⟨#[102]⟩, .string ⟨#[103]⟩, .string ⟨#[104]⟩, .string ⟨#[105]⟩, .string ⟨#[106]⟩] 9)
  rw [h1] at x1
  have b1 : Below w.heap.size w w1 := by rw [← h1]; exact (Below.refl _ _).alloc (Nat.le_refl _) _
  generalize h2 : w1.alloc (.cells #[.int .u32 1048691] 48) = w2
  have s2 : w2.heap.size = w.heap.size + 2 := by rw [← h2, alloc_size7, s1]
  have x2 := heap_alloc_new w1 (.cells #[.int .u32 1048691] 48)
  rw [h2, s1] at x2
  have b2 : Below w1.heap.size w1 w2 := by rw [← h2]; exact (Below.refl _ _).alloc (Nat.le_refl _) _
  generalize h3 : w2.alloc (.cells #[.slice (some ⟨w.heap.size + 1, 0, none⟩) 1 1, .slice none 0 0, .slice none 0 0, .slice none 0 0, .slice none 0 0] 31) = w3
  have s3 : w3.heap.size = w.heap.size + 3 := by rw [← h3, alloc_size7, s2]
  have x3 := heap_alloc_new w2 (.cells #[.slice (some ⟨w.heap.size + 1, 0, none⟩) 1 1, .slice none 0 0, .slice none 0 0, .slice none 0 0, .slice none 0 0] 31)
  rw [h3, s2] at x3
  have b3 : Below w2.heap.size w2 w3 := by rw [← h3]; exact (Below.refl _ _).alloc (Nat.le_refl _) _
  generalize h4 : w3.alloc (.cells #[.int .u32 1048691] 48) = w4
  have s4 : w4.heap.size = w.heap.size + 4 := by rw [← h4, alloc_size7, s3]
  have x4 := heap_alloc_new w3 (.cells #[.int .u32 1048691] 48)
  rw [h4, s3] at x4
  have b4 : Below w3.heap.size w3 w4 := by rw [← h4]; exact (Below.refl _ _).alloc (Nat.le_refl _) _
  generalize h5 : w4.alloc (.cells #[.slice (some ⟨w.heap.size + 1 + 1 + 1, 0, none⟩) 1 1, .slice none 0 0, .slice none 0 0, .slice none 0 0, .slice none 0 0] 31) = w5
  have s5 : w5.heap.size = w.heap.size + 5 := by rw [← h5, alloc_size7, s4]
  have x5 := heap_alloc_new w4 (.cells #[.slice (some ⟨w.heap.size + 1 + 1 + 1, 0, none⟩) 1 1, .slice none 0 0, .slice none 0 0, .slice none 0 0, .slice none 0 0] 31)
  rw [h5, s4] at x5
  have b5 : Below w4.heap.size w4 w5 := by rw [← h5]; exact (Below.refl _ _).alloc (Nat.le_refl _) _
  generalize h6 : w5.alloc (.cells #[.int .u32 1048691] 48) = w6
  have s6 : w6.heap.size = w.heap.size + 6 := by rw [← h6, alloc_size7, s5]
  have x6 := heap_alloc_new w5 (.cells #[.int .u32 1048691] 48)
  rw [h6, s5] at x6
  have b6 : Below w5.heap.size w5 w6 := by rw [← h6]; exact (Below.refl _ _).alloc (Nat.le_refl _) _
  generalize h7 : w6.alloc (.cells #[.slice (some ⟨w.heap.size + 1 + 1 + 1 + 1 + 1, 0, none⟩) 1 1, .slice none 0 0, .slice none 0 0, .slice none 0 0, .slice none 0 0] 31) = w7
  have s7 : w7.heap.size = w.heap.size + 7 := by rw [← h7, alloc_size7, s6]
  have x7 := heap_alloc_new w6 (.cells #[.slice (some ⟨w.heap.size + 1 + 1 + 1 + 1 + 1, 0, none⟩) 1 1, .slice none 0 0, .slice none 0 0, .slice none 0 0, .slice none 0 0] 31)
  rw [h7, s6] at x7
  have b7 : Below w6.heap.size w6 w7 := by rw [← h7]; exact (Below.refl _ _).alloc (Nat.le_refl _) _
  have y1 := (b7.block _ (by omega)).trans ((b6.block _ (by omega)).trans ((b5.block _ (by omega)).trans ((b4.block _ (by omega)).trans ((b3.block _ (by omega)).trans ((b2.block _ (by omega)).trans x1)))))
  have y2 := (b7.block _ (by omega)).trans ((b6.block _ (by omega)).trans ((b5.block _ (by omega)).trans ((b4.block _ (by omega)).trans ((b3.block _ (by omega)).trans x2))))
  have y3 := (b7.block _ (by omega)).trans ((b6.block _ (by omega)).trans ((b5.block _ (by omega)).trans ((b4.block _ (by omega)).trans x3)))
  have y4 := (b7.block _ (by omega)).trans ((b6.block _ (by omega)).trans ((b5.block _ (by omega)).trans x4))
  have y5 := (b7.block _ (by omega)).trans ((b6.block _ (by omega)).trans x5)
  have y6 := (b7.block _ (by omega)).trans x6
  have y7 := x7
  have hbb : Below w.heap.size w w7 := b1.trans ((b2.mono (by omega)).trans ((b3.mono (by omega)).trans ((b4.mono (by omega)).trans ((b5.mono (by omega)).trans ((b6.mono (by omega)).trans (b7.mono (by omega)))))))
  exact ⟨y1, ⟨y2, y3, World.ownsRow_nil _ _ _ _, by omega, by omega, by omega⟩, ⟨y4, y5, World.ownsRow_nil _ _ _ _, by omega, by omega, by omega⟩, ⟨y6, y7, World.ownsRow_nil _ _ _ _, by omega, by omega, by omega⟩,
    fun _ e => (by cases e), fun _ e => (by cases e), fun _ e => (by cases e), hb.trans (hbb.mono hb.size), hb.size, by omega⟩
theorem calls_find7 (args : Array Value) (w : World) : (callFunc 12 args).run Tryd.prog w = .ok (.enter 12 args) w := by kernel_rfl
theorem mnew7 (w : World) (o : Obj) {n : Nat} (h : w.heap.size = n) : (w.alloc o).heap[n]? = some o := by subst h; exact heap_alloc_new w o
set_option maxHeartbeats 8000000 in
theorem walk (a0 a1 : Int) (w : World) (w0 : (Lit.int .u8 a0).wf = true) (w1 : (Lit.int .u8 a1).wf = true) (hT : Tabs w) :
    Calls Tryd.prog 6 #[.int .u8 a0, .int .u8 a1] w fun e w' => e = .returned (.bool true) ∧ Below w.heap.size w w' := by
  have hb := bounds_u8 w0
  have hb' := bounds_u8 w1
  have h0 : 0 ≤ a0 := by omega
  have h1 : a0 ≤ 255 := by omega
  have h2 : 0 ≤ a1 := by omega
  have h3 : a1 ≤ 255 := by omega
  have HT := Lib.hid hT
  have HAw := Lib.hid (awake7_yes w hT)
  obtain ⟨k, hk⟩ : ∃ k : Nat, a0 % 11 = (k : Int) := ⟨(a0 % 11).toNat, by omega⟩
  have hk10 : k ≤ 10 := by omega
  obtain ⟨m, hm⟩ : ∃ m : Nat, a1 % 10 = (m : Int) := ⟨(a1 % 10).toNat, by omega⟩
  have hm9 : m ≤ 9 := by omega
  have HK := Lib.hid hk
  have HM := Lib.hid hm
  clear hT hb hb' w0 w1 hk hm
  go_enter Tryd.func6, Tryd.ntmps6
  go_wp2_with fail
  refine HAw.out.mono ?_
  rintro e w2 ⟨rfl, hb1⟩
  have HB1 := Lib.hid hb1
  clear hb1 HAw
  obtain ⟨W, hWe, hX⟩ := tw_start w w2 HB1.out
  go_wp2
  rw [← hWe, HK.out]
  have hlf : ∀ f : Nat → Bool, syL f 10 = [] := fun f => rfl
  rw [← hlf fun _ => true] at hX
  have HX := Lib.hid (show Tw w w2.heap.size (syL (fun _ => true) 10) (syL (fun i => decide (k ≤ i)) 10) (syL (fun _ => false) 10) (.slice none 0 0) (.slice none 0 0) (.slice none 0 0) W from hX)
  clear hWe hX hlf HB1
  generalize w2.heap.size = n0 at *
  go_loopw [10] (fun i wr => ∃ c : Nat, c ≤ 10 ∧ i = .int .i64 ((c : Int) - 1) ∧ Hid (∃ vo vp vq, Tw w n0 (syL (fun _ => true) c) (syL (fun i => decide (k ≤ i)) c) (syL (fun _ => false) c) vo vp vq wr)) (fun i _ => ((intOf i) + 1).toNat)
  case atStart => exact ⟨10, by omega, rfl, Lib.hid ⟨_, _, _, HX.out⟩⟩
  case round =>
    clear HX
    obtain ⟨c, hc, rfl, HH⟩ := hrel
    obtain ⟨vo, vp, vq, hX⟩ := HH.out
    clear HH
    by_cases hlt : 1 ≤ c
    · obtain ⟨d, rfl⟩ : ∃ d, c = d + 1 := ⟨c - 1, by omega⟩
      have hd : ((d + 1 : Nat) : Int) - 1 = (d : Int) := by omega
      rw [hd]
      have hge : (0 : Int) ≤ (d : Int) := by omega
      have hd10 : d < 10 := by omega
      have hd10i : (d : Int) < 10 := by omega
      have hlo : ∀ f, (syL f (d + 1)).length ≤ 10 := fun f => by unfold syL; simp; omega
      have HLo := Lib.hid hlo
      have HH0 := Lib.hid (show ∃ vo vp vq, Tw w n0 (syL (fun _ => true) (d + 1)) (syL (fun i => decide (k ≤ i)) (d + 1)) (syL (fun _ => false) (d + 1)) vo vp vq wr from ⟨_, _, _, hX⟩)
      obtain ⟨i0, hi0, hz0, hz1, hz2⟩ := info_parts info_sym
      clear hX hlo
      go_upto_region 11 with fail
      go_cut [] (fun wy => Hid (∃ vo vp vq, Tw w n0 (syL (fun _ => true) d) (syL (fun i => decide (k ≤ i)) (d + 1)) (syL (fun _ => false) (d + 1)) vo vp vq wy))
      case first =>
        have HH := HH0
        obtain ⟨vo, vp, vq, hX⟩ := HH.out
        clear HH
        obtain ⟨A0, c0, rfl⟩ := ownO_slice hX.o.fr
        have HX := Lib.hid hX
        have hnm := hX.cell hd10
        obtain ⟨x0, x1, x2, x3, x4, xf⟩ := row5 hX.o.fo
        clear hX
        have HTa := Lib.hid ((HX.out.below (Below.drew (Below.refl _ _))).below ((Below.refl wr.drew.heap.size wr.drew).alloc (Nat.le_refl _) (.cells #[.string (nmK d), .bool false, .int .i64 0, .bool true] 47)))
        obtain ⟨p0, p1, p2, p3, p4, pf⟩ := row5 (HX.out.below ((Below.refl wr.heap.size wr).alloc (Nat.le_refl _) (.cells #[.string (nmK d), .bool false, .int .i64 0, .bool true] 47))).o.fo
        have hnma := (HX.out.below ((Below.refl wr.heap.size wr).alloc (Nat.le_refl _) (.cells #[.string (nmK d), .bool false, .int .i64 0, .bool true] 47))).cell hd10
        have HNa := Lib.hid (news_at (w := wr.drew) (w2 := wr.drew.alloc (.cells #[.string (nmK d), .bool false, .int .i64 0, .bool true] 47)) (cs := encSym (nmK d, false, 0, true)) (ty := 47) rfl)
        have H1s := Lib.hid (one_sym7 (nmK d, false, 0, true))
        have HMl := Lib.hid (show (syL (fun _ => true) (d + 1)).length + 1 ≤ maxLen by have := HLo.out (fun _ => true); unfold maxLen; omega)
        have HBy := Lib.hid (show ((syL (fun _ => true) (d + 1)).length + 1) * 40 ≤ 140737488355328 by have := HLo.out (fun _ => true); omega)
        go_region_law (first
          | (refine step_append_at6 rfl _ _ 27 rfl (n0 + 7) 47 i0 (.agg #[.string ⟨#[]⟩, .bool false, .int .i64 0, .bool false]) 4 40 Tryd.underlying27 hi0 hz0 hz1 hz2 rfl (by decide) (.slice A0 (syL (fun _ => true) (d + 1)).length c0) (syL (fun _ => true) (d + 1)).length ((syL (fun _ => true) (d + 1)).flatMap encSym) ?hs HTa.out.o.fr ⟨wr.heap.size, 0, none⟩ 1 1 (encSym (nmK d, false, 0, true)) ?hx rfl HNa.out H1s.out HMl.out HBy.out HTa.out.z ?_; (case hs => simp [go_sem]); (case hx => simp [go_sem]); intro v' w3 hr hg hv'; obtain ⟨A3, e3, rfl⟩ := ownO_slice hr; have HR := Lib.hid hr; have HG := Lib.hid hg; have HV := Lib.hid hv'; obtain ⟨z0, z1, z2, z3, z4, zf⟩ := row5 (HTa.out.o.box hg); clear hr hg hv'))
        all_goals
          have HY := HTa.out.stepO HR.out HG.out HV.out
          rw [← syL_go (fun _ => true) hd10] at HY
          have HZ := Lib.hid HY
          clear HY HR HG HV HNa H1s HMl HBy HTa HX
          go_wp2
          go_meet
          case rel => exact Lib.hid ⟨_, _, _, HZ.out⟩
      case rest =>
        have HH1 := hcut
        clear HH0 hcut
        go_upto_region 12 with fail
        go_cut [] (fun wy => Hid (∃ vo vp vq, Tw w n0 (syL (fun _ => true) d) (syL (fun i => decide (k ≤ i)) d) (syL (fun _ => false) (d + 1)) vo vp vq wy))
        case first =>
          have HH := HH1
          obtain ⟨vo, vp, vq, hX⟩ := HH.out
          clear HH
          obtain ⟨A0, c0, rfl⟩ := ownO_slice hX.p.fr
          have HX := Lib.hid hX
          have hnm := hX.cell hd10
          obtain ⟨x0, x1, x2, x3, x4, xf⟩ := row5 hX.p.fo
          clear hX
          have HTa := Lib.hid ((HX.out.below (Below.drew (Below.refl _ _))).below ((Below.refl wc.drew.heap.size wc.drew).alloc (Nat.le_refl _) (.cells #[.string (nmK d), .bool false, .int .i64 0, .bool (decide (k ≤ d))] 47)))
          obtain ⟨p0, p1, p2, p3, p4, pf⟩ := row5 (HX.out.below ((Below.refl wc.heap.size wc).alloc (Nat.le_refl _) (.cells #[.string (nmK d), .bool false, .int .i64 0, .bool (decide (k ≤ d))] 47))).p.fo
          have hnma := (HX.out.below ((Below.refl wc.heap.size wc).alloc (Nat.le_refl _) (.cells #[.string (nmK d), .bool false, .int .i64 0, .bool (decide (k ≤ d))] 47))).cell hd10
          have HNa := Lib.hid (news_at (w := wc.drew) (w2 := wc.drew.alloc (.cells #[.string (nmK d), .bool false, .int .i64 0, .bool (decide (k ≤ d))] 47)) (cs := encSym (nmK d, false, 0, (decide (k ≤ d)))) (ty := 47) rfl)
          have H1s := Lib.hid (one_sym7 (nmK d, false, 0, (decide (k ≤ d))))
          have HMl := Lib.hid (show (syL (fun i => decide (k ≤ i)) (d + 1)).length + 1 ≤ maxLen by have := HLo.out (fun i => decide (k ≤ i)); unfold maxLen; omega)
          have HBy := Lib.hid (show ((syL (fun i => decide (k ≤ i)) (d + 1)).length + 1) * 40 ≤ 140737488355328 by have := HLo.out (fun i => decide (k ≤ i)); omega)
          go_region_law (first
            | (refine step_append_at6 rfl _ _ 27 rfl (n0 + 7) 47 i0 (.agg #[.string ⟨#[]⟩, .bool false, .int .i64 0, .bool false]) 4 40 Tryd.underlying27 hi0 hz0 hz1 hz2 rfl (by decide) (.slice A0 (syL (fun i => decide (k ≤ i)) (d + 1)).length c0) (syL (fun i => decide (k ≤ i)) (d + 1)).length ((syL (fun i => decide (k ≤ i)) (d + 1)).flatMap encSym) ?hs HTa.out.p.fr ⟨wc.heap.size, 0, none⟩ 1 1 (encSym (nmK d, false, 0, (decide (k ≤ d)))) ?hx rfl HNa.out H1s.out HMl.out HBy.out HTa.out.z ?_; (case hs => simp [go_sem]); (case hx => simp [go_sem]); intro v' w3 hr hg hv'; obtain ⟨A3, e3, rfl⟩ := ownO_slice hr; have HR := Lib.hid hr; have HG := Lib.hid hg; have HV := Lib.hid hv'; obtain ⟨z0, z1, z2, z3, z4, zf⟩ := row5 (HTa.out.p.box hg); clear hr hg hv'))
          all_goals
            have HY := HTa.out.stepP HR.out HG.out HV.out
            rw [← syL_go (fun i => decide (k ≤ i)) hd10] at HY
            have HZ := Lib.hid HY
            clear HY HR HG HV HNa H1s HMl HBy HTa HX
            go_wp2
            go_meet
            case rel => exact Lib.hid ⟨_, _, _, HZ.out⟩
        case rest =>
          have HH2 := hcut
          clear HH1 hcut
          go_upto_region 13 with fail
          have HH := HH2
          obtain ⟨vo, vp, vq, hX⟩ := HH.out
          clear HH
          obtain ⟨A0, c0, rfl⟩ := ownO_slice hX.q.fr
          have HX := Lib.hid hX
          have hnm := hX.cell hd10
          obtain ⟨x0, x1, x2, x3, x4, xf⟩ := row5 hX.q.fo
          clear hX
          have HTa := Lib.hid ((HX.out.below (Below.drew (Below.refl _ _))).below ((Below.refl wc.drew.heap.size wc.drew).alloc (Nat.le_refl _) (.cells #[.string (nmK d), .bool false, .int .i64 0, .bool false] 47)))
          obtain ⟨p0, p1, p2, p3, p4, pf⟩ := row5 (HX.out.below ((Below.refl wc.heap.size wc).alloc (Nat.le_refl _) (.cells #[.string (nmK d), .bool false, .int .i64 0, .bool false] 47))).q.fo
          have hnma := (HX.out.below ((Below.refl wc.heap.size wc).alloc (Nat.le_refl _) (.cells #[.string (nmK d), .bool false, .int .i64 0, .bool false] 47))).cell hd10
          have HNa := Lib.hid (news_at (w := wc.drew) (w2 := wc.drew.alloc (.cells #[.string (nmK d), .bool false, .int .i64 0, .bool false] 47)) (cs := encSym (nmK d, false, 0, false)) (ty := 47) rfl)
          have H1s := Lib.hid (one_sym7 (nmK d, false, 0, false))
          have HMl := Lib.hid (show (syL (fun _ => false) (d + 1)).length + 1 ≤ maxLen by have := HLo.out (fun _ => false); unfold maxLen; omega)
          have HBy := Lib.hid (show ((syL (fun _ => false) (d + 1)).length + 1) * 40 ≤ 140737488355328 by have := HLo.out (fun _ => false); omega)
          go_region_law (first
            | (refine step_append_at6 rfl _ _ 27 rfl (n0 + 7) 47 i0 (.agg #[.string ⟨#[]⟩, .bool false, .int .i64 0, .bool false]) 4 40 Tryd.underlying27 hi0 hz0 hz1 hz2 rfl (by decide) (.slice A0 (syL (fun _ => false) (d + 1)).length c0) (syL (fun _ => false) (d + 1)).length ((syL (fun _ => false) (d + 1)).flatMap encSym) ?hs HTa.out.q.fr ⟨wc.heap.size, 0, none⟩ 1 1 (encSym (nmK d, false, 0, false)) ?hx rfl HNa.out H1s.out HMl.out HBy.out HTa.out.z ?_; (case hs => simp [go_sem]); (case hx => simp [go_sem]); intro v' w3 hr hg hv'; obtain ⟨A3, e3, rfl⟩ := ownO_slice hr; have HR := Lib.hid hr; have HG := Lib.hid hg; have HV := Lib.hid hv'; obtain ⟨z0, z1, z2, z3, z4, zf⟩ := row5 (HTa.out.q.box hg); clear hr hg hv'))
          all_goals
            have HY := HTa.out.stepQ HR.out HG.out HV.out
            rw [← syL_go (fun _ => false) hd10] at HY
            have HZ := Lib.hid HY
            clear HY HR HG HV HNa H1s HMl HBy HTa HX
            go_wp2
            go_roundw
            case measure => simp [intOf]
            case rel => exact ⟨d, by omega, by go_num, Lib.hid ⟨_, _, _, HZ.out⟩⟩
    · obtain rfl : c = 0 := by omega
      obtain ⟨Ao, co, rfl⟩ := ownO_slice hX.o.fr
      obtain ⟨Ap, cp, rfl⟩ := ownO_slice hX.p.fr
      obtain ⟨Aq, cq, rfl⟩ := ownO_slice hX.q.fr
      have HX := Lib.hid hX
      obtain ⟨x0, x1, x2, x3, x4, xf⟩ := row5 hX.o.fo
      obtain ⟨y0, y1, y2, y3, y4, yf⟩ := row5 hX.p.fo
      clear hX
      go_wp2_with fail
      refine (check_any [(syD fun _ => true), (syD fun i => decide (k ≤ i))] (syD_w2 _ _) _ 2 2 _ _ rfl (by unfold maxLen; omega) _ ((HT.out.below HX.out.b).alloc _) (objs_two (Nat.le_refl _) (show ObjAt wr 0 wr.heap.size (syD fun _ => true) _ from HX.out.o.at HX.out.z) (show ObjAt wr 0 wr.heap.size (syD fun i => decide (k ≤ i)) _ from HX.out.p.at HX.out.z)) (Nat.le_of_eq (alloc_size7 _ _).symm)).mono ?_
      rintro e w3 ⟨s, ck, rfl, hc, hb⟩
      have HC := Lib.hid (chk_eq (syD_w2 _ _) (by simp) hc)
      have hs3 := (Below.refl wr.heap.size wr).alloc (Nat.le_refl _) (.cells #[.slice (some ⟨n0 + 1, 0, none⟩) 1 1, .slice none 0 0, .slice Ao (syL (fun _ => true) 0).length co, .slice none 0 0, .slice none 0 0, .slice (some ⟨n0 + 1 + 1 + 1, 0, none⟩) 1 1, .slice none 0 0, .slice Ap (syL (fun i => decide (k ≤ i)) 0).length cp, .slice none 0 0, .slice none 0 0] 31)
      have HX3 := Lib.hid (HX.out.below (hs3.trans (hb.mono hs3.size)))
      clear hc hb hs3 HX x0 x1 x2 x3 x4 xf y0 y1 y2 y3 y4 yf
      obtain ⟨x0, x1, x2, x3, x4, xf⟩ := row5 HX3.out.o.fo
      obtain ⟨y0, y1, y2, y3, y4, yf⟩ := row5 HX3.out.q.fo
      go_wp2_with fail
      refine (check_any [(syD fun _ => true), (syD fun _ => false)] (syD_w2 _ _) _ 2 2 _ _ rfl (by unfold maxLen; omega) _ ((HT.out.below HX3.out.b).alloc _) (objs_two (Nat.le_refl _) (show ObjAt w3 0 w3.heap.size (syD fun _ => true) _ from HX3.out.o.at HX3.out.z) (show ObjAt w3 0 w3.heap.size (syD fun _ => false) _ from HX3.out.q.at HX3.out.z)) (Nat.le_of_eq (alloc_size7 _ _).symm)).mono ?_
      rintro e w4 ⟨s4, ck4, rfl, hc, hb⟩
      obtain ⟨hs4, hk4⟩ := chk_eq (syD_w2 _ _) (by simp) hc
      rw [chk_oq] at hs4 hk4
      simp only at hs4 hk4
      subst hs4 hk4
      have hs4 := (Below.refl w3.heap.size w3).alloc (Nat.le_refl _) (.cells #[.slice (some ⟨n0 + 1, 0, none⟩) 1 1, .slice none 0 0, .slice Ao (syL (fun _ => true) 0).length co, .slice none 0 0, .slice none 0 0, .slice (some ⟨n0 + 1 + 1 + 1 + 1 + 1, 0, none⟩) 1 1, .slice none 0 0, .slice Aq (syL (fun _ => false) 0).length cq, .slice none 0 0, .slice none 0 0] 31)
      have HX4 := Lib.hid (HX3.out.below (hs4.trans (hb.mono hs4.size)))
      clear hc hb hs4 HX3 x0 x1 x2 x3 x4 xf y0 y1 y2 y3 y4 yf
      obtain ⟨x0, x1, x2, x3, x4, xf⟩ := row5 HX4.out.o.fo
      obtain ⟨y0, y1, y2, y3, y4, yf⟩ := row5 HX4.out.q.fo
      have hmi : (m : Int) < 10 := by omega
      have hm0 : (0 : Int) ≤ (m : Int) := by omega
      have hnm := HX4.out.cell (c := m) (by omega)
      have hm := HM.out
      clear x0 x1 x2 x3 x4 xf y0 y1 y2 y3 y4 yf hnm
      go_upto_region 16 with fail
      go_cut [15, 16] (fun dp okv wy => Hid (∃ b, dp = .pointer (some ⟨b, 0, none⟩) ∧ okv = .bool true ∧ wy.heap[b]? = some (.cells #[.int .i64 1, .int .i64 (9 - (m : Int))] 39 (0, 0)) ∧ Tw w n0 (syL (fun _ => true) 0) (syL (fun i => decide (k ≤ i)) 0) (syL (fun _ => false) 0) (.slice Ao (syL (fun _ => true) 0).length co) (.slice Ap (syL (fun i => decide (k ≤ i)) 0).length cp) (.slice Aq (syL (fun _ => false) 0).length cq) wy))
      case first =>
        obtain ⟨x0, x1, x2, x3, x4, xf⟩ := row5 HX4.out.o.fo
        obtain ⟨y0, y1, y2, y3, y4, yf⟩ := row5 HX4.out.q.fo
        have hnm := HX4.out.cell (c := m) (by omega)
        have hmt : (IntKind.i64.wrap a1).tmod 10 = (m : Int) := by
          have e : IntKind.i64.wrap a1 = a1 := by rw [IntKind.wrap_i64]; omega
          rw [e, Int.tmod_eq_emod_of_nonneg h2]
          exact hm
        have HXr := Lib.hid (HX4.out.below (Below.drew (Below.refl _ _)))
        have HXa := Lib.hid (HXr.out.below ((Below.refl w4.drew.heap.size w4.drew).alloc (Nat.le_refl _) (.cells #[.slice (some ⟨n0 + 1, 0, none⟩) 1 1, .slice none 0 0, .slice Ao (syL (fun _ => true) 0).length co, .slice none 0 0, .slice none 0 0, .slice (some ⟨n0 + 1 + 1 + 1 + 1 + 1, 0, none⟩) 1 1, .slice none 0 0, .slice Aq (syL (fun _ => false) 0).length cq, .slice none 0 0, .slice none 0 0] 31)))
        have HXb := Lib.hid (HXa.out.below ((Below.refl (w4.drew.alloc (.cells #[.slice (some ⟨n0 + 1, 0, none⟩) 1 1, .slice none 0 0, .slice Ao (syL (fun _ => true) 0).length co, .slice none 0 0, .slice none 0 0, .slice (some ⟨n0 + 1 + 1 + 1 + 1 + 1, 0, none⟩) 1 1, .slice none 0 0, .slice Aq (syL (fun _ => false) 0).length cq, .slice none 0 0, .slice none 0 0] 31)).heap.size (w4.drew.alloc (.cells #[.slice (some ⟨n0 + 1, 0, none⟩) 1 1, .slice none 0 0, .slice Ao (syL (fun _ => true) 0).length co, .slice none 0 0, .slice none 0 0, .slice (some ⟨n0 + 1 + 1 + 1 + 1 + 1, 0, none⟩) 1 1, .slice none 0 0, .slice Aq (syL (fun _ => false) 0).length cq, .slice none 0 0, .slice none 0 0] 31))).alloc (Nat.le_refl _) (.cells #[.int .i64 0, .int .i64 0] 39)))
        have HXd := Lib.hid (HXr.out.below ((Below.refl w4.drew.heap.size w4.drew).alloc (Nat.le_refl _) (.cells #[.int .i64 0, .int .i64 0] 39)))
        have HXc := Lib.hid (HXd.out.below ((Below.refl (w4.drew.alloc (.cells #[.int .i64 0, .int .i64 0] 39)).heap.size (w4.drew.alloc (.cells #[.int .i64 0, .int .i64 0] 39))).alloc (Nat.le_refl _) (.cells #[.slice (some ⟨n0 + 1, 0, none⟩) 1 1, .slice none 0 0, .slice Ao (syL (fun _ => true) 0).length co, .slice none 0 0, .slice none 0 0, .slice (some ⟨n0 + 1 + 1 + 1 + 1 + 1, 0, none⟩) 1 1, .slice none 0 0, .slice Aq (syL (fun _ => false) 0).length cq, .slice none 0 0, .slice none 0 0] 31)))
        have hOa : ObjsAt (w4.drew.alloc (.cells #[.slice (some ⟨n0 + 1, 0, none⟩) 1 1, .slice none 0 0, .slice Ao (syL (fun _ => true) 0).length co, .slice none 0 0, .slice none 0 0, .slice (some ⟨n0 + 1 + 1 + 1 + 1 + 1, 0, none⟩) 1 1, .slice none 0 0, .slice Aq (syL (fun _ => false) 0).length cq, .slice none 0 0, .slice none 0 0] 31)) 0 (w4.drew.heap.size + 1) [(syD fun _ => true), (syD fun _ => false)] (some ⟨w4.drew.heap.size, 0, none⟩) := (objs_two (Nat.le_refl _) (show ObjAt w4.drew 0 w4.drew.heap.size (syD fun _ => true) _ from HXr.out.o.at HXr.out.z) (show ObjAt w4.drew 0 w4.drew.heap.size (syD fun _ => false) _ from HXr.out.q.at HXr.out.z))
        have hOc : ObjsAt ((w4.drew.alloc (.cells #[.int .i64 0, .int .i64 0] 39)).alloc (.cells #[.slice (some ⟨n0 + 1, 0, none⟩) 1 1, .slice none 0 0, .slice Ao (syL (fun _ => true) 0).length co, .slice none 0 0, .slice none 0 0, .slice (some ⟨n0 + 1 + 1 + 1 + 1 + 1, 0, none⟩) 1 1, .slice none 0 0, .slice Aq (syL (fun _ => false) 0).length cq, .slice none 0 0, .slice none 0 0] 31)) 0 (w4.heap.size + 1 + 1) [(syD fun _ => true), (syD fun _ => false)] (some ⟨w4.heap.size + 1, 0, none⟩) := by
          have h : ObjsAt ((w4.drew.alloc (.cells #[.int .i64 0, .int .i64 0] 39)).alloc (.cells #[.slice (some ⟨n0 + 1, 0, none⟩) 1 1, .slice none 0 0, .slice Ao (syL (fun _ => true) 0).length co, .slice none 0 0, .slice none 0 0, .slice (some ⟨n0 + 1 + 1 + 1 + 1 + 1, 0, none⟩) 1 1, .slice none 0 0, .slice Aq (syL (fun _ => false) 0).length cq, .slice none 0 0, .slice none 0 0] 31)) 0 ((w4.drew.alloc (.cells #[.int .i64 0, .int .i64 0] 39)).heap.size + 1) [(syD fun _ => true), (syD fun _ => false)] (some ⟨(w4.drew.alloc (.cells #[.int .i64 0, .int .i64 0] 39)).heap.size, 0, none⟩) := (objs_two (Nat.le_refl _) (show ObjAt (w4.drew.alloc (.cells #[.int .i64 0, .int .i64 0] 39)) 0 (w4.drew.alloc (.cells #[.int .i64 0, .int .i64 0] 39)).heap.size (syD fun _ => true) _ from HXd.out.o.at HXd.out.z) (show ObjAt (w4.drew.alloc (.cells #[.int .i64 0, .int .i64 0] 39)) 0 (w4.drew.alloc (.cells #[.int .i64 0, .int .i64 0] 39)).heap.size (syD fun _ => false) _ from HXd.out.q.at HXd.out.z))
          have e : (w4.drew.alloc (.cells #[.int .i64 0, .int .i64 0] 39)).heap.size = w4.heap.size + 1 := alloc_size7 _ _
          rw [e] at h
          exact h
        have hFa := find_any [(syD fun _ => true), (syD fun _ => false)] (syD_w2 _ _) (some ⟨w4.heap.size, 0, none⟩) 2 2 _ _ rfl (by omega) (by decide +kernel) 1 (by unfold IsI; omega) (nmK m) (show 1 ≤ maxLen from by unfold maxLen; omega) (w4.drew.alloc (.cells #[.slice (some ⟨n0 + 1, 0, none⟩) 1 1, .slice none 0 0, .slice Ao (syL (fun _ => true) 0).length co, .slice none 0 0, .slice none 0 0, .slice (some ⟨n0 + 1 + 1 + 1 + 1 + 1, 0, none⟩) 1 1, .slice none 0 0, .slice Aq (syL (fun _ => false) 0).length cq, .slice none 0 0, .slice none 0 0] 31)) hOa (Nat.le_of_eq (alloc_size7 _ _).symm)
        rw [find_oq m (by omega)] at hFa
        have HFa := Lib.hid (show Calls Tryd.prog 12 #[.slice (some ⟨w4.heap.size, 0, none⟩) 2 2, .int .i64 1, .string (nmK m)] (w4.drew.alloc (.cells #[.slice (some ⟨n0 + 1, 0, none⟩) 1 1, .slice none 0 0, .slice Ao (syL (fun _ => true) 0).length co, .slice none 0 0, .slice none 0 0, .slice (some ⟨n0 + 1 + 1 + 1 + 1 + 1, 0, none⟩) 1 1, .slice none 0 0, .slice Aq (syL (fun _ => false) 0).length cq, .slice none 0 0, .slice none 0 0] 31)) (fun e w' => e = .returned (.tuple #[.agg #[.int .i64 1, .int .i64 (9 - (m : Int))], .bool true]) ∧ Below (w4.drew.alloc (.cells #[.slice (some ⟨n0 + 1, 0, none⟩) 1 1, .slice none 0 0, .slice Ao (syL (fun _ => true) 0).length co, .slice none 0 0, .slice none 0 0, .slice (some ⟨n0 + 1 + 1 + 1 + 1 + 1, 0, none⟩) 1 1, .slice none 0 0, .slice Aq (syL (fun _ => false) 0).length cq, .slice none 0 0, .slice none 0 0] 31)).heap.size (w4.drew.alloc (.cells #[.slice (some ⟨n0 + 1, 0, none⟩) 1 1, .slice none 0 0, .slice Ao (syL (fun _ => true) 0).length co, .slice none 0 0, .slice none 0 0, .slice (some ⟨n0 + 1 + 1 + 1 + 1 + 1, 0, none⟩) 1 1, .slice none 0 0, .slice Aq (syL (fun _ => false) 0).length cq, .slice none 0 0, .slice none 0 0] 31)) w') from hFa)
        clear hFa
        have hFb := find_any [(syD fun _ => true), (syD fun _ => false)] (syD_w2 _ _) (some ⟨w4.heap.size, 0, none⟩) 2 2 _ _ rfl (by omega) (by decide +kernel) 1 (by unfold IsI; omega) (nmK m) (show 1 ≤ maxLen from by unfold maxLen; omega) ((w4.drew.alloc (.cells #[.slice (some ⟨n0 + 1, 0, none⟩) 1 1, .slice none 0 0, .slice Ao (syL (fun _ => true) 0).length co, .slice none 0 0, .slice none 0 0, .slice (some ⟨n0 + 1 + 1 + 1 + 1 + 1, 0, none⟩) 1 1, .slice none 0 0, .slice Aq (syL (fun _ => false) 0).length cq, .slice none 0 0, .slice none 0 0] 31)).alloc (.cells #[.int .i64 0, .int .i64 0] 39)) (hOa.below (Nat.le_of_eq (alloc_size7 _ _).symm) ((Below.refl (w4.drew.alloc (.cells #[.slice (some ⟨n0 + 1, 0, none⟩) 1 1, .slice none 0 0, .slice Ao (syL (fun _ => true) 0).length co, .slice none 0 0, .slice none 0 0, .slice (some ⟨n0 + 1 + 1 + 1 + 1 + 1, 0, none⟩) 1 1, .slice none 0 0, .slice Aq (syL (fun _ => false) 0).length cq, .slice none 0 0, .slice none 0 0] 31)).heap.size (w4.drew.alloc (.cells #[.slice (some ⟨n0 + 1, 0, none⟩) 1 1, .slice none 0 0, .slice Ao (syL (fun _ => true) 0).length co, .slice none 0 0, .slice none 0 0, .slice (some ⟨n0 + 1 + 1 + 1 + 1 + 1, 0, none⟩) 1 1, .slice none 0 0, .slice Aq (syL (fun _ => false) 0).length cq, .slice none 0 0, .slice none 0 0] 31))).alloc (Nat.le_refl _) (.cells #[.int .i64 0, .int .i64 0] 39))) (by rw [alloc_size7, alloc_size7]; exact Nat.le_succ _)
        rw [find_oq m (by omega)] at hFb
        have HFb := Lib.hid (show Calls Tryd.prog 12 #[.slice (some ⟨w4.heap.size, 0, none⟩) 2 2, .int .i64 1, .string (nmK m)] ((w4.drew.alloc (.cells #[.slice (some ⟨n0 + 1, 0, none⟩) 1 1, .slice none 0 0, .slice Ao (syL (fun _ => true) 0).length co, .slice none 0 0, .slice none 0 0, .slice (some ⟨n0 + 1 + 1 + 1 + 1 + 1, 0, none⟩) 1 1, .slice none 0 0, .slice Aq (syL (fun _ => false) 0).length cq, .slice none 0 0, .slice none 0 0] 31)).alloc (.cells #[.int .i64 0, .int .i64 0] 39)) (fun e w' => e = .returned (.tuple #[.agg #[.int .i64 1, .int .i64 (9 - (m : Int))], .bool true]) ∧ Below ((w4.drew.alloc (.cells #[.slice (some ⟨n0 + 1, 0, none⟩) 1 1, .slice none 0 0, .slice Ao (syL (fun _ => true) 0).length co, .slice none 0 0, .slice none 0 0, .slice (some ⟨n0 + 1 + 1 + 1 + 1 + 1, 0, none⟩) 1 1, .slice none 0 0, .slice Aq (syL (fun _ => false) 0).length cq, .slice none 0 0, .slice none 0 0] 31)).alloc (.cells #[.int .i64 0, .int .i64 0] 39)).heap.size ((w4.drew.alloc (.cells #[.slice (some ⟨n0 + 1, 0, none⟩) 1 1, .slice none 0 0, .slice Ao (syL (fun _ => true) 0).length co, .slice none 0 0, .slice none 0 0, .slice (some ⟨n0 + 1 + 1 + 1 + 1 + 1, 0, none⟩) 1 1, .slice none 0 0, .slice Aq (syL (fun _ => false) 0).length cq, .slice none 0 0, .slice none 0 0] 31)).alloc (.cells #[.int .i64 0, .int .i64 0] 39)) w') from hFb)
        clear hFb
        have hFc := find_any [(syD fun _ => true), (syD fun _ => false)] (syD_w2 _ _) (some ⟨w4.heap.size + 1, 0, none⟩) 2 2 _ _ rfl (by omega) (by decide +kernel) 1 (by unfold IsI; omega) (nmK m) (show 1 ≤ maxLen from by unfold maxLen; omega) ((w4.drew.alloc (.cells #[.int .i64 0, .int .i64 0] 39)).alloc (.cells #[.slice (some ⟨n0 + 1, 0, none⟩) 1 1, .slice none 0 0, .slice Ao (syL (fun _ => true) 0).length co, .slice none 0 0, .slice none 0 0, .slice (some ⟨n0 + 1 + 1 + 1 + 1 + 1, 0, none⟩) 1 1, .slice none 0 0, .slice Aq (syL (fun _ => false) 0).length cq, .slice none 0 0, .slice none 0 0] 31)) hOc (by rw [alloc_size7, alloc_size7]; exact Nat.le_refl _)
        rw [find_oq m (by omega)] at hFc
        have HFc := Lib.hid (show Calls Tryd.prog 12 #[.slice (some ⟨w4.heap.size + 1, 0, none⟩) 2 2, .int .i64 1, .string (nmK m)] ((w4.drew.alloc (.cells #[.int .i64 0, .int .i64 0] 39)).alloc (.cells #[.slice (some ⟨n0 + 1, 0, none⟩) 1 1, .slice none 0 0, .slice Ao (syL (fun _ => true) 0).length co, .slice none 0 0, .slice none 0 0, .slice (some ⟨n0 + 1 + 1 + 1 + 1 + 1, 0, none⟩) 1 1, .slice none 0 0, .slice Aq (syL (fun _ => false) 0).length cq, .slice none 0 0, .slice none 0 0] 31)) (fun e w' => e = .returned (.tuple #[.agg #[.int .i64 1, .int .i64 (9 - (m : Int))], .bool true]) ∧ Below ((w4.drew.alloc (.cells #[.int .i64 0, .int .i64 0] 39)).alloc (.cells #[.slice (some ⟨n0 + 1, 0, none⟩) 1 1, .slice none 0 0, .slice Ao (syL (fun _ => true) 0).length co, .slice none 0 0, .slice none 0 0, .slice (some ⟨n0 + 1 + 1 + 1 + 1 + 1, 0, none⟩) 1 1, .slice none 0 0, .slice Aq (syL (fun _ => false) 0).length cq, .slice none 0 0, .slice none 0 0] 31)).heap.size ((w4.drew.alloc (.cells #[.int .i64 0, .int .i64 0] 39)).alloc (.cells #[.slice (some ⟨n0 + 1, 0, none⟩) 1 1, .slice none 0 0, .slice Ao (syL (fun _ => true) 0).length co, .slice none 0 0, .slice none 0 0, .slice (some ⟨n0 + 1 + 1 + 1 + 1 + 1, 0, none⟩) 1 1, .slice none 0 0, .slice Aq (syL (fun _ => false) 0).length cq, .slice none 0 0, .slice none 0 0] 31)) w') from hFc)
        clear hFc
        clear hOa hOc
        have HYa := Lib.hid (HX4.out.below ((Below.refl w4.heap.size w4).alloc (Nat.le_refl _) (.cells #[.slice (some ⟨n0 + 1, 0, none⟩) 1 1, .slice none 0 0, .slice Ao (syL (fun _ => true) 0).length co, .slice none 0 0, .slice none 0 0, .slice (some ⟨n0 + 1 + 1 + 1 + 1 + 1, 0, none⟩) 1 1, .slice none 0 0, .slice Aq (syL (fun _ => false) 0).length cq, .slice none 0 0, .slice none 0 0] 31)))
        have HYb := Lib.hid (HYa.out.below ((Below.refl (w4.alloc (.cells #[.slice (some ⟨n0 + 1, 0, none⟩) 1 1, .slice none 0 0, .slice Ao (syL (fun _ => true) 0).length co, .slice none 0 0, .slice none 0 0, .slice (some ⟨n0 + 1 + 1 + 1 + 1 + 1, 0, none⟩) 1 1, .slice none 0 0, .slice Aq (syL (fun _ => false) 0).length cq, .slice none 0 0, .slice none 0 0] 31)).heap.size (w4.alloc (.cells #[.slice (some ⟨n0 + 1, 0, none⟩) 1 1, .slice none 0 0, .slice Ao (syL (fun _ => true) 0).length co, .slice none 0 0, .slice none 0 0, .slice (some ⟨n0 + 1 + 1 + 1 + 1 + 1, 0, none⟩) 1 1, .slice none 0 0, .slice Aq (syL (fun _ => false) 0).length cq, .slice none 0 0, .slice none 0 0] 31))).alloc (Nat.le_refl _) (.cells #[.int .i64 0, .int .i64 0] 39)))
        have HYd := Lib.hid (HX4.out.below ((Below.refl w4.heap.size w4).alloc (Nat.le_refl _) (.cells #[.int .i64 0, .int .i64 0] 39)))
        have HYc := Lib.hid (HYd.out.below ((Below.refl (w4.alloc (.cells #[.int .i64 0, .int .i64 0] 39)).heap.size (w4.alloc (.cells #[.int .i64 0, .int .i64 0] 39))).alloc (Nat.le_refl _) (.cells #[.slice (some ⟨n0 + 1, 0, none⟩) 1 1, .slice none 0 0, .slice Ao (syL (fun _ => true) 0).length co, .slice none 0 0, .slice none 0 0, .slice (some ⟨n0 + 1 + 1 + 1 + 1 + 1, 0, none⟩) 1 1, .slice none 0 0, .slice Aq (syL (fun _ => false) 0).length cq, .slice none 0 0, .slice none 0 0] 31)))
        have HDb := Lib.hid (show ((w4.drew.alloc (.cells #[.slice (some ⟨n0 + 1, 0, none⟩) 1 1, .slice none 0 0, .slice Ao (syL (fun _ => true) 0).length co, .slice none 0 0, .slice none 0 0, .slice (some ⟨n0 + 1 + 1 + 1 + 1 + 1, 0, none⟩) 1 1, .slice none 0 0, .slice Aq (syL (fun _ => false) 0).length cq, .slice none 0 0, .slice none 0 0] 31)).alloc (.cells #[.int .i64 0, .int .i64 0] 39)).heap[w4.heap.size + 1]? = some (.cells #[.int .i64 0, .int .i64 0] 39 (0, 0)) from mnew7 (w4.drew.alloc (.cells #[.slice (some ⟨n0 + 1, 0, none⟩) 1 1, .slice none 0 0, .slice Ao (syL (fun _ => true) 0).length co, .slice none 0 0, .slice none 0 0, .slice (some ⟨n0 + 1 + 1 + 1 + 1 + 1, 0, none⟩) 1 1, .slice none 0 0, .slice Aq (syL (fun _ => false) 0).length cq, .slice none 0 0, .slice none 0 0] 31)) _ (alloc_size7 _ _))
        have HDc := Lib.hid (show ((w4.drew.alloc (.cells #[.int .i64 0, .int .i64 0] 39)).alloc (.cells #[.slice (some ⟨n0 + 1, 0, none⟩) 1 1, .slice none 0 0, .slice Ao (syL (fun _ => true) 0).length co, .slice none 0 0, .slice none 0 0, .slice (some ⟨n0 + 1 + 1 + 1 + 1 + 1, 0, none⟩) 1 1, .slice none 0 0, .slice Aq (syL (fun _ => false) 0).length cq, .slice none 0 0, .slice none 0 0] 31)).heap[w4.heap.size]? = some (.cells #[.int .i64 0, .int .i64 0] 39 (0, 0)) from (((Below.refl (w4.drew.alloc (.cells #[.int .i64 0, .int .i64 0] 39)).heap.size (w4.drew.alloc (.cells #[.int .i64 0, .int .i64 0] 39))).alloc (Nat.le_refl _) (.cells #[.slice (some ⟨n0 + 1, 0, none⟩) 1 1, .slice none 0 0, .slice Ao (syL (fun _ => true) 0).length co, .slice none 0 0, .slice none 0 0, .slice (some ⟨n0 + 1 + 1 + 1 + 1 + 1, 0, none⟩) 1 1, .slice none 0 0, .slice Aq (syL (fun _ => false) 0).length cq, .slice none 0 0, .slice none 0 0] 31)).block w4.heap.size (by rw [alloc_size7]; exact Nat.lt_succ_self _)).trans (mnew7 w4.drew _ rfl))
        obtain ⟨r20, r21, r22, r23, r24, r2f⟩ := row5 HYa.out.o.fo
        obtain ⟨r30, r31, r32, r33, r34, r3f⟩ := row5 HYa.out.q.fo
        obtain ⟨r40, r41, r42, r43, r44, r4f⟩ := row5 HYb.out.o.fo
        obtain ⟨r50, r51, r52, r53, r54, r5f⟩ := row5 HYb.out.q.fo
        obtain ⟨r60, r61, r62, r63, r64, r6f⟩ := row5 HYd.out.o.fo
        obtain ⟨r70, r71, r72, r73, r74, r7f⟩ := row5 HYd.out.q.fo
        obtain ⟨r80, r81, r82, r83, r84, r8f⟩ := row5 HYc.out.o.fo
        obtain ⟨r90, r91, r92, r93, r94, r9f⟩ := row5 HYc.out.q.fo
        have hn0 := HYa.out.cell (c := m) (by omega)
        have hn1 := HYb.out.cell (c := m) (by omega)
        have hn2 := HYd.out.cell (c := m) (by omega)
        have hn3 := HYc.out.cell (c := m) (by omega)
        go_region_law (first
          | (refine step_call6 rfl 12 _ _ rfl #[.slice (some ⟨w4.heap.size, 0, none⟩) 2 2, .int .i64 1, .string (nmK m)] ?hv calls_find7 HFa.out ?_; (case hv => simp [go_sem]); rintro e w5 ⟨rfl, hb5⟩; refine ⟨_, rfl, ?_⟩; have HX5 := Lib.hid (HXa.out.below hb5); clear hb5)
          | (refine step_call6 rfl 12 _ _ rfl #[.slice (some ⟨w4.heap.size, 0, none⟩) 2 2, .int .i64 1, .string (nmK m)] ?hv calls_find7 HFb.out ?_; (case hv => simp [go_sem]); rintro e w5 ⟨rfl, hb5⟩; refine ⟨_, rfl, ?_⟩; have HX5 := Lib.hid (HXb.out.below hb5); have HD5 := Lib.hid ((hb5.block _ (Array.getElem?_eq_some_iff.1 HDb.out).1).trans HDb.out); obtain ⟨d0, d1, df⟩ := row2 HD5.out; clear hb5)
          | (refine step_call6 rfl 12 _ _ rfl #[.slice (some ⟨w4.heap.size + 1, 0, none⟩) 2 2, .int .i64 1, .string (nmK m)] ?hv calls_find7 HFc.out ?_; (case hv => simp [go_sem]); rintro e w5 ⟨rfl, hb5⟩; refine ⟨_, rfl, ?_⟩; have HX5 := Lib.hid (HXc.out.below hb5); have HD5 := Lib.hid ((hb5.block _ (Array.getElem?_eq_some_iff.1 HDc.out).1).trans HDc.out); obtain ⟨d0, d1, df⟩ := row2 HD5.out; clear hb5))
        all_goals
          go_wp2
          go_meet
          case rel => first
            | exact Lib.hid ⟨_, rfl, rfl, (HX5.out.box2 HX4.out (Nat.le_refl _) HD5.out).1, (HX5.out.box2 HX4.out (Nat.le_refl _) HD5.out).2⟩
            | exact Lib.hid ⟨_, rfl, rfl, (HX5.out.box2 HX4.out (Nat.le_succ _) HD5.out).1, (HX5.out.box2 HX4.out (Nat.le_succ _) HD5.out).2⟩
            | exact Lib.hid ⟨_, rfl, rfl, heap_alloc_new w5 _, HX5.out.below ((Below.refl _ _).alloc (Nat.le_refl _) _)⟩
      case rest =>
        obtain ⟨b, rfl, rfl, hD, hX⟩ := hcut.out
        have HX := Lib.hid hX
        clear hcut hX HX4
        obtain ⟨d0, d1, df⟩ := row2 hD
        obtain ⟨hs, hc⟩ := HC.out
        rw [chk_op k (by omega)] at hs hc
        clear hD HC hm
        by_cases hk : k = 10
        · rw [if_pos hk] at hs hc
          simp only at hs hc
          subst hs hc
          have hki : (k : Int) = 10 := by omega
          clear hk
          go_wp2
          go_ret
          exact ⟨rfl, HX.out.b⟩
        · rw [if_neg hk] at hs hc
          simp only at hs hc
          subst hs hc
          have hki : ¬ (k : Int) = 10 := by omega
          have hk0 : (0 : Int) ≤ (k : Int) := by omega
          have hk9 : (k : Int) < 10 := by omega
          have hnk := HX.out.cell (c := k) (by omega)
          have hbe : ((nmK k).toList == (nmK k).toList) = true := by simp
          clear hk
          generalize nmK k = nk at *
          go_wp2
          go_ret
          exact ⟨rfl, HX.out.b⟩
end Go.Proofs.YtekhmaopemkheaaDoor.SymsTwiceWalk
