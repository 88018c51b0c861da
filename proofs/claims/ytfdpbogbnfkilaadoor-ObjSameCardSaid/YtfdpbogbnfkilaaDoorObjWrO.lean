/- Layer 6: the writer of package obj: a whole object. -/
import Derived.Test.YtfdpbogbnfkilaaDoorObjWrB
import Derived.Test.YtfdpbogbnfkilaaDoorObjRight
namespace Go.Proofs.YtfdpbogbnfkilaaDoor
set_option maxRecDepth 100000
open Go.RowKit
set_option linter.unusedVariables false
theorem take_flat {α : Type} (e : α → List Int) {xs : List α} {k : Nat} (hk : k < xs.length) : (xs.take (k + 1)).flatMap e = (xs.take k).flatMap e ++ e xs[k] := by
  rw [List.take_succ_eq_append_getElem hk, List.flatMap_append, List.flatMap_cons, List.flatMap_nil, List.append_nil]
theorem take_flat_len {α : Type} (e : α → List Int) (xs : List α) (k : Nat) : ((xs.take k).flatMap e).length ≤ (xs.flatMap e).length := by
  conv => rhs; rw [← List.take_append_drop k xs]
  rw [List.flatMap_append, List.length_append]; omega
theorem cnt_ix (a0 a1 a2 a3 a4 : Int) (k : Nat) (hk : k < 5) (w : World) : (Instr.index 116 (.agg #[.int .i64 a0, .int .i64 a1, .int .i64 a2, .int .i64 a3, .int .i64 a4]) (.int .i64 k)).run Tryd.prog w = .ok (.int .i64 (nth [a0, a1, a2, a3, a4] k)) w := by
  rcases (by omega : k = 0 ∨ k = 1 ∨ k = 2 ∨ k = 3 ∨ k = 4) with rfl | rfl | rfl | rfl | rfl <;> kernel_rfl
/-- where the writer stands -/
def WL (w1 : World) (p : Nat) (F : Nat → Prop) (L : List Int) (wr : World) : Prop := WrIs wr p F L ∧ OutO F w1 wr
theorem WL.next {w1 wr w2 w3 : World} {p : Nat} {F : Nat → Prop} {L L' : List Int} (h : WL w1 p F L wr) (hb : Below wr.heap.size wr w2) (h2 : WrIs w3 p F L') (ho : OutO F w2 w3) : WL w1 p F L' w3 :=
  ⟨h2, (h.2.trans (OutO.of_below hb)).trans ho⟩
def cntsL (d : ObjD) : List Int := [(d.text.length : Int), d.data.length, d.syms.length, d.rels.length, d.ents.length]
def P1 (d : ObjD) : List Int := magicW ++ (cntsL d).flatMap (fun x => bytesL x 2)
def P2 (d : ObjD) : List Int := P1 d ++ d.text.flatMap (fun x => bytesL x 4)
def P3 (d : ObjD) : List Int := P2 d ++ d.data.flatMap (fun x => bytesL x 8)
def P4 (d : ObjD) : List Int := P3 d ++ d.syms.flatMap symWt
def P5 (d : ObjD) : List Int := P4 d ++ d.rels.flatMap relWt
theorem P6_eq (d : ObjD) : P5 d ++ d.ents.flatMap entWt = encB d := by
  unfold P5 P4 P3 P2 P1 encB headW cntsL
  simp only [List.flatMap_cons, List.flatMap_nil, List.append_nil, List.append_assoc]
theorem P_len (d : ObjD) : (P1 d).length ≤ (P2 d).length ∧ (P2 d).length ≤ (P3 d).length ∧ (P3 d).length ≤ (P4 d).length ∧ (P4 d).length ≤ (P5 d).length ∧ (P5 d).length ≤ (encB d).length := by
  rw [← P6_eq]
  unfold P5 P4 P3 P2
  simp only [List.length_append]
  omega
set_option maxHeartbeats 4000000 in
theorem wobj_any (d : ObjD) (hF : ObjF d) (hlen : (encB d).length ≤ 700000) (v : Value) (lo hi p : Nat) (F : Nat → Prop) (w : World) (hO : ObjAt w lo hi d v) (hhi : ∀ b, b < hi → ¬ F b) (hhs : hi ≤ w.heap.size) (hW : WrIs w p F []) :
    Calls Tryd.prog 41 #[.pointer (some ⟨p, 0, none⟩), v] w (WrP w p F (encB d)) := by
  obtain ⟨A1, c1, A2, c2, A3, c3, A4, c4, A5, c5, es, rfl, h1, h2, h3, h4, h5, h6⟩ := hO
  obtain ⟨n1, e1⟩ : ∃ n, d.text.length = n := ⟨_, rfl⟩
  obtain ⟨n2, e2⟩ : ∃ n, d.data.length = n := ⟨_, rfl⟩
  obtain ⟨n3, e3⟩ : ∃ n, d.syms.length = n := ⟨_, rfl⟩
  obtain ⟨n4, e4⟩ : ∃ n, d.rels.length = n := ⟨_, rfl⟩
  obtain ⟨n5, e5⟩ : ∃ n, d.ents.length = n := ⟨_, rfl⟩
  have hn1 : n1 < 65536 := by have := hF.ct; omega
  have hn2 : n2 < 65536 := by have := hF.cd; omega
  have hn3 : n3 < 65536 := by have := hF.cs; omega
  have hn4 : n4 < 65536 := by have := hF.cr; omega
  have hn5 : n5 < 65536 := by have := hF.ce; omega
  rw [e1, e2, e3, e4, e5]
  have HCn := Lib.hid (show cntsL d = [(n1 : Int), n2, n3, n4, n5] by unfold cntsL; rw [e1, e2, e3, e4, e5])
  have HPl := Lib.hid (P_len d)
  have HLe := Lib.hid hlen
  have HFd := Lib.hid hF
  have HHi := Lib.hid hhi
  have HHs := Lib.hid hhs
  have E1 := Lib.hid e1
  have E2 := Lib.hid e2
  have E3 := Lib.hid e3
  have E4 := Lib.hid e4
  have E5 := Lib.hid e5
  have R1 := Lib.hid h1
  have R2 := Lib.hid h2
  have R3 := Lib.hid h3
  have R4 := Lib.hid h4
  have R5 := Lib.hid h5
  have R6 := Lib.hid h6
  obtain ⟨s0, hV⟩ := hW.box (.cells #[.slice A1 n1 c1, .slice A2 n2 c2, .slice A3 n3 c3, .slice A4 n4 c4, .slice A5 n5 c5] 28)
  have HV := Lib.hid hV
  have hc := hV.cell
  have hlt := hV.lt
  have hf := hV.free
  obtain ⟨i0, hi0, hz0, hz1, hz2⟩ := info_parts infoU8
  have HM := Lib.hid (show ([] : List Int).length + (⟨#[79, 66, 74, 49]⟩ : ByteArray).size ≤ maxLen by unfold maxLen; decide)
  have HB := Lib.hid (show (([] : List Int).length + (⟨#[79, 66, 74, 49]⟩ : ByteArray).size) * 1 ≤ 140737488355328 by decide)
  have HZ := Lib.hid (show p + 1 ≤ (w.alloc (.cells #[.slice A1 n1 c1, .slice A2 n2 c2, .slice A3 n3 c3, .slice A4 n4 c4, .slice A5 n5 c5] 28)).heap.size by omega)
  have hpne : p ≠ w.heap.size := hV.2.2.1.2
  have HMag := Lib.hid (show sB ⟨#[79, 66, 74, 49]⟩ = magicW by decide +kernel)
  clear hV hW hF hlen hhi hhs e1 e2 e3 e4 e5 h1 h2 h3 h4 h5 h6
  go_enter Tryd.func41, Tryd.ntmps41
  go_wp2_with (at_builtin; (refine wpList_append_str rfl _ _ 35 9 rfl (p + 1) 5 i0 (.int .u8 0) 1 Tryd.underlying35 Tryd.underlying9 hi0 hz0 hz1 hz2 rfl s0 _ _ ?hs HV.out.2.1 ⟨#[79, 66, 74, 49]⟩ ?hx HM.out HB.out HZ.out ?_; (case hs => rfl); (case hx => rfl); intro v' w3 hr hg hv'; obtain ⟨Aw, cw, rfl⟩ := ownO_slice hr; have HR := Lib.hid (HV.out.more (m := magicW) (by rw [← HMag.out, List.length_append, sB_len]) (by unfold sC; rw [HMag.out, ← List.map_append]) hr hg hv'); have hc3 : w3.cell? ⟨p, 0, none⟩ = some s0 := (by rw [World.cell?_of_block (hg.block p HV.out.lt (fun e => by have := (ownO_lt HV.out.2.1 e.symm).2.1; omega))]; exact HV.out.cell); have hf3 : w3.frozen? ⟨p, 0, none⟩ = false := (by rw [World.frozen?_of_block (hg.block p HV.out.lt (fun e => by have := (ownO_lt HV.out.2.1 e.symm).2.1; omega))]; exact HV.out.free); have hbx : ∀ o, w3.cell? ⟨w.heap.size, o, none⟩ = (w.alloc (.cells #[.slice A1 n1 c1, .slice A2 n2 c2, .slice A3 n3 c3, .slice A4 n4 c4, .slice A5 n5 c5] 28)).cell? ⟨w.heap.size, o, none⟩ := (fun o => World.cell?_of_block (hg.block w.heap.size (by simp) (fun e => (HV.out.2.2.2.1 _ e.symm).2 rfl))); clear hr hg hv' hc hlt hf))
  have HW0 := Lib.hid (show WL (w.alloc (.cells #[.slice A1 n1 c1, .slice A2 n2 c2, .slice A3 n3 c3, .slice A4 n4 c4, .slice A5 n5 c5] 28)) p (NBo F w.heap.size) magicW (w3.setCell ⟨p, 0, none⟩ (.slice Aw (([] : List Int).length + (⟨#[79, 66, 74, 49]⟩ : ByteArray).size) cw)) from ⟨⟨_, HR.out.1⟩, HR.out.2⟩)
  have hix := fun (k : Nat) (hk : k < 5) (w : World) => cnt_ix n1 n2 n3 n4 n5 k hk w
  have HIx := Lib.hid hix
  clear hix
  clear hc3 hf3 hbx
  go_loopw [5, 40] (fun _ i wr => ∃ k : Nat, k ≤ 5 ∧ i = .int .i64 k ∧ WL (w.alloc (.cells #[.slice A1 n1 c1, .slice A2 n2 c2, .slice A3 n3 c3, .slice A4 n4 c4, .slice A5 n5 c5] 28)) p (NBo F w.heap.size) (magicW ++ ((cntsL d).take k).flatMap (fun x => bytesL x 2)) wr) (fun _ i _ => 5 - (intOf i).toNat)
  case atStart => exact ⟨0, by omega, rfl, HW0.out⟩
  case round =>
    obtain ⟨k, hk, rfl, hwl⟩ := hrel
    have HK := Lib.hid hwl
    have hbx : ∀ o, wr.cell? ⟨w.heap.size, o, none⟩ = (w.alloc (.cells #[.slice A1 n1 c1, .slice A2 n2 c2, .slice A3 n3 c3, .slice A4 n4 c4, .slice A5 n5 c5] 28)).cell? ⟨w.heap.size, o, none⟩ := fun o => hwl.2.cellAt (by simp)
    clear hwl
    by_cases hlt : k < 5
    · have k0 : (0 : Int) ≤ k := by omega
      have k1 : (k : Int) < 5 := by omega
      have hix := HIx.out k hlt
      have hlz : k < (cntsL d).length := hlt
      obtain ⟨x, hx⟩ : ∃ x, nth [(n1 : Int), n2, n3, n4, n5] k = x := ⟨_, rfl⟩
      have hxb : 0 ≤ x ∧ x < 65536 := by
        rw [← hx]
        rcases (by omega : k = 0 ∨ k = 1 ∨ k = 2 ∨ k = 3 ∨ k = 4) with rfl | rfl | rfl | rfl | rfl <;> simp [nth] <;> omega
      have HX := Lib.hid (show ((cntsL d).take (k + 1)).flatMap (fun x => bytesL x 2) = ((cntsL d).take k).flatMap (fun x => bytesL x 2) ++ bytesL x 2 by rw [take_flat _ hlz, ← nth_get hlz, ← hx, HCn.out])
      rw [hx] at hix
      have hx0 := hxb.1
      have hx1 := hxb.2
      have HLen := Lib.hid (show (magicW ++ ((cntsL d).take k).flatMap (fun x => bytesL x 2)).length ≤ 1000000 by (have h1 := take_flat_len (fun x => bytesL x 2) (cntsL d) k; have h2 := HPl.out; have h3 := HLe.out; unfold P1 at h2; simp only [List.length_append] at h2 ⊢; omega))
      clear hx hxb hlz
      go_wp2_with fail
      refine (wr_number x 2 ⟨by omega, by omega⟩ (by omega) p _ _ wr HK.out.1 HLen.out).mono ?_
      rintro e w2 ⟨rfl, h2, o2⟩
      have HG := Lib.hid (show WL (w.alloc (.cells #[.slice A1 n1 c1, .slice A2 n2 c2, .slice A3 n3 c3, .slice A4 n4 c4, .slice A5 n5 c5] 28)) p (NBo F w.heap.size) (magicW ++ ((cntsL d).take (k + 1)).flatMap (fun x => bytesL x 2)) w2 from HK.out.next (Below.refl _ _) (by rw [HX.out, ← List.append_assoc]; exact h2) o2)
      clear h2 o2 hbx hix
      go_wp2
      go_roundw
      case rel => exact ⟨k + 1, by omega, by go_num, HG.out⟩
      case measure => simp [intOf]; omega
    · have k1 : ¬ (k : Int) < 5 := by omega
      have HA := Lib.hid (show WL (w.alloc (.cells #[.slice A1 n1 c1, .slice A2 n2 c2, .slice A3 n3 c3, .slice A4 n4 c4, .slice A5 n5 c5] 28)) p (NBo F w.heap.size) (P1 d) wr by (have h := HK.out; have e : (cntsL d).take k = cntsL d := (by rw [show k = 5 by omega]; rfl); rw [e] at h; exact h))
      clear hlt HK
      go_wp2
      clear hbx
      go_loopw [7, 51] (fun _ i wr => ∃ m1 : Nat, m1 ≤ n1 ∧ i = .int .i64 m1 ∧ WL (w.alloc (.cells #[.slice A1 n1 c1, .slice A2 n2 c2, .slice A3 n3 c3, .slice A4 n4 c4, .slice A5 n5 c5] 28)) p (NBo F w.heap.size) ((P1 d) ++ (d.text.take m1).flatMap (fun x => bytesL x 4)) wr) (fun _ i _ => n1 - (intOf i).toNat)
      case atStart => exact ⟨0, by omega, rfl, by rw [List.take_zero, List.flatMap_nil, List.append_nil]; exact HA.out⟩
      case round =>
        obtain ⟨m1, hk, rfl, hwl⟩ := hrel
        clear HA
        have HK := Lib.hid hwl
        have hbx : ∀ o, wr.cell? ⟨w.heap.size, o, none⟩ = (w.alloc (.cells #[.slice A1 n1 c1, .slice A2 n2 c2, .slice A3 n3 c3, .slice A4 n4 c4, .slice A5 n5 c5] 28)).cell? ⟨w.heap.size, o, none⟩ := fun o => hwl.2.cellAt (by simp)
        have hlw : w.heap.size < wr.heap.size := by have := hwl.2.size; simp at this; omega
        clear hwl
        by_cases hlt : m1 < n1
        · have k0 : (0 : Int) ≤ m1 := by omega
          have k1 : (m1 : Int) < n1 := by omega
          have hlz : m1 < d.text.length := by rw [E1.out]; exact hlt
          have HX := Lib.hid (take_flat (fun x => bytesL x 4) hlz)
          have HLen := Lib.hid (show ((P1 d) ++ (d.text.take m1).flatMap (fun x => bytesL x 4)).length ≤ 800000 by (have h1 := take_flat_len (fun x => bytesL x 4) d.text m1; have h2 := HPl.out; have h3 := HLe.out; have h4 : ((P1 d) ++ d.text.flatMap (fun x => bytesL x 4)) = (P2 d) := rfl; have h5 := congrArg List.length h4; simp only [List.length_append] at h5 ⊢; omega))
          obtain ⟨bb, oo, eA, _, hb2, hcell⟩ := R1.out.at_ (sz := 1) (fun x => rfl) (by omega) (by omega)
          have hx : ∀ i v, (encU32 d.text[m1])[i]? = some v → wr.cell? ⟨bb, oo + (m1 * 1 + i), none⟩ = some v := fun i v hv => (World.cell?_of_block ((HK.out.2.block bb (by have := HHs.out; simp; omega) (fun e => HHi.out bb hb2 e.1)).trans (heap_alloc_old w _ (by have := HHs.out; omega)))).trans (hcell m1 hlz i v hv)
          have hx0 := hx 0 _ rfl
          rw [show oo + (m1 * 1 + 0) = oo + m1 by omega] at hx0
          have hu := HFd.out.text d.text[m1] (List.getElem_mem hlz)
          have hu0 := hu.1
          have hu1 := hu.2
          have HU := Lib.hid (show IsU d.text[m1] from ⟨hu0, by omega⟩)
          obtain ⟨x, hxx⟩ : ∃ x, d.text[m1] = x := ⟨_, rfl⟩
          rw [hxx] at hx0 HX HU hu0 hu1
          subst eA
          clear hx hcell hb2 hu hlz hxx
          go_wp2_with fail
          refine (wr_number x 4 HU.out (by omega) p _ _ wr HK.out.1 (by have := HLen.out; omega)).mono ?_
          rintro e w2 ⟨rfl, h2, o2⟩
          have HG := Lib.hid (show WL _ p (NBo F w.heap.size) ((P1 d) ++ (d.text.take (m1 + 1)).flatMap (fun x => bytesL x 4)) w2 from HK.out.next (Below.refl _ _) (by rw [HX.out, ← List.append_assoc]; exact h2) o2)
          clear h2 o2 hbx hx0
          go_wp2
          go_roundw
          case rel => exact ⟨m1 + 1, by omega, by go_num, HG.out⟩
          case measure => simp [intOf]; omega
        · obtain rfl : m1 = n1 := by omega
          have HA := Lib.hid (show WL _ p (NBo F w.heap.size) (P2 d) wr by (have h := HK.out; have e : d.text.take m1 = d.text := List.take_of_length_le (by rw [E1.out]; omega); rw [e] at h; exact h))
          clear hlt HK
          go_wp2
          clear hbx
          go_loopw [9, 63] (fun _ i wr => ∃ m2 : Nat, m2 ≤ n2 ∧ i = .int .i64 m2 ∧ WL (w.alloc (.cells #[.slice A1 m1 c1, .slice A2 n2 c2, .slice A3 n3 c3, .slice A4 n4 c4, .slice A5 n5 c5] 28)) p (NBo F w.heap.size) ((P2 d) ++ (d.data.take m2).flatMap (fun x => bytesL x 8)) wr) (fun _ i _ => n2 - (intOf i).toNat)
          case atStart => exact ⟨0, by omega, rfl, by rw [List.take_zero, List.flatMap_nil, List.append_nil]; exact HA.out⟩
          case round =>
            obtain ⟨m2, hk, rfl, hwl⟩ := hrel
            clear HA
            have HK := Lib.hid hwl
            have hbx : ∀ o, wr.cell? ⟨w.heap.size, o, none⟩ = (w.alloc (.cells #[.slice A1 m1 c1, .slice A2 n2 c2, .slice A3 n3 c3, .slice A4 n4 c4, .slice A5 n5 c5] 28)).cell? ⟨w.heap.size, o, none⟩ := fun o => hwl.2.cellAt (by simp)
            have hlw : w.heap.size < wr.heap.size := by have := hwl.2.size; simp at this; omega
            clear hwl
            by_cases hlt : m2 < n2
            · have k0 : (0 : Int) ≤ m2 := by omega
              have k1 : (m2 : Int) < n2 := by omega
              have hlz : m2 < d.data.length := by rw [E2.out]; exact hlt
              have HX := Lib.hid (take_flat (fun x => bytesL x 8) hlz)
              have HLen := Lib.hid (show ((P2 d) ++ (d.data.take m2).flatMap (fun x => bytesL x 8)).length ≤ 800000 by (have h1 := take_flat_len (fun x => bytesL x 8) d.data m2; have h2 := HPl.out; have h3 := HLe.out; have h4 : ((P2 d) ++ d.data.flatMap (fun x => bytesL x 8)) = (P3 d) := rfl; have h5 := congrArg List.length h4; simp only [List.length_append] at h5 ⊢; omega))
              obtain ⟨bb, oo, eA, _, hb2, hcell⟩ := R2.out.at_ (sz := 1) (fun x => rfl) (by omega) (by omega)
              have hx : ∀ i v, (encU64 d.data[m2])[i]? = some v → wr.cell? ⟨bb, oo + (m2 * 1 + i), none⟩ = some v := fun i v hv => (World.cell?_of_block ((HK.out.2.block bb (by have := HHs.out; simp; omega) (fun e => HHi.out bb hb2 e.1)).trans (heap_alloc_old w _ (by have := HHs.out; omega)))).trans (hcell m2 hlz i v hv)
              have hx0 := hx 0 _ rfl
              rw [show oo + (m2 * 1 + 0) = oo + m2 by omega] at hx0
              have hu := HFd.out.data d.data[m2] (List.getElem_mem hlz)
              have HU := Lib.hid hu
              obtain ⟨x, hxx⟩ : ∃ x, d.data[m2] = x := ⟨_, rfl⟩
              rw [hxx] at hx0 HX HU
              subst eA
              clear hx hcell hb2 hu hlz hxx
              go_wp2_with fail
              refine (wr_number x 8 HU.out (by omega) p _ _ wr HK.out.1 (by have := HLen.out; omega)).mono ?_
              rintro e w2 ⟨rfl, h2, o2⟩
              have HG := Lib.hid (show WL _ p (NBo F w.heap.size) ((P2 d) ++ (d.data.take (m2 + 1)).flatMap (fun x => bytesL x 8)) w2 from HK.out.next (Below.refl _ _) (by rw [HX.out, ← List.append_assoc]; exact h2) o2)
              clear h2 o2 hbx hx0
              go_wp2
              go_roundw
              case rel => exact ⟨m2 + 1, by omega, by go_num, HG.out⟩
              case measure => simp [intOf]; omega
            · obtain rfl : m2 = n2 := by omega
              have HA := Lib.hid (show WL _ p (NBo F w.heap.size) (P3 d) wr by (have h := HK.out; have e : d.data.take m2 = d.data := List.take_of_length_le (by rw [E2.out]; omega); rw [e] at h; exact h))
              clear hlt HK
              go_wp2
              clear hbx
              go_loopw [11, 74] (fun _ i wr => ∃ m3 : Nat, m3 ≤ n3 ∧ i = .int .i64 m3 ∧ WL (w.alloc (.cells #[.slice A1 m1 c1, .slice A2 m2 c2, .slice A3 n3 c3, .slice A4 n4 c4, .slice A5 n5 c5] 28)) p (NBo F w.heap.size) ((P3 d) ++ (d.syms.take m3).flatMap symWt) wr) (fun _ i _ => n3 - (intOf i).toNat)
              case atStart => exact ⟨0, by omega, rfl, by rw [List.take_zero, List.flatMap_nil, List.append_nil]; exact HA.out⟩
              case round =>
                obtain ⟨m3, hk, rfl, hwl⟩ := hrel
                clear HA
                have HK := Lib.hid hwl
                have hbx : ∀ o, wr.cell? ⟨w.heap.size, o, none⟩ = (w.alloc (.cells #[.slice A1 m1 c1, .slice A2 m2 c2, .slice A3 n3 c3, .slice A4 n4 c4, .slice A5 n5 c5] 28)).cell? ⟨w.heap.size, o, none⟩ := fun o => hwl.2.cellAt (by simp)
                have hlw : w.heap.size < wr.heap.size := by have := hwl.2.size; simp at this; omega
                clear hwl
                by_cases hlt : m3 < n3
                · have k0 : (0 : Int) ≤ m3 := by omega
                  have k1 : (m3 : Int) < n3 := by omega
                  have hlz : m3 < d.syms.length := by rw [E3.out]; exact hlt
                  have HX := Lib.hid (take_flat symWt hlz)
                  have HLen := Lib.hid (show ((P3 d) ++ (d.syms.take m3).flatMap symWt).length ≤ 800000 by (have h1 := take_flat_len symWt d.syms m3; have h2 := HPl.out; have h3 := HLe.out; have h4 : ((P3 d) ++ d.syms.flatMap symWt) = (P4 d) := rfl; have h5 := congrArg List.length h4; simp only [List.length_append] at h5 ⊢; omega))
                  obtain ⟨bb, oo, eA, _, hb2, hcell⟩ := R3.out.at_ (sz := 4) (fun x => rfl) (by omega) (by omega)
                  have hx : ∀ i v, (encSym d.syms[m3])[i]? = some v → wr.cell? ⟨bb, oo + (m3 * 4 + i), none⟩ = some v := fun i v hv => (World.cell?_of_block ((HK.out.2.block bb (by have := HHs.out; simp; omega) (fun e => HHi.out bb hb2 e.1)).trans (heap_alloc_old w _ (by have := HHs.out; omega)))).trans (hcell m3 hlz i v hv)
                  have hx0 := hx 0 _ rfl
                  have hx1 := hx 1 _ rfl
                  have hx2 := hx 2 _ rfl
                  have hx3 := hx 3 _ rfl
                  rw [← Nat.add_assoc] at hx0 hx1 hx2 hx3
                  rw [Nat.add_zero] at hx0
                  have hfx := HFd.out.syms d.syms[m3] (List.getElem_mem hlz)
                  obtain ⟨x, hxx⟩ : ∃ x, d.syms[m3] = x := ⟨_, rfl⟩
                  rw [hxx] at hx0 hx1 hx2 hx3 HX hfx
                  have HFx := Lib.hid hfx
                  have HBa := Lib.hid ((Below.refl wr.heap.size wr).alloc (Nat.le_refl _) (.cells #[.string x.1, .bool x.2.1, .int .i64 x.2.2.1, .bool x.2.2.2] 65))
                  have HWa := Lib.hid (HK.out.1.below HBa.out)
                  subst eA
                  clear hx hcell hb2 hfx hlz hxx
                  go_wp2_with fail
                  refine (wr_sym x.1 x.2.1 x.2.2.1 x.2.2.2 HFx.out.1 p _ _ _ HWa.out HLen.out).mono ?_
                  rintro e w2 ⟨rfl, h2, o2⟩
                  have HG := Lib.hid (show WL _ p (NBo F w.heap.size) ((P3 d) ++ (d.syms.take (m3 + 1)).flatMap symWt) w2 from HK.out.next HBa.out (by rw [HX.out, ← List.append_assoc]; exact h2) o2)
                  clear h2 o2 hbx hx0 hx1 hx2 hx3
                  go_wp2
                  go_roundw
                  case rel => exact ⟨m3 + 1, by omega, by go_num, HG.out⟩
                  case measure => simp [intOf]; omega
                · obtain rfl : m3 = n3 := by omega
                  have HA := Lib.hid (show WL _ p (NBo F w.heap.size) (P4 d) wr by (have h := HK.out; have e : d.syms.take m3 = d.syms := List.take_of_length_le (by rw [E3.out]; omega); rw [e] at h; exact h))
                  clear hlt HK
                  go_wp2
                  clear hbx
                  go_loopw [13, 85] (fun _ i wr => ∃ m4 : Nat, m4 ≤ n4 ∧ i = .int .i64 m4 ∧ WL (w.alloc (.cells #[.slice A1 m1 c1, .slice A2 m2 c2, .slice A3 m3 c3, .slice A4 n4 c4, .slice A5 n5 c5] 28)) p (NBo F w.heap.size) ((P4 d) ++ (d.rels.take m4).flatMap relWt) wr) (fun _ i _ => n4 - (intOf i).toNat)
                  case atStart => exact ⟨0, by omega, rfl, by rw [List.take_zero, List.flatMap_nil, List.append_nil]; exact HA.out⟩
                  case round =>
                    obtain ⟨m4, hk, rfl, hwl⟩ := hrel
                    clear HA
                    have HK := Lib.hid hwl
                    have hbx : ∀ o, wr.cell? ⟨w.heap.size, o, none⟩ = (w.alloc (.cells #[.slice A1 m1 c1, .slice A2 m2 c2, .slice A3 m3 c3, .slice A4 n4 c4, .slice A5 n5 c5] 28)).cell? ⟨w.heap.size, o, none⟩ := fun o => hwl.2.cellAt (by simp)
                    have hlw : w.heap.size < wr.heap.size := by have := hwl.2.size; simp at this; omega
                    clear hwl
                    by_cases hlt : m4 < n4
                    · have k0 : (0 : Int) ≤ m4 := by omega
                      have k1 : (m4 : Int) < n4 := by omega
                      have hlz : m4 < d.rels.length := by rw [E4.out]; exact hlt
                      have HX := Lib.hid (take_flat relWt hlz)
                      have HLen := Lib.hid (show ((P4 d) ++ (d.rels.take m4).flatMap relWt).length ≤ 800000 by (have h1 := take_flat_len relWt d.rels m4; have h2 := HPl.out; have h3 := HLe.out; have h4 : ((P4 d) ++ d.rels.flatMap relWt) = (P5 d) := rfl; have h5 := congrArg List.length h4; simp only [List.length_append] at h5 ⊢; omega))
                      obtain ⟨bb, oo, eA, _, hb2, hcell⟩ := R4.out.at_ (sz := 4) (fun x => rfl) (by omega) (by omega)
                      have hx : ∀ i v, (encRel d.rels[m4])[i]? = some v → wr.cell? ⟨bb, oo + (m4 * 4 + i), none⟩ = some v := fun i v hv => (World.cell?_of_block ((HK.out.2.block bb (by have := HHs.out; simp; omega) (fun e => HHi.out bb hb2 e.1)).trans (heap_alloc_old w _ (by have := HHs.out; omega)))).trans (hcell m4 hlz i v hv)
                      have hx0 := hx 0 _ rfl
                      have hx1 := hx 1 _ rfl
                      have hx2 := hx 2 _ rfl
                      have hx3 := hx 3 _ rfl
                      rw [← Nat.add_assoc] at hx0 hx1 hx2 hx3
                      rw [Nat.add_zero] at hx0
                      have hfx := HFd.out.rels d.rels[m4] (List.getElem_mem hlz)
                      obtain ⟨x, hxx⟩ : ∃ x, d.rels[m4] = x := ⟨_, rfl⟩
                      rw [hxx] at hx0 hx1 hx2 hx3 HX hfx
                      have HFx := Lib.hid hfx
                      have HBa := Lib.hid ((Below.refl wr.heap.size wr).alloc (Nat.le_refl _) (.cells #[.int .i64 x.1, .int .i64 x.2.1, .string x.2.2.1, .int .i64 x.2.2.2] 49))
                      have HWa := Lib.hid (HK.out.1.below HBa.out)
                      subst eA
                      clear hx hcell hb2 hfx hlz hxx
                      go_wp2_with fail
                      refine (wr_rel x.1 x.2.1 x.2.2.1 x.2.2.2 HFx.out.2.2.1 p _ _ _ HWa.out HLen.out).mono ?_
                      rintro e w2 ⟨rfl, h2, o2⟩
                      have HG := Lib.hid (show WL _ p (NBo F w.heap.size) ((P4 d) ++ (d.rels.take (m4 + 1)).flatMap relWt) w2 from HK.out.next HBa.out (by rw [HX.out, ← List.append_assoc]; exact h2) o2)
                      clear h2 o2 hbx hx0 hx1 hx2 hx3
                      go_wp2
                      go_roundw
                      case rel => exact ⟨m4 + 1, by omega, by go_num, HG.out⟩
                      case measure => simp [intOf]; omega
                    · obtain rfl : m4 = n4 := by omega
                      have HA := Lib.hid (show WL _ p (NBo F w.heap.size) (P5 d) wr by (have h := HK.out; have e : d.rels.take m4 = d.rels := List.take_of_length_le (by rw [E4.out]; omega); rw [e] at h; exact h))
                      clear hlt HK
                      go_wp2
                      clear hbx
                      go_loopw [15, 96] (fun _ i wr => ∃ m5 : Nat, m5 ≤ n5 ∧ i = .int .i64 m5 ∧ WL (w.alloc (.cells #[.slice A1 m1 c1, .slice A2 m2 c2, .slice A3 m3 c3, .slice A4 m4 c4, .slice A5 n5 c5] 28)) p (NBo F w.heap.size) ((P5 d) ++ (d.ents.take m5).flatMap entWt) wr) (fun _ i _ => n5 - (intOf i).toNat)
                      case atStart => exact ⟨0, by omega, rfl, by rw [List.take_zero, List.flatMap_nil, List.append_nil]; exact HA.out⟩
                      case round =>
                        obtain ⟨m5, hk, rfl, hwl⟩ := hrel
                        clear HA
                        have HK := Lib.hid hwl
                        have hbx : ∀ o, wr.cell? ⟨w.heap.size, o, none⟩ = (w.alloc (.cells #[.slice A1 m1 c1, .slice A2 m2 c2, .slice A3 m3 c3, .slice A4 m4 c4, .slice A5 n5 c5] 28)).cell? ⟨w.heap.size, o, none⟩ := fun o => hwl.2.cellAt (by simp)
                        have hlw : w.heap.size < wr.heap.size := by have := hwl.2.size; simp at this; omega
                        clear hwl
                        by_cases hlt : m5 < n5
                        · have k0 : (0 : Int) ≤ m5 := by omega
                          have k1 : (m5 : Int) < n5 := by omega
                          have hlz : m5 < d.ents.length := by rw [E5.out]; exact hlt
                          have HX := Lib.hid (take_flat entWt hlz)
                          have HLen := Lib.hid (show ((P5 d) ++ (d.ents.take m5).flatMap entWt).length ≤ 800000 by (have h1 := take_flat_len entWt d.ents m5; have h2 := HPl.out; have h3 := HLe.out; have h4 : ((P5 d) ++ d.ents.flatMap entWt) = (encB d) := P6_eq d; have h5 := congrArg List.length h4; simp only [List.length_append] at h5 ⊢; omega))
                          obtain ⟨Ap, cp, g0, g1, gr⟩ := R6.out.get hlz
                          have hne : es ≠ [] := fun e => by rw [e] at g0; cases g0
                          rcases R5.out with e | ⟨bb, oo, eA, _, hb2, hcell⟩
                          · exact absurd e hne
                          have hkk : wr.heap[bb]? = w.heap[bb]? := (HK.out.2.block bb (by have := HHs.out; simp; omega) (fun e => HHi.out bb hb2 e.1)).trans (heap_alloc_old w _ (by have := HHs.out; omega))
                          have hx0 := (World.cell?_of_block (a := ⟨bb, oo + (m5 * 2), none⟩) hkk).trans (hcell (m5 * 2) _ g0)
                          have hx1 := (World.cell?_of_block (a := ⟨bb, oo + (m5 * 2 + 1), none⟩) hkk).trans (hcell (m5 * 2 + 1) _ g1)
                          rw [← Nat.add_assoc] at hx1
                          have hfx := HFd.out.ents d.ents[m5] (List.getElem_mem hlz)
                          obtain ⟨x, hxx⟩ : ∃ x, d.ents[m5] = x := ⟨_, rfl⟩
                          rw [hxx] at hx0 hx1 HX hfx gr
                          have HFx := Lib.hid hfx
                          have HBa := Lib.hid ((Below.refl wr.heap.size wr).alloc (Nat.le_refl _) (.cells #[.string x.1, .slice Ap x.2.length cp] 70))
                          have HWa := Lib.hid (HK.out.1.below HBa.out)
                          have HPar := Lib.hid (show ParR (wr.alloc (.cells #[.string x.1, .slice Ap x.2.length cp] 70)) (NBo F w.heap.size) Ap x.2 by
                            rcases gr with e | ⟨b', o', e, _, g2, _, g4⟩
                            · left; have h := flat_len (enc := encI64) (sz := 1) (fun x => rfl) x.2; rw [e] at h; exact List.eq_nil_of_length_eq_zero (by simpa using h.symm)
                            · refine .inr ⟨b', o', e, by have := HHs.out; simp; omega, fun h => HHi.out b' g2 h.1, fun j hj => ?_⟩
                              have hh : wr.heap[b']? = w.heap[b']? := (HK.out.2.block b' (by have := HHs.out; simp; omega) (fun e => HHi.out b' g2 e.1)).trans (heap_alloc_old w _ (by have := HHs.out; omega))
                              rw [World.cell?_of_block ((HBa.out.block b' (by have := HHs.out; omega)).trans hh), nth_get hj]
                              have h := flat_get (enc := encI64) (sz := 1) (fun x => rfl) hj (i := 0) (by omega)
                              rw [Nat.mul_one, Nat.add_zero] at h
                              exact g4 j _ h)
                          subst eA
                          clear hcell hb2 hfx hlz hxx g0 g1 gr hne hkk
                          go_wp2_with fail
                          refine (wr_entry x.1 Ap x.2 x.2.length cp rfl HFx.out.2.1 HFx.out.1 p _ _ _ HPar.out HWa.out HLen.out).mono ?_
                          rintro e w2 ⟨rfl, h2, o2⟩
                          have HG := Lib.hid (show WL _ p (NBo F w.heap.size) ((P5 d) ++ (d.ents.take (m5 + 1)).flatMap entWt) w2 from HK.out.next HBa.out (by rw [HX.out, ← List.append_assoc]; exact h2) o2)
                          clear h2 o2 hbx hx0 hx1
                          go_wp2
                          go_roundw
                          case rel => exact ⟨m5 + 1, by omega, by go_num, HG.out⟩
                          case measure => simp [intOf]; omega
                        · obtain rfl : m5 = n5 := by omega
                          have HA := Lib.hid (show WL _ p (NBo F w.heap.size) (encB d) wr by (have h := HK.out; have e : d.ents.take m5 = d.ents := List.take_of_length_le (by rw [E5.out]; omega); rw [e, P6_eq] at h; exact h))
                          clear hlt HK
                          go_wp2
                          clear hbx
                          go_end0
                          exact ⟨rfl, HA.out.1.unbox, HA.out.2.ofAlloc⟩
end Go.Proofs.YtfdpbogbnfkilaaDoor
