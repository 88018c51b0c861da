/- Layer 6: the writer of package obj: a whole object.
   Layer 6: Encode of package obj. Condition: the tables of package ins read as they should.
   Layer 6: the deferred function of package obj's Decode.
   Layer 6: Decode of package obj. Condition: the tables of package ins read as they should. -/
import Derived.Test.YtmpieeadkkeniaaGreatDoorObjA
import Derived.Test.YtmpieeadkkeniaaGreatDoorObjE
import Derived.Test.YtmpieeadkkeniaaGreatDoorObjD
import Derived.Defers
import Derived.Recover
namespace Go.Proofs.YtmpieeadkkeniaaGreatDoor
set_option maxRecDepth 100000
open Go.RowKit
set_option linter.unusedVariables false
theorem take_flat {α : Type} (e : α → List Int) {xs : List α} {k : Nat} (hk : k < xs.length) : (xs.take (k + 1)).flatMap e = (xs.take k).flatMap e ++ e xs[k] := by
  rw [List.take_succ_eq_append_getElem hk, List.flatMap_append, List.flatMap_cons, List.flatMap_nil, List.append_nil]
theorem take_flat_len {α : Type} (e : α → List Int) (xs : List α) (k : Nat) : ((xs.take k).flatMap e).length ≤ (xs.flatMap e).length := by
  conv => rhs; rw [← List.take_append_drop k xs]
  rw [List.flatMap_append, List.length_append]; omega
theorem cnt_ix (a0 a1 a2 a3 a4 : Int) (k : Nat) (hk : k < 5) (w : World) : (Instr.index 77 (.agg #[.int .i64 a0, .int .i64 a1, .int .i64 a2, .int .i64 a3, .int .i64 a4]) (.int .i64 k)).run Tryz.prog w = .ok (.int .i64 (nth [a0, a1, a2, a3, a4] k)) w := by
  rcases (by omega : k = 0 ∨ k = 1 ∨ k = 2 ∨ k = 3 ∨ k = 4) with rfl | rfl | rfl | rfl | rfl <;> kernel_rfl
/-- where the writer stands -/
def WL (w1 : World) (p : Nat) (F : Nat → Prop) (L : List Int) (wr : World) : Prop := WrIs wr p F L ∧ OutO F w1 wr
theorem WL.next {w1 wr w2 w3 : World} {p : Nat} {F : Nat → Prop} {L L' : List Int} (h : WL w1 p F L wr) (hb : Below wr.heap.size wr w2) (h2 : WrIs w3 p F L') (ho : OutO F w2 w3) : WL w1 p F L' w3 :=
  ⟨h2, (h.2.trans (OutO.of_below hb)).trans ho⟩
def cntsL (d : ObjD) : List Int := [(d.text.length : Int), d.data.length, d.syms.length, d.rels.length, d.ents.length]
def P1 (d : ObjD) : List Int := magicW ++ (cntsL d).flatMap (fun x => bytesL x 2)
def P2 (d : ObjD) : List Int := P1 d ++ d.text.flatMap (fun x => bytesL x 4)
def P3 (d : ObjD) : List Int := P2 d ++ d.data.flatMap (fun x => bytesL x 8)
def P4 (d : ObjD) : List Int := P3 d ++ d.syms.flatMap symWt
def P5 (d : ObjD) : List Int := P4 d ++ d.rels.flatMap relWt
theorem P6_eq (d : ObjD) : P5 d ++ d.ents.flatMap entWt = encB d := by
  unfold P5 P4 P3 P2 P1 encB headW cntsL
  simp only [List.flatMap_cons, List.flatMap_nil, List.append_nil, List.append_assoc]
theorem P_len (d : ObjD) : (P1 d).length ≤ (P2 d).length ∧ (P2 d).length ≤ (P3 d).length ∧ (P3 d).length ≤ (P4 d).length ∧ (P4 d).length ≤ (P5 d).length ∧ (P5 d).length ≤ (encB d).length := by
  rw [← P6_eq]
  unfold P5 P4 P3 P2
  simp only [List.length_append]
  omega
set_option maxHeartbeats 4000000 in
theorem wobj_any (d : ObjD) (hF : ObjF d) (hlen : (encB d).length ≤ 700000) (v : Value) (lo hi p : Nat) (F : Nat → Prop) (w : World) (hO : ObjAt w lo hi d v) (hhi : ∀ b, b < hi → ¬ F b) (hhs : hi ≤ w.heap.size) (hW : WrIs w p F []) :
    Calls Tryz.prog 21 #[.pointer (some ⟨p, 0, none⟩), v] w (WrP w p F (encB d)) := by
  obtain ⟨A1, c1, A2, c2, A3, c3, A4, c4, A5, c5, es, rfl, h1, h2, h3, h4, h5, h6⟩ := hO
  obtain ⟨n1, e1⟩ : ∃ n, d.text.length = n := ⟨_, rfl⟩
  obtain ⟨n2, e2⟩ : ∃ n, d.data.length = n := ⟨_, rfl⟩
  obtain ⟨n3, e3⟩ : ∃ n, d.syms.length = n := ⟨_, rfl⟩
  obtain ⟨n4, e4⟩ : ∃ n, d.rels.length = n := ⟨_, rfl⟩
  obtain ⟨n5, e5⟩ : ∃ n, d.ents.length = n := ⟨_, rfl⟩
  have hn1 : n1 < 65536 := by have := hF.ct; omega
  have hn2 : n2 < 65536 := by have := hF.cd; omega
  have hn3 : n3 < 65536 := by have := hF.cs; omega
  have hn4 : n4 < 65536 := by have := hF.cr; omega
  have hn5 : n5 < 65536 := by have := hF.ce; omega
  rw [e1, e2, e3, e4, e5]
  have HCn := Lib.hid (show cntsL d = [(n1 : Int), n2, n3, n4, n5] by unfold cntsL; rw [e1, e2, e3, e4, e5])
  have HPl := Lib.hid (P_len d)
  have HLe := Lib.hid hlen
  have HFd := Lib.hid hF
  have HHi := Lib.hid hhi
  have HHs := Lib.hid hhs
  have E1 := Lib.hid e1
  have E2 := Lib.hid e2
  have E3 := Lib.hid e3
  have E4 := Lib.hid e4
  have E5 := Lib.hid e5
  have R1 := Lib.hid h1
  have R2 := Lib.hid h2
  have R3 := Lib.hid h3
  have R4 := Lib.hid h4
  have R5 := Lib.hid h5
  have R6 := Lib.hid h6
  obtain ⟨s0, hV⟩ := hW.box (.cells #[.slice A1 n1 c1, .slice A2 n2 c2, .slice A3 n3 c3, .slice A4 n4 c4, .slice A5 n5 c5] 28)
  have HV := Lib.hid hV
  have hc := hV.cell
  have hlt := hV.lt
  have hf := hV.free
  obtain ⟨i0, hi0, hz0, hz1, hz2⟩ := info_parts infoU8
  have HM := Lib.hid (show ([] : List Int).length + (⟨#[79, 66, 74, 49]⟩ : ByteArray).size ≤ maxLen by unfold maxLen; decide)
  have HB := Lib.hid (show (([] : List Int).length + (⟨#[79, 66, 74, 49]⟩ : ByteArray).size) * 1 ≤ 140737488355328 by decide)
  have HZ := Lib.hid (show p + 1 ≤ (w.alloc (.cells #[.slice A1 n1 c1, .slice A2 n2 c2, .slice A3 n3 c3, .slice A4 n4 c4, .slice A5 n5 c5] 28)).heap.size by omega)
  have hpne : p ≠ w.heap.size := hV.2.2.1.2
  have HMag := Lib.hid (show sB ⟨#[79, 66, 74, 49]⟩ = magicW by decide +kernel)
  clear hV hW hF hlen hhi hhs e1 e2 e3 e4 e5 h1 h2 h3 h4 h5 h6
  go_enter Tryz.func21, Tryz.ntmps21
  go_wp2_with (at_builtin; (refine wpList_append_str rfl _ _ 31 9 rfl (p + 1) 5 i0 (.int .u8 0) 1 Tryz.underlying31 Tryz.underlying9 hi0 hz0 hz1 hz2 rfl s0 _ _ ?hs HV.out.2.1 ⟨#[79, 66, 74, 49]⟩ ?hx HM.out HB.out HZ.out ?_; (case hs => rfl); (case hx => rfl); intro v' w3 hr hg hv'; obtain ⟨Aw, cw, rfl⟩ := ownO_slice hr; have HR := Lib.hid (HV.out.more (m := magicW) (by rw [← HMag.out, List.length_append, sB_len]) (by unfold sC; rw [HMag.out, ← List.map_append]) hr hg hv'); have hc3 : w3.cell? ⟨p, 0, none⟩ = some s0 := (by rw [World.cell?_of_block (hg.block p HV.out.lt (fun e => by have := (ownO_lt HV.out.2.1 e.symm).2.1; omega))]; exact HV.out.cell); have hf3 : w3.frozen? ⟨p, 0, none⟩ = false := (by rw [World.frozen?_of_block (hg.block p HV.out.lt (fun e => by have := (ownO_lt HV.out.2.1 e.symm).2.1; omega))]; exact HV.out.free); have hbx : ∀ o, w3.cell? ⟨w.heap.size, o, none⟩ = (w.alloc (.cells #[.slice A1 n1 c1, .slice A2 n2 c2, .slice A3 n3 c3, .slice A4 n4 c4, .slice A5 n5 c5] 28)).cell? ⟨w.heap.size, o, none⟩ := (fun o => World.cell?_of_block (hg.block w.heap.size (by simp) (fun e => (HV.out.2.2.2.1 _ e.symm).2 rfl))); clear hr hg hv' hc hlt hf))
  have HW0 := Lib.hid (show WL (w.alloc (.cells #[.slice A1 n1 c1, .slice A2 n2 c2, .slice A3 n3 c3, .slice A4 n4 c4, .slice A5 n5 c5] 28)) p (NBo F w.heap.size) magicW (w3.setCell ⟨p, 0, none⟩ (.slice Aw (([] : List Int).length + (⟨#[79, 66, 74, 49]⟩ : ByteArray).size) cw)) from ⟨⟨_, HR.out.1⟩, HR.out.2⟩)
  have hix := fun (k : Nat) (hk : k < 5) (w : World) => cnt_ix n1 n2 n3 n4 n5 k hk w
  have HIx := Lib.hid hix
  clear hix
  clear hc3 hf3 hbx
  go_loopw [5, 40] (fun _ i wr => ∃ k : Nat, k ≤ 5 ∧ i = .int .i64 k ∧ WL (w.alloc (.cells #[.slice A1 n1 c1, .slice A2 n2 c2, .slice A3 n3 c3, .slice A4 n4 c4, .slice A5 n5 c5] 28)) p (NBo F w.heap.size) (magicW ++ ((cntsL d).take k).flatMap (fun x => bytesL x 2)) wr) (fun _ i _ => 5 - (intOf i).toNat)
  case atStart => exact ⟨0, by omega, rfl, HW0.out⟩
  case round =>
    obtain ⟨k, hk, rfl, hwl⟩ := hrel
    have HK := Lib.hid hwl
    have hbx : ∀ o, wr.cell? ⟨w.heap.size, o, none⟩ = (w.alloc (.cells #[.slice A1 n1 c1, .slice A2 n2 c2, .slice A3 n3 c3, .slice A4 n4 c4, .slice A5 n5 c5] 28)).cell? ⟨w.heap.size, o, none⟩ := fun o => hwl.2.cellAt (by simp)
    clear hwl
    by_cases hlt : k < 5
    · have k0 : (0 : Int) ≤ k := by omega
      have k1 : (k : Int) < 5 := by omega
      have hix := HIx.out k hlt
      have hlz : k < (cntsL d).length := hlt
      obtain ⟨x, hx⟩ : ∃ x, nth [(n1 : Int), n2, n3, n4, n5] k = x := ⟨_, rfl⟩
      have hxb : 0 ≤ x ∧ x < 65536 := by
        rw [← hx]
        rcases (by omega : k = 0 ∨ k = 1 ∨ k = 2 ∨ k = 3 ∨ k = 4) with rfl | rfl | rfl | rfl | rfl <;> simp [nth] <;> omega
      have HX := Lib.hid (show ((cntsL d).take (k + 1)).flatMap (fun x => bytesL x 2) = ((cntsL d).take k).flatMap (fun x => bytesL x 2) ++ bytesL x 2 by rw [take_flat _ hlz, ← nth_get hlz, ← hx, HCn.out])
      rw [hx] at hix
      have hx0 := hxb.1
      have hx1 := hxb.2
      have HLen := Lib.hid (show (magicW ++ ((cntsL d).take k).flatMap (fun x => bytesL x 2)).length ≤ 1000000 by (have h1 := take_flat_len (fun x => bytesL x 2) (cntsL d) k; have h2 := HPl.out; have h3 := HLe.out; unfold P1 at h2; simp only [List.length_append] at h2 ⊢; omega))
      clear hx hxb hlz
      go_wp2_with fail
      refine (wr_number x 2 ⟨by omega, by omega⟩ (by omega) p _ _ wr HK.out.1 HLen.out).mono ?_
      rintro e w2 ⟨rfl, h2, o2⟩
      have HG := Lib.hid (show WL (w.alloc (.cells #[.slice A1 n1 c1, .slice A2 n2 c2, .slice A3 n3 c3, .slice A4 n4 c4, .slice A5 n5 c5] 28)) p (NBo F w.heap.size) (magicW ++ ((cntsL d).take (k + 1)).flatMap (fun x => bytesL x 2)) w2 from HK.out.next (Below.refl _ _) (by rw [HX.out, ← List.append_assoc]; exact h2) o2)
      clear h2 o2 hbx hix
      go_wp2
      go_roundw
      case rel => exact ⟨k + 1, by omega, by go_num, HG.out⟩
      case measure => simp [intOf]; omega
    · have k1 : ¬ (k : Int) < 5 := by omega
      have HA := Lib.hid (show WL (w.alloc (.cells #[.slice A1 n1 c1, .slice A2 n2 c2, .slice A3 n3 c3, .slice A4 n4 c4, .slice A5 n5 c5] 28)) p (NBo F w.heap.size) (P1 d) wr by (have h := HK.out; have e : (cntsL d).take k = cntsL d := (by rw [show k = 5 by omega]; rfl); rw [e] at h; exact h))
      clear hlt HK
      go_wp2
      clear hbx
      go_loopw [7, 51] (fun _ i wr => ∃ m1 : Nat, m1 ≤ n1 ∧ i = .int .i64 m1 ∧ WL (w.alloc (.cells #[.slice A1 n1 c1, .slice A2 n2 c2, .slice A3 n3 c3, .slice A4 n4 c4, .slice A5 n5 c5] 28)) p (NBo F w.heap.size) ((P1 d) ++ (d.text.take m1).flatMap (fun x => bytesL x 4)) wr) (fun _ i _ => n1 - (intOf i).toNat)
      case atStart => exact ⟨0, by omega, rfl, by rw [List.take_zero, List.flatMap_nil, List.append_nil]; exact HA.out⟩
      case round =>
        obtain ⟨m1, hk, rfl, hwl⟩ := hrel
        clear HA
        have HK := Lib.hid hwl
        have hbx : ∀ o, wr.cell? ⟨w.heap.size, o, none⟩ = (w.alloc (.cells #[.slice A1 n1 c1, .slice A2 n2 c2, .slice A3 n3 c3, .slice A4 n4 c4, .slice A5 n5 c5] 28)).cell? ⟨w.heap.size, o, none⟩ := fun o => hwl.2.cellAt (by simp)
        have hlw : w.heap.size < wr.heap.size := by have := hwl.2.size; simp at this; omega
        clear hwl
        by_cases hlt : m1 < n1
        · have k0 : (0 : Int) ≤ m1 := by omega
          have k1 : (m1 : Int) < n1 := by omega
          have hlz : m1 < d.text.length := by rw [E1.out]; exact hlt
          have HX := Lib.hid (take_flat (fun x => bytesL x 4) hlz)
          have HLen := Lib.hid (show ((P1 d) ++ (d.text.take m1).flatMap (fun x => bytesL x 4)).length ≤ 800000 by (have h1 := take_flat_len (fun x => bytesL x 4) d.text m1; have h2 := HPl.out; have h3 := HLe.out; have h4 : ((P1 d) ++ d.text.flatMap (fun x => bytesL x 4)) = (P2 d) := rfl; have h5 := congrArg List.length h4; simp only [List.length_append] at h5 ⊢; omega))
          obtain ⟨bb, oo, eA, _, hb2, hcell⟩ := R1.out.at_ (sz := 1) (fun x => rfl) (by omega) (by omega)
          have hx : ∀ i v, (encU32 d.text[m1])[i]? = some v → wr.cell? ⟨bb, oo + (m1 * 1 + i), none⟩ = some v := fun i v hv => (World.cell?_of_block ((HK.out.2.block bb (by have := HHs.out; simp; omega) (fun e => HHi.out bb hb2 e.1)).trans (heap_alloc_old w _ (by have := HHs.out; omega)))).trans (hcell m1 hlz i v hv)
          have hx0 := hx 0 _ rfl
          rw [show oo + (m1 * 1 + 0) = oo + m1 by omega] at hx0
          have hu := HFd.out.text d.text[m1] (List.getElem_mem hlz)
          have hu0 := hu.1
          have hu1 := hu.2
          have HU := Lib.hid (show IsU d.text[m1] from ⟨hu0, by omega⟩)
          obtain ⟨x, hxx⟩ : ∃ x, d.text[m1] = x := ⟨_, rfl⟩
          rw [hxx] at hx0 HX HU hu0 hu1
          subst eA
          clear hx hcell hb2 hu hlz hxx
          go_wp2_with fail
          refine (wr_number x 4 HU.out (by omega) p _ _ wr HK.out.1 (by have := HLen.out; omega)).mono ?_
          rintro e w2 ⟨rfl, h2, o2⟩
          have HG := Lib.hid (show WL _ p (NBo F w.heap.size) ((P1 d) ++ (d.text.take (m1 + 1)).flatMap (fun x => bytesL x 4)) w2 from HK.out.next (Below.refl _ _) (by rw [HX.out, ← List.append_assoc]; exact h2) o2)
          clear h2 o2 hbx hx0
          go_wp2
          go_roundw
          case rel => exact ⟨m1 + 1, by omega, by go_num, HG.out⟩
          case measure => simp [intOf]; omega
        · obtain rfl : m1 = n1 := by omega
          have HA := Lib.hid (show WL _ p (NBo F w.heap.size) (P2 d) wr by (have h := HK.out; have e : d.text.take m1 = d.text := List.take_of_length_le (by rw [E1.out]; omega); rw [e] at h; exact h))
          clear hlt HK
          go_wp2
          clear hbx
          go_loopw [9, 63] (fun _ i wr => ∃ m2 : Nat, m2 ≤ n2 ∧ i = .int .i64 m2 ∧ WL (w.alloc (.cells #[.slice A1 m1 c1, .slice A2 n2 c2, .slice A3 n3 c3, .slice A4 n4 c4, .slice A5 n5 c5] 28)) p (NBo F w.heap.size) ((P2 d) ++ (d.data.take m2).flatMap (fun x => bytesL x 8)) wr) (fun _ i _ => n2 - (intOf i).toNat)
          case atStart => exact ⟨0, by omega, rfl, by rw [List.take_zero, List.flatMap_nil, List.append_nil]; exact HA.out⟩
          case round =>
            obtain ⟨m2, hk, rfl, hwl⟩ := hrel
            clear HA
            have HK := Lib.hid hwl
            have hbx : ∀ o, wr.cell? ⟨w.heap.size, o, none⟩ = (w.alloc (.cells #[.slice A1 m1 c1, .slice A2 n2 c2, .slice A3 n3 c3, .slice A4 n4 c4, .slice A5 n5 c5] 28)).cell? ⟨w.heap.size, o, none⟩ := fun o => hwl.2.cellAt (by simp)
            have hlw : w.heap.size < wr.heap.size := by have := hwl.2.size; simp at this; omega
            clear hwl
            by_cases hlt : m2 < n2
            · have k0 : (0 : Int) ≤ m2 := by omega
              have k1 : (m2 : Int) < n2 := by omega
              have hlz : m2 < d.data.length := by rw [E2.out]; exact hlt
              have HX := Lib.hid (take_flat (fun x => bytesL x 8) hlz)
              have HLen := Lib.hid (show ((P2 d) ++ (d.data.take m2).flatMap (fun x => bytesL x 8)).length ≤ 800000 by (have h1 := take_flat_len (fun x => bytesL x 8) d.data m2; have h2 := HPl.out; have h3 := HLe.out; have h4 : ((P2 d) ++ d.data.flatMap (fun x => bytesL x 8)) = (P3 d) := rfl; have h5 := congrArg List.length h4; simp only [List.length_append] at h5 ⊢; omega))
              obtain ⟨bb, oo, eA, _, hb2, hcell⟩ := R2.out.at_ (sz := 1) (fun x => rfl) (by omega) (by omega)
              have hx : ∀ i v, (encU64 d.data[m2])[i]? = some v → wr.cell? ⟨bb, oo + (m2 * 1 + i), none⟩ = some v := fun i v hv => (World.cell?_of_block ((HK.out.2.block bb (by have := HHs.out; simp; omega) (fun e => HHi.out bb hb2 e.1)).trans (heap_alloc_old w _ (by have := HHs.out; omega)))).trans (hcell m2 hlz i v hv)
              have hx0 := hx 0 _ rfl
              rw [show oo + (m2 * 1 + 0) = oo + m2 by omega] at hx0
              have hu := HFd.out.data d.data[m2] (List.getElem_mem hlz)
              have HU := Lib.hid hu
              obtain ⟨x, hxx⟩ : ∃ x, d.data[m2] = x := ⟨_, rfl⟩
              rw [hxx] at hx0 HX HU
              subst eA
              clear hx hcell hb2 hu hlz hxx
              go_wp2_with fail
              refine (wr_number x 8 HU.out (by omega) p _ _ wr HK.out.1 (by have := HLen.out; omega)).mono ?_
              rintro e w2 ⟨rfl, h2, o2⟩
              have HG := Lib.hid (show WL _ p (NBo F w.heap.size) ((P2 d) ++ (d.data.take (m2 + 1)).flatMap (fun x => bytesL x 8)) w2 from HK.out.next (Below.refl _ _) (by rw [HX.out, ← List.append_assoc]; exact h2) o2)
              clear h2 o2 hbx hx0
              go_wp2
              go_roundw
              case rel => exact ⟨m2 + 1, by omega, by go_num, HG.out⟩
              case measure => simp [intOf]; omega
            · obtain rfl : m2 = n2 := by omega
              have HA := Lib.hid (show WL _ p (NBo F w.heap.size) (P3 d) wr by (have h := HK.out; have e : d.data.take m2 = d.data := List.take_of_length_le (by rw [E2.out]; omega); rw [e] at h; exact h))
              clear hlt HK
              go_wp2
              clear hbx
              go_loopw [11, 74] (fun _ i wr => ∃ m3 : Nat, m3 ≤ n3 ∧ i = .int .i64 m3 ∧ WL (w.alloc (.cells #[.slice A1 m1 c1, .slice A2 m2 c2, .slice A3 n3 c3, .slice A4 n4 c4, .slice A5 n5 c5] 28)) p (NBo F w.heap.size) ((P3 d) ++ (d.syms.take m3).flatMap symWt) wr) (fun _ i _ => n3 - (intOf i).toNat)
              case atStart => exact ⟨0, by omega, rfl, by rw [List.take_zero, List.flatMap_nil, List.append_nil]; exact HA.out⟩
              case round =>
                obtain ⟨m3, hk, rfl, hwl⟩ := hrel
                clear HA
                have HK := Lib.hid hwl
                have hbx : ∀ o, wr.cell? ⟨w.heap.size, o, none⟩ = (w.alloc (.cells #[.slice A1 m1 c1, .slice A2 m2 c2, .slice A3 n3 c3, .slice A4 n4 c4, .slice A5 n5 c5] 28)).cell? ⟨w.heap.size, o, none⟩ := fun o => hwl.2.cellAt (by simp)
                have hlw : w.heap.size < wr.heap.size := by have := hwl.2.size; simp at this; omega
                clear hwl
                by_cases hlt : m3 < n3
                · have k0 : (0 : Int) ≤ m3 := by omega
                  have k1 : (m3 : Int) < n3 := by omega
                  have hlz : m3 < d.syms.length := by rw [E3.out]; exact hlt
                  have HX := Lib.hid (take_flat symWt hlz)
                  have HLen := Lib.hid (show ((P3 d) ++ (d.syms.take m3).flatMap symWt).length ≤ 800000 by (have h1 := take_flat_len symWt d.syms m3; have h2 := HPl.out; have h3 := HLe.out; have h4 : ((P3 d) ++ d.syms.flatMap symWt) = (P4 d) := rfl; have h5 := congrArg List.length h4; simp only [List.length_append] at h5 ⊢; omega))
                  obtain ⟨bb, oo, eA, _, hb2, hcell⟩ := R3.out.at_ (sz := 4) (fun x => rfl) (by omega) (by omega)
                  have hx : ∀ i v, (encSym d.syms[m3])[i]? = some v → wr.cell? ⟨bb, oo + (m3 * 4 + i), none⟩ = some v := fun i v hv => (World.cell?_of_block ((HK.out.2.block bb (by have := HHs.out; simp; omega) (fun e => HHi.out bb hb2 e.1)).trans (heap_alloc_old w _ (by have := HHs.out; omega)))).trans (hcell m3 hlz i v hv)
                  have hx0 := hx 0 _ rfl
                  have hx1 := hx 1 _ rfl
                  have hx2 := hx 2 _ rfl
                  have hx3 := hx 3 _ rfl
                  rw [← Nat.add_assoc] at hx0 hx1 hx2 hx3
                  rw [Nat.add_zero] at hx0
                  have hfx := HFd.out.syms d.syms[m3] (List.getElem_mem hlz)
                  obtain ⟨x, hxx⟩ : ∃ x, d.syms[m3] = x := ⟨_, rfl⟩
                  rw [hxx] at hx0 hx1 hx2 hx3 HX hfx
                  have HFx := Lib.hid hfx
                  have HBa := Lib.hid ((Below.refl wr.heap.size wr).alloc (Nat.le_refl _) (.cells #[.string x.1, .bool x.2.1, .int .i64 x.2.2.1, .bool x.2.2.2] 45))
                  have HWa := Lib.hid (HK.out.1.below HBa.out)
                  subst eA
                  clear hx hcell hb2 hfx hlz hxx
                  go_wp2_with fail
                  refine (wr_sym x.1 x.2.1 x.2.2.1 x.2.2.2 HFx.out.1 p _ _ _ HWa.out HLen.out).mono ?_
                  rintro e w2 ⟨rfl, h2, o2⟩
                  have HG := Lib.hid (show WL _ p (NBo F w.heap.size) ((P3 d) ++ (d.syms.take (m3 + 1)).flatMap symWt) w2 from HK.out.next HBa.out (by rw [HX.out, ← List.append_assoc]; exact h2) o2)
                  clear h2 o2 hbx hx0 hx1 hx2 hx3
                  go_wp2
                  go_roundw
                  case rel => exact ⟨m3 + 1, by omega, by go_num, HG.out⟩
                  case measure => simp [intOf]; omega
                · obtain rfl : m3 = n3 := by omega
                  have HA := Lib.hid (show WL _ p (NBo F w.heap.size) (P4 d) wr by (have h := HK.out; have e : d.syms.take m3 = d.syms := List.take_of_length_le (by rw [E3.out]; omega); rw [e] at h; exact h))
                  clear hlt HK
                  go_wp2
                  clear hbx
                  go_loopw [13, 85] (fun _ i wr => ∃ m4 : Nat, m4 ≤ n4 ∧ i = .int .i64 m4 ∧ WL (w.alloc (.cells #[.slice A1 m1 c1, .slice A2 m2 c2, .slice A3 m3 c3, .slice A4 n4 c4, .slice A5 n5 c5] 28)) p (NBo F w.heap.size) ((P4 d) ++ (d.rels.take m4).flatMap relWt) wr) (fun _ i _ => n4 - (intOf i).toNat)
                  case atStart => exact ⟨0, by omega, rfl, by rw [List.take_zero, List.flatMap_nil, List.append_nil]; exact HA.out⟩
                  case round =>
                    obtain ⟨m4, hk, rfl, hwl⟩ := hrel
                    clear HA
                    have HK := Lib.hid hwl
                    have hbx : ∀ o, wr.cell? ⟨w.heap.size, o, none⟩ = (w.alloc (.cells #[.slice A1 m1 c1, .slice A2 m2 c2, .slice A3 m3 c3, .slice A4 n4 c4, .slice A5 n5 c5] 28)).cell? ⟨w.heap.size, o, none⟩ := fun o => hwl.2.cellAt (by simp)
                    have hlw : w.heap.size < wr.heap.size := by have := hwl.2.size; simp at this; omega
                    clear hwl
                    by_cases hlt : m4 < n4
                    · have k0 : (0 : Int) ≤ m4 := by omega
                      have k1 : (m4 : Int) < n4 := by omega
                      have hlz : m4 < d.rels.length := by rw [E4.out]; exact hlt
                      have HX := Lib.hid (take_flat relWt hlz)
                      have HLen := Lib.hid (show ((P4 d) ++ (d.rels.take m4).flatMap relWt).length ≤ 800000 by (have h1 := take_flat_len relWt d.rels m4; have h2 := HPl.out; have h3 := HLe.out; have h4 : ((P4 d) ++ d.rels.flatMap relWt) = (P5 d) := rfl; have h5 := congrArg List.length h4; simp only [List.length_append] at h5 ⊢; omega))
                      obtain ⟨bb, oo, eA, _, hb2, hcell⟩ := R4.out.at_ (sz := 4) (fun x => rfl) (by omega) (by omega)
                      have hx : ∀ i v, (encRel d.rels[m4])[i]? = some v → wr.cell? ⟨bb, oo + (m4 * 4 + i), none⟩ = some v := fun i v hv => (World.cell?_of_block ((HK.out.2.block bb (by have := HHs.out; simp; omega) (fun e => HHi.out bb hb2 e.1)).trans (heap_alloc_old w _ (by have := HHs.out; omega)))).trans (hcell m4 hlz i v hv)
                      have hx0 := hx 0 _ rfl
                      have hx1 := hx 1 _ rfl
                      have hx2 := hx 2 _ rfl
                      have hx3 := hx 3 _ rfl
                      rw [← Nat.add_assoc] at hx0 hx1 hx2 hx3
                      rw [Nat.add_zero] at hx0
                      have hfx := HFd.out.rels d.rels[m4] (List.getElem_mem hlz)
                      obtain ⟨x, hxx⟩ : ∃ x, d.rels[m4] = x := ⟨_, rfl⟩
                      rw [hxx] at hx0 hx1 hx2 hx3 HX hfx
                      have HFx := Lib.hid hfx
                      have HBa := Lib.hid ((Below.refl wr.heap.size wr).alloc (Nat.le_refl _) (.cells #[.int .i64 x.1, .int .i64 x.2.1, .string x.2.2.1, .int .i64 x.2.2.2] 42))
                      have HWa := Lib.hid (HK.out.1.below HBa.out)
                      subst eA
                      clear hx hcell hb2 hfx hlz hxx
                      go_wp2_with fail
                      refine (wr_rel x.1 x.2.1 x.2.2.1 x.2.2.2 HFx.out.2.2.1 p _ _ _ HWa.out HLen.out).mono ?_
                      rintro e w2 ⟨rfl, h2, o2⟩
                      have HG := Lib.hid (show WL _ p (NBo F w.heap.size) ((P4 d) ++ (d.rels.take (m4 + 1)).flatMap relWt) w2 from HK.out.next HBa.out (by rw [HX.out, ← List.append_assoc]; exact h2) o2)
                      clear h2 o2 hbx hx0 hx1 hx2 hx3
                      go_wp2
                      go_roundw
                      case rel => exact ⟨m4 + 1, by omega, by go_num, HG.out⟩
                      case measure => simp [intOf]; omega
                    · obtain rfl : m4 = n4 := by omega
                      have HA := Lib.hid (show WL _ p (NBo F w.heap.size) (P5 d) wr by (have h := HK.out; have e : d.rels.take m4 = d.rels := List.take_of_length_le (by rw [E4.out]; omega); rw [e] at h; exact h))
                      clear hlt HK
                      go_wp2
                      clear hbx
                      go_loopw [15, 96] (fun _ i wr => ∃ m5 : Nat, m5 ≤ n5 ∧ i = .int .i64 m5 ∧ WL (w.alloc (.cells #[.slice A1 m1 c1, .slice A2 m2 c2, .slice A3 m3 c3, .slice A4 m4 c4, .slice A5 n5 c5] 28)) p (NBo F w.heap.size) ((P5 d) ++ (d.ents.take m5).flatMap entWt) wr) (fun _ i _ => n5 - (intOf i).toNat)
                      case atStart => exact ⟨0, by omega, rfl, by rw [List.take_zero, List.flatMap_nil, List.append_nil]; exact HA.out⟩
                      case round =>
                        obtain ⟨m5, hk, rfl, hwl⟩ := hrel
                        clear HA
                        have HK := Lib.hid hwl
                        have hbx : ∀ o, wr.cell? ⟨w.heap.size, o, none⟩ = (w.alloc (.cells #[.slice A1 m1 c1, .slice A2 m2 c2, .slice A3 m3 c3, .slice A4 m4 c4, .slice A5 n5 c5] 28)).cell? ⟨w.heap.size, o, none⟩ := fun o => hwl.2.cellAt (by simp)
                        have hlw : w.heap.size < wr.heap.size := by have := hwl.2.size; simp at this; omega
                        clear hwl
                        by_cases hlt : m5 < n5
                        · have k0 : (0 : Int) ≤ m5 := by omega
                          have k1 : (m5 : Int) < n5 := by omega
                          have hlz : m5 < d.ents.length := by rw [E5.out]; exact hlt
                          have HX := Lib.hid (take_flat entWt hlz)
                          have HLen := Lib.hid (show ((P5 d) ++ (d.ents.take m5).flatMap entWt).length ≤ 800000 by (have h1 := take_flat_len entWt d.ents m5; have h2 := HPl.out; have h3 := HLe.out; have h4 : ((P5 d) ++ d.ents.flatMap entWt) = (encB d) := P6_eq d; have h5 := congrArg List.length h4; simp only [List.length_append] at h5 ⊢; omega))
                          obtain ⟨Ap, cp, g0, g1, gr⟩ := R6.out.get hlz
                          have hne : es ≠ [] := fun e => by rw [e] at g0; cases g0
                          rcases R5.out with e | ⟨bb, oo, eA, _, hb2, hcell⟩
                          · exact absurd e hne
                          have hkk : wr.heap[bb]? = w.heap[bb]? := (HK.out.2.block bb (by have := HHs.out; simp; omega) (fun e => HHi.out bb hb2 e.1)).trans (heap_alloc_old w _ (by have := HHs.out; omega))
                          have hx0 := (World.cell?_of_block (a := ⟨bb, oo + (m5 * 2), none⟩) hkk).trans (hcell (m5 * 2) _ g0)
                          have hx1 := (World.cell?_of_block (a := ⟨bb, oo + (m5 * 2 + 1), none⟩) hkk).trans (hcell (m5 * 2 + 1) _ g1)
                          rw [← Nat.add_assoc] at hx1
                          have hfx := HFd.out.ents d.ents[m5] (List.getElem_mem hlz)
                          obtain ⟨x, hxx⟩ : ∃ x, d.ents[m5] = x := ⟨_, rfl⟩
                          rw [hxx] at hx0 hx1 HX hfx gr
                          have HFx := Lib.hid hfx
                          have HBa := Lib.hid ((Below.refl wr.heap.size wr).alloc (Nat.le_refl _) (.cells #[.string x.1, .slice Ap x.2.length cp] 52))
                          have HWa := Lib.hid (HK.out.1.below HBa.out)
                          have HPar := Lib.hid (show ParR (wr.alloc (.cells #[.string x.1, .slice Ap x.2.length cp] 52)) (NBo F w.heap.size) Ap x.2 by
                            rcases gr with e | ⟨b', o', e, _, g2, _, g4⟩
                            · left; have h := flat_len (enc := encI64) (sz := 1) (fun x => rfl) x.2; rw [e] at h; exact List.eq_nil_of_length_eq_zero (by simpa using h.symm)
                            · refine .inr ⟨b', o', e, by have := HHs.out; simp; omega, fun h => HHi.out b' g2 h.1, fun j hj => ?_⟩
                              have hh : wr.heap[b']? = w.heap[b']? := (HK.out.2.block b' (by have := HHs.out; simp; omega) (fun e => HHi.out b' g2 e.1)).trans (heap_alloc_old w _ (by have := HHs.out; omega))
                              rw [World.cell?_of_block ((HBa.out.block b' (by have := HHs.out; omega)).trans hh), nth_get hj]
                              have h := flat_get (enc := encI64) (sz := 1) (fun x => rfl) hj (i := 0) (by omega)
                              rw [Nat.mul_one, Nat.add_zero] at h
                              exact g4 j _ h)
                          subst eA
                          clear hcell hb2 hfx hlz hxx g0 g1 gr hne hkk
                          go_wp2_with fail
                          refine (wr_entry x.1 Ap x.2 x.2.length cp rfl HFx.out.2.1 HFx.out.1 p _ _ _ HPar.out HWa.out HLen.out).mono ?_
                          rintro e w2 ⟨rfl, h2, o2⟩
                          have HG := Lib.hid (show WL _ p (NBo F w.heap.size) ((P5 d) ++ (d.ents.take (m5 + 1)).flatMap entWt) w2 from HK.out.next HBa.out (by rw [HX.out, ← List.append_assoc]; exact h2) o2)
                          clear h2 o2 hbx hx0 hx1
                          go_wp2
                          go_roundw
                          case rel => exact ⟨m5 + 1, by omega, by go_num, HG.out⟩
                          case measure => simp [intOf]; omega
                        · obtain rfl : m5 = n5 := by omega
                          have HA := Lib.hid (show WL _ p (NBo F w.heap.size) (encB d) wr by (have h := HK.out; have e : d.ents.take m5 = d.ents := List.take_of_length_le (by rw [E5.out]; omega); rw [e, P6_eq] at h; exact h))
                          clear hlt HK
                          go_wp2
                          clear hbx
                          go_end0
                          exact ⟨rfl, HA.out.1.unbox, HA.out.2.ofAlloc⟩
end Go.Proofs.YtmpieeadkkeniaaGreatDoor
namespace Go.Proofs.YtmpieeadkkeniaaGreatDoor
set_option maxRecDepth 100000
open Go.RowKit
set_option linter.unusedVariables false
theorem flat_le {α : Type} {e : α → List Int} {m : Nat} : ∀ {xs : List α}, (∀ x ∈ xs, (e x).length ≤ m) → (xs.flatMap e).length ≤ xs.length * m
  | [], _ => by simp
  | x :: xs, h => by
    rw [List.flatMap_cons, List.length_append, List.length_cons, Nat.succ_mul]
    have h1 := h x (by simp)
    have h2 := flat_le (xs := xs) (fun y hy => h y (by simp [hy]))
    omega
theorem encB_len {d : ObjD} (hF : ObjF d) (hf : d.text.length ≤ 4096 ∧ d.data.length ≤ 1024 ∧ d.syms.length ≤ 256 ∧ d.rels.length ≤ 1024 ∧ d.ents.length ≤ 64) : (encB d).length ≤ 700000 := by
  have a1 := flat_le (e := fun x => bytesL x 4) (m := 4) (xs := d.text) (fun x _ => by simp [bytesL_length])
  have a2 := flat_le (e := fun x => bytesL x 8) (m := 8) (xs := d.data) (fun x _ => by simp [bytesL_length])
  have a3 := flat_le (e := symWt) (m := 261) (xs := d.syms) (fun x hx => by unfold symWt; rw [symW_len]; have := (hF.syms x hx).1; omega)
  have a4 := flat_le (e := relWt) (m := 269) (xs := d.rels) (fun x hx => by unfold relWt; rw [relW_len]; have := (hF.rels x hx).2.2.1; omega)
  have a5 := flat_le (e := entWt) (m := 512) (xs := d.ents) (fun x hx => by unfold entWt entryW; simp only [List.length_append, nameW_len, bytesL_length, paramW_len]; have h := hF.ents x hx; have h1 := h.1; have h2 := h.2.1; omega)
  have a0 : (headW d).length = 10 := by unfold headW; simp [bytesL_length]
  unfold encB magicW
  simp only [List.length_append, List.length_cons, List.length_nil]
  omega
/-- bytes of a row of the call's own -/
def EncP (d : ObjD) (w : World) (e : Ending) (w' : World) : Prop :=
  Below w.heap.size w w' ∧ (mayO d = false → e = .returned (.tuple #[.slice none 0 0, .int .i64 1])) ∧
    (mayO d = true → ∃ A c, e = .returned (.tuple #[.slice A (encB d).length c, .int .i64 0]) ∧ SlB w' w'.heap.size A (encB d) ∧ (encB d).length ≤ c ∧ c ≤ maxLen ∧ ∀ b o, A = some ⟨b, o, none⟩ → w.heap.size ≤ b)
theorem WrV.bytes {w : World} {p n c : Nat} {F : Nat → Prop} {l : List Int} {A : Option Addr} (h : WrV w p F l (.slice A n c)) : n = l.length ∧ SlB w w.heap.size A l ∧ n ≤ c ∧ c ≤ maxLen ∧ ∀ b o, A = some ⟨b, o, none⟩ → p < b := by
  obtain ⟨_, h2, _⟩ := h
  have hl := h2.1
  rw [List.length_map] at hl
  rcases h2.2 with ⟨h3, h4⟩ | ⟨g, cap, cur, h3, h4, h5, h6, h7, _⟩
  · cases h3
    have : l = [] := List.eq_nil_of_length_eq_zero h4
    exact ⟨h4.symm, .inl this, Nat.le_refl _, Nat.zero_le _, fun b o e => by cases e⟩
  · cases h3
    refine ⟨rfl, .inr ⟨g, 0, rfl, (Array.getElem?_eq_some_iff.1 h5).1, fun k hk => ?_⟩, h6, h7, fun b o e => by cases e; omega⟩
    have := h2.cells (g := g) rfl k (.int .u8 (nth l k)) (by rw [List.getElem?_map, List.getElem?_eq_getElem hk, nth_get hk]; rfl)
    rwa [addO] at this
set_option maxHeartbeats 2000000 in
theorem enc_any (d : ObjD) (hW : ObjW d) (v : Value) (lo hi : Nat) (w : World) (hT : Tabs w) (hO : ObjAt w lo hi d v) (hhi : hi ≤ w.heap.size) :
    Calls Tryz.prog 8 #[v] w (EncP d w) := by
  have hO' := hO
  obtain ⟨A1, c1, A2, c2, A3, c3, A4, c4, A5, c5, es, rfl, _⟩ := hO'
  have HB0 := Lib.hid ((Below.refl w.heap.size w).alloc (Nat.le_refl _) (.cells #[.slice A1 d.text.length c1, .slice A2 d.data.length c2, .slice A3 d.syms.length c3, .slice A4 d.rels.length c4, .slice A5 d.ents.length c5] 28))
  have HX0 := Lib.hid (heap_alloc_new w (.cells #[.slice A1 d.text.length c1, .slice A2 d.data.length c2, .slice A3 d.syms.length c3, .slice A4 d.rels.length c4, .slice A5 d.ents.length c5] 28))
  have HO := Lib.hid hO
  have HT := Lib.hid hT
  have HHi := Lib.hid hhi
  have HWd := Lib.hid hW
  clear hO hT hhi hW
  go_enter Tryz.func8, Tryz.ntmps8
  go_wp2_with fail
  refine (may_obj d HWd.out _ lo hi _ (HT.out.below HB0.out) (HO.out.move (Nat.le_refl _) (Nat.le_refl _) (fun b g1 g2 => HB0.out.block b (by have := HHi.out; omega))) (by have := HHi.out; have := HB0.out.size; omega)).mono ?_
  rintro e w1 ⟨rfl, hb⟩
  have HB1 := Lib.hid (HB0.out.trans (hb.mono HB0.out.size))
  have HX1 := Lib.hid ((hb.block w.heap.size (by simp)).trans HX0.out)
  clear hb
  cases hm : mayO d with
  | false =>
    have HM := Lib.hid hm
    clear hm
    go_wp2
    go_ret2
    exact ⟨HB1.out, fun _ => rfl, (fun h => by rw [HM.out] at h; cases h)⟩
  | true =>
  have HM := Lib.hid hm
  have HFd := Lib.hid (may_fits HWd.out hm)
  have HLe := Lib.hid (encB_len HFd.out (by have h := hm; rw [mayO_eq] at h; simp only [Bool.and_eq_true] at h; exact few_of h.1.1))
  have HOb := Lib.hid (show ObjAt (w1.alloc (.cells #[.slice none 0 0] 56)) lo hi d (.agg #[.slice A1 d.text.length c1, .slice A2 d.data.length c2, .slice A3 d.syms.length c3, .slice A4 d.rels.length c4, .slice A5 d.ents.length c5]) from HO.out.move (Nat.le_refl _) (Nat.le_refl _) (fun b g1 g2 => (heap_alloc_old w1 _ (by have := HHi.out; have := HB1.out.size; omega)).trans (HB1.out.block b (by have := HHi.out; omega))))
  have HWr := Lib.hid (show WrIs (w1.alloc (.cells #[.slice none 0 0] 56)) w1.heap.size (fun b => w1.heap.size ≤ b) [] from ⟨.slice none 0 0, heap_alloc_new w1 _, World.ownsRow_nil _ _ _ _, Nat.le_refl _, (fun b h => by cases h), fun b h => by simp at h; omega⟩)
  have HBw := Lib.hid (HB1.out.trans (((Below.refl w1.heap.size w1).alloc (Nat.le_refl _) (.cells #[.slice none 0 0] 56)).mono HB1.out.size))
  have HXw := Lib.hid ((heap_alloc_old w1 (.cells #[.slice none 0 0] 56) (Array.getElem?_eq_some_iff.1 HX1.out).1).trans HX1.out)
  obtain ⟨⟨z0, z1, z2, z3, z4⟩, gr⟩ := row_cells5 HXw.out
  clear hm
  go_wp2_with fail
  refine (wobj_any d HFd.out HLe.out _ lo hi w1.heap.size (fun b => w1.heap.size ≤ b) _ HOb.out (fun b hb h => by have := HHi.out; have := HB1.out.size; omega) (by have := HHi.out; have := HBw.out.size; omega) HWr.out).mono ?_
  rintro e w2 ⟨rfl, hw, ho⟩
  have HB2 := Lib.hid (show Below w.heap.size w w2 from
    ⟨ho.os.trans HBw.out.os, ho.tape.trans HBw.out.tape, ho.output.trans HBw.out.output, Nat.le_trans HBw.out.size ho.size, fun k hk => (ho.block k (Nat.lt_of_lt_of_le hk HBw.out.size) (by have := HB1.out.size; show ¬ w1.heap.size ≤ k; omega)).trans (HBw.out.block k hk)⟩)
  obtain ⟨s, hV⟩ := hw
  obtain ⟨A, n, rfl⟩ : ∃ A n, s = .slice A (encB d).length n := ownO_slice hV.2.1
  have hc := hV.cell
  have hlt := hV.lt
  have hf := hV.free
  have HBy := Lib.hid hV.bytes
  have HSz := Lib.hid HB1.out.size
  clear hV ho z0 z1 z2 z3 z4 gr
  go_wp2
  go_ret2
  exact ⟨HB2.out, (fun h => by rw [HM.out] at h; cases h), fun _ => ⟨A, n, rfl, HBy.out.2.1, HBy.out.2.2.1, HBy.out.2.2.2.1, fun b o e => by have := HBy.out.2.2.2.2 b o e; have := HSz.out; omega⟩⟩
end Go.Proofs.YtmpieeadkkeniaaGreatDoor
namespace Go.Proofs.YtmpieeadkkeniaaGreatDoor
set_option maxRecDepth 100000
open Go.RowKit
set_option linter.unusedVariables false
theorem catch_idle (p q : Addr) (w : World) :
    CallsD Tryz.prog 31 #[.pointer (some p), .pointer (some q)] .returning w fun e u' w' => e = .returned (.tuple #[]) ∧ u' = .returning ∧ w' = w := by
  refine callsD_of_wpS Tryz.func31 rfl fun c₀ cs hu => ?_
  apply wpS_seq
  apply wpS_region
  simp [wpOpsS, go_sem, recoverD, hu, Tryz.ntmps31, Exit.thenS]
  refine wpS_of_wp ?_
  go_wp2
  cases c₀
  simp_all [bodyPostS, results, Tryz.results31]
theorem catch_lack (b1 b2 : Nat) (v0 v1 v2 v3 v4 v5 : Value) (T1 T2 : TypeId) (w : World) (h1 : w.heap[b1]? = some (.cells #[v0, v1, v2, v3, v4] T1 (0, 0))) (h2 : w.heap[b2]? = some (.cells #[v5] T2 (0, 0))) (hne : b1 ≠ b2) :
    CallsD Tryz.prog 31 #[.pointer (some ⟨b1, 0, none⟩), .pointer (some ⟨b2, 0, none⟩)] (.panicking ({ v := lackV, recovered := false } :: [])) w fun e u' w' =>
      e = .returned (.tuple #[]) ∧ u' = .panicking ({ v := lackV, recovered := true } :: []) ∧ w'.heap[b1]? = some (.cells #[.slice none 0 0, .slice none 0 0, .slice none 0 0, .slice none 0 0, .slice none 0 0] T1 (0, 0)) ∧ w'.heap[b2]? = some (.cells #[.int .i64 3] T2 (0, 0)) ∧ OutO (fun k => k = b1 ∨ k = b2) w w' := by
  obtain ⟨⟨z0, z1, z2, z3, z4⟩, gr⟩ := row_cells5 h1
  have y0 := cell_of_row w b2 0 _ _ _ h2
  simp only [List.getElem?_toArray, List.getElem?_cons_zero] at y0
  have yr := frozen_of_row w b2 0 _ _ h2
  refine callsD_of_wpS Tryz.func31 rfl fun c₀ cs hu => ?_
  apply wpS_seq
  apply wpS_region
  simp [wpOpsS, go_sem, recoverD, hu, Tryz.ntmps31, Exit.thenS]
  refine wpS_of_wp ?_
  have hta : ∀ w : World, (Instr.typeAssert (.iface 69 (.int .i64 3)) 20 69 true).run Tryz.prog w = .ok (.tuple #[.int .i64 3, .bool true]) w := fun w => by kernel_rfl
  unfold lackV
  go_wp2
  refine ⟨rfl, .panicking [{ v := .iface 69 (.int .i64 3), recovered := true }], by cases c₀; rfl, .tuple #[], ?hres, rfl, rfl, ?h1, ?h2, ?h3⟩
  case hres => simp [results, Tryz.results31]
  case h1 => exact (setNew_row hne).trans (fill5 h1 _ _ _ _ _)
  case h2 => exact heap_setCell_same _ b2 0 _ _ (.int .i64 3) ((setNew_row hne.symm).trans ((setNew_row hne.symm).trans ((setNew_row hne.symm).trans ((setNew_row hne.symm).trans ((setNew_row hne.symm).trans h2)))))
  case h3 =>
    have g : ∀ {w : World} {b o : Nat} {v : Value}, (b = b1 ∨ b = b2) → OutO (fun k => k = b1 ∨ k = b2) w (w.setCell ⟨b, o, none⟩ v) := fun {w b o v} hb => OutO.of_grown (grown_setO w b o v) (fun k e => by cases e; exact hb)
    exact (((((g (.inl rfl)).trans (g (.inl rfl))).trans (g (.inl rfl))).trans (g (.inl rfl))).trans (g (.inl rfl))).trans (g (.inr rfl))
end Go.Proofs.YtmpieeadkkeniaaGreatDoor
namespace Go.Proofs.YtmpieeadkkeniaaGreatDoor
set_option maxRecDepth 100000
open Go.RowKit
set_option linter.unusedVariables false
abbrev nil5 : Value := .agg #[.slice none 0 0, .slice none 0 0, .slice none 0 0, .slice none 0 0, .slice none 0 0]
def DecP (r : Option ObjD) (w : World) (e : Ending) (w' : World) : Prop :=
  Below w.heap.size w w' ∧ match r with
    | none => e = .returned (.tuple #[nil5, .int .i64 3])
    | some d => ∃ v, e = .returned (.tuple #[v, .int .i64 0]) ∧ ObjAt w' w.heap.size w'.heap.size d v
theorem DecP.mkNo {r : Option ObjD} {w w' : World} {e : Ending} (hr : r = none) (hb : Below w.heap.size w w') (he : e = .returned (.tuple #[nil5, .int .i64 3])) : DecP r w e w' := by subst hr; exact ⟨hb, he⟩
theorem DecP.mkYes {r : Option ObjD} {w w' : World} {e : Ending} {d : ObjD} {v : Value} (hr : r = some d) (hb : Below w.heap.size w w') (he : e = .returned (.tuple #[v, .int .i64 0])) (ho : ObjAt w' w.heap.size w'.heap.size d v) : DecP r w e w' := by subst hr; exact ⟨hb, v, he, ho⟩
theorem res_dec {T : Array Value} {b1 b2 : Nat} {W : World} {v0 v1 v2 v3 v4 v5 : Value} {T1 T2 : TypeId} (h2 : T[2]? = some (.pointer (some ⟨b1, 0, none⟩))) (h3 : T[3]? = some (.pointer (some ⟨b2, 0, none⟩))) (hr : W.heap[b1]? = some (.cells #[v0, v1, v2, v3, v4] T1 (0, 0))) (hs : W.heap[b2]? = some (.cells #[v5] T2 (0, 0))) :
    (results Tryz.f13 T).run Tryz.prog W = .ok (.tuple #[.agg #[v0, v1, v2, v3, v4], v5]) W := by
  obtain ⟨⟨z0, z1, z2, z3, z4⟩, _⟩ := row_cells5 hr
  have y0 := cell_of_row W b2 0 _ _ _ hs
  simp only [List.getElem?_toArray, List.getElem?_cons_zero] at y0
  simp [results, Tryz.results13, go_sem, h2, h3, z0, z1, z2, z3, z4, y0]
theorem decB_top {l : List Int} : decB l = (rdTop l).bind (fun d => if mayO d then some d else none) := by
  unfold decB rdTop
  cases rdObj l with
  | none => rfl
  | some p =>
    obtain ⟨d, r⟩ := p
    cases r with
    | nil => rfl
    | cons x r => rfl
theorem door_lack {P : Program} {fn : Func} {R : Ending → World → Prop} {w : World} {b1 b2 : Nat} {T : Array Value} (h : Leaves P fn T R [{ target := Target.fn (Fn.func 31) #[.pointer (some ⟨b1, 0, none⟩), .pointer (some ⟨b2, 0, none⟩)], args := #[] }] (.panicking [{ v := lackV, recovered := false }]) w) :
    bodyPostD P fn R (.panic [{ v := lackV, recovered := false }]) { tmps := T, defers := [{ target := Target.fn (Fn.func 31) #[.pointer (some ⟨b1, 0, none⟩), .pointer (some ⟨b2, 0, none⟩)], args := #[] }] } w := h
set_option maxHeartbeats 2000000 in
theorem dec_any (A : Option Addr) (l : List Int) (n c : Nat) (w : World) (hs : SlB w w.heap.size A l) (hn : l.length = n) (ha : AllB l) (hc : n ≤ c) (hm : c ≤ maxLen) (hT : Tabs w) :
    Calls Tryz.prog 13 #[.slice A n c] w (DecP (decB l) w) := by
  have hmf : ∀ (fn : Fn) (first cap : Array Value) (w : World), (Instr.makeFunc fn first cap).run Tryz.prog w = .ok (.func fn first cap) w := fun _ _ _ _ => rfl
  have hB := (((Below.refl w.heap.size w).alloc (Nat.le_refl _) (.cells #[.slice none 0 0, .slice none 0 0, .slice none 0 0, .slice none 0 0, .slice none 0 0] 28)).alloc (by simp) (.cells #[.int .i64 0] 32))
  have HB := Lib.hid hB
  have HSz := Lib.hid (show ((w.alloc (.cells #[.slice none 0 0, .slice none 0 0, .slice none 0 0, .slice none 0 0, .slice none 0 0] 28)).alloc (.cells #[.int .i64 0] 32)).heap.size = w.heap.size + 2 by simp)
  have HX := Lib.hid (show ((w.alloc (.cells #[.slice none 0 0, .slice none 0 0, .slice none 0 0, .slice none 0 0, .slice none 0 0] 28)).alloc (.cells #[.int .i64 0] 32)).heap[w.heap.size]? = some (.cells #[.slice none 0 0, .slice none 0 0, .slice none 0 0, .slice none 0 0, .slice none 0 0] 28 (0, 0)) by exact (heap_alloc_old _ _ (by simp)).trans (heap_alloc_new w _))
  have HY := Lib.hid (show ((w.alloc (.cells #[.slice none 0 0, .slice none 0 0, .slice none 0 0, .slice none 0 0, .slice none 0 0] 28)).alloc (.cells #[.int .i64 0] 32)).heap[w.heap.size + 1]? = some (.cells #[.int .i64 0] 32 (0, 0)) by have h := heap_alloc_new (w.alloc (.cells #[.slice none 0 0, .slice none 0 0, .slice none 0 0, .slice none 0 0, .slice none 0 0] 28)) (.cells #[.int .i64 0] 32); simpa using h)
  have HS := Lib.hid (show SlB ((w.alloc (.cells #[.slice none 0 0, .slice none 0 0, .slice none 0 0, .slice none 0 0, .slice none 0 0] 28)).alloc (.cells #[.int .i64 0] 32)) ((w.alloc (.cells #[.slice none 0 0, .slice none 0 0, .slice none 0 0, .slice none 0 0, .slice none 0 0] 28)).alloc (.cells #[.int .i64 0] 32)).heap.size A l by
    rcases hs with h | ⟨b, off, e, hb, hcell⟩
    · exact .inl h
    · exact .inr ⟨b, off, e, by rw [HSz.out]; omega, fun k hk => (hB.cell (p := ⟨b, off + k, none⟩) hb).trans (hcell k hk)⟩)
  have HTb := Lib.hid hT
  have HN := Lib.hid hn
  have HA := Lib.hid ha
  have HC := Lib.hid (And.intro hc hm)
  have HD := Lib.hid (decB_top (l := l))
  clear hs hn ha hc hm hT hB
  go_enter_defers Tryz.func13, Tryz.ntmps13
  go_wp2_with fail
  refine (readAll_any A l n c _ HS.out HN.out HA.out HC.out.1 HC.out.2).mono ?_
  intro e w1 h1
  cases hr : rdTop l with
  | none =>
    rw [hr] at h1
    obtain ⟨hb, rfl⟩ := h1
    have HB1 := Lib.hid (HB.out.trans (hb.mono HB.out.size))
    have HX1 := Lib.hid ((hb.block w.heap.size (by rw [HSz.out]; omega)).trans HX.out)
    have HY1 := Lib.hid ((hb.block (w.heap.size + 1) (by rw [HSz.out]; omega)).trans HY.out)
    have HNo := Lib.hid (show decB l = none by rw [HD.out, hr]; rfl)
    clear hb hr
    refine door_lack ?_
    refine leaves_cons (f := 31) (args := #[.pointer (some ⟨w.heap.size, 0, none⟩), .pointer (some ⟨w.heap.size + 1, 0, none⟩)]) (by simp) (by simp [go_sem]) ?_
    refine (catch_lack w.heap.size (w.heap.size + 1) _ _ _ _ _ _ _ _ _ HX1.out HY1.out (by omega)).mono ?_
    rintro e u' w2 ⟨rfl, rfl, h1, h2, h3⟩
    refine ⟨_, res_dec (b1 := w.heap.size) (b2 := w.heap.size + 1) rfl rfl h1 h2, DecP.mkNo HNo.out ?_ rfl⟩
    exact ⟨h3.os.trans HB1.out.os, h3.tape.trans HB1.out.tape, h3.output.trans HB1.out.output, Nat.le_trans HB1.out.size h3.size, fun k hk => (h3.block k (Nat.lt_of_lt_of_le hk HB1.out.size) (by omega)).trans (HB1.out.block k hk)⟩
  | some d =>
    rw [hr] at h1
    obtain ⟨hb, v, rfl, ho⟩ := h1
    have HB1 := Lib.hid (HB.out.trans (hb.mono HB.out.size))
    have HX1 := Lib.hid ((hb.block w.heap.size (by rw [HSz.out]; omega)).trans HX.out)
    have HY1 := Lib.hid ((hb.block (w.heap.size + 1) (by rw [HSz.out]; omega)).trans HY.out)
    have HWd := Lib.hid (show ObjW d from fits_W (rdObj_back _ _ _ HA.out (by
      unfold rdTop at hr
      cases hrd : rdObj l with
      | none => rw [hrd] at hr; cases hr
      | some q =>
        obtain ⟨d', r⟩ := q
        rw [hrd] at hr
        cases r with
        | nil => cases hr; rfl
        | cons x r => cases hr)).2.2)
    have HDe := Lib.hid (show decB l = if mayO d then some d else none by rw [HD.out, hr]; rfl)
    have hlo := HSz.out
    have HO := Lib.hid (show ObjAt w1 (w.heap.size + 2) w1.heap.size d v by rw [hlo] at ho; exact ho)
    obtain ⟨A1, c1, A2, c2, A3, c3, A4, c4, A5, c5, es, rfl, _⟩ := ho
    obtain ⟨⟨z0, z1, z2, z3, z4⟩, gr⟩ := row_cells5 HX1.out
    have HX2 := Lib.hid (fill5 HX1.out (.slice A1 d.text.length c1) (.slice A2 d.data.length c2) (.slice A3 d.syms.length c3) (.slice A4 d.rels.length c4) (.slice A5 d.ents.length c5))
    have HY2 := Lib.hid (show (((((w1.setCell ⟨w.heap.size, 0, none⟩ (.slice A1 d.text.length c1)).setCell ⟨w.heap.size, 1, none⟩ (.slice A2 d.data.length c2)).setCell ⟨w.heap.size, 2, none⟩ (.slice A3 d.syms.length c3)).setCell ⟨w.heap.size, 3, none⟩ (.slice A4 d.rels.length c4)).setCell ⟨w.heap.size, 4, none⟩ (.slice A5 d.ents.length c5)).heap[w.heap.size + 1]? = some (.cells #[.int .i64 0] 32 (0, 0)) from (setNew_row (by omega)).trans ((setNew_row (by omega)).trans ((setNew_row (by omega)).trans ((setNew_row (by omega)).trans ((setNew_row (by omega)).trans HY1.out)))))
    have HB2 := Lib.hid (below_setNew (below_setNew (below_setNew (below_setNew (below_setNew HB1.out (b := w.heap.size) (o := 0) (v := .slice A1 d.text.length c1) (Nat.le_refl _)) (b := w.heap.size) (o := 1) (v := .slice A2 d.data.length c2) (Nat.le_refl _)) (b := w.heap.size) (o := 2) (v := .slice A3 d.syms.length c3) (Nat.le_refl _)) (b := w.heap.size) (o := 3) (v := .slice A4 d.rels.length c4) (Nat.le_refl _)) (b := w.heap.size) (o := 4) (v := .slice A5 d.ents.length c5) (Nat.le_refl _))
    have HO2 := Lib.hid (show ObjAt (((((w1.setCell ⟨w.heap.size, 0, none⟩ (.slice A1 d.text.length c1)).setCell ⟨w.heap.size, 1, none⟩ (.slice A2 d.data.length c2)).setCell ⟨w.heap.size, 2, none⟩ (.slice A3 d.syms.length c3)).setCell ⟨w.heap.size, 3, none⟩ (.slice A4 d.rels.length c4)).setCell ⟨w.heap.size, 4, none⟩ (.slice A5 d.ents.length c5)) (w.heap.size + 2) w1.heap.size d (.agg #[.slice A1 d.text.length c1, .slice A2 d.data.length c2, .slice A3 d.syms.length c3, .slice A4 d.rels.length c4, .slice A5 d.ents.length c5]) from ((((HO.out.setNew (by omega)).setNew (by omega)).setNew (by omega)).setNew (by omega)).setNew (by omega))
    have HSz2 := Lib.hid (show (((((w1.setCell ⟨w.heap.size, 0, none⟩ (.slice A1 d.text.length c1)).setCell ⟨w.heap.size, 1, none⟩ (.slice A2 d.data.length c2)).setCell ⟨w.heap.size, 2, none⟩ (.slice A3 d.syms.length c3)).setCell ⟨w.heap.size, 3, none⟩ (.slice A4 d.rels.length c4)).setCell ⟨w.heap.size, 4, none⟩ (.slice A5 d.ents.length c5)).heap.size = w1.heap.size by simp only [size_set])
    clear hb hr hlo
    go_wp2_with fail
    refine (may_obj d HWd.out (.agg #[.slice A1 d.text.length c1, .slice A2 d.data.length c2, .slice A3 d.syms.length c3, .slice A4 d.rels.length c4, .slice A5 d.ents.length c5]) (w.heap.size + 2) w1.heap.size _ (HTb.out.below HB2.out) HO2.out (Nat.le_of_eq HSz2.out.symm)).mono ?_
    rintro e w3 ⟨rfl, hb⟩
    have HB3 := Lib.hid (HB2.out.trans (hb.mono HB2.out.size))
    have HX3 := Lib.hid ((hb.block w.heap.size (by have := (Array.getElem?_eq_some_iff.1 HX2.out).1; exact this)).trans HX2.out)
    have HY3 := Lib.hid ((hb.block (w.heap.size + 1) (by have := (Array.getElem?_eq_some_iff.1 HY2.out).1; exact this)).trans HY2.out)
    have HO3 := Lib.hid (HO2.out.move (Nat.le_refl _) (show w1.heap.size ≤ w3.heap.size by have := hb.size; rw [HSz2.out] at this; exact this) (fun b g1 g2 => hb.block b (by rw [HSz2.out]; exact g2)))
    clear hb z0 z1 z2 z3 z4 gr
    cases hmy : mayO d with
    | false =>
      have HNo := Lib.hid (show decB l = none by rw [HDe.out, hmy]; rfl)
      clear hmy
      go_wp2_with fail
      refine (want_no _).mono ?_
      rintro e w' ⟨rfl, rfl⟩
      refine door_lack ?_
      refine leaves_cons (f := 31) (args := #[.pointer (some ⟨w.heap.size, 0, none⟩), .pointer (some ⟨w.heap.size + 1, 0, none⟩)]) (by simp) (by simp [go_sem]) ?_
      refine (catch_lack w.heap.size (w.heap.size + 1) _ _ _ _ _ _ _ _ _ HX3.out HY3.out (by omega)).mono ?_
      rintro e u' w2 ⟨rfl, rfl, h1, h2, h3⟩
      refine ⟨_, res_dec (b1 := w.heap.size) (b2 := w.heap.size + 1) rfl rfl h1 h2, DecP.mkNo HNo.out ?_ rfl⟩
      exact ⟨h3.os.trans HB3.out.os, h3.tape.trans HB3.out.tape, h3.output.trans HB3.out.output, Nat.le_trans HB3.out.size h3.size, fun k hk => (h3.block k (Nat.lt_of_lt_of_le hk HB3.out.size) (by omega)).trans (HB3.out.block k hk)⟩
    | true =>
      have HYes := Lib.hid (show decB l = some d by rw [HDe.out, hmy]; rfl)
      clear hmy
      obtain ⟨⟨z0, z1, z2, z3, z4⟩, gr⟩ := row_cells5 HX3.out
      have y0 := cell_of_row w3 (w.heap.size + 1) 0 _ _ _ HY3.out
      simp only [List.getElem?_toArray, List.getElem?_cons_zero] at y0
      have yr := frozen_of_row w3 (w.heap.size + 1) 0 _ _ HY3.out
      go_wp2_with fail
      refine (want_yes _).mono ?_
      rintro e w' ⟨rfl, rfl⟩
      go_wp2
      have HX4 := Lib.hid (show ((((((w3.setCell ⟨w.heap.size, 0, none⟩ (.slice A1 d.text.length c1)).setCell ⟨w.heap.size, 1, none⟩ (.slice A2 d.data.length c2)).setCell ⟨w.heap.size, 2, none⟩ (.slice A3 d.syms.length c3)).setCell ⟨w.heap.size, 3, none⟩ (.slice A4 d.rels.length c4)).setCell ⟨w.heap.size, 4, none⟩ (.slice A5 d.ents.length c5)).setCell ⟨w.heap.size + 1, 0, none⟩ (.int .i64 0)).heap[w.heap.size]? = _ from (setNew_row (by omega)).trans (fill5 HX3.out (.slice A1 d.text.length c1) (.slice A2 d.data.length c2) (.slice A3 d.syms.length c3) (.slice A4 d.rels.length c4) (.slice A5 d.ents.length c5)))
      have HY4 := Lib.hid (show ((((((w3.setCell ⟨w.heap.size, 0, none⟩ (.slice A1 d.text.length c1)).setCell ⟨w.heap.size, 1, none⟩ (.slice A2 d.data.length c2)).setCell ⟨w.heap.size, 2, none⟩ (.slice A3 d.syms.length c3)).setCell ⟨w.heap.size, 3, none⟩ (.slice A4 d.rels.length c4)).setCell ⟨w.heap.size, 4, none⟩ (.slice A5 d.ents.length c5)).setCell ⟨w.heap.size + 1, 0, none⟩ (.int .i64 0)).heap[w.heap.size + 1]? = _ from heap_setCell_same _ (w.heap.size + 1) 0 _ _ (.int .i64 0) ((setNew_row (by omega)).trans ((setNew_row (by omega)).trans ((setNew_row (by omega)).trans ((setNew_row (by omega)).trans ((setNew_row (by omega)).trans HY3.out))))))
      have HB4 := Lib.hid (show Below w.heap.size w ((((((w3.setCell ⟨w.heap.size, 0, none⟩ (.slice A1 d.text.length c1)).setCell ⟨w.heap.size, 1, none⟩ (.slice A2 d.data.length c2)).setCell ⟨w.heap.size, 2, none⟩ (.slice A3 d.syms.length c3)).setCell ⟨w.heap.size, 3, none⟩ (.slice A4 d.rels.length c4)).setCell ⟨w.heap.size, 4, none⟩ (.slice A5 d.ents.length c5)).setCell ⟨w.heap.size + 1, 0, none⟩ (.int .i64 0)) from below_setNew (below_setNew (below_setNew (below_setNew (below_setNew (below_setNew HB3.out (Nat.le_refl _)) (Nat.le_refl _)) (Nat.le_refl _)) (Nat.le_refl _)) (Nat.le_refl _)) (by omega))
      have HO4 := Lib.hid (show ObjAt ((((((w3.setCell ⟨w.heap.size, 0, none⟩ (.slice A1 d.text.length c1)).setCell ⟨w.heap.size, 1, none⟩ (.slice A2 d.data.length c2)).setCell ⟨w.heap.size, 2, none⟩ (.slice A3 d.syms.length c3)).setCell ⟨w.heap.size, 3, none⟩ (.slice A4 d.rels.length c4)).setCell ⟨w.heap.size, 4, none⟩ (.slice A5 d.ents.length c5)).setCell ⟨w.heap.size + 1, 0, none⟩ (.int .i64 0)) w.heap.size ((((((w3.setCell ⟨w.heap.size, 0, none⟩ (.slice A1 d.text.length c1)).setCell ⟨w.heap.size, 1, none⟩ (.slice A2 d.data.length c2)).setCell ⟨w.heap.size, 2, none⟩ (.slice A3 d.syms.length c3)).setCell ⟨w.heap.size, 3, none⟩ (.slice A4 d.rels.length c4)).setCell ⟨w.heap.size, 4, none⟩ (.slice A5 d.ents.length c5)).setCell ⟨w.heap.size + 1, 0, none⟩ (.int .i64 0)).heap.size d (.agg #[.slice A1 d.text.length c1, .slice A2 d.data.length c2, .slice A3 d.syms.length c3, .slice A4 d.rels.length c4, .slice A5 d.ents.length c5]) from ((((((HO3.out.setNew (by omega)).setNew (by omega)).setNew (by omega)).setNew (by omega)).setNew (by omega)).setNew (by omega)).move (by omega) (Nat.le_of_eq (by simp only [size_set])) (fun _ _ _ => rfl))
      refine leaves_cons (f := 31) (args := #[.pointer (some ⟨w.heap.size, 0, none⟩), .pointer (some ⟨w.heap.size + 1, 0, none⟩)]) (by simp) (by simp [go_sem]) ?_
      refine (catch_idle ⟨w.heap.size, 0, none⟩ ⟨w.heap.size + 1, 0, none⟩ _).mono ?_
      rintro e u' w4 ⟨rfl, rfl, rfl⟩
      exact ⟨_, res_dec (b1 := w.heap.size) (b2 := w.heap.size + 1) rfl rfl HX4.out HY4.out, DecP.mkYes HYes.out HB4.out rfl HO4.out⟩
end Go.Proofs.YtmpieeadkkeniaaGreatDoor
