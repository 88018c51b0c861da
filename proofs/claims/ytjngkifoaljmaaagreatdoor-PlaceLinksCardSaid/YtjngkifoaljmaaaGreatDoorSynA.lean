/- Layer 7: what the reference's Small tells; a list of objects that came in. No condition. -/
import Derived.Test.YtjngkifoaljmaaaGreatDoorSymF
import Derived.Test.YtjngkifoaljmaaaGreatDoorObjG
import Derived.Test.YtjngkifoaljmaaaGreatDoorObjI
namespace Go.Proofs.YtjngkifoaljmaaaGreatDoor
set_option maxRecDepth 100000
open Go.RowKit
set_option linter.unusedVariables false
theorem ObjAt.rows {w : World} {lo hi : Nat} {d : ObjD} {A1 A2 A3 A4 A5 : Option Addr} {n1 c1 n2 c2 n3 c3 n4 c4 n5 c5 : Nat} (h : ObjAt w lo hi d (.agg #[.slice A1 n1 c1, .slice A2 n2 c2, .slice A3 n3 c3, .slice A4 n4 c4, .slice A5 n5 c5])) :
    RowC w lo hi A3 (d.syms.flatMap encSym) ∧ RowC w lo hi A4 (d.rels.flatMap encRel) ∧ ∃ es, RowC w lo hi A5 es ∧ EntC w lo hi none d.ents es := by
  obtain ⟨f1, f2, f3, f4, f5, f6, f7, f8, f9, f10, es, he, -, -, h3, h4, h5, h6⟩ := h
  simp only [Value.agg.injEq, Array.mk.injEq, List.cons.injEq, Value.slice.injEq, and_true] at he
  obtain ⟨-, -, ⟨rfl, -, -⟩, ⟨rfl, -, -⟩, ⟨rfl, -, -⟩⟩ := he
  exact ⟨h3, h4, es, h5, h6⟩
/-- object i's Sym j, as it lies -/
theorem ObjsAt.symAt {w : World} {lo hi i j : Nat} {l : List ObjD} {A : Option Addr} (h : ObjsAt w lo hi l A) (hi_ : i < l.length) (hj : j < l[i].syms.length) : ∃ b o n3 c3 b3 o3, A = some ⟨b, o, none⟩ ∧ w.cell? ⟨b, o + i * 5 + 2, none⟩ = some (.slice (some ⟨b3, o3, none⟩) n3 c3) ∧ l[i].syms.length = n3 ∧
    w.cell? ⟨b3, o3 + j * 4, none⟩ = some (.string l[i].syms[j].1) ∧ w.cell? ⟨b3, o3 + j * 4 + 1, none⟩ = some (.bool l[i].syms[j].2.1) ∧ w.cell? ⟨b3, o3 + j * 4 + 2, none⟩ = some (.int .i64 l[i].syms[j].2.2.1) ∧ w.cell? ⟨b3, o3 + j * 4 + 3, none⟩ = some (.bool l[i].syms[j].2.2.2) := by
  obtain ⟨b, o, A1, n1, c1, A2, n2, c2, A3, n3, c3, A4, n4, c4, A5, n5, c5, rfl, hb, ⟨x0, x1, x2, x3, x4⟩, ho, hn3, -⟩ := h.at_ hi_
  obtain ⟨hr, -⟩ := ho.rows
  obtain ⟨b3, o3, rfl, _, _, hc3⟩ := hr.at_ (sz := 4) (fun x => rfl) (by omega) (by omega)
  have y0 := hc3 j hj 0 _ rfl
  have y1 := hc3 j hj 1 _ rfl
  have y2 := hc3 j hj 2 _ rfl
  have y3 := hc3 j hj 3 _ rfl
  rw [show o3 + (j * 4 + 0) = o3 + j * 4 by omega] at y0
  rw [show o3 + (j * 4 + 1) = o3 + j * 4 + 1 by omega] at y1
  rw [show o3 + (j * 4 + 2) = o3 + j * 4 + 2 by omega] at y2
  rw [show o3 + (j * 4 + 3) = o3 + j * 4 + 3 by omega] at y3
  exact ⟨b, o, n3, c3, b3, o3, rfl, x2, hn3, y0, y1, y2, y3⟩
/-- object i's relocation j, as it lies -/
theorem ObjsAt.relAt {w : World} {lo hi i j : Nat} {l : List ObjD} {A : Option Addr} (h : ObjsAt w lo hi l A) (hi_ : i < l.length) (hj : j < l[i].rels.length) : ∃ b o n4 c4 b4 o4, A = some ⟨b, o, none⟩ ∧ w.cell? ⟨b, o + i * 5 + 3, none⟩ = some (.slice (some ⟨b4, o4, none⟩) n4 c4) ∧ l[i].rels.length = n4 ∧
    w.cell? ⟨b4, o4 + j * 4, none⟩ = some (.int .i64 l[i].rels[j].1) ∧ w.cell? ⟨b4, o4 + j * 4 + 1, none⟩ = some (.int .i64 l[i].rels[j].2.1) ∧ w.cell? ⟨b4, o4 + j * 4 + 2, none⟩ = some (.string l[i].rels[j].2.2.1) ∧ w.cell? ⟨b4, o4 + j * 4 + 3, none⟩ = some (.int .i64 l[i].rels[j].2.2.2) := by
  obtain ⟨b, o, A1, n1, c1, A2, n2, c2, A3, n3, c3, A4, n4, c4, A5, n5, c5, rfl, hb, ⟨x0, x1, x2, x3, x4⟩, ho, hn3, hn4, -⟩ := h.at_ hi_
  obtain ⟨-, hr, -⟩ := ho.rows
  obtain ⟨b4, o4, rfl, _, _, hc3⟩ := hr.at_ (sz := 4) (fun x => rfl) (by omega) (by omega)
  have y0 := hc3 j hj 0 _ rfl
  have y1 := hc3 j hj 1 _ rfl
  have y2 := hc3 j hj 2 _ rfl
  have y3 := hc3 j hj 3 _ rfl
  rw [show o4 + (j * 4 + 0) = o4 + j * 4 by omega] at y0
  rw [show o4 + (j * 4 + 1) = o4 + j * 4 + 1 by omega] at y1
  rw [show o4 + (j * 4 + 2) = o4 + j * 4 + 2 by omega] at y2
  rw [show o4 + (j * 4 + 3) = o4 + j * 4 + 3 by omega] at y3
  exact ⟨b, o, n4, c4, b4, o4, rfl, x3, hn4, y0, y1, y2, y3⟩
/-- object i's entry j's name, as it lies -/
theorem ObjsAt.entAt {w : World} {lo hi i j : Nat} {l : List ObjD} {A : Option Addr} (h : ObjsAt w lo hi l A) (hi_ : i < l.length) (hj : j < l[i].ents.length) : ∃ b o n5 c5 b5 o5 Ap cp, A = some ⟨b, o, none⟩ ∧ w.cell? ⟨b, o + i * 5 + 4, none⟩ = some (.slice (some ⟨b5, o5, none⟩) n5 c5) ∧ l[i].ents.length = n5 ∧
    w.cell? ⟨b5, o5 + j * 2, none⟩ = some (.string l[i].ents[j].1) ∧ w.cell? ⟨b5, o5 + j * 2 + 1, none⟩ = some (.slice Ap l[i].ents[j].2.length cp) := by
  obtain ⟨b, o, A1, n1, c1, A2, n2, c2, A3, n3, c3, A4, n4, c4, A5, n5, c5, rfl, hb, ⟨x0, x1, x2, x3, x4⟩, ho, hn3, hn4, hn5⟩ := h.at_ hi_
  obtain ⟨-, -, es, h5, h6⟩ := ho.rows
  obtain ⟨Ap, cp, g0, g1, gr⟩ := h6.get hj
  rcases h5 with e | ⟨b5, o5, rfl, _, _, hc⟩
  · rw [e] at g0; cases g0
  · have y0 := hc _ _ g0
    have y1 := hc _ _ g1
    rw [← Nat.add_assoc] at y1
    exact ⟨b, o, n5, c5, b5, o5, Ap, cp, rfl, x4, hn5, y0, y1⟩
/-- a bool; where it is true, the object has few of each -/
def SmO (d : ObjD) (e : Ending) : Prop := ∃ b : Bool, e = .returned (.bool b) ∧ (b = true → d.syms.length ≤ 300 ∧ d.rels.length ≤ 300)
theorem SmO.no {d : ObjD} : SmO d (.returned (.bool false)) := ⟨false, rfl, fun h => by cases h⟩
set_option maxHeartbeats 2000000 in
theorem rsmall_few (d : ObjD) (v : Value) (lo hi : Nat) (w : World) (hO : ObjAt w lo hi d v) (hh : hi ≤ w.heap.size) (hl : ObjL d) :
    Calls Tryz.prog 18 #[v] w fun e w' => SmO d e ∧ Below w.heap.size w w' := by
  obtain ⟨A1, c1, A2, c2, A3, c3, A4, c4, A5, c5, es, rfl, p1, p2, p3, p4, p5, p6⟩ := hO
  obtain ⟨n1, f1⟩ : ∃ n, d.text.length = n := ⟨_, rfl⟩
  obtain ⟨n2, f2⟩ : ∃ n, d.data.length = n := ⟨_, rfl⟩
  obtain ⟨n3, f3⟩ : ∃ n, d.syms.length = n := ⟨_, rfl⟩
  obtain ⟨n4, f4⟩ : ∃ n, d.rels.length = n := ⟨_, rfl⟩
  obtain ⟨n5, f5⟩ : ∃ n, d.ents.length = n := ⟨_, rfl⟩
  have HF3 := Lib.hid f3
  have HF4 := Lib.hid f4
  rw [f1, f2, f3, f4, f5]
  have b5 : n5 ≤ 9223372036854775807 := by have := hl.le; unfold maxLen at this; omega
  have HB0 := Lib.hid ((Below.refl w.heap.size w).alloc (Nat.le_refl _) (.cells #[.slice A1 n1 c1, .slice A2 n2 c2, .slice A3 n3 c3, .slice A4 n4 c4, .slice A5 n5 c5] 59))
  have hX0 := heap_alloc_new w (.cells #[.slice A1 n1 c1, .slice A2 n2 c2, .slice A3 n3 c3, .slice A4 n4 c4, .slice A5 n5 c5] 59)
  have HX0 := Lib.hid hX0
  have HL := Lib.hid hl
  have P5 := Lib.hid p5
  have P6 := Lib.hid p6
  have HN := Lib.hid f5
  have HH := Lib.hid hh
  clear p1 p2 p3 p4 p5 p6 f1 f2 f3 f4 f5 hl hh hX0
  go_enter Tryz.func18, Tryz.ntmps18
  go_wp2
  go_loopw [3, 4] (fun z i wr => ∃ (k : Nat) (y : Int), k ≤ n5 ∧ z = .int .i64 y ∧ i = .int .i64 k ∧ Hid (Below w.heap.size w wr) ∧ Hid (wr.heap[w.heap.size]? = some (.cells #[.slice A1 n1 c1, .slice A2 n2 c2, .slice A3 n3 c3, .slice A4 n4 c4, .slice A5 n5 c5] 59 (0, 0)))) (fun _ i _ => n5 - (intOf i).toNat)
  case atStart => exact ⟨0, 0, by omega, rfl, rfl, HB0, HX0⟩
  case round =>
    clear HB0 HX0
    obtain ⟨k, y, hk, rfl, rfl, HW, HX⟩ := hrel
    obtain ⟨⟨x0, x1, x2, x3, x4⟩, _⟩ := row_cells5 HX.out
    by_cases hlt : k < n5
    · have k0 : (0 : Int) ≤ k := by omega
      have k1 : (k : Int) < n5 := by omega
      have hle : k < d.ents.length := by rw [HN.out]; exact hlt
      obtain ⟨Ap, cp, g0, g1, gr⟩ := P6.out.get hle
      have hne : es ≠ [] := fun e => by rw [e] at g0; cases g0
      rcases P5.out with e | ⟨b1, o1, rfl, _, hb1, hc1⟩
      · exact absurd e hne
      have hx1 := (HW.out.cell (p := ⟨b1, o1 + (k * 2 + 1), none⟩) (by have := HH.out; show b1 < _; omega)).trans (hc1 (k * 2 + 1) _ g1)
      rw [← Nat.add_assoc] at hx1
      clear gr g0 g1 hc1 hne hb1
      go_wp2
      go_roundw
      case rel => exact ⟨k + 1, _, by omega, rfl, by go_num, HW, HX⟩
      case measure => simp [intOf]; omega
    · obtain rfl : k = n5 := by omega
      clear hlt
      go_wp2
      all_goals
        go_ret
        refine ⟨?_, HW.out⟩
        first
          | exact SmO.no
          | exact ⟨_, rfl, fun h => by rw [HF3.out, HF4.out]; constructor <;> first | omega | (simp at h; omega)⟩
/-- a bool; where it is true, a list has few Syms and relocations -/
def SmL (l : List ObjD) (e : Ending) : Prop := ∃ b : Bool, e = .returned (.bool b) ∧ (b = true → l.length ≤ 20 ∧ sumS l l.length ≤ 100 ∧ sumR l l.length ≤ 100)
theorem SmL.no {l : List ObjD} : SmL l (.returned (.bool false)) := ⟨false, rfl, fun h => by cases h⟩
theorem SmL.yes {l : List ObjD} {b : Bool} (h : l.length ≤ 20 ∧ sumS l l.length ≤ 100 ∧ sumR l l.length ≤ 100) : SmL l (.returned (.bool b)) := ⟨b, rfl, fun _ => h⟩
set_option maxHeartbeats 2000000 in
theorem small7_any (l : List ObjD) (hW : ∀ d ∈ l, ObjW d) (hL : ∀ d ∈ l, ObjL d) (A : Option Addr) (n c lo hi : Nat) (hn : l.length = n) (hmx : n ≤ maxLen) (w : World) (hA : ObjsAt w lo hi l A) (hh : hi ≤ w.heap.size) :
    Calls Tryz.prog 5 #[.slice A n c] w fun e w' => SmL l e ∧ Below w.heap.size w w' := by
  have HL := Lib.hid hL
  have HN := Lib.hid hn
  have HA := Lib.hid hA
  have HH := Lib.hid hh
  unfold maxLen at hmx
  clear hW hL hn hA hh
  go_enter Tryz.func5, Tryz.ntmps5
  by_cases h20 : n ≤ 20
  case neg =>
    have h1 : (n : Int) > 20 := by omega
    go_wp2
    go_ret
    exact ⟨SmL.no, Below.refl _ _⟩
  have h1 : ¬ (n : Int) > 20 := by omega
  go_wp2
  go_loopw [3, 4, 5] (fun ss rs i wr => ∃ k s r : Nat, k ≤ n ∧ s ≤ k * 300 ∧ r ≤ k * 300 ∧ ss = .int .i64 s ∧ rs = .int .i64 r ∧ i = .int .i64 k ∧ Hid (Below w.heap.size w wr) ∧ Hid (sumS l k = s ∧ sumR l k = r)) (fun _ _ i _ => n - (intOf i).toNat)
  case atStart => exact ⟨0, 0, 0, by omega, by omega, by omega, rfl, rfl, rfl, Lib.hid (Below.refl _ _), Lib.hid ⟨rfl, rfl⟩⟩
  case round =>
    obtain ⟨k, s, r, hk, hs, hr, rfl, rfl, rfl, HB, HY⟩ := hrel
    by_cases hlt : k < n
    · have k0 : (0 : Int) ≤ k := by omega
      have k1 : (k : Int) < n := by omega
      have HLk := Lib.hid (show k < l.length by rw [HN.out]; exact hlt)
      obtain ⟨b, o, A1, n1, c1, A2, n2, c2, A3, n3, c3, A4, n4, c4, A5, n5, c5, rfl, hb, ⟨x0, x1, x2, x3, x4⟩, ho, hn3, hn4, -⟩ := (HA.out.below HH.out HB.out).at_ HLk.out
      have HO := Lib.hid ho
      have HN3 := Lib.hid hn3
      have HN4 := Lib.hid hn4
      clear ho hn3 hn4
      go_wp2_with fail
      refine (rsmall_few _ _ lo hi _ HO.out (by have := HB.out.size; have := HH.out; omega) (HL.out _ (List.getElem_mem HLk.out))).mono ?_
      rintro e w2 ⟨⟨bb, rfl, hbb⟩, hb2⟩
      have HB2 := Lib.hid (HB.out.trans (hb2.mono HB.out.size))
      clear x0 x1 x2 x3 x4
      cases bb
      case false =>
        clear hbb hb2
        go_wp2
        go_ret
        exact ⟨SmL.no, HB2.out⟩
      case true =>
        obtain ⟨h3, h4⟩ := hbb rfl
        rw [HN3.out] at h3
        rw [HN4.out] at h4
        obtain ⟨b', o', A1', n1', c1', A2', n2', c2', A3', n3', c3', A4', n4', c4', A5', n5', c5', eA, hb', ⟨x0, x1, x2, x3, x4⟩, -, hn3, hn4, -⟩ := (HA.out.below HH.out HB2.out).at_ HLk.out
        cases eA
        rw [HN3.out] at hn3
        rw [HN4.out] at hn4
        subst hn3 hn4
        have hs0 : (0 : Int) ≤ (s : Int) + n3 := by omega
        have HS2 := Lib.hid (show sumS l (k + 1) = s + n3 ∧ sumR l (k + 1) = r + n4 from by rw [sumS_go HLk.out, sumR_go HLk.out, HY.out.1, HY.out.2, HN3.out, HN4.out]; exact ⟨rfl, rfl⟩)
        clear hbb hb2 HY HB x0 x1 x4
        go_wp2
        go_roundw
        case rel => exact ⟨k + 1, s + n3, r + n4, by omega, by omega, by omega, by go_num, by go_num, by go_num, HB2, HS2⟩
        case measure => simp [intOf]; omega
    · have hkn : k = n := by omega
      have k1 : ¬ (k : Int) < n := by omega
      have HR := Lib.hid (show l.length = n ∧ sumS l l.length = s ∧ sumR l l.length = r from ⟨HN.out, by rw [HN.out, ← hkn]; exact HY.out.1, by rw [HN.out, ← hkn]; exact HY.out.2⟩)
      clear hlt
      go_wp2
      all_goals
        go_ret
        refine ⟨?_, HB.out⟩
        obtain ⟨z1, z2, z3⟩ := HR.out
        first
          | exact SmL.no
          | exact SmL.yes (by rw [z2, z3, z1]; omega)
          | exact ⟨_, rfl, fun hh => by rw [z2, z3, z1]; simp at hh; omega⟩
end Go.Proofs.YtjngkifoaljmaaaGreatDoor
namespace Go.Proofs.YtjngkifoaljmaaaGreatDoor
set_option maxRecDepth 100000
open Go.RowKit Go.ChangeShapes Go.WideShapes Go.Deep
set_option linter.unusedVariables false
section
variable {H : Type} {enc : TypeId × Value → H} {W : World} {base b0 : Nat} {sp : Nat → Bool} {held : Bool} {d : DataW H} {p : List MemPlace}
abbrev ObjA := ObjD × (Value × Value × Value × Value × Value)
def encObjA (x : ObjA) : List Value := [x.2.1, x.2.2.1, x.2.2.2.1, x.2.2.2.2.1, x.2.2.2.2.2]
theorem one_obj (n : Nat) (cs' : List Value) (y : DataW H × List MemPlace) (h : DataW.trod enc Tryz.prog W base sp held n 59 cs' = some y) : ∃ x : ObjA, (ObjAt W 0 W.heap.size x.1 (.agg #[x.2.1, x.2.2.1, x.2.2.2.1, x.2.2.2.2.1, x.2.2.2.2.2]) ∧ ObjW x.1 ∧ ObjL x.1) ∧ cs' = encObjA x := by
  have hc : Tryz.prog.cellsOf 59 = 5 := by kernel_rfl
  have c1 : Tryz.prog.cellsOf 38 = 1 := by kernel_rfl
  have c2 : Tryz.prog.cellsOf 39 = 1 := by kernel_rfl
  have c3 : Tryz.prog.cellsOf 53 = 1 := by kernel_rfl
  have c4 : Tryz.prog.cellsOf 56 = 1 := by kernel_rfl
  have c5 : Tryz.prog.cellsOf 57 = 1 := by kernel_rfl
  obtain ⟨xs, m, _, hx, hl, hlen, hg⟩ := DataW.trod_struct Tryz.underlying59 h
  match cs', hl.trans hc with
  | [k0, k1, k2, k3, k4], _ =>
    match xs, hlen with
    | [y0, y1, y2, y3, y4], _ =>
      have g0 := hg 0 _ rfl
      have g1 := hg 1 _ rfl
      have g2 := hg 2 _ rfl
      have g3 := hg 3 _ rfl
      have g4 := hg 4 _ rfl
      obtain ⟨A1, n1, z1, e1, w1, l1, r1⟩ := open_list (sz := 1) (enc1 := encU32) (0 : Int) IsW Tryz.underlying38 (by kernel_rfl) (fun _ => rfl) (by omega) one_u32 g0
      obtain ⟨A2, n2, z2, e2, w2, l2, r2⟩ := open_list (sz := 1) (enc1 := encU64) (0 : Int) IsU Tryz.underlying39 (by kernel_rfl) (fun _ => rfl) (by omega) one_u64 g1
      obtain ⟨A3, n3, z3, e3, w3, l3, r3⟩ := open_list (sz := 4) (enc1 := encSym) (ByteArray.empty, false, 0, false) _ Tryz.underlying53 (by kernel_rfl) (fun _ => rfl) (by omega) one_sym g2
      obtain ⟨A4, n4, z4, e4, w4, l4, r4⟩ := open_list (sz := 4) (enc1 := encRel) (0, 0, ByteArray.empty, 0) _ Tryz.underlying56 (by kernel_rfl) (fun _ => rfl) (by omega) one_rel g3
      obtain ⟨A5, n5, z5, e5, w5, l5, r5⟩ := open_list (sz := 2) (enc1 := encEnt) ((ByteArray.empty, []), (none, 0)) _ Tryz.underlying57 (by kernel_rfl) (fun _ => rfl) (by omega) one_ent g4
      simp [c1, c2, c3, c4, c5] at e1 e2 e3 e4 e5
      subst e1 e2 e3 e4 e5
      refine ⟨(⟨z1, z2, z3, z4, z5.map (·.1)⟩, _, _, _, _, _), ⟨⟨A1, n1, A2, n2, A3, n3, A4, n4, A5, n5, z5.flatMap encEnt, by simp, r1, r2, r3, r4, r5, entC_of z5 fun e he => (w5 e he).2⟩, ⟨w1, w2, w3, w4, fun s hs => ?_⟩, ⟨l1, l2, l3, l4, by simpa using l5, fun s hs => ?_⟩⟩, rfl⟩
      · obtain ⟨e, he, rfl⟩ := List.mem_map.1 hs
        exact (w5 e he).1
      · obtain ⟨e, he, rfl⟩ := List.mem_map.1 hs
        exact (w5 e he).1.2.2
theorem open_objs {v : Value} (hv : Value.okWide Tryz.prog W .any b0 22 v) (h : DataW.Trod enc Tryz.prog W base sp held 22 v d p) :
    ∃ A c l, v = .slice A l.length c ∧ ObjsAt W 0 W.heap.size l A ∧ (∀ d ∈ l, ObjW d) ∧ (∀ d ∈ l, ObjL d) ∧ l.length ≤ maxLen := by
  obtain ⟨a, len, cap, rfl⟩ := okWide_slice Tryz.underlying22 hv
  obtain ⟨fuel, hf⟩ := h
  obtain ⟨A, c, xs, e, hw, hl, hr⟩ := open_list (sz := 5) (enc1 := encObjA) (dNo, .bool false, .bool false, .bool false, .bool false, .bool false) _ Tryz.underlying22 (by kernel_rfl) (fun _ => rfl) (by omega) one_obj hf
  simp [Value.cells] at e
  obtain ⟨rfl, rfl, rfl⟩ := e
  refine ⟨a, cap, xs.map (·.1), by simp, ⟨xs.flatMap encObjA, by rw [flat_len (enc := encObjA) (sz := 5) (fun _ => rfl)]; simp, hr, fun i hi => ?_⟩, fun x hx => ?_, fun x hx => ?_, by simpa using hl⟩
  · have hi' : i < xs.length := by simpa using hi
    refine ⟨_, _, _, _, _, ⟨?_, ?_, ?_, ?_, ?_⟩, by simpa using (hw _ (List.getElem_mem hi')).1⟩
    · exact flat_get (enc := encObjA) (sz := 5) (fun _ => rfl) (i := 0) hi' (by omega)
    · exact flat_get (enc := encObjA) (sz := 5) (fun _ => rfl) (i := 1) hi' (by omega)
    · exact flat_get (enc := encObjA) (sz := 5) (fun _ => rfl) (i := 2) hi' (by omega)
    · exact flat_get (enc := encObjA) (sz := 5) (fun _ => rfl) (i := 3) hi' (by omega)
    · exact flat_get (enc := encObjA) (sz := 5) (fun _ => rfl) (i := 4) hi' (by omega)
  · obtain ⟨y, hy, rfl⟩ := List.mem_map.1 hx
    exact (hw y hy).2.1
  · obtain ⟨y, hy, rfl⟩ := List.mem_map.1 hx
    exact (hw y hy).2.2
end
end Go.Proofs.YtjngkifoaljmaaaGreatDoor
