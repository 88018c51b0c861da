/- Layer 6: the looker's right: all Syms, relocations and entries, one behind the other. Condition: the tables of package ins read as they should. -/
import Derived.Test.YtfdpbogbnfkilaaDoorObjEnt
import Derived.Test.YtfdpbogbnfkilaaDoorObjRdO
import Derived.Test.YtfdpbogbnfkilaaDoorObjLook
namespace Go.Proofs.YtfdpbogbnfkilaaDoor
set_option maxRecDepth 100000
open Go.RowKit Go.Maps
set_option linter.unusedVariables false
theorem lsym_any (A1 A2 : Option Addr) (n1 c1 n2 c2 : Nat) (v3 v4 v5 v6 : Value) (b n : Nat) (M : Th → Option Int) (i : Int) (hi0 : 0 ≤ i) (hi1 : i ≤ 1000000) (hn : n < 1000000) (h1 : n1 ≤ 4096) (h2 : n2 ≤ 1024)
    (s : SymD) (hs : s.1.size ≤ maxLen) (ho : IsI s.2.2.1) (w : World) (hK : SeenK w b n M) :
    Calls Tryd.prog 84 #[.agg #[.slice A1 n1 c1, .slice A2 n2 c2, v3, v4, v5, v6, .map (some b)], .int .i64 i, .agg #[.string s.1, .bool s.2.1, .int .i64 s.2.2.1, .bool s.2.2.2]] w fun e w' =>
      e = .returned (.bool (symB M n1 n2 s.1 s.2.1 s.2.2.1)) ∧ MapOut b w w' ∧ (symB M n1 n2 s.1 s.2.1 s.2.2.1 = true → SeenK w' b (n + 1) (putM M (0, s.1, 0) i)) := by
  obtain ⟨s, x, o, y⟩ := s
  cases x with
  | false => exact sym_false A1 A2 n1 c1 n2 c2 v3 v4 v5 v6 b n M i hi0 hi1 hn h1 h2 s o y hs ho w hK
  | true => exact sym_true A1 A2 n1 c1 n2 c2 v3 v4 v5 v6 b n M i hi0 hi1 hn h1 h2 s o y hs ho w hK
theorem EntC.get {w : World} {lo hi : Nat} {ob : Option Nat} : ∀ {es : List EntD} {cs : List Value}, EntC w lo hi ob es cs → ∀ {j : Nat} (hj : j < es.length), ∃ A c, cs[j * 2]? = some (.string es[j].1) ∧ cs[j * 2 + 1]? = some (.slice A es[j].2.length c) ∧ RowO w lo hi ob A (es[j].2.flatMap encI64)
  | e :: es, cs, ⟨A, c, rest, h1, h2, h3⟩, 0, hj => by subst h1; exact ⟨A, c, rfl, rfl, h2⟩
  | e :: es, cs, ⟨A, c, rest, h1, h2, h3⟩, j + 1, hj => by
    subst h1
    obtain ⟨A', c', g1, g2, g3⟩ := EntC.get h3 (j := j) (by simpa using hj)
    refine ⟨A', c', ?_, ?_, g3⟩
    · rw [show (j + 1) * 2 = j * 2 + 2 by omega]; exact g1
    · rw [show (j + 1) * 2 + 1 = j * 2 + 1 + 2 by omega]; exact g2
theorem RowO.rowC {w : World} {lo hi : Nat} {ob : Option Nat} {A : Option Addr} {cs : List Value} (h : RowO w lo hi ob A cs) : RowC w lo hi A cs := by
  rcases h with h | ⟨b, o, e, h1, h2, h3, h4⟩
  · exact .inl h
  · exact .inr ⟨b, o, e, h1, h2, h4⟩
def rightB (d : ObjD) : Bool := symsB d && relsB d && entsB d
/-- where the looker stands -/
def RgS (w : World) (b : Nat) (d : ObjD) (ks kr ke : Nat) (wr : World) : Prop := MapOut b w wr ∧ ∃ M, SeenK wr b (ks + kr + ke) M ∧ SeenS d M ks kr ke
theorem MapOut.below {w0 w w' : World} {b : Nat} (h0 : Below w0.heap.size w0 w) (h : MapOut b w w') (hb : w0.heap.size ≤ b) : Below w0.heap.size w0 w' :=
  ⟨h.os.trans h0.os, h.tape.trans h0.tape, h.output.trans h0.output, Nat.le_trans h0.size h.size, fun k hk => (h.block k (Nat.lt_of_lt_of_le hk h0.size) (by show ¬ k = b; omega)).trans (h0.block k hk)⟩
theorem all_lt_succ {k : Nat} {p : Nat → Bool} (h : ∀ j, j < k → p j = true) (hk : p k = true) : ∀ j, j < k + 1 → p j = true := fun j hj => by
  by_cases e : j = k
  · subst e; exact hk
  · exact h j (by omega)
set_option maxHeartbeats 2000000 in
theorem lent_any (v1 v2 v4 v5 v6 : Value) (A3 : Option Addr) (n3 c3 lo hi b n : Nat) (M : Th → Option Int) (i : Int) (hi0 : 0 ≤ i) (hi1 : i ≤ 1000000) (hn : n < 1000000) (d : ObjD) (hd : d.syms.length = n3) (h3 : n3 ≤ 256) (s : EntD) (hs : s.1.size ≤ maxLen) (A : Option Addr) (c : Nat) (hm : s.2.length ≤ maxLen) (w : World) (hK : SeenK w b n M)
    (hI : ∀ nm q, M (0, nm, 0) = some q → ∃ j : Nat, j < n3 ∧ q = j ∧ (symAt d j).1 = nm) (hrow : RowC w lo hi A3 (d.syms.flatMap encSym)) (hhi : hi ≤ w.heap.size) (hA : ParR w (fun _ => False) A s.2) (hnb : s.2 = [] ∨ ∀ bb oo, A = some ⟨bb, oo, none⟩ → bb ≠ b) :
    Calls Tryd.prog 86 #[.agg #[v1, v2, .slice A3 n3 c3, v4, v5, v6, .map (some b)], .int .i64 i, .agg #[.string s.1, .slice A s.2.length c]] w fun e w' =>
      e = .returned (.bool (entB M d.syms s)) ∧ MapOut b w w' ∧ (entB M d.syms s = true → SeenK w' b (n + 1) (putM M (2, s.1, 0) i)) := by
  cases hM : M (0, s.1, 0) with
  | none =>
    have he : entB M d.syms s = false := by unfold entB; rw [hM]
    rw [he]
    refine (ent_none v1 v2 (.slice A3 n3 c3) v4 v5 v6 b n M i s.1 hs (.slice A s.2.length c) w hK hM).mono ?_
    rintro e w' ⟨rfl, hb⟩
    exact ⟨rfl, OutO.of_below hb, fun h => by cases h⟩
  | some q =>
    obtain ⟨j, hj, rfl, hn⟩ := hI _ _ hM
    have hlz : j < d.syms.length := by omega
    obtain ⟨b3, o3, rfl, _, hb2, hcell⟩ := hrow.at_ (sz := 4) (fun x => rfl) (by omega) (by omega)
    have hat : symAt d j = d.syms[j] := by unfold symAt; rw [List.getD_eq_getElem?_getD, List.getElem?_eq_getElem hlz]; rfl
    have hx := hcell j hlz 1 (.bool (symAt d j).2.1) (by rw [hat]; rfl)
    have hy := hcell j hlz 3 (.bool (symAt d j).2.2.2) (by rw [hat]; rfl)
    rw [← Nat.add_assoc] at hx hy
    have he : entB M d.syms s = (!(symAt d j).2.1 && (symAt d j).2.2.2 && (M (2, s.1, 0)).isNone && parB s.2) := by unfold entB; rw [hM]; rfl
    rw [he]
    by_cases hz : s.2 = []
    · have hA0 : ∀ A', ParR w (fun _ => False) A' s.2 := fun A' => .inl hz
      have hc0 : Calls Tryd.prog 86 #[.agg #[v1, v2, .slice (some ⟨b3, o3, none⟩) n3 c3, v4, v5, v6, .map (some b)], .int .i64 i, .agg #[.string s.1, .slice A s.2.length c]] w _ := ent_some v1 v2 v4 v5 v6 b3 o3 n3 c3 b n M i hi0 hi1 (by omega) s.1 hs A s.2 s.2.length c rfl hm w hK j hM hj h3 _ _ (by omega) hx hy hA (.inl hz)
      exact hc0
    · exact ent_some v1 v2 v4 v5 v6 b3 o3 n3 c3 b n M i hi0 hi1 (by omega) s.1 hs A s.2 s.2.length c rfl hm w hK j hM hj h3 _ _ (by omega) hx hy hA hnb
set_option maxHeartbeats 4000000 in
theorem right_any (d : ObjD) (hW : ObjW d) (hf : d.text.length ≤ 4096 ∧ d.data.length ≤ 1024 ∧ d.syms.length ≤ 256 ∧ d.rels.length ≤ 1024 ∧ d.ents.length ≤ 64) (hops : ∀ x ∈ opsL d.text, ∃ o : Nat, x = o ∧ o < 43)
    (w0 w : World) (hT : Tabs w0) (hB0 : Below w0.heap.size w0 w) (lo hi : Nat) (hhi : hi ≤ w0.heap.size) (b : Nat) (hb : w0.heap.size ≤ b) (A1 A2 A3 A4 A5 A6 : Option Addr) (c1 c2 c3 c4 c5 c6 : Nat) (es : List Value)
    (h3 : RowC w0 lo hi A3 (d.syms.flatMap encSym)) (h4 : RowC w0 lo hi A4 (d.rels.flatMap encRel)) (h5 : RowC w0 lo hi A5 es) (h5e : EntC w0 lo hi none d.ents es)
    (lo6 hi6 : Nat) (h6 : RowC w lo6 hi6 A6 ((opsL d.text).flatMap encI64)) (hh6 : hi6 ≤ w.heap.size) (hb6 : hi6 ≤ b) (hK : SeenK w b 0 (fun _ => none)) :
    Calls Tryd.prog 49 #[.agg #[.slice A1 d.text.length c1, .slice A2 d.data.length c2, .slice A3 d.syms.length c3, .slice A4 d.rels.length c4, .slice A5 d.ents.length c5, .slice A6 (opsL d.text).length c6, .map (some b)]] w fun e w' =>
      e = .returned (.bool (rightB d)) ∧ MapOut b w w' := by
  obtain ⟨n3, e3⟩ : ∃ n, d.syms.length = n := ⟨_, rfl⟩
  obtain ⟨n4, e4⟩ : ∃ n, d.rels.length = n := ⟨_, rfl⟩
  obtain ⟨n5, e5⟩ : ∃ n, d.ents.length = n := ⟨_, rfl⟩
  have HF := Lib.hid hf
  have hn3 : (n3 : Int) ≤ 256 := by omega
  have hn4 : (n4 : Int) ≤ 1024 := by omega
  have hn5 : (n5 : Int) ≤ 64 := by omega
  rw [e3, e4, e5]
  have hlb := hK.lt
  have HLb := Lib.hid hlb
  have hW1 := (OutO.of_below ((Below.refl w.heap.size w).alloc (Nat.le_refl _) (.cells #[.slice A1 d.text.length c1, .slice A2 d.data.length c2, .slice A3 n3 c3, .slice A4 n4 c4, .slice A5 n5 c5, .slice A6 (opsL d.text).length c6, .map (some b)] 92)) : MapOut b w _)
  have HW1 := Lib.hid hW1
  have HK0 := Lib.hid (hK.below ((Below.refl w.heap.size w).alloc (Nat.le_refl _) (.cells #[.slice A1 d.text.length c1, .slice A2 d.data.length c2, .slice A3 n3 c3, .slice A4 n4 c4, .slice A5 n5 c5, .slice A6 (opsL d.text).length c6, .map (some b)] 92)))
  have HT := Lib.hid hT
  have HB0 := Lib.hid hB0
  have H3 := Lib.hid h3
  have H4 := Lib.hid h4
  have H5 := Lib.hid h5
  have H5e := Lib.hid h5e
  have H6 := Lib.hid h6
  have HHi := Lib.hid hhi
  have HHb := Lib.hid hb
  have HOps := Lib.hid hops
  have HWd := Lib.hid hW
  have HH6 := Lib.hid (And.intro hh6 hb6)
  have E3 := Lib.hid e3
  have E4 := Lib.hid e4
  have E5 := Lib.hid e5
  clear e3 e4 e5 hW hf hops hT hB0 hhi hb h3 h4 h5 h5e h6 hh6 hb6 hK hlb hW1
  go_enter Tryd.func49, Tryd.ntmps49
  go_wp2
  have hst : RgS (w.alloc (.cells #[.slice A1 d.text.length c1, .slice A2 d.data.length c2, .slice A3 n3 c3, .slice A4 n4 c4, .slice A5 n5 c5, .slice A6 (opsL d.text).length c6, .map (some b)] 92)) b d 0 0 0 (w.alloc (.cells #[.slice A1 d.text.length c1, .slice A2 d.data.length c2, .slice A3 n3 c3, .slice A4 n4 c4, .slice A5 n5 c5, .slice A6 (opsL d.text).length c6, .map (some b)] 92)) := ⟨OutO.refl _ _, fun _ => none, HK0.out, SeenS.start d⟩
  go_loopw [3, 4, 13] (fun _ _ i wr => ∃ k : Nat, k ≤ n3 ∧ i = .int .i64 k ∧ RgS (w.alloc (.cells #[.slice A1 d.text.length c1, .slice A2 d.data.length c2, .slice A3 n3 c3, .slice A4 n4 c4, .slice A5 n5 c5, .slice A6 (opsL d.text).length c6, .map (some b)] 92)) b d k 0 0 wr ∧ Hid (∀ j, j < k → symOkB d j = true)) (fun _ _ i _ => n3 - (intOf i).toNat)
  case atStart => exact ⟨0, by omega, rfl, hst, Lib.hid (fun j hj => by omega)⟩
  case round =>
    obtain ⟨k, hk, rfl, ⟨hm, M, hsk, hss⟩, HAll⟩ := hrel
    clear hst
    have HM := Lib.hid hm
    have HSk := Lib.hid hsk
    have HSs := Lib.hid hss
    have hlw : w.heap.size < wr.heap.size := by have := hm.size; simp at this; omega
    have hbx : ∀ o, wr.cell? ⟨w.heap.size, o, none⟩ = (w.alloc (.cells #[.slice A1 d.text.length c1, .slice A2 d.data.length c2, .slice A3 n3 c3, .slice A4 n4 c4, .slice A5 n5 c5, .slice A6 (opsL d.text).length c6, .map (some b)] 92)).cell? ⟨w.heap.size, o, none⟩ := fun o => World.cell?_of_block (hm.block w.heap.size (by simp) (by have := HLb.out; show ¬ w.heap.size = b; omega))
    have HBw := Lib.hid (MapOut.below HB0.out (HW1.out.trans hm) HHb.out)
    clear hm hsk hss
    by_cases hlt : k < n3
    · have k0 : (0 : Int) ≤ k := by omega
      have k1 : (k : Int) < n3 := by omega
      have hlz : k < d.syms.length := by rw [E3.out]; exact hlt
      obtain ⟨b3, o3, rfl, _, hb2, hcell⟩ := H3.out.at_ (sz := 4) (fun x => rfl) (by omega) (by omega)
      have hat : symAt d k = d.syms[k] := by unfold symAt; rw [List.getD_eq_getElem?_getD, List.getElem?_eq_getElem hlz]; rfl
      have hx : ∀ i v, (encSym (symAt d k))[i]? = some v → wr.cell? ⟨b3, o3 + (k * 4 + i), none⟩ = some v := fun i v hv => (HBw.out.cell (p := ⟨b3, o3 + (k * 4 + i), none⟩) (by have := HHi.out; show b3 < _; omega)).trans (hcell k hlz i v (by rw [← hat]; exact hv))
      have hx0 := hx 0 _ rfl
      have hx1 := hx 1 _ rfl
      have hx2 := hx 2 _ rfl
      have hx3 := hx 3 _ rfl
      rw [← Nat.add_assoc] at hx0 hx1 hx2 hx3
      rw [Nat.add_zero] at hx0
      have hwf := HWd.out.syms (symAt d k) (by rw [hat]; exact List.getElem_mem hlz)
      have HWf := Lib.hid hwf
      have HC := Lib.hid (fun w' (h : SeenK w' b k M) => lsym_any A1 A2 d.text.length c1 d.data.length c2 (.slice (some ⟨b3, o3, none⟩) n3 c3) (.slice A4 n4 c4) (.slice A5 n5 c5) (.slice A6 (opsL d.text).length c6) b k M k (by omega) (by omega) (by omega) HF.out.1 HF.out.2.1 (symAt d k) HWf.out.1 HWf.out.2 w' h)
      rw [HSs.out.symB] at HC
      have HSk' := Lib.hid (HSk.out.below ((Below.refl wr.heap.size wr).alloc (Nat.le_refl _) (.cells #[.string (symAt d k).1, .bool (symAt d k).2.1, .int .i64 (symAt d k).2.2.1, .bool (symAt d k).2.2.2] 65)))
      have HMo := Lib.hid (HM.out.trans (OutO.of_below ((Below.refl wr.heap.size wr).alloc (Nat.le_refl _) (.cells #[.string (symAt d k).1, .bool (symAt d k).2.1, .int .i64 (symAt d k).2.2.1, .bool (symAt d k).2.2.2] 65))))
      clear hcell hx hat hwf hb2
      cases hsy : symOkB d k with
      | false =>
        have HR := Lib.hid (show rightB d = false by unfold rightB symsB; rw [range_all_no hlz hsy]; rfl)
        rw [hsy] at HC
        clear hsy hlz
        go_wp2_with fail
        refine (HC.out _ HSk'.out).mono ?_
        rintro e w2 ⟨rfl, hout, _⟩
        have HO := Lib.hid (HW1.out.trans (HMo.out.trans hout))
        clear hout hbx hx0 hx1 hx2 hx3
        go_wp2
        go_ret
        exact ⟨ret_bool HR.out.symm, HO.out⟩
      | true =>
        have HAll2 := Lib.hid (all_lt_succ HAll.out hsy)
        rw [hsy] at HC
        clear hsy hlz
        go_wp2_with fail
        refine (HC.out _ HSk'.out).mono ?_
        rintro e w2 ⟨rfl, hout, hs⟩
        have HG := Lib.hid (show RgS _ b d (k + 1) 0 0 w2 from ⟨HMo.out.trans hout, _, hs (by simp), HSs.out.sym⟩)
        clear hout hs hbx hx0 hx1 hx2 hx3
        go_wp2
        go_roundw
        case rel => exact ⟨k + 1, by omega, by go_num, HG.out, HAll2⟩
        case measure => simp [intOf]; omega
    · obtain rfl : k = n3 := by omega
      have HAllS := Lib.hid (range_all_yes (n := k) HAll.out)
      have HG0 := Lib.hid (show RgS (w.alloc (.cells #[.slice A1 d.text.length c1, .slice A2 d.data.length c2, .slice A3 k c3, .slice A4 n4 c4, .slice A5 n5 c5, .slice A6 (opsL d.text).length c6, .map (some b)] 92)) b d k 0 0 wr from ⟨HM.out, M, HSk.out, HSs.out⟩)
      clear hlt HAll HSk HSs HM HBw
      go_wp2
      clear hbx
      go_loopw [5, 6, 28] (fun _ _ i wq => ∃ m : Nat, m ≤ n4 ∧ i = .int .i64 m ∧ RgS (w.alloc (.cells #[.slice A1 d.text.length c1, .slice A2 d.data.length c2, .slice A3 k c3, .slice A4 n4 c4, .slice A5 n5 c5, .slice A6 (opsL d.text).length c6, .map (some b)] 92)) b d k m 0 wq ∧ Hid (∀ j, j < m → relOkB d j = true)) (fun _ _ i _ => n4 - (intOf i).toNat)
      case atStart => exact ⟨0, by omega, rfl, HG0.out, Lib.hid (fun j hj => by omega)⟩
      case round =>
        obtain ⟨m, hm4, rfl, ⟨hm, M2, hsk, hss⟩, HAll⟩ := hrel
        clear HG0
        have HM := Lib.hid hm
        have HSk := Lib.hid hsk
        have HSs := Lib.hid hss
        have hlq : w.heap.size < wr.heap.size := by have := hm.size; simp at this; omega
        have hbx : ∀ o, wr.cell? ⟨w.heap.size, o, none⟩ = (w.alloc (.cells #[.slice A1 d.text.length c1, .slice A2 d.data.length c2, .slice A3 k c3, .slice A4 n4 c4, .slice A5 n5 c5, .slice A6 (opsL d.text).length c6, .map (some b)] 92)).cell? ⟨w.heap.size, o, none⟩ := fun o => World.cell?_of_block (hm.block w.heap.size (by simp) (by have := HLb.out; show ¬ w.heap.size = b; omega))
        have HBw := Lib.hid (MapOut.below HB0.out (HW1.out.trans hm) HHb.out)
        have HR6 := Lib.hid (H6.out.move (Nat.le_refl _) (Nat.le_refl _) (fun bb h1 h2 => (HW1.out.trans hm).block bb (by have := HH6.out; omega) (by show ¬ bb = b; have := HH6.out; omega)))
        clear hm hsk hss
        by_cases hlt : m < n4
        · have k0 : (0 : Int) ≤ m := by omega
          have k1 : (m : Int) < n4 := by omega
          have hlz : m < d.rels.length := by rw [E4.out]; exact hlt
          obtain ⟨b4, o4, eA4, _, hb2, hcell⟩ := H4.out.at_ (sz := 4) (fun x => rfl) (by omega) (by omega)
          have hat : relAt d m = d.rels[m] := by unfold relAt; rw [List.getD_eq_getElem?_getD, List.getElem?_eq_getElem hlz]; rfl
          have hx : ∀ i v, (encRel (relAt d m))[i]? = some v → wr.cell? ⟨b4, o4 + (m * 4 + i), none⟩ = some v := fun i v hv => (HBw.out.cell (p := ⟨b4, o4 + (m * 4 + i), none⟩) (by have := HHi.out; show b4 < _; omega)).trans (hcell m hlz i v (by rw [← hat]; exact hv))
          have hx0 := hx 0 _ rfl
          have hx1 := hx 1 _ rfl
          have hx2 := hx 2 _ rfl
          have hx3 := hx 3 _ rfl
          rw [← Nat.add_assoc] at hx0 hx1 hx2 hx3
          rw [Nat.add_zero] at hx0
          have HWf := Lib.hid (HWd.out.rels (relAt d m) (by rw [hat]; exact List.getElem_mem hlz))
          have HTq := Lib.hid (HT.out.below HBw.out)
          have HC := Lib.hid (fun (w' : World) (hb : Below wr.heap.size wr w') (h : SeenK w' b (k + m + 0) M2) => rel_any (.slice A1 d.text.length c1) (.slice A2 d.data.length c2) (.slice A3 k c3) (.slice A4 n4 c4) (.slice A5 n5 c5) A6 (opsL d.text) c6 lo6 hi6 b (k + m + 0) M2 m (by omega) (by omega) (by omega) (by rw [opsL_len]; exact HF.out.1) HOps.out (relAt d m) ⟨HWf.out.1, HWf.out.2.2.2⟩ w' (HTq.out.below hb) (HR6.out.move (Nat.le_refl _) (Nat.le_refl _) (fun bb h1 h2 => hb.block bb (by have := HH6.out; have := hlq; omega))) (by have := HH6.out; have := hb.size; omega) h)
          rw [HSs.out.relB] at HC
          have HBa := Lib.hid ((Below.refl wr.heap.size wr).alloc (Nat.le_refl _) (.cells #[.int .i64 (relAt d m).1, .int .i64 (relAt d m).2.1, .string (relAt d m).2.2.1, .int .i64 (relAt d m).2.2.2] 49))
          have HSk' := Lib.hid (HSk.out.below HBa.out)
          have HMo := Lib.hid (HM.out.trans (OutO.of_below HBa.out))
          clear hcell hx hat hb2
          cases hsy : relOkB d m with
          | false =>
            have HR := Lib.hid (show rightB d = false by unfold rightB relsB; rw [range_all_no hlz hsy]; simp)
            rw [hsy] at HC
            clear hsy hlz
            subst eA4
            go_wp2_with fail
            refine (HC.out _ HBa.out HSk'.out).mono ?_
            rintro e w2 ⟨rfl, hout, _⟩
            have HO := Lib.hid (HW1.out.trans (HMo.out.trans hout))
            clear hout hbx hx0 hx1 hx2 hx3
            go_wp2
            go_ret
            exact ⟨ret_bool HR.out.symm, HO.out⟩
          | true =>
            have HAll2 := Lib.hid (all_lt_succ HAll.out hsy)
            rw [hsy] at HC
            clear hsy hlz
            subst eA4
            go_wp2_with fail
            refine (HC.out _ HBa.out HSk'.out).mono ?_
            rintro e w2 ⟨rfl, hout, hs⟩
            have HG := Lib.hid (show RgS _ b d k (m + 1) 0 w2 from ⟨HMo.out.trans hout, _, hs (by simp), HSs.out.rel _⟩)
            clear hout hs hbx hx0 hx1 hx2 hx3
            go_wp2
            go_roundw
            case rel => exact ⟨m + 1, by omega, by go_num, HG.out, HAll2⟩
            case measure => simp [intOf]; omega
        · obtain rfl : m = n4 := by omega
          have HAllR := Lib.hid (range_all_yes (n := m) HAll.out)
          have HG1 := Lib.hid (show RgS (w.alloc (.cells #[.slice A1 d.text.length c1, .slice A2 d.data.length c2, .slice A3 k c3, .slice A4 m c4, .slice A5 n5 c5, .slice A6 (opsL d.text).length c6, .map (some b)] 92)) b d k m 0 wr from ⟨HM.out, M2, HSk.out, HSs.out⟩)
          clear hlt HAll HSk HSs HM HBw HR6
          go_wp2
          clear hbx
          go_loopw [7, 8, 43] (fun _ _ i wp => ∃ q : Nat, q ≤ n5 ∧ i = .int .i64 q ∧ RgS (w.alloc (.cells #[.slice A1 d.text.length c1, .slice A2 d.data.length c2, .slice A3 k c3, .slice A4 m c4, .slice A5 n5 c5, .slice A6 (opsL d.text).length c6, .map (some b)] 92)) b d k m q wp ∧ Hid (∀ j, j < q → entOkB d j = true)) (fun _ _ i _ => n5 - (intOf i).toNat)
          case atStart => exact ⟨0, by omega, rfl, HG1.out, Lib.hid (fun j hj => by omega)⟩
          case round =>
            obtain ⟨q, hq5, rfl, ⟨hm, M3, hsk, hss⟩, HAll⟩ := hrel
            clear HG1
            have HM := Lib.hid hm
            have HSk := Lib.hid hsk
            have HSs := Lib.hid hss
            have hlp : w.heap.size < wr.heap.size := by have := hm.size; simp at this; omega
            have hbx : ∀ o, wr.cell? ⟨w.heap.size, o, none⟩ = (w.alloc (.cells #[.slice A1 d.text.length c1, .slice A2 d.data.length c2, .slice A3 k c3, .slice A4 m c4, .slice A5 n5 c5, .slice A6 (opsL d.text).length c6, .map (some b)] 92)).cell? ⟨w.heap.size, o, none⟩ := fun o => World.cell?_of_block (hm.block w.heap.size (by simp) (by have := HLb.out; show ¬ w.heap.size = b; omega))
            have HBw := Lib.hid (MapOut.below HB0.out (HW1.out.trans hm) HHb.out)
            clear hm hsk hss
            by_cases hlt : q < n5
            · have k0 : (0 : Int) ≤ q := by omega
              have k1 : (q : Int) < n5 := by omega
              have hlz : q < d.ents.length := by rw [E5.out]; exact hlt
              have hat : entAt d q = d.ents[q] := by unfold entAt; rw [List.getD_eq_getElem?_getD, List.getElem?_eq_getElem hlz]; rfl
              obtain ⟨Ap, cp, g0, g1, gr⟩ := H5e.out.get hlz
              rw [← hat] at g0 g1 gr
              have hne : es ≠ [] := fun e => by rw [e] at g0; cases g0
              rcases H5.out with e | ⟨b5, o5, eA5, _, hb2, hcell⟩
              · exact absurd e hne
              have hx0 := (HBw.out.cell (p := ⟨b5, o5 + (q * 2), none⟩) (by have := HHi.out; show b5 < _; omega)).trans (hcell (q * 2) _ g0)
              have hx1 := (HBw.out.cell (p := ⟨b5, o5 + (q * 2 + 1), none⟩) (by have := HHi.out; show b5 < _; omega)).trans (hcell (q * 2 + 1) _ g1)
              rw [← Nat.add_assoc] at hx1
              have HWf := Lib.hid (HWd.out.ents (entAt d q) (by rw [hat]; exact List.getElem_mem hlz))
              have HPar := Lib.hid (show ∀ w' : World, Below wr.heap.size wr w' → ParR w' (fun _ => False) Ap (entAt d q).2 from fun w' hb => parR_of (lo := lo) (hi := hi) (gr.rowC.move (Nat.le_refl _) (Nat.le_refl _) (fun bb h1 h2 => (hb.block bb (by have := HBw.out.size; have := HHi.out; omega)).trans (HBw.out.block bb (by have := HHi.out; omega)))) (by have := HBw.out.size; have := hb.size; have := HHi.out; omega))
              have HNp := Lib.hid (show (entAt d q).2 = [] ∨ ∀ bb oo, Ap = some ⟨bb, oo, none⟩ → bb ≠ b by
                rcases gr with e | ⟨b', o', e, h1, h2, _⟩
                · left
                  have := flat_len (enc := encI64) (sz := 1) (fun x => rfl) (entAt d q).2
                  rw [e] at this
                  exact List.eq_nil_of_length_eq_zero (by simpa using this.symm)
                · right; intro bb oo e2; rw [e] at e2; cases e2; have := HHi.out; have := HHb.out; omega)
              have HBa := Lib.hid ((Below.refl wr.heap.size wr).alloc (Nat.le_refl _) (.cells #[.string (entAt d q).1, .slice Ap (entAt d q).2.length cp] 70))
              have HSk' := Lib.hid (HSk.out.below HBa.out)
              have HMo := Lib.hid (HM.out.trans (OutO.of_below HBa.out))
              have HC := Lib.hid (lent_any (.slice A1 d.text.length c1) (.slice A2 d.data.length c2) (.slice A4 m c4) (.slice A5 n5 c5) (.slice A6 (opsL d.text).length c6) A3 k c3 lo hi b (k + m + q) M3 q (by omega) (by omega) (by omega) d E3.out (by omega) (entAt d q) HWf.out.1 Ap cp HWf.out.2.2 (wr.alloc (.cells #[.string (entAt d q).1, .slice Ap (entAt d q).2.length cp] 70)) HSk'.out (fun i c h => HSs.out.syI i c h) (H3.out.move (Nat.le_refl _) (Nat.le_refl _) (fun bb h1 h2 => (HBa.out.block bb (by have := HBw.out.size; have := HHi.out; omega)).trans (HBw.out.block bb (by have := HHi.out; omega)))) (by have := HBw.out.size; have := HBa.out.size; have := HHi.out; omega) (HPar.out _ HBa.out) HNp.out)
              have HEq := Lib.hid (SeenS.entB (d := d) (M := M3) (kr := m) (ke := q) (by rw [← E3.out] at HAllS; exact HAllS.out) (by rw [E3.out]; exact HSs.out))
              rw [HEq.out] at HC
              clear hcell hat hb2 g0 g1 gr hne
              cases hsy : entOkB d q with
              | false =>
                have HR := Lib.hid (show rightB d = false by unfold rightB entsB; rw [range_all_no hlz hsy]; simp)
                rw [hsy] at HC
                clear hsy hlz
                subst eA5
                go_wp2_with fail
                refine HC.out.mono ?_
                rintro e w2 ⟨rfl, hout, _⟩
                have HO := Lib.hid (HW1.out.trans (HMo.out.trans hout))
                clear hout hbx hx0 hx1
                go_wp2
                go_ret
                exact ⟨ret_bool HR.out.symm, HO.out⟩
              | true =>
                have HAll2 := Lib.hid (all_lt_succ HAll.out hsy)
                rw [hsy] at HC
                clear hsy hlz
                subst eA5
                go_wp2_with fail
                refine HC.out.mono ?_
                rintro e w2 ⟨rfl, hout, hs⟩
                have HG := Lib.hid (show RgS _ b d k m (q + 1) w2 from ⟨HMo.out.trans hout, _, hs (by simp), HSs.out.ent _⟩)
                clear hout hs hbx hx0 hx1
                go_wp2
                go_roundw
                case rel => exact ⟨q + 1, by omega, by go_num, HG.out, HAll2⟩
                case measure => simp [intOf]; omega
            · obtain rfl : q = n5 := by omega
              have HAllE := Lib.hid (range_all_yes (n := q) HAll.out)
              have HR := Lib.hid (show rightB d = true by unfold rightB symsB relsB entsB; rw [E3.out, E4.out, E5.out, HAllS.out, HAllR.out, HAllE.out]; rfl)
              have HO := Lib.hid (HW1.out.trans HM.out)
              clear hlt HAll HSk HSs HM HBw hbx
              go_wp2
              go_ret
              exact ⟨ret_bool HR.out.symm, HO.out⟩
end Go.Proofs.YtfdpbogbnfkilaaDoor
