/- Layer 6: the reference's Encode. No condition. -/
import Derived.Test.YtmpieeadkkeniaaGreatDoorObjLb
namespace Go.Proofs.YtmpieeadkkeniaaGreatDoor
set_option maxRecDepth 100000
open Go.RowKit
set_option linter.unusedVariables false
theorem slB_sl {w : World} {hi : Nat} {A : Option Addr} {l : List Int} (h : SlB w hi A l) : Sl w A l := by
  rcases h with h | ⟨b, off, e, hb, hc⟩
  · exact .inl h
  · exact .inr ⟨b, off, e, hc⟩
theorem slB_down {w w' : World} {hi : Nat} {A : Option Addr} {l : List Int} (h : SlB w hi A l) (hh : hi ≤ w.heap.size) (hb : Below w.heap.size w w') : SlB w' w'.heap.size A l := by
  rcases h with rfl | ⟨b, off, rfl, h1, hc⟩
  · exact .inl rfl
  · exact .inr ⟨b, off, rfl, by have := hb.size; omega, fun k hk => by rw [World.cell?_of_block (hb.block b (by omega))]; exact hc k hk⟩
theorem wrL_bytes {w0 w : World} {v : Value} {l : List Int} (h : WrL w0 v l w) (hl : 0 < l.length) : ∃ A c, v = .slice A l.length c ∧ SlB w w.heap.size A l ∧ l.length ≤ c ∧ c ≤ maxLen ∧ ∀ b o, A = some ⟨b, o, none⟩ → w0.heap.size ≤ b := by
  obtain ⟨h2, _⟩ := h
  rcases h2.2 with ⟨h3, h4⟩ | ⟨g, cap, cur, h3, h4, h5, h6, h7, _⟩
  · omega
  · subst h3
    refine ⟨_, _, rfl, .inr ⟨g, 0, rfl, (Array.getElem?_eq_some_iff.1 h5).1, fun k hk => ?_⟩, h6, h7, fun b o e => by cases e; exact h4⟩
    have := h2.cells (g := g) rfl k (.int .u8 (nth l k)) (by unfold u8L; rw [List.getElem?_map, List.getElem?_eq_getElem hk, nth_get hk]; rfl)
    rwa [addO] at this
theorem encB_pos (d : ObjD) : 0 < (encB d).length := by unfold encB magicW; simp
theorem may_len {d : ObjD} (hW : ObjW d) (h : mayO d = true) : ObjF d ∧ (encB d).length ≤ 700000 := by
  have h2 := may_fits hW h
  rw [mayO_eq] at h
  simp only [Bool.and_eq_true] at h
  exact ⟨h2, encB_len h2 (few_of h.1.1)⟩
set_option maxHeartbeats 2000000 in
theorem renc_any (d : ObjD) (hW : ObjW d) (v : Value) (lo hi : Nat) (w : World) (hO : ObjAt w lo hi d v) (hhi : hi ≤ w.heap.size) :
    Calls Tryz.prog 9 #[v] w (EncP d w) := by
  have hO' := hO
  obtain ⟨A1, c1, A2, c2, A3, c3, A4, c4, A5, c5, es, rfl, _⟩ := hO'
  have HB0 := Lib.hid ((Below.refl w.heap.size w).alloc (Nat.le_refl _) (.cells #[.slice A1 d.text.length c1, .slice A2 d.data.length c2, .slice A3 d.syms.length c3, .slice A4 d.rels.length c4, .slice A5 d.ents.length c5] 28))
  have HX0 := Lib.hid (heap_alloc_new w (.cells #[.slice A1 d.text.length c1, .slice A2 d.data.length c2, .slice A3 d.syms.length c3, .slice A4 d.rels.length c4, .slice A5 d.ents.length c5] 28))
  have HO := Lib.hid hO
  have HHi := Lib.hid hhi
  have HWd := Lib.hid hW
  obtain ⟨⟨x0, x1, x2, x3, x4⟩, _⟩ := row_cells5 HX0.out
  clear hO hW hhi
  go_enter Tryz.func9, Tryz.ntmps9
  go_wp2_with fail
  refine (rmay_any d HWd.out _ lo hi _ (HO.out.below HHi.out HB0.out) (Nat.le_trans HHi.out HB0.out.size)).mono ?_
  rintro e wm ⟨rfl, hb⟩
  have HBm := Lib.hid (HB0.out.trans (hb.mono HB0.out.size))
  have HXm := Lib.hid ((hb.block _ (Array.getElem?_eq_some_iff.1 HX0.out).1).trans HX0.out)
  clear hb x0 x1 x2 x3 x4 HB0 HX0
  cases hm : mayO d
  case false =>
    go_wp2
    go_ret2
    exact ⟨HBm.out, fun _ => rfl, (fun h => by rw [hm] at h; cases h)⟩
  obtain ⟨hF, hlen⟩ := may_len HWd.out hm
  have HM := Lib.hid hm
  have HF := Lib.hid hF
  have HLen := Lib.hid hlen
  obtain ⟨⟨x0, x1, x2, x3, x4⟩, _⟩ := row_cells5 HXm.out
  clear hm hF hlen
  go_wp2_with fail
  refine (rwrite_any d HF.out HLen.out _ lo hi wm (HO.out.below HHi.out HBm.out) (Nat.le_trans HHi.out HBm.out.size)).mono ?_
  rintro e ww ⟨vv, rfl, hwr⟩
  have HWr := Lib.hid hwr
  obtain ⟨A, c, rfl, hs, hc, hm, hA⟩ := wrL_bytes hwr (encB_pos d)
  have HS := Lib.hid hs
  have HC := Lib.hid (And.intro hc hm)
  have HA := Lib.hid hA
  clear hwr hs hc hm hA x0 x1 x2 x3 x4
  go_wp2
  go_ret2
  exact ⟨HBm.out.trans (HWr.out.2.mono HBm.out.size), (fun h => by rw [HM.out] at h; cases h), fun _ => ⟨A, c, rfl, HS.out, HC.out.1, HC.out.2, fun b o e => Nat.le_trans HBm.out.size (HA.out b o e)⟩⟩
end Go.Proofs.YtmpieeadkkeniaaGreatDoor
