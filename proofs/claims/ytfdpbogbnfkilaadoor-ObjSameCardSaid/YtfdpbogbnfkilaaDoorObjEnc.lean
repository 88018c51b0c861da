/- Layer 6: Encode of package obj. Condition: the tables of package ins read as they should. -/
import Derived.Test.YtfdpbogbnfkilaaDoorObjWrO
import Derived.Test.YtfdpbogbnfkilaaDoorObjMayQ
import Derived.Test.YtfdpbogbnfkilaaDoorObjRdT
namespace Go.Proofs.YtfdpbogbnfkilaaDoor
set_option maxRecDepth 100000
open Go.RowKit
set_option linter.unusedVariables false
theorem flat_le {α : Type} {e : α → List Int} {m : Nat} : ∀ {xs : List α}, (∀ x ∈ xs, (e x).length ≤ m) → (xs.flatMap e).length ≤ xs.length * m
  | [], _ => by simp
  | x :: xs, h => by
    rw [List.flatMap_cons, List.length_append, List.length_cons, Nat.succ_mul]
    have h1 := h x (by simp)
    have h2 := flat_le (xs := xs) (fun y hy => h y (by simp [hy]))
    omega
theorem encB_len {d : ObjD} (hF : ObjF d) (hf : d.text.length ≤ 4096 ∧ d.data.length ≤ 1024 ∧ d.syms.length ≤ 256 ∧ d.rels.length ≤ 1024 ∧ d.ents.length ≤ 64) : (encB d).length ≤ 700000 := by
  have a1 := flat_le (e := fun x => bytesL x 4) (m := 4) (xs := d.text) (fun x _ => by simp [bytesL_length])
  have a2 := flat_le (e := fun x => bytesL x 8) (m := 8) (xs := d.data) (fun x _ => by simp [bytesL_length])
  have a3 := flat_le (e := symWt) (m := 261) (xs := d.syms) (fun x hx => by unfold symWt; rw [symW_len]; have := (hF.syms x hx).1; omega)
  have a4 := flat_le (e := relWt) (m := 269) (xs := d.rels) (fun x hx => by unfold relWt; rw [relW_len]; have := (hF.rels x hx).2.2.1; omega)
  have a5 := flat_le (e := entWt) (m := 512) (xs := d.ents) (fun x hx => by unfold entWt entryW; simp only [List.length_append, nameW_len, bytesL_length, paramW_len]; have h := hF.ents x hx; have h1 := h.1; have h2 := h.2.1; omega)
  have a0 : (headW d).length = 10 := by unfold headW; simp [bytesL_length]
  unfold encB magicW
  simp only [List.length_append, List.length_cons, List.length_nil]
  omega
/-- bytes of a row of the call's own -/
def EncP (d : ObjD) (w : World) (e : Ending) (w' : World) : Prop :=
  Below w.heap.size w w' ∧ (mayO d = false → e = .returned (.tuple #[.slice none 0 0, .int .i64 1])) ∧
    (mayO d = true → ∃ A c, e = .returned (.tuple #[.slice A (encB d).length c, .int .i64 0]) ∧ SlB w' w'.heap.size A (encB d) ∧ (encB d).length ≤ c ∧ c ≤ maxLen ∧ ∀ b o, A = some ⟨b, o, none⟩ → w.heap.size ≤ b)
theorem WrV.bytes {w : World} {p n c : Nat} {F : Nat → Prop} {l : List Int} {A : Option Addr} (h : WrV w p F l (.slice A n c)) : n = l.length ∧ SlB w w.heap.size A l ∧ n ≤ c ∧ c ≤ maxLen ∧ ∀ b o, A = some ⟨b, o, none⟩ → p < b := by
  obtain ⟨_, h2, _⟩ := h
  have hl := h2.1
  rw [List.length_map] at hl
  rcases h2.2 with ⟨h3, h4⟩ | ⟨g, cap, cur, h3, h4, h5, h6, h7, _⟩
  · cases h3
    have : l = [] := List.eq_nil_of_length_eq_zero h4
    exact ⟨h4.symm, .inl this, Nat.le_refl _, Nat.zero_le _, fun b o e => by cases e⟩
  · cases h3
    refine ⟨rfl, .inr ⟨g, 0, rfl, (Array.getElem?_eq_some_iff.1 h5).1, fun k hk => ?_⟩, h6, h7, fun b o e => by cases e; omega⟩
    have := h2.cells (g := g) rfl k (.int .u8 (nth l k)) (by rw [List.getElem?_map, List.getElem?_eq_getElem hk, nth_get hk]; rfl)
    rwa [addO] at this
set_option maxHeartbeats 2000000 in
theorem enc_any (d : ObjD) (hW : ObjW d) (v : Value) (lo hi : Nat) (w : World) (hT : Tabs w) (hO : ObjAt w lo hi d v) (hhi : hi ≤ w.heap.size) :
    Calls Tryd.prog 18 #[v] w (EncP d w) := by
  have hO' := hO
  obtain ⟨A1, c1, A2, c2, A3, c3, A4, c4, A5, c5, es, rfl, _⟩ := hO'
  have HB0 := Lib.hid ((Below.refl w.heap.size w).alloc (Nat.le_refl _) (.cells #[.slice A1 d.text.length c1, .slice A2 d.data.length c2, .slice A3 d.syms.length c3, .slice A4 d.rels.length c4, .slice A5 d.ents.length c5] 28))
  have HX0 := Lib.hid (heap_alloc_new w (.cells #[.slice A1 d.text.length c1, .slice A2 d.data.length c2, .slice A3 d.syms.length c3, .slice A4 d.rels.length c4, .slice A5 d.ents.length c5] 28))
  have HO := Lib.hid hO
  have HT := Lib.hid hT
  have HHi := Lib.hid hhi
  have HWd := Lib.hid hW
  clear hO hT hhi hW
  go_enter Tryd.func18, Tryd.ntmps18
  go_wp2_with fail
  refine (may_obj d HWd.out _ lo hi _ (HT.out.below HB0.out) (HO.out.move (Nat.le_refl _) (Nat.le_refl _) (fun b g1 g2 => HB0.out.block b (by have := HHi.out; omega))) (by have := HHi.out; have := HB0.out.size; omega)).mono ?_
  rintro e w1 ⟨rfl, hb⟩
  have HB1 := Lib.hid (HB0.out.trans (hb.mono HB0.out.size))
  have HX1 := Lib.hid ((hb.block w.heap.size (by simp)).trans HX0.out)
  clear hb
  cases hm : mayO d with
  | false =>
    have HM := Lib.hid hm
    clear hm
    go_wp2
    go_ret2
    exact ⟨HB1.out, fun _ => rfl, (fun h => by rw [HM.out] at h; cases h)⟩
  | true =>
  have HM := Lib.hid hm
  have HFd := Lib.hid (may_fits HWd.out hm)
  have HLe := Lib.hid (encB_len HFd.out (by have h := hm; rw [mayO_eq] at h; simp only [Bool.and_eq_true] at h; exact few_of h.1.1))
  have HOb := Lib.hid (show ObjAt (w1.alloc (.cells #[.slice none 0 0] 81)) lo hi d (.agg #[.slice A1 d.text.length c1, .slice A2 d.data.length c2, .slice A3 d.syms.length c3, .slice A4 d.rels.length c4, .slice A5 d.ents.length c5]) from HO.out.move (Nat.le_refl _) (Nat.le_refl _) (fun b g1 g2 => (heap_alloc_old w1 _ (by have := HHi.out; have := HB1.out.size; omega)).trans (HB1.out.block b (by have := HHi.out; omega))))
  have HWr := Lib.hid (show WrIs (w1.alloc (.cells #[.slice none 0 0] 81)) w1.heap.size (fun b => w1.heap.size ≤ b) [] from ⟨.slice none 0 0, heap_alloc_new w1 _, World.ownsRow_nil _ _ _ _, Nat.le_refl _, (fun b h => by cases h), fun b h => by simp at h; omega⟩)
  have HBw := Lib.hid (HB1.out.trans (((Below.refl w1.heap.size w1).alloc (Nat.le_refl _) (.cells #[.slice none 0 0] 81)).mono HB1.out.size))
  have HXw := Lib.hid ((heap_alloc_old w1 (.cells #[.slice none 0 0] 81) (Array.getElem?_eq_some_iff.1 HX1.out).1).trans HX1.out)
  obtain ⟨⟨z0, z1, z2, z3, z4⟩, gr⟩ := row_cells5 HXw.out
  clear hm
  go_wp2_with fail
  refine (wobj_any d HFd.out HLe.out _ lo hi w1.heap.size (fun b => w1.heap.size ≤ b) _ HOb.out (fun b hb h => by have := HHi.out; have := HB1.out.size; omega) (by have := HHi.out; have := HBw.out.size; omega) HWr.out).mono ?_
  rintro e w2 ⟨rfl, hw, ho⟩
  have HB2 := Lib.hid (show Below w.heap.size w w2 from
    ⟨ho.os.trans HBw.out.os, ho.tape.trans HBw.out.tape, ho.output.trans HBw.out.output, Nat.le_trans HBw.out.size ho.size, fun k hk => (ho.block k (Nat.lt_of_lt_of_le hk HBw.out.size) (by have := HB1.out.size; show ¬ w1.heap.size ≤ k; omega)).trans (HBw.out.block k hk)⟩)
  obtain ⟨s, hV⟩ := hw
  obtain ⟨A, n, rfl⟩ : ∃ A n, s = .slice A (encB d).length n := ownO_slice hV.2.1
  have hc := hV.cell
  have hlt := hV.lt
  have hf := hV.free
  have HBy := Lib.hid hV.bytes
  have HSz := Lib.hid HB1.out.size
  clear hV ho z0 z1 z2 z3 z4 gr
  go_wp2
  go_ret2
  exact ⟨HB2.out, (fun h => by rw [HM.out] at h; cases h), fun _ => ⟨A, n, rfl, HBy.out.2.1, HBy.out.2.2.1, HBy.out.2.2.2.1, fun b o e => by have := HBy.out.2.2.2.2 b o e; have := HSz.out; omega⟩⟩
end Go.Proofs.YtfdpbogbnfkilaaDoor
