/- Layer 6: the reference's Small: some bool, whatever the object. No condition. -/
import Derived.Test.YtfdpbogbnfkilaaDoorObjEx
namespace Go.Proofs.YtfdpbogbnfkilaaDoor
set_option maxRecDepth 100000
open Go.RowKit
set_option linter.unusedVariables false
/-- some bool -/
def SomeBool (e : Ending) : Prop := ∃ b, e = .returned (.bool b)
set_option maxHeartbeats 2000000 in
theorem rsmall_any (d : ObjD) (v : Value) (lo hi : Nat) (w : World) (hO : ObjAt w lo hi d v) (hh : hi ≤ w.heap.size) (hl : ObjL d) :
    Calls Tryd.prog 13 #[v] w fun e w' => SomeBool e ∧ Below w.heap.size w w' := by
  obtain ⟨A1, c1, A2, c2, A3, c3, A4, c4, A5, c5, es, rfl, p1, p2, p3, p4, p5, p6⟩ := hO
  obtain ⟨n1, f1⟩ : ∃ n, d.text.length = n := ⟨_, rfl⟩
  obtain ⟨n2, f2⟩ : ∃ n, d.data.length = n := ⟨_, rfl⟩
  obtain ⟨n3, f3⟩ : ∃ n, d.syms.length = n := ⟨_, rfl⟩
  obtain ⟨n4, f4⟩ : ∃ n, d.rels.length = n := ⟨_, rfl⟩
  obtain ⟨n5, f5⟩ : ∃ n, d.ents.length = n := ⟨_, rfl⟩
  rw [f1, f2, f3, f4, f5]
  have b5 : n5 ≤ 9223372036854775807 := by have := hl.le; unfold maxLen at this; omega
  have HB0 := Lib.hid ((Below.refl w.heap.size w).alloc (Nat.le_refl _) (.cells #[.slice A1 n1 c1, .slice A2 n2 c2, .slice A3 n3 c3, .slice A4 n4 c4, .slice A5 n5 c5] 28))
  have hX0 := heap_alloc_new w (.cells #[.slice A1 n1 c1, .slice A2 n2 c2, .slice A3 n3 c3, .slice A4 n4 c4, .slice A5 n5 c5] 28)
  have HX0 := Lib.hid hX0
  have HL := Lib.hid hl
  have P5 := Lib.hid p5
  have P6 := Lib.hid p6
  have HN := Lib.hid f5
  have HH := Lib.hid hh
  clear p1 p2 p3 p4 p5 p6 f1 f2 f3 f4 f5 hl hh hX0
  go_enter Tryd.func13, Tryd.ntmps13
  go_wp2
  go_loopw [3, 4] (fun z i wr => ∃ (k : Nat) (y : Int), k ≤ n5 ∧ z = .int .i64 y ∧ i = .int .i64 k ∧ Hid (Below w.heap.size w wr) ∧ Hid (wr.heap[w.heap.size]? = some (.cells #[.slice A1 n1 c1, .slice A2 n2 c2, .slice A3 n3 c3, .slice A4 n4 c4, .slice A5 n5 c5] 28 (0, 0)))) (fun _ i _ => n5 - (intOf i).toNat)
  case atStart => exact ⟨0, 0, by omega, rfl, rfl, HB0, HX0⟩
  case round =>
    clear HB0 HX0
    obtain ⟨k, y, hk, rfl, rfl, HW, HX⟩ := hrel
    obtain ⟨⟨x0, x1, x2, x3, x4⟩, _⟩ := row_cells5 HX.out
    by_cases hlt : k < n5
    · have k0 : (0 : Int) ≤ k := by omega
      have k1 : (k : Int) < n5 := by omega
      have hle : k < d.ents.length := by rw [HN.out]; exact hlt
      obtain ⟨Ap, cp, g0, g1, gr⟩ := P6.out.get hle
      have hne : es ≠ [] := fun e => by rw [e] at g0; cases g0
      rcases P5.out with e | ⟨b1, o1, rfl, _, hb1, hc1⟩
      · exact absurd e hne
      have hx1 := (HW.out.cell (p := ⟨b1, o1 + (k * 2 + 1), none⟩) (by have := HH.out; show b1 < _; omega)).trans (hc1 (k * 2 + 1) _ g1)
      rw [← Nat.add_assoc] at hx1
      clear gr g0 g1 hc1 hne hb1
      go_wp2
      go_roundw
      case rel => exact ⟨k + 1, _, by omega, rfl, by go_num, HW, HX⟩
      case measure => simp [intOf]; omega
    · obtain rfl : k = n5 := by omega
      clear hlt
      go_wp2
      all_goals
        go_ret
        exact ⟨⟨_, rfl⟩, HW.out⟩
end Go.Proofs.YtfdpbogbnfkilaaDoor
