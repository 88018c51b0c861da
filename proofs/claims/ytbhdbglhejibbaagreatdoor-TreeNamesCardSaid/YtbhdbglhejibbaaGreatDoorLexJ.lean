/- Layer 9: Words. Condition: LxT. -/
import Derived.Test.YtbhdbglhejibbaaGreatDoorLexI
namespace Go.Proofs.YtbhdbglhejibbaaGreatDoor
set_option maxRecDepth 100000
open Go.RowKit
set_option linter.unusedVariables false
def wordsV (s : ByteArray) : Option (List ByteArray) := match wordsP s with | some ws => if nstB ws then some ws else none | none => none
def WordsE (s : ByteArray) (w : World) (e : Ending) (w' : World) : Prop := Below w.heap.size w w' ∧ ((wordsV s = none ∧ e = .returned (.tuple #[.slice none 0 0, .int .i64 3])) ∨ ∃ ws A c, wordsV s = some ws ∧ ws.length ≤ 1000000000 ∧ e = .returned (.tuple #[.slice A ws.length c, .int .i64 0]) ∧ Own w.heap.size w' ws (.slice A ws.length c))
set_option maxHeartbeats 2000000 in
theorem words_any (s : ByteArray) (hs : s.size ≤ 20000) (w : World) (hT : LxT w) : Calls Tryz.prog 28 #[.string s] w (WordsE s w) := by
  have HSp := Lib.hid (split_any s hs w hT)
  have hs' : (s.size : Int) ≤ 20000 := by omega
  clear hT
  go_enter Tryz.func28, Tryz.ntmps28
  go_wp2_with fail
  refine HSp.out.mono ?_
  rintro e w1 ⟨hb, ⟨hw, rfl⟩ | ⟨ws, v, hw, hl, rfl, ho⟩⟩
  · have HR := Lib.hid (show WordsE s w (.returned (.tuple #[.slice none 0 0, .int .i64 3])) w1 from ⟨hb, .inl ⟨by unfold wordsV; rw [hw], rfl⟩⟩)
    clear hb hw
    go_wp2
    go_ret2
    exact HR.out
  · obtain ⟨A, c, rfl⟩ := ho.slice
    have HN := Lib.hid (nested_any ws A ws.length c rfl hl w1 ho.wd)
    cases hb' : nstB ws
    case false =>
      have HR := Lib.hid (show WordsE s w (.returned (.tuple #[.slice none 0 0, .int .i64 3])) w1 from ⟨hb, .inl ⟨by unfold wordsV; rw [hw]; simp [hb'], rfl⟩⟩)
      rw [hb'] at HN
      clear hb hw ho hb'
      go_wp2_with fail
      refine HN.out.mono ?_
      rintro e w2 ⟨rfl, rfl⟩
      go_wp2
      go_ret2
      exact HR.out
    case true =>
      have HR := Lib.hid (show WordsE s w (.returned (.tuple #[.slice A ws.length c, .int .i64 0])) w1 from ⟨hb, .inr ⟨ws, A, c, by unfold wordsV; rw [hw]; simp [hb'], hl, rfl, ho⟩⟩)
      rw [hb'] at HN
      clear hb hw ho hb'
      go_wp2_with fail
      refine HN.out.mono ?_
      rintro e w2 ⟨rfl, rfl⟩
      go_wp2
      go_ret2
      exact HR.out
end Go.Proofs.YtbhdbglhejibbaaGreatDoor
