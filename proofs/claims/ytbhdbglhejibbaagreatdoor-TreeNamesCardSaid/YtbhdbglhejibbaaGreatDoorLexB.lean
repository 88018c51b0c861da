/- Layer 9: Nested, of the program and of the reference. No condition. -/
import Derived.Test.YtbhdbglhejibbaaGreatDoorLexA
namespace Go.Proofs.YtbhdbglhejibbaaGreatDoor
set_option maxRecDepth 100000
open Go.RowKit
set_option linter.unusedVariables false
def wdK (l : List ByteArray) (k : Nat) : ByteArray := l.getD k ByteArray.empty
/-- a row of words as it lies, wherever -/
def WdAt (w : World) (A : Option Addr) (l : List ByteArray) : Prop := l = [] ∨ ∃ b o, A = some ⟨b, o, none⟩ ∧ ∀ k, k < l.length → w.cell? ⟨b, o + k, none⟩ = some (.string (wdK l k))
theorem cell_lt {w : World} {b o : Nat} {v : Value} (h : w.cell? ⟨b, o, none⟩ = some v) : b < w.heap.size := by
  rcases Nat.lt_or_ge b w.heap.size with h' | h'
  · exact h'
  · unfold World.cell? at h
    simp [Array.getElem?_eq_none h'] at h
theorem WdAt.below {w w' : World} {A : Option Addr} {l : List ByteArray} (h : WdAt w A l) (hb : Below w.heap.size w w') : WdAt w' A l := by
  rcases h with h | ⟨b, o, h1, h2⟩
  · exact .inl h
  · refine .inr ⟨b, o, h1, fun k hk => ?_⟩
    have := h2 k hk
    rw [← this]
    exact hb.cell (p := ⟨b, o + k, none⟩) (cell_lt this)
theorem drop_wd {l : List ByteArray} {k : Nat} (h : k < l.length) : l.drop k = wdK l k :: l.drop (k + 1) := by
  rw [List.drop_eq_getElem_cons h]
  unfold wdK
  simp [h]
/-- how many are open behind words, if it was right all along -/
def nstP : List ByteArray → Int → Option Int
  | [], k => some k
  | s :: l, k => if k + opnW s < 0 ∨ 24 < k + opnW s then none else nstP l (k + opnW s)
def nstB (l : List ByteArray) : Bool := nstP l 0 == some 0
set_option maxHeartbeats 1000000 in
theorem nested_any (l : List ByteArray) (A : Option Addr) (n c : Nat) (hn : l.length = n) (hmx : n ≤ 1000000000) (w : World) (hA : WdAt w A l) :
    Calls Tryz.prog 48 #[.slice A n c] w fun e w' => e = .returned (.bool (nstB l)) ∧ w = w' := by
  rcases hA with rfl | ⟨b, o, rfl, hc⟩
  · simp only [List.length_nil] at hn
    subst hn
    go_enter Tryz.func48, Tryz.ntmps48
    go_wp2
    go_loop [3, 8] (fun t i => i = .int .i64 ((0 : Nat) : Int) ∧ t = .int .i64 0) (fun _ i => 0)
    case atStart => exact ⟨rfl, rfl⟩
    case round =>
      obtain ⟨rfl, rfl⟩ := hrel
      go_wp2
      go_ret
      exact ⟨rfl, rfl⟩
  · have HC := Lib.hid hc
    have HL := Lib.hid hn
    clear hc hn
    go_enter Tryz.func48, Tryz.ntmps48
    go_wp2
    go_loop [3, 8] (fun t i => ∃ (k : Nat) (p : Int), k ≤ n ∧ 0 ≤ p ∧ p ≤ 24 ∧ i = .int .i64 k ∧ t = .int .i64 p ∧ Hid (nstP l 0 = nstP (l.drop k) p)) (fun _ i => n - (intOf i).toNat)
    case atStart => exact ⟨0, 0, by omega, by omega, by omega, rfl, rfl, Lib.hid rfl⟩
    case round =>
      obtain ⟨k, p, hk, hp0, hp1, rfl, rfl, HP⟩ := hrel
      by_cases hlt : k < n
      · have hlt' : k < l.length := by rw [HL.out]; exact hlt
        have hcell := HC.out k hlt'
        have hb := opnW_bd (wdK l k)
        have HN := Lib.hid (show nstP (l.drop k) p = if p + opnW (wdK l k) < 0 ∨ 24 < p + opnW (wdK l k) then none else nstP (l.drop (k + 1)) (p + opnW (wdK l k)) from by rw [drop_wd hlt']; rfl)
        clear hlt'
        generalize hq : opnW (wdK l k) = q at *
        have HQ := Lib.hid hq
        clear hq
        go_wp2_with (go_at_call 80; refine (opens_any _ _).mono ?_; rintro e w' ⟨rfl, rfl⟩; rw [HQ.out])
        all_goals first
          | (go_ret; exact ⟨ret_bool' (by unfold nstB; rw [HP.out, HN.out, if_pos (by omega)]; rfl), rfl⟩)
          | (go_round
             case rel => exact ⟨k + 1, p + q, by omega, by omega, by omega, by go_num, rfl, Lib.hid (by rw [HP.out, HN.out, if_neg (by omega)])⟩
             case measure => simp [intOf]; omega)
      · have HE := Lib.hid (show nstP (l.drop k) p = some p from by rw [List.drop_eq_nil_of_le (by rw [HL.out]; omega)]; rfl)
        go_wp2
        go_ret
        exact ⟨ret_bool' (by unfold nstB; rw [HP.out, HE.out, Bool.eq_iff_iff]; simp), rfl⟩
end Go.Proofs.YtbhdbglhejibbaaGreatDoor
