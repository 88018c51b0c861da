/- Layer 2: what the reference's Decode answers. Condition: the word is one. -/
import Derived.Test.YtjngkifoaljmaaaGreatDoorInsRAs
import Derived.Test.YtjngkifoaljmaaaGreatDoorInsE
import Derived.Test.YtjngkifoaljmaaaGreatDoorInsD
import Derived.Test.YtjngkifoaljmaaaGreatDoorInsDec
namespace Go.Proofs.YtjngkifoaljmaaaGreatDoor
set_option maxRecDepth 100000
open Go.RowKit
set_option linter.unusedVariables false
abbrev AsC (v : Int) (n : Nat) (a b c d : Int) : Prop := ∀ w, Calls Tryz.prog 65 #[.int .u32 v, .int .i64 n] w fun e w' => e = .returned (.agg #[.int .i64 n, .int .i64 a, .int .i64 b, .int .i64 c, .int .i64 d]) ∧ Below w.heap.size w w'
abbrev EnC (n : Nat) (a b c d V E : Int) : Prop := ∀ w, Calls Tryz.prog 16 #[.agg #[.int .i64 n, .int .i64 a, .int .i64 b, .int .i64 c, .int .i64 d]] w fun e w' => e = .returned (.tuple #[.int .u32 V, .int .i64 E]) ∧ Below w.heap.size w w'
theorem numI_ok (v : Int) (hv : IsW v) (n : Nat) (hn : n < 43) : IsI (numberI v (opS n)) := by
  obtain ⟨v0, v1⟩ := hv
  obtain ⟨v, rfl⟩ := Int.eq_ofNat_of_zero_le v0
  have hs := opS_lt hn
  refine num_isI hs ?_
  generalize opS n = s at *
  obtain rfl | rfl | rfl | rfl | rfl | rfl | rfl | rfl : s = 0 ∨ s = 1 ∨ s = 2 ∨ s = 3 ∨ s = 4 ∨ s = 5 ∨ s = 6 ∨ s = 7 := by omega
  · exact (dec_num0 v).1
  · exact (dec_num1 v).1
  · exact (dec_num2 v).1
  · exact (dec_num3 v).1
  · exact (dec_num4 v).1
  · exact (dec_num5 v).1
  · exact (dec_num6 v).1
  · exact (dec_num7 v).1
/-- an operation whose word it isn't -/
theorem step_no (v : Int) (hv : IsW v) (n : Nat) (hn : n < 43) (h : ¬ Match v n) :
    ∃ a b c d V E, AsC v n a b c d ∧ EnC n a b c d V E ∧ ((E == 0) = false ∨ (E = 0 ∧ (V == v) = false)) := by
  refine ⟨regI v 7 (lRd (opS n)), regI v 15 (lR1 (opS n)), regI v 20 (lR2 (opS n)), numberI v (opS n), ?_⟩
  have hi := numI_ok v hv n hn
  cases hM : mayB n (regI v 7 (lRd (opS n))) (regI v 15 (lR1 (opS n))) (regI v 20 (lR2 (opS n))) (numberI v (opS n)) with
  | true =>
    refine ⟨_, 0, as_at v hv n hn, fun w => renc_yes n _ _ _ _ w hn hi hM, .inr ⟨rfl, ?_⟩⟩
    rw [beq_eq_false_iff_ne]
    intro e
    have := (enc_read hn hM).2.1
    rw [e] at this
    exact h this
  | false => exact ⟨0, 1, as_at v hv n hn, fun w => renc_no n _ _ _ _ w hn hi hM, .inl rfl⟩
theorem step_yes (v : Int) (hv : IsW v) (n : Nat) (hn : n < 43) (h : Match v n) :
    AsC v n (regI v 7 (lRd (opS n))) (regI v 15 (lR1 (opS n))) (regI v 20 (lR2 (opS n))) (numberI v (opS n)) ∧ EnC n (regI v 7 (lRd (opS n))) (regI v 15 (lR1 (opS n))) (regI v 20 (lR2 (opS n))) (numberI v (opS n)) v 0 := by
  have hi := numI_ok v hv n hn
  obtain ⟨h1, h2⟩ := dec_enc hv hn h
  refine ⟨as_at v hv n hn, fun w => ?_⟩
  have := renc_yes n _ _ _ _ w hn hi h1
  rw [h2] at this
  exact this
/-- what the loop keeps: the result's block is there, and nothing that was there before is touched -/
abbrev LoopS (w0 w : World) : Prop := Mine5 w w0.heap.size ∧ Below w0.heap.size w0 w
theorem loopS_below {w0 w w' : World} (h : LoopS w0 w) (hb : Below w.heap.size w w') : LoopS w0 w' := ⟨mine5_below h.1 hb, h.2.trans (hb.mono h.2.size)⟩
theorem loopS_alloc {w0 w : World} (h : LoopS w0 w) (o : Obj) : LoopS w0 (w.alloc o) := loopS_below h ((Below.refl _ _).alloc (Nat.le_refl _) _)
theorem insC_at {w1 w2 : World} {a b c d e : Int} {t : TypeId} (h : Below (w1.alloc (.cells #[.int .i64 a, .int .i64 b, .int .i64 c, .int .i64 d, .int .i64 e] t)).heap.size (w1.alloc (.cells #[.int .i64 a, .int .i64 b, .int .i64 c, .int .i64 d, .int .i64 e] t)) w2) : InsC w2 w1.heap.size a b c d e :=
  InsC.below (insC_new (t := t)) h
set_option maxHeartbeats 2000000 in
theorem rdecode_any (v : Int) (K : Nat) (w : World) (hv : IsW v) (hK : K ≤ 43) (hno : ∀ m, m < K → ¬ Match v m) (a b c d r E : Int)
    (hyes : K < 43 → AsC v K a b c d ∧ EnC K a b c d v 0 ∧ r = K ∧ E = 0) (hout : K = 43 → a = 0 ∧ b = 0 ∧ c = 0 ∧ d = 0 ∧ r = 0 ∧ E = 3) :
    Calls Tryz.prog 53 #[.int .u32 v] w fun e w' => e = .returned (.tuple #[.agg #[.int .i64 r, .int .i64 a, .int .i64 b, .int .i64 c, .int .i64 d], .int .i64 E]) ∧ Below w.heap.size w w' := by
  have HV := Lib.hid hv
  have HN := Lib.hid hno
  have HY := Lib.hid hyes
  have HO := Lib.hid hout
  have m5 := mine5_new (w := w) (x0 := .int .i64 0) (x1 := .int .i64 0) (x2 := .int .i64 0) (x3 := .int .i64 0) (x4 := .int .i64 0) (t := 49)
  have M5 := Lib.hid (show LoopS w _ from ⟨m5, (Below.refl w.heap.size w).alloc (Nat.le_refl _) _⟩)
  clear hv hno hyes hout m5
  go_enter Tryz.func53, Tryz.ntmps53
  go_wp2
  go_loopw [4] (fun i wr => ∃ k : Nat, k ≤ K ∧ i = .int .i64 k ∧ Hid (LoopS w wr)) (fun i _ => K + 1 - (intOf i).toNat)
  case atStart => exact ⟨0, Nat.zero_le _, rfl, M5⟩
  case round =>
    obtain ⟨k, hk, rfl, HL⟩ := hrel
    clear M5
    by_cases hlt : k < K
    · obtain ⟨a', b', c', d', V, E', q1, q2, q3⟩ := step_no v HV.out k (by omega) (HN.out k hlt)
      have Q1 := Lib.hid q1
      have Q2 := Lib.hid q2
      have g1 : (k : Int) ≤ 42 := by omega
      clear q1 q2
      rcases q3 with q3 | ⟨rfl, q3⟩
      all_goals
        go_wp2_with fail
        refine (Q1.out _).mono ?_
        rintro e w1 ⟨rfl, hb⟩
        have H1 := Lib.hid (loopS_below HL.out hb)
        clear hb HL
        go_wp2_with fail
        refine (Q2.out _).mono ?_
        rintro e w2 ⟨rfl, hb⟩
        have H2 := Lib.hid (loopS_below (loopS_alloc H1.out _) hb)
        clear hb H1
        go_wp2
        go_roundw
        case rel => exact ⟨k + 1, by omega, by go_num, H2⟩
        case measure => simp [intOf]; omega
    · have hk' : k = K := by omega
      by_cases h43 : k < 43
      · subst hk'
        obtain ⟨q1, q2, rfl, rfl⟩ := HY.out h43
        have Q1 := Lib.hid q1
        have Q2 := Lib.hid q2
        have g1 : (k : Int) ≤ 42 := by omega
        clear q1 q2
        go_wp2_with fail
        refine (Q1.out _).mono ?_
        rintro e w1 ⟨rfl, hb⟩
        have H1 := Lib.hid (loopS_below HL.out hb)
        clear hb HL
        go_wp2_with fail
        refine (Q2.out _).mono ?_
        rintro e w2 ⟨rfl, hb⟩
        have H2 := Lib.hid (loopS_below (loopS_alloc H1.out _) hb)
        obtain ⟨x0, x1, x2, x3, x4⟩ := insC_at hb
        obtain ⟨m0, m1, m2, m3, m4, f0, f1, f2, f3, f4⟩ := H2.out.1
        clear hb H1
        generalize cellOr w2 _ = y0 at m0
        generalize cellOr w2 _ = y1 at m1
        generalize cellOr w2 _ = y2 at m2
        generalize cellOr w2 _ = y3 at m3
        generalize cellOr w2 _ = y4 at m4
        go_wp2
        refine bodyPost_ret (v := .tuple #[.agg #[.int .i64 k, .int .i64 a, .int .i64 b, .int .i64 c, .int .i64 d], .int .i64 0]) (by simp [results, Tryz.results53, go_sem, m0, m1, m2, m3, m4]) rfl ⟨rfl, ?_⟩
        exact ((((H2.out.2.setCell (Nat.le_refl _) _).setCell (Nat.le_refl _) _).setCell (Nat.le_refl _) _).setCell (Nat.le_refl _) _).setCell (Nat.le_refl _) _
      · have g1 : ¬ (k : Int) ≤ 42 := by omega
        obtain ⟨rfl, rfl, rfl, rfl, rfl, rfl⟩ := HO.out (by omega)
        obtain ⟨m0, m1, m2, m3, m4, f0, f1, f2, f3, f4⟩ := HL.out.1
        generalize cellOr wr _ = y0 at m0
        generalize cellOr wr _ = y1 at m1
        generalize cellOr wr _ = y2 at m2
        generalize cellOr wr _ = y3 at m3
        generalize cellOr wr _ = y4 at m4
        go_wp2
        refine bodyPost_ret (v := .tuple #[.agg #[.int .i64 0, .int .i64 0, .int .i64 0, .int .i64 0, .int .i64 0], .int .i64 3]) (by simp [results, Tryz.results53, go_sem, m0, m1, m2, m3, m4]) rfl ⟨rfl, ?_⟩
        exact ((((HL.out.2.setCell (Nat.le_refl _) _).setCell (Nat.le_refl _) _).setCell (Nat.le_refl _) _).setCell (Nat.le_refl _) _).setCell (Nat.le_refl _) _
theorem rdecode_yes (v : Int) (n : Nat) (w : World) (hv : IsW v) (hn : n < 43) (hM : Match v n) :
    Calls Tryz.prog 53 #[.int .u32 v] w fun e w' => e = .returned (.tuple #[.agg #[.int .i64 n, .int .i64 (regI v 7 (lRd (opS n))), .int .i64 (regI v 15 (lR1 (opS n))), .int .i64 (regI v 20 (lR2 (opS n))), .int .i64 (numberI v (opS n))], .int .i64 0]) ∧ Below w.heap.size w w' := by
  obtain ⟨h1, h2⟩ := step_yes v hv n hn hM
  exact rdecode_any v n w hv (by omega) (fun m hm h => by have := Match.one (by omega) hn h hM; omega) _ _ _ _ n 0 (fun _ => ⟨h1, h2, rfl, rfl⟩) (fun h => by omega)
theorem rdecode_no (v : Int) (w : World) (hv : IsW v) (hn : ∀ n, n < 43 → ¬ Match v n) :
    Calls Tryz.prog 53 #[.int .u32 v] w fun e w' => e = .returned (.tuple #[.agg #[.int .i64 0, .int .i64 0, .int .i64 0, .int .i64 0, .int .i64 0], .int .i64 3]) ∧ Below w.heap.size w w' :=
  rdecode_any v 43 w hv (by omega) hn 0 0 0 0 0 3 (fun h => by omega) (fun _ => ⟨rfl, rfl, rfl, rfl, rfl, rfl⟩)
end Go.Proofs.YtjngkifoaljmaaaGreatDoor
