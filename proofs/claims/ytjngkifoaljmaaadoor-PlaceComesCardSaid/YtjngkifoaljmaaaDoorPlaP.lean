/- Layer 8: which kinds suit which words, plainly. No condition. -/
import Derived.Test.YtjngkifoaljmaaaDoorPlaF
import Derived.Test.YtjngkifoaljmaaaDoorInsC
namespace Go.Proofs.YtjngkifoaljmaaaDoor
set_option maxRecDepth 100000
open Go.RowKit
set_option linter.unusedVariables false
theorem su_yes {v kind : Int} {n : Nat} (h : opOf v = some n) (hs : suitB kind n = true) : mayO (suO v kind) = true := by
  unfold mayO suO fewB textB symsB relsB entsB relOkB relAt nth opsL
  simp [h, hs, inB, List.range_succ]
  decide +kernel
theorem su_no {v kind : Int} {n : Nat} (h : opOf v = some n) (hs : suitB kind n = false) : mayO (suO v kind) = false := by
  unfold mayO suO relsB relOkB relAt nth opsL
  simp [h, hs, List.range_succ]
theorem su_none {v kind : Int} (h : opOf v = none) : mayO (suO v kind) = false := by
  unfold mayO suO textB
  simp [h]
theorem op_of {x : Int} {n : Nat} (hn : n < 43) (h : Match x n) : opOf x = some n := by
  cases e : opOf x with
  | none => exact absurd h (opOf_none e n hn)
  | some m =>
    obtain ⟨h1, h2⟩ := opOf_some e
    rw [Match.one h1 hn h2 h]
/-- an instruction that may be, done -/
theorem rel_enc {n : Nat} {rd r1 r2 imm kind p v : Int} (hn : n < 43) (h : mayB n rd r1 r2 imm = true) (hs : suitB kind n = true) :
    relV (encI n rd r1 r2 imm) kind p v = if mayB n rd r1 r2 (numV kind p v) = true then (encI n rd r1 r2 (numV kind p v), 0) else (0, 5) := by
  obtain ⟨_, h2, h3, h4, h5, _⟩ := enc_read hn h
  have ho := op_of hn h2
  unfold relV
  rw [if_pos (su_yes ho hs)]
  unfold doneV
  rw [ho]
  simp only
  unfold insW
  rw [h3, h4, h5]
  by_cases hm : mayB n rd r1 r2 (numV kind p v) = true
  · rw [if_pos hm, if_pos hm]
  · rw [if_neg hm, if_neg hm]
theorem num_hi {p v : Int} (h0 : 0 ≤ v) (h1 : v < 2147481600) : numV 0 p v = v + 2048 - (v + 2048) % 4096 := by
  obtain ⟨m, rfl⟩ := Int.eq_ofNat_of_zero_le h0
  have e : IntKind.u64.wrap ((m : Int) + 2048) = ((m + 2048 : Nat) : Int) := by rw [IntKind.wrap_u64]; omega
  unfold numV put putN
  rw [if_pos rfl, e]
  have e2 : (2 : Nat) ^ Int.toNat 0 * (2 ^ Int.toNat 12 * ((((m + 2048 : Nat) : Int).toNat) / 2 ^ (Int.toNat 0 + Int.toNat 12)) + Int.toNat 0 % 2 ^ Int.toNat 12) + (((m + 2048 : Nat) : Int).toNat) % 2 ^ Int.toNat 0 = 4096 * ((m + 2048) / 4096) := by
    simp only [Int.toNat_natCast]
    have a : (2 : Nat) ^ Int.toNat 0 = 1 := rfl
    have b : (2 : Nat) ^ Int.toNat 12 = 4096 := rfl
    have c : (2 : Nat) ^ (Int.toNat 0 + Int.toNat 12) = 4096 := rfl
    have d : Int.toNat 0 = 0 := rfl
    rw [a, b, c, d]
    omega
  rw [e2]
  unfold wrap64
  omega
theorem num_lo {p v : Int} (h0 : 0 ≤ v) (h1 : v < 2147481600) : numV 1 p v = (v + 2048) % 4096 - 2048 := by
  obtain ⟨m, rfl⟩ := Int.eq_ofNat_of_zero_le h0
  unfold numV sgn
  rw [if_neg (by omega), if_pos rfl]
  have b : (2 : Nat) ^ Int.toNat 12 = 4096 := rfl
  rw [b, Int.toNat_natCast]
  split <;> omega
theorem may38 {r n : Int} (h1 : 0 ≤ r) (h2 : r < 32) (hn : IsI n) : mayB 38 r 0 0 n = true ↔ NumOk 5 n := by
  rw [← num_ok n hn (s := 5) (by decide)]
  unfold mayB
  rw [show opS 38 = 5 from rfl]
  have e0 : fitB r (lRd 5) = true := by show regB r = true; unfold regB; simp; omega
  have e1 : fitB 0 (lR1 5) = true := rfl
  have e2 : fitB 0 (lR2 5) = true := rfl
  rw [e0, e1, e2]
  simp
theorem may16 {r n : Int} (h1 : 0 ≤ r) (h2 : r < 32) (hn : IsI n) : mayB 16 r r 0 n = true ↔ NumOk 1 n := by
  rw [← num_ok n hn (s := 1) (by decide)]
  unfold mayB
  rw [show opS 16 = 1 from rfl]
  have e0 : fitB r (lRd 1) = true := by show regB r = true; unfold regB; simp; omega
  have e1 : fitB r (lR1 1) = true := by show regB r = true; unfold regB; simp; omega
  have e2 : fitB 0 (lR2 1) = true := rfl
  rw [e0, e1, e2]
  simp
theorem may40 {r n : Int} (h1 : 0 ≤ r) (h2 : r < 32) (hn : IsI n) : mayB 40 r 0 0 n = true ↔ NumOk 6 n := by
  rw [← num_ok n hn (s := 6) (by decide)]
  unfold mayB
  rw [show opS 40 = 6 from rfl]
  have e0 : fitB r (lRd 6) = true := by show regB r = true; unfold regB; simp; omega
  have e1 : fitB 0 (lR1 6) = true := rfl
  have e2 : fitB 0 (lR2 6) = true := rfl
  rw [e0, e1, e2]
  simp
theorem come_hi {r p v : Int} (h1 : 0 ≤ r) (h2 : r < 32) (h3 : 0 ≤ v) (h4 : v < 2147481600) : relV (encI 38 r 0 0 0) 0 p v = (encI 38 r 0 0 (v + 2048 - (v + 2048) % 4096), 0) ∧ mayB 38 r 0 0 (v + 2048 - (v + 2048) % 4096) = true := by
  have hm := (may38 (n := v + 2048 - (v + 2048) % 4096) h1 h2 ⟨by omega, by omega⟩).2 (by show _ ∧ _ ∧ _; omega)
  rw [rel_enc (by decide) ((may38 h1 h2 ⟨by omega, by omega⟩).2 (by show _ ∧ _ ∧ _; omega)) (by decide), num_hi h3 h4, if_pos hm]
  exact ⟨rfl, hm⟩
theorem come_lo {r p v : Int} (h1 : 0 ≤ r) (h2 : r < 32) (h3 : 0 ≤ v) (h4 : v < 2147481600) : relV (encI 16 r r 0 0) 1 p v = (encI 16 r r 0 ((v + 2048) % 4096 - 2048), 0) ∧ mayB 16 r r 0 ((v + 2048) % 4096 - 2048) = true := by
  have hm := (may16 (n := (v + 2048) % 4096 - 2048) h1 h2 ⟨by omega, by omega⟩).2 (by show _ ∧ _; omega)
  rw [rel_enc (by decide) ((may16 h1 h2 ⟨by omega, by omega⟩).2 (by show _ ∧ _; omega)) (by decide), num_lo h3 h4, if_pos hm]
  exact ⟨rfl, hm⟩
theorem num_jump {p v : Int} (h0 : 0 ≤ v) (h1 : v < 2147481600) (h2 : 0 ≤ p) (h3 : p < 4294967296) : numV 2 p v = v - p := by
  unfold numV
  rw [if_neg (by omega), if_neg (by omega), IntKind.wrap_u64]
  unfold wrap64
  omega
theorem come_jump {r p v : Int} (h1 : 0 ≤ r) (h2 : r < 32) (h3 : 0 ≤ v) (h4 : v < 2147481600) (h5 : 0 ≤ p) (h6 : p < 4294967296) :
    (-1048576 ≤ v - p ∧ v - p ≤ 1048574 ∧ (v - p) % 2 = 0 → relV (encI 40 r 0 0 0) 2 p v = (encI 40 r 0 0 (v - p), 0) ∧ mayB 40 r 0 0 (v - p) = true) ∧ (¬ (-1048576 ≤ v - p ∧ v - p ≤ 1048574 ∧ (v - p) % 2 = 0) → relV (encI 40 r 0 0 0) 2 p v = (0, 5)) := by
  have hk := may40 (n := v - p) h1 h2 ⟨by omega, by omega⟩
  have g : NumOk 6 (v - p) = (-1048576 ≤ v - p ∧ v - p ≤ 1048574 ∧ (v - p) % 2 = 0) := rfl
  rw [g] at hk
  rw [rel_enc (by decide) ((may40 h1 h2 ⟨by omega, by omega⟩).2 (by show _ ∧ _ ∧ _; omega)) (by decide), num_jump h3 h4 h5 h6]
  refine ⟨fun h => ?_, fun h => ?_⟩
  · rw [if_pos (hk.2 h)]; exact ⟨rfl, hk.2 h⟩
  · rw [if_neg (fun e => h (hk.1 e))]
end Go.Proofs.YtjngkifoaljmaaaDoor
