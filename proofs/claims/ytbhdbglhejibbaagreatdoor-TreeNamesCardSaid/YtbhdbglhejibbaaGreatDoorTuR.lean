/- Layer 10: the words of a source with a word in it that is open. No condition. -/
import Derived.Test.YtbhdbglhejibbaaGreatDoorTuaP
namespace Go.Proofs.YtbhdbglhejibbaaGreatDoor
set_option maxRecDepth 100000
open Go.RowKit
set_option linter.unusedVariables false
theorem lineP_word : ∀ (d rest cur : List UInt8) (ws : List ByteArray), (∀ c ∈ d, kindP c.toNat = 1) → lineP (d ++ rest) cur ws = lineP rest (cur ++ d) ws
  | [], rest, cur, ws, _ => by simp
  | c :: d, rest, cur, ws, h => by
    have hc := h c (by simp)
    rw [List.cons_append]
    conv => lhs; unfold lineP
    rw [if_neg (by omega), if_pos hc, lineP_word d rest (cur ++ [c]) ws (fun x hx => h x (by simp [hx]))]
    simp
theorem lineP_wrong : ∀ (d rest cur : List UInt8) (ws : List ByteArray), (∀ c ∈ d, kindP c.toNat = 0 ∨ kindP c.toNat = 1) → (∃ c ∈ d, kindP c.toNat = 0) → lineP (d ++ rest) cur ws = none
  | [], rest, cur, ws, _, h => by obtain ⟨c, h, _⟩ := h; cases h
  | c :: d, rest, cur, ws, h, hx => by
    rw [List.cons_append]
    unfold lineP
    rcases h c (by simp) with hc | hc
    · rw [if_pos hc]
    · rw [if_neg (by omega), if_pos hc]
      refine lineP_wrong d rest _ ws (fun x hx => h x (by simp [hx])) ?_
      obtain ⟨x, hx, h0⟩ := hx
      rcases List.mem_cons.1 hx with rfl | hx
      · omega
      · exact ⟨x, hx, h0⟩
theorem wordsP_one {s : ByteArray} (h : ∀ c ∈ s.data.toList, c ≠ 10) : wordsP s = lineP s.data.toList [] [] := by
  have hi : Lib.indexB s ⟨#[10]⟩ = -1 := by
    refine Lib.index_none fun j hj => ?_
    unfold Lib.occAt
    cases hd : s.data.toList.drop j with
    | nil => rfl
    | cons a t =>
      have ha : a ∈ s.data.toList := List.mem_of_mem_drop (i := j) (by rw [hd]; simp)
      have := h a ha
      simp [List.isPrefixOf, Ne.symm this]
  unfold wordsP linesOf
  rw [Lib.splitB_miss _ _ _ _ hi]
  unfold linesP
  cases lineP s.data.toList [] [] <;> rfl
/-- words that were read, and lie as deep as they may -/
theorem wordsV_of {s : ByteArray} {ts : List TokD} (h1 : ∀ c ∈ s.data.toList, c ≠ 10) (h2 : lineP s.data.toList [] [] = some (flats ts)) (ho : ToksOk ts) (hd : tdeps ts ≤ 24) : wordsV s = some (flats ts) := by
  unfold wordsV
  rw [wordsP_one h1, h2]
  simp only
  rw [if_pos ((nst_deps ho).2 hd)]
theorem wordsV_bad {s : ByteArray} (h1 : ∀ c ∈ s.data.toList, c ≠ 10) (h2 : lineP s.data.toList [] [] = none) : wordsV s = none := by
  unfold wordsV
  rw [wordsP_one h1, h2]
/-- a row of characters that is a word -/
structure WrdD (d : List UInt8) : Prop where
  some_ : d ≠ []
  word : ∀ c ∈ d, kindP c.toNat = 1
theorem WrdD.opn {d : List UInt8} (h : WrdD d) : opnW ⟨d.toArray⟩ = 0 := by
  unfold opnW
  have h1 : ∀ c : UInt8, kindP c.toNat = 1 → c ≠ 40 ∧ c ≠ 41 := by
    intro c hc
    constructor <;> rintro rfl <;> revert hc <;> decide
  rw [if_neg, if_neg]
  · intro e
    simp only at e
    exact (h1 41 (h.word 41 (by rw [e]; simp))).2 rfl
  · intro e
    simp only at e
    exact (h1 40 (h.word 40 (by rw [e]; simp))).1 rfl
theorem WrdD.line {d : List UInt8} (h : WrdD d) : ∀ c ∈ d, c ≠ 10 := fun c hc => by
  rintro rfl
  have := h.word 10 hc
  revert this
  decide
theorem WrdD.put {d : List UInt8} (h : WrdD d) (ws : List ByteArray) : putW ws d = ws ++ [⟨d.toArray⟩] := by unfold putW; rw [if_neg h.some_]
end Go.Proofs.YtbhdbglhejibbaaGreatDoor
