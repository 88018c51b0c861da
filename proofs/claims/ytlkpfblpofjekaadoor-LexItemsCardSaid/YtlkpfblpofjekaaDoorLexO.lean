/- Layer 9: a row of words that came in; how many words open and shut; how an item begins and ends. -/
import Derived.Test.YtlkpfblpofjekaaDoorLexN
import Derived.SliceStrings
import Derived.OpenShut
namespace Go.Proofs.YtlkpfblpofjekaaDoor
set_option maxRecDepth 100000
open Go.RowKit Go.Sort
open Go.ChangeShapes Go.WideShapes
set_option linter.unusedVariables false
theorem open_wds {H : Type} {enc : TypeId × Value → H} {W : World} {base : Nat} {sp : Nat → Bool} {held : Bool} {fuel : Nat} {x : DataW H × List MemPlace} {a : Option Addr} {len cap : Nat}
    (hf : DataW.trod enc Tryd.prog W base sp held fuel 28 (Value.slice a len cap).cells.toList = some x) : ∃ l : List ByteArray, l.length = len ∧ len ≤ cap ∧ cap ≤ maxLen ∧ WdAt W a l := by
  rcases open_strings Tryd.underlying28 Tryd.underlying9 (by kernel_rfl) hf with ⟨hcs, _⟩ | ⟨y, l, c, ss, hcs, _, hl, hm, hz, _, hcell, _⟩
  · simp [Value.cells] at hcs
    obtain ⟨rfl, rfl, rfl⟩ := hcs
    exact ⟨[], rfl, Nat.le_refl _, by unfold maxLen; omega, .inl rfl⟩
  · simp [Value.cells] at hcs
    obtain ⟨rfl, rfl, rfl⟩ := hcs
    have hss : len ≤ ss.length := by rw [hz]; split <;> omega
    refine ⟨ss.take len, by simp; omega, hl, hm, ?_⟩
    by_cases h0 : len = 0
    · subst h0; exact .inl rfl
    · obtain ⟨b, off, spot⟩ := y
      have h00 := hcell 0 (by omega)
      have hs : spot = none := by simpa [Addr.add] using World.cell?_spot h00
      subst hs
      refine .inr ⟨b, off, rfl, fun k hk => ?_⟩
      have hk' : k < len ∧ k < ss.length := by simp at hk; omega
      have h := hcell k hk'.2
      rw [addr_add] at h
      rw [h]
      unfold wdK
      simp [List.getD, hk'.1]
/-- words that open, words that shut -/
def opC (l : List ByteArray) : Int := match l with | [] => 0 | s :: r => (if s.data.toList = [40] then 1 else 0) + opC r
def shC (l : List ByteArray) : Int := match l with | [] => 0 | s :: r => (if s.data.toList = [41] then 1 else 0) + shC r
theorem opn_parts (s : ByteArray) : opnW s = (if s.data.toList = [40] then 1 else 0) - (if s.data.toList = [41] then 1 else 0) := by
  unfold opnW
  by_cases h1 : s.data.toList = [40]
  · rw [if_pos h1, if_pos h1, if_neg (by rw [h1]; simp)]; rfl
  · rw [if_neg h1, if_neg h1]
    by_cases h2 : s.data.toList = [41]
    · rw [if_pos h2, if_pos h2]; rfl
    · rw [if_neg h2, if_neg h2]; rfl
theorem nst_count (l : List ByteArray) : ∀ p r, nstP l p = some r → p + opC l - shC l = r := by
  induction l with
  | nil => intro p r h; simp [nstP] at h; simp [opC, shC, h]
  | cons s l ih =>
    intro p r h
    unfold nstP at h
    split at h
    · cases h
    · have := ih _ _ h
      have ho := opn_parts s
      unfold opC shC
      omega
theorem nst_even {l : List ByteArray} (h : nstB l = true) : opC l = shC l := by
  unfold nstB at h
  have := nst_count l 0 0 (by simpa using h)
  omega
theorem cnt_bd (l : List ByteArray) : 0 ≤ opC l ∧ opC l ≤ l.length ∧ 0 ≤ shC l ∧ shC l ≤ l.length := by
  induction l with
  | nil => simp [opC, shC]
  | cons s l ih =>
    unfold opC shC
    simp only [List.length_cons]
    split <;> split <;> omega
/-- an item is a word, or begins and ends with parentheses -/
def RowOk (r : List ByteArray) : Prop := r.length ≠ 0 ∧ (r.length = 1 ∨ ((wdK r 0).data.toList = [40] ∧ (wdK r (r.length - 1)).data.toList = [41]))
theorem opn_one {s : ByteArray} (h : opnW s = 1) : s.data.toList = [40] := by
  unfold opnW at h
  split at h
  · assumption
  · split at h <;> omega
theorem opn_less {s : ByteArray} (h : opnW s = -1) : s.data.toList = [41] := by
  unfold opnW at h
  split at h
  · omega
  · split at h
    · assumption
    · omega
theorem wd_last (cur : List ByteArray) (s : ByteArray) : wdK (cur ++ [s]) ((cur ++ [s]).length - 1) = s := by
  unfold wdK; simp [List.getD]
theorem wd_first (cur : List ByteArray) (s : ByteArray) (h : cur ≠ []) : wdK (cur ++ [s]) 0 = wdK cur 0 := by
  cases cur with
  | nil => exact absurd rfl h
  | cons a r => rfl
theorem items_ok (l : List ByteArray) : ∀ (p : Int) (cur : List ByteArray), nstP l p = some 0 → 0 ≤ p → (p = 0 → cur = []) → (0 < p → cur ≠ [] ∧ (wdK cur 0).data.toList = [40]) → ∀ r ∈ itmP l p cur, RowOk r := by
  induction l with
  | nil => intro p cur _ _ _ _ r hr; simp [itmP] at hr
  | cons s l ih =>
    intro p cur hn hp h0 h1 r hr
    unfold nstP at hn
    split at hn
    · cases hn
    · rename_i hb
      have hs := opnW_bd s
      unfold itmP at hr
      split at hr
      · rename_i hz
        rcases List.mem_cons.1 hr with rfl | hr
        · by_cases hp0 : p = 0
          · rw [h0 hp0]; exact ⟨by simp, .inl rfl⟩
          · obtain ⟨h2, h3⟩ := h1 (by omega)
            refine ⟨by simp, .inr ⟨by rw [wd_first cur s h2]; exact h3, ?_⟩⟩
            rw [wd_last]
            exact opn_less (by omega)
        · rw [hz] at hn
          exact ih 0 [] hn (by omega) (fun _ => rfl) (fun h => by omega) r hr
      · rename_i hz
        refine ih _ _ hn (by omega) (fun h => absurd h hz) (fun h => ⟨by simp, ?_⟩) r hr
        by_cases hp0 : p = 0
        · rw [h0 hp0]
          have e : wdK ([] ++ [s]) 0 = s := rfl
          rw [e]
          exact opn_one (by omega)
        · obtain ⟨h2, h3⟩ := h1 (by omega)
          rw [wd_first cur s h2]; exact h3
theorem itm_len (l : List ByteArray) : ∀ p cur, (itmP l p cur).length ≤ l.length := by
  induction l with
  | nil => intro p cur; simp [itmP]
  | cons s l ih =>
    intro p cur
    unfold itmP
    split
    · simp only [List.length_cons]; have := ih 0 []; omega
    · simp only [List.length_cons]; have := ih (p + opnW s) (cur ++ [s]); omega
theorem itm_row (l : List ByteArray) : ∀ p cur, ∀ r ∈ itmP l p cur, r.length ≤ cur.length + l.length := by
  induction l with
  | nil => intro p cur r hr; simp [itmP] at hr
  | cons s l ih =>
    intro p cur r hr
    unfold itmP at hr
    split at hr
    · rcases List.mem_cons.1 hr with rfl | hr
      · simp
      · have := ih 0 [] r hr; simp at this ⊢; omega
    · have := ih _ _ r hr; simp at this ⊢; omega
theorem itm_rowK (l : List ByteArray) (j : Nat) (hj : j < (itmP l 0 []).length) : (rwK (itmP l 0 []) j).length ≤ l.length := by
  have := itm_row l 0 [] (rwK (itmP l 0 []) j) (by unfold rwK; simp [List.getD, hj])
  simpa using this
theorem items_rows {l : List ByteArray} (h : nstB l = true) (j : Nat) (hj : j < (itmP l 0 []).length) : RowOk (rwK (itmP l 0 []) j) := by
  refine items_ok l 0 [] (by unfold nstB at h; simpa using h) (by omega) (fun _ => rfl) (fun h => by omega) _ ?_
  unfold rwK
  simp [List.getD, hj]
end Go.Proofs.YtlkpfblpofjekaaDoor
