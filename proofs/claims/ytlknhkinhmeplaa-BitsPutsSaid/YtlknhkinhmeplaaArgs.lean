/- What a law's walk is told of its arguments: integers fit their kinds; a slice of integers that came in. -/
import Derived.Test.YtlknhkinhmeplaaWord
import Derived.OpenShut
namespace Go.Proofs.Ytlknhkinhmeplaa
open Go.RowKit
set_option linter.unusedVariables false
theorem isU_of_wf {a : Int} (h : (Lit.int .u64 a).wf = true) : IsU a := by
  have := bounds_u64 h
  exact ⟨by omega, by omega⟩
theorem isI_of_wf {a : Int} (h : (Lit.int .i64 a).wf = true) : IsI a := by
  have := bounds_i64 h
  exact ⟨by omega, by omega⟩
/-- a slice of integers that came in: nil, or a row of cap cells that read as zs; the first len are its elements -/
def IsRow (k : IntKind) (w : World) (a : Option Addr) (len cap : Nat) (zs : List Int) : Prop :=
  (a = none ∧ len = 0 ∧ cap = 0 ∧ zs = []) ∨
  ∃ x, a = some x ∧ len ≤ cap ∧ cap ≤ maxLen ∧ zs.length = cap ∧ (∀ i, i < zs.length → w.cell? (x.add i) = some (.int k (zs.getD i 0))) ∧ ∀ n ∈ zs, (Lit.int k n).wf = true
theorem IsRow.sl {w : World} {a : Option Addr} {len cap : Nat} {zs : List Int} (h : IsRow .u8 w a len cap zs) : Sl w a (zs.take len) ∧ (zs.take len).length = len ∧ AllB (zs.take len) ∧ len ≤ maxLen := by
  rcases h with ⟨rfl, rfl, rfl, rfl⟩ | ⟨x, rfl, hl, hm, hz, hc, hw⟩
  · exact ⟨.inl rfl, rfl, fun x hx => by simp at hx, by unfold maxLen; omega⟩
  · refine ⟨?_, by simp; omega, ?_, by omega⟩
    · by_cases h0 : len = 0
      · subst h0; exact .inl rfl
      · obtain ⟨b, off, spot⟩ := x
        have h00 := hc 0 (by omega)
        have hs : spot = none := by simpa [Addr.add] using World.cell?_spot h00
        subst hs
        refine .inr ⟨b, off, rfl, fun k hk => ?_⟩
        have hk' : k < len ∧ k < zs.length := by simp at hk; omega
        have := hc k hk'.2
        have e : nth (zs.take len) k = zs.getD k 0 := by simp [nth, hk'.1]
        rw [e, ← this]
        unfold Addr.add
        by_cases e0 : k = 0
        · subst e0; simp
        · simp [e0]
    · intro x hx
      have := bounds_u8 (hw x (List.mem_of_mem_take hx))
      omega
end Go.Proofs.Ytlknhkinhmeplaa
