/- Layer 9: words of closed sources, by the kernel. No program. -/
import Derived.Test.YtlkpfblpofjekaaDoorLexJ
namespace Go.Proofs.YtlkpfblpofjekaaDoor
set_option maxRecDepth 100000
open Go.RowKit
set_option linter.unusedVariables false
def wsOne : List ByteArray := [⟨#[40]⟩, ⟨#[115, 101, 116]⟩, ⟨#[120]⟩, ⟨#[49]⟩, ⟨#[41]⟩]
theorem words_one : wordsV ⟨#[40, 115, 101, 116, 32, 120, 32, 49, 41, 32, 59, 32, 105, 116, 10]⟩ = some wsOne := by decide +kernel
theorem words_two : wordsV ⟨#[40]⟩ = none := by decide +kernel
def upS (k : Nat) : ByteArray := ⟨(List.replicate k 40).toArray⟩
def dnS (k : Nat) : ByteArray := ⟨(List.replicate k 41).toArray⟩
def deepS (k : Nat) : ByteArray := upS k ++ ⟨#[120]⟩ ++ dnS k
def deepW (k : Nat) : List ByteArray := List.replicate k ⟨#[40]⟩ ++ [⟨#[120]⟩] ++ List.replicate k ⟨#[41]⟩
theorem words_deep : ∀ k : Nat, k < 40 → wordsV (deepS k) = if 24 < k then none else some (deepW k) := by decide +kernel
end Go.Proofs.YtlkpfblpofjekaaDoor
