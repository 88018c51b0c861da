/-
  No cell of these rows narrows 'for every input' (looked for: loops, veiled, ifaces, maps, wideKeys, modest, calm, conditions, laid).
  DERIVED. THE GIVEN ROWS OF THIS SEAT. 5 by the template 'for every input the law returns true; each argument reads behind the call as it read before'; 0 by the template 'total and deterministic' (their statements: YtpfohbinjcdcbaaTotals.lean).
  GIVEN WITH THE SEED: the statements are not yours to turn. If you find one false, say at which input.
  Laid BY PROGRAM, IN A SANDBOX (cutbox-rows.mjs): the forced cells as the released guide's own fill.sh prints them over the translation 02c8ff6e4c3b25f9… (all of the seat's roots in one cut). By AI agents, Wed Nov 11 2026. No macro, syntax, notation, axiom, sorry.
-/
import Derived.Test.YtpfohbinjcdcbaaChecked
import GoSem.Claim
import GoSem.ClaimJoined
import GoSem.ClaimMapViews
import Derived.JoinedTies
import Derived.KernelRfl
namespace Go.Proofs.Ytpfohbinjcdcbaa
/- THE CELL 'sum', in the pinned program and in every row, IS THE sha256 OF THE DUMP (.gsa) THAT YtpfohbinjcdcbaaProg.lean LOADS. Nothing in Lean hashes anything: it is a label: what it is worth is what the hold of that sum in a sandbox is worth. -/
noncomputable def Try.pinned : Pinned := { name := "ytpfohbinjcdcbaa", sum := "02c8ff6e4c3b25f9bcddc72b8bff22bd568caa5220d3688973628bfc76feb22e", checked := Try.checked }
namespace Rows
def none {H : Type} : Left H := { results := [], args := [] }

/-- 'caponierlaw04.MemCopies': WHATEVER THE INPUT: true; the input reads as it did. -/
def memCopiesSpec : ChangeSpec := { name := "memCopies", fn := fun _ => fun
  | [d1, d2, d3] => { results := [.lit (.bool true)], args := [d1, d2, d3] }
  | _ => none }
def memCopiesRow : OpenClaim := { program := "ytpfohbinjcdcbaa", sum := "02c8ff6e4c3b25f9bcddc72b8bff22bd568caa5220d3688973628bfc76feb22e", func := "caponier/caponierlaw04.MemCopies", spec := "memCopies", plainKeys := false, apart := false }
def MemCopiesSaid : Prop := memCopiesRow.holds Try.pinned (OpenSpec.ofChange memCopiesSpec)

/-- ITS FALSE NEIGHBOUR: 'it returns false'. Refute it at one input. -/
def memCopiesWrong : ChangeSpec := { name := "memCopies", fn := fun _ => fun
  | [d1, d2, d3] => { results := [.lit (.bool false)], args := [d1, d2, d3] }
  | _ => none }
def MemCopiesWrongFalsely : Prop := memCopiesRow.holds Try.pinned (OpenSpec.ofChange memCopiesWrong)

/-- 'caponierlaw04.MemLoads': WHATEVER THE INPUT: true; the input reads as it did. -/
def memLoadsSpec : ChangeSpec := { name := "memLoads", fn := fun _ => fun
  | [d1, d2, d3] => { results := [.lit (.bool true)], args := [d1, d2, d3] }
  | _ => none }
def memLoadsRow : OpenClaim := { program := "ytpfohbinjcdcbaa", sum := "02c8ff6e4c3b25f9bcddc72b8bff22bd568caa5220d3688973628bfc76feb22e", func := "caponier/caponierlaw04.MemLoads", spec := "memLoads", plainKeys := false, apart := false }
def MemLoadsSaid : Prop := memLoadsRow.holds Try.pinned (OpenSpec.ofChange memLoadsSpec)

/-- ITS FALSE NEIGHBOUR: 'it returns false'. Refute it at one input. -/
def memLoadsWrong : ChangeSpec := { name := "memLoads", fn := fun _ => fun
  | [d1, d2, d3] => { results := [.lit (.bool false)], args := [d1, d2, d3] }
  | _ => none }
def MemLoadsWrongFalsely : Prop := memLoadsRow.holds Try.pinned (OpenSpec.ofChange memLoadsWrong)

/-- 'caponierlaw04.MemRegions': WHATEVER THE INPUT: true; the input reads as it did. -/
def memRegionsSpec : ChangeSpec := { name := "memRegions", fn := fun _ => fun
  | [d1, d2, d3] => { results := [.lit (.bool true)], args := [d1, d2, d3] }
  | _ => none }
def memRegionsRow : OpenClaim := { program := "ytpfohbinjcdcbaa", sum := "02c8ff6e4c3b25f9bcddc72b8bff22bd568caa5220d3688973628bfc76feb22e", func := "caponier/caponierlaw04.MemRegions", spec := "memRegions", plainKeys := false, apart := false }
def MemRegionsSaid : Prop := memRegionsRow.holds Try.pinned (OpenSpec.ofChange memRegionsSpec)

/-- ITS FALSE NEIGHBOUR: 'it returns false'. Refute it at one input. -/
def memRegionsWrong : ChangeSpec := { name := "memRegions", fn := fun _ => fun
  | [d1, d2, d3] => { results := [.lit (.bool false)], args := [d1, d2, d3] }
  | _ => none }
def MemRegionsWrongFalsely : Prop := memRegionsRow.holds Try.pinned (OpenSpec.ofChange memRegionsWrong)

/-- 'caponierlaw04.MemPokes': WHATEVER THE INPUT: true; the input reads as it did. -/
def memPokesSpec : ChangeSpec := { name := "memPokes", fn := fun _ => fun
  | [d1, d2] => { results := [.lit (.bool true)], args := [d1, d2] }
  | _ => none }
def memPokesRow : OpenClaim := { program := "ytpfohbinjcdcbaa", sum := "02c8ff6e4c3b25f9bcddc72b8bff22bd568caa5220d3688973628bfc76feb22e", func := "caponier/caponierlaw04.MemPokes", spec := "memPokes", plainKeys := false, apart := false }
def MemPokesSaid : Prop := memPokesRow.holds Try.pinned (OpenSpec.ofChange memPokesSpec)

/-- ITS FALSE NEIGHBOUR: 'it returns false'. Refute it at one input. -/
def memPokesWrong : ChangeSpec := { name := "memPokes", fn := fun _ => fun
  | [d1, d2] => { results := [.lit (.bool false)], args := [d1, d2] }
  | _ => none }
def MemPokesWrongFalsely : Prop := memPokesRow.holds Try.pinned (OpenSpec.ofChange memPokesWrong)

/-- 'caponierlaw04.MemFetch': WHATEVER THE INPUT: true; the input reads as it did. -/
def memFetchSpec : ChangeSpec := { name := "memFetch", fn := fun _ => fun
  | [d1, d2, d3] => { results := [.lit (.bool true)], args := [d1, d2, d3] }
  | _ => none }
def memFetchRow : OpenClaim := { program := "ytpfohbinjcdcbaa", sum := "02c8ff6e4c3b25f9bcddc72b8bff22bd568caa5220d3688973628bfc76feb22e", func := "caponier/caponierlaw04.MemFetch", spec := "memFetch", plainKeys := false, apart := false }
def MemFetchSaid : Prop := memFetchRow.holds Try.pinned (OpenSpec.ofChange memFetchSpec)

/-- ITS FALSE NEIGHBOUR: 'it returns false'. Refute it at one input. -/
def memFetchWrong : ChangeSpec := { name := "memFetch", fn := fun _ => fun
  | [d1, d2, d3] => { results := [.lit (.bool false)], args := [d1, d2, d3] }
  | _ => none }
def MemFetchWrongFalsely : Prop := memFetchRow.holds Try.pinned (OpenSpec.ofChange memFetchWrong)

/- THE SECOND FORM. 'bulk': how many values and letters a reading holds, each counted each time it is reached (what is shared counts as often as it is met; a slice's spare places count too). A statement '..UptoSaid' is the law's where the arguments, and the package variables that the reading takes, are together of bulk at most 1048576: NARROWER than '..Said'. Prove '..Said' where nothing that the law and all that it calls make is longer than what came in: it says more and counts as full. Else prove '..UptoSaid'. A law counts once. -/
mutual
def uptoBulk {H : Type} : DataW H → Nat
  | .lit (.string bytes) => bytes.length + 1
  | .lit _ => 1
  | .nil => 1
  | .ptr d => uptoBulk d + 1
  | .slice elems spare => uptoBulkAll elems + uptoBulkAll spare + 1
  | .agg parts => uptoBulkAll parts + 1
  | .iface _ d => uptoBulk d + 1
  | .map entries => uptoBulkEntries entries + 1
  | .held _ => 1
def uptoBulkAll {H : Type} : List (DataW H) → Nat
  | [] => 0
  | d :: r => uptoBulk d + uptoBulkAll r
def uptoBulkEntries {H : Type} : List (Lit × DataW H) → Nat
  | [] => 0
  | x :: r => uptoBulkEntry x + uptoBulkEntries r
def uptoBulkEntry {H : Type} : Lit × DataW H → Nat
  | (.string bytes, d) => bytes.length + uptoBulk d + 1
  | (_, d) => uptoBulk d + 1
 end
def uptoSmall : (H : Type) → List (DataW H) → Bool := fun _ ds => decide (uptoBulkAll ds ≤ 1048576)
def OpenSpec.upto (s : _root_.Go.ChangeSpec) : _root_.Go.OpenSpec := { _root_.Go.OpenSpec.ofChange s with cond := some uptoSmall }

/-- 'caponierlaw04.MemCopies', WHERE WHAT IT READS IS OF BULK AT MOST 1048576: true; the input reads as it did. -/
def memCopiesUptoRow : OpenClaim := { program := "ytpfohbinjcdcbaa", sum := "02c8ff6e4c3b25f9bcddc72b8bff22bd568caa5220d3688973628bfc76feb22e", func := "caponier/caponierlaw04.MemCopies", spec := "memCopies", plainKeys := false, apart := false, narrowed := true }
def MemCopiesUptoSaid : Prop := memCopiesUptoRow.holds Try.pinned (OpenSpec.upto memCopiesSpec)

/-- 'caponierlaw04.MemLoads', WHERE WHAT IT READS IS OF BULK AT MOST 1048576: true; the input reads as it did. -/
def memLoadsUptoRow : OpenClaim := { program := "ytpfohbinjcdcbaa", sum := "02c8ff6e4c3b25f9bcddc72b8bff22bd568caa5220d3688973628bfc76feb22e", func := "caponier/caponierlaw04.MemLoads", spec := "memLoads", plainKeys := false, apart := false, narrowed := true }
def MemLoadsUptoSaid : Prop := memLoadsUptoRow.holds Try.pinned (OpenSpec.upto memLoadsSpec)

/-- 'caponierlaw04.MemRegions', WHERE WHAT IT READS IS OF BULK AT MOST 1048576: true; the input reads as it did. -/
def memRegionsUptoRow : OpenClaim := { program := "ytpfohbinjcdcbaa", sum := "02c8ff6e4c3b25f9bcddc72b8bff22bd568caa5220d3688973628bfc76feb22e", func := "caponier/caponierlaw04.MemRegions", spec := "memRegions", plainKeys := false, apart := false, narrowed := true }
def MemRegionsUptoSaid : Prop := memRegionsUptoRow.holds Try.pinned (OpenSpec.upto memRegionsSpec)

/-- 'caponierlaw04.MemPokes', WHERE WHAT IT READS IS OF BULK AT MOST 1048576: true; the input reads as it did. -/
def memPokesUptoRow : OpenClaim := { program := "ytpfohbinjcdcbaa", sum := "02c8ff6e4c3b25f9bcddc72b8bff22bd568caa5220d3688973628bfc76feb22e", func := "caponier/caponierlaw04.MemPokes", spec := "memPokes", plainKeys := false, apart := false, narrowed := true }
def MemPokesUptoSaid : Prop := memPokesUptoRow.holds Try.pinned (OpenSpec.upto memPokesSpec)

/-- 'caponierlaw04.MemFetch', WHERE WHAT IT READS IS OF BULK AT MOST 1048576: true; the input reads as it did. -/
def memFetchUptoRow : OpenClaim := { program := "ytpfohbinjcdcbaa", sum := "02c8ff6e4c3b25f9bcddc72b8bff22bd568caa5220d3688973628bfc76feb22e", func := "caponier/caponierlaw04.MemFetch", spec := "memFetch", plainKeys := false, apart := false, narrowed := true }
def MemFetchUptoSaid : Prop := memFetchUptoRow.holds Try.pinned (OpenSpec.upto memFetchSpec)

end Rows
end Go.Proofs.Ytpfohbinjcdcbaa
