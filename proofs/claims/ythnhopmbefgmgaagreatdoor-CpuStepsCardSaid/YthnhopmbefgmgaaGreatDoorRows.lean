/-
  NARROWER THAN 'FOR EVERY INPUT', by the rows' own cells (each row's printed sentence says how): CpuRuns: laid · CpuSteps: laid · CpuCounts: laid · CpuGates: laid · CpuStores: laid · CpuBreaks: laid · CpuFar: laid.
  DERIVED. THE GIVEN ROWS OF THIS SEAT. 7 by the template 'for every input the law returns true; each argument reads behind the call as it read before'; 0 by the template 'total and deterministic' (their statements: YthnhopmbefgmgaaGreatDoorTotals.lean).
  GIVEN WITH THE SEED: the statements are not yours to turn. If you find one false, say at which input.
  Laid BY PROGRAM, IN A SANDBOX (cutbox-rows.mjs): the forced cells as the released guide's own fill.sh prints them over the translation 60d55f839803ad07… (all of the seat's roots in one cut). By AI agents, Wed Nov 11 2026. No macro, syntax, notation, axiom, sorry.
-/
import Derived.Test.YthnhopmbefgmgaaGreatDoorChecked
import GoSem.Claim
import GoSem.ClaimJoined
import GoSem.ClaimMapViews
import Derived.JoinedTies
import Derived.KernelRfl
namespace Go.Proofs.YthnhopmbefgmgaaGreatDoor
/- THE CELL 'sum', in the pinned program and in every row, IS THE sha256 OF THE DUMP (.gsa) THAT YthnhopmbefgmgaaGreatDoorProg.lean LOADS. Nothing in Lean hashes anything: it is a label: what it is worth is what the hold of that sum in a sandbox is worth. -/
noncomputable def Tryz.pinned : Pinned := { name := "ythnhopmbefgmgaagreatdoor", sum := "60d55f839803ad07ca404e4675076588a52329a72d94216cc50fbe332b66b8b6", checked := Tryz.checked }
namespace Rows
def none {H : Type} : Left H := { results := [], args := [] }

/- WHAT THE LISTED PACKAGE-LEVEL VARIABLES READ AS WHEN THE CALL BEGINS. Each datum BY PROGRAM (the guide's laid-datum.mjs) off the statement by which the dump's own 'gosem.cut.vars' lays the variable. In a bare row this is a premise. The card (YthnhopmbefgmgaaGreatDoorCards.lean) ties it to the program's text. -/
def laid_caponier_ins_layouts {H : Type} : DataW H := .agg [.agg [.lit (.string [82]), .lit (.bool true), .lit (.bool true), .lit (.bool true), .lit (.bool true), .lit (.int .i64 25), .lit (.int .i64 0), .agg [.agg [.lit (.int .i64 0), .lit (.int .i64 0), .lit (.int .i64 0)], .agg [.lit (.int .i64 0), .lit (.int .i64 0), .lit (.int .i64 0)], .agg [.lit (.int .i64 0), .lit (.int .i64 0), .lit (.int .i64 0)], .agg [.lit (.int .i64 0), .lit (.int .i64 0), .lit (.int .i64 0)]]], .agg [.lit (.string [73]), .lit (.bool true), .lit (.bool true), .lit (.bool false), .lit (.bool true), .lit (.int .i64 32), .lit (.int .i64 12), .agg [.agg [.lit (.int .i64 0), .lit (.int .i64 12), .lit (.int .i64 20)], .agg [.lit (.int .i64 0), .lit (.int .i64 0), .lit (.int .i64 0)], .agg [.lit (.int .i64 0), .lit (.int .i64 0), .lit (.int .i64 0)], .agg [.lit (.int .i64 0), .lit (.int .i64 0), .lit (.int .i64 0)]]], .agg [.lit (.string [73]), .lit (.bool true), .lit (.bool true), .lit (.bool false), .lit (.bool true), .lit (.int .i64 26), .lit (.int .i64 0), .agg [.agg [.lit (.int .i64 0), .lit (.int .i64 6), .lit (.int .i64 20)], .agg [.lit (.int .i64 0), .lit (.int .i64 0), .lit (.int .i64 0)], .agg [.lit (.int .i64 0), .lit (.int .i64 0), .lit (.int .i64 0)], .agg [.lit (.int .i64 0), .lit (.int .i64 0), .lit (.int .i64 0)]]], .agg [.lit (.string [83]), .lit (.bool false), .lit (.bool true), .lit (.bool true), .lit (.bool true), .lit (.int .i64 32), .lit (.int .i64 12), .agg [.agg [.lit (.int .i64 0), .lit (.int .i64 5), .lit (.int .i64 7)], .agg [.lit (.int .i64 5), .lit (.int .i64 7), .lit (.int .i64 25)], .agg [.lit (.int .i64 0), .lit (.int .i64 0), .lit (.int .i64 0)], .agg [.lit (.int .i64 0), .lit (.int .i64 0), .lit (.int .i64 0)]]], .agg [.lit (.string [66]), .lit (.bool false), .lit (.bool true), .lit (.bool true), .lit (.bool true), .lit (.int .i64 32), .lit (.int .i64 13), .agg [.agg [.lit (.int .i64 1), .lit (.int .i64 4), .lit (.int .i64 8)], .agg [.lit (.int .i64 5), .lit (.int .i64 6), .lit (.int .i64 25)], .agg [.lit (.int .i64 11), .lit (.int .i64 1), .lit (.int .i64 7)], .agg [.lit (.int .i64 12), .lit (.int .i64 1), .lit (.int .i64 31)]]], .agg [.lit (.string [85]), .lit (.bool true), .lit (.bool false), .lit (.bool false), .lit (.bool false), .lit (.int .i64 32), .lit (.int .i64 32), .agg [.agg [.lit (.int .i64 12), .lit (.int .i64 20), .lit (.int .i64 12)], .agg [.lit (.int .i64 0), .lit (.int .i64 0), .lit (.int .i64 0)], .agg [.lit (.int .i64 0), .lit (.int .i64 0), .lit (.int .i64 0)], .agg [.lit (.int .i64 0), .lit (.int .i64 0), .lit (.int .i64 0)]]], .agg [.lit (.string [74]), .lit (.bool true), .lit (.bool false), .lit (.bool false), .lit (.bool false), .lit (.int .i64 32), .lit (.int .i64 21), .agg [.agg [.lit (.int .i64 1), .lit (.int .i64 10), .lit (.int .i64 21)], .agg [.lit (.int .i64 11), .lit (.int .i64 1), .lit (.int .i64 20)], .agg [.lit (.int .i64 12), .lit (.int .i64 8), .lit (.int .i64 12)], .agg [.lit (.int .i64 20), .lit (.int .i64 1), .lit (.int .i64 31)]]], .agg [.lit (.string [69]), .lit (.bool false), .lit (.bool false), .lit (.bool false), .lit (.bool false), .lit (.int .i64 7), .lit (.int .i64 0), .agg [.agg [.lit (.int .i64 0), .lit (.int .i64 0), .lit (.int .i64 0)], .agg [.lit (.int .i64 0), .lit (.int .i64 0), .lit (.int .i64 0)], .agg [.lit (.int .i64 0), .lit (.int .i64 0), .lit (.int .i64 0)], .agg [.lit (.int .i64 0), .lit (.int .i64 0), .lit (.int .i64 0)]]]]
def laid_caponier_ins_operations {H : Type} : DataW H := .agg [.agg [.lit (.int .i64 0), .lit (.int .u32 51), .lit (.int .u32 0), .lit (.int .u32 0)], .agg [.lit (.int .i64 0), .lit (.int .u32 51), .lit (.int .u32 0), .lit (.int .u32 32)], .agg [.lit (.int .i64 0), .lit (.int .u32 51), .lit (.int .u32 1), .lit (.int .u32 0)], .agg [.lit (.int .i64 0), .lit (.int .u32 51), .lit (.int .u32 2), .lit (.int .u32 0)], .agg [.lit (.int .i64 0), .lit (.int .u32 51), .lit (.int .u32 3), .lit (.int .u32 0)], .agg [.lit (.int .i64 0), .lit (.int .u32 51), .lit (.int .u32 4), .lit (.int .u32 0)], .agg [.lit (.int .i64 0), .lit (.int .u32 51), .lit (.int .u32 5), .lit (.int .u32 0)], .agg [.lit (.int .i64 0), .lit (.int .u32 51), .lit (.int .u32 5), .lit (.int .u32 32)], .agg [.lit (.int .i64 0), .lit (.int .u32 51), .lit (.int .u32 6), .lit (.int .u32 0)], .agg [.lit (.int .i64 0), .lit (.int .u32 51), .lit (.int .u32 7), .lit (.int .u32 0)], .agg [.lit (.int .i64 0), .lit (.int .u32 51), .lit (.int .u32 0), .lit (.int .u32 1)], .agg [.lit (.int .i64 0), .lit (.int .u32 51), .lit (.int .u32 3), .lit (.int .u32 1)], .agg [.lit (.int .i64 0), .lit (.int .u32 51), .lit (.int .u32 4), .lit (.int .u32 1)], .agg [.lit (.int .i64 0), .lit (.int .u32 51), .lit (.int .u32 5), .lit (.int .u32 1)], .agg [.lit (.int .i64 0), .lit (.int .u32 51), .lit (.int .u32 6), .lit (.int .u32 1)], .agg [.lit (.int .i64 0), .lit (.int .u32 51), .lit (.int .u32 7), .lit (.int .u32 1)], .agg [.lit (.int .i64 1), .lit (.int .u32 19), .lit (.int .u32 0), .lit (.int .u32 0)], .agg [.lit (.int .i64 1), .lit (.int .u32 19), .lit (.int .u32 2), .lit (.int .u32 0)], .agg [.lit (.int .i64 1), .lit (.int .u32 19), .lit (.int .u32 3), .lit (.int .u32 0)], .agg [.lit (.int .i64 1), .lit (.int .u32 19), .lit (.int .u32 4), .lit (.int .u32 0)], .agg [.lit (.int .i64 1), .lit (.int .u32 19), .lit (.int .u32 6), .lit (.int .u32 0)], .agg [.lit (.int .i64 1), .lit (.int .u32 19), .lit (.int .u32 7), .lit (.int .u32 0)], .agg [.lit (.int .i64 2), .lit (.int .u32 19), .lit (.int .u32 1), .lit (.int .u32 0)], .agg [.lit (.int .i64 2), .lit (.int .u32 19), .lit (.int .u32 5), .lit (.int .u32 0)], .agg [.lit (.int .i64 2), .lit (.int .u32 19), .lit (.int .u32 5), .lit (.int .u32 16)], .agg [.lit (.int .i64 1), .lit (.int .u32 3), .lit (.int .u32 0), .lit (.int .u32 0)], .agg [.lit (.int .i64 1), .lit (.int .u32 3), .lit (.int .u32 4), .lit (.int .u32 0)], .agg [.lit (.int .i64 1), .lit (.int .u32 3), .lit (.int .u32 2), .lit (.int .u32 0)], .agg [.lit (.int .i64 1), .lit (.int .u32 3), .lit (.int .u32 3), .lit (.int .u32 0)], .agg [.lit (.int .i64 3), .lit (.int .u32 35), .lit (.int .u32 0), .lit (.int .u32 0)], .agg [.lit (.int .i64 3), .lit (.int .u32 35), .lit (.int .u32 2), .lit (.int .u32 0)], .agg [.lit (.int .i64 3), .lit (.int .u32 35), .lit (.int .u32 3), .lit (.int .u32 0)], .agg [.lit (.int .i64 4), .lit (.int .u32 99), .lit (.int .u32 0), .lit (.int .u32 0)], .agg [.lit (.int .i64 4), .lit (.int .u32 99), .lit (.int .u32 1), .lit (.int .u32 0)], .agg [.lit (.int .i64 4), .lit (.int .u32 99), .lit (.int .u32 4), .lit (.int .u32 0)], .agg [.lit (.int .i64 4), .lit (.int .u32 99), .lit (.int .u32 5), .lit (.int .u32 0)], .agg [.lit (.int .i64 4), .lit (.int .u32 99), .lit (.int .u32 6), .lit (.int .u32 0)], .agg [.lit (.int .i64 4), .lit (.int .u32 99), .lit (.int .u32 7), .lit (.int .u32 0)], .agg [.lit (.int .i64 5), .lit (.int .u32 55), .lit (.int .u32 0), .lit (.int .u32 0)], .agg [.lit (.int .i64 5), .lit (.int .u32 23), .lit (.int .u32 0), .lit (.int .u32 0)], .agg [.lit (.int .i64 6), .lit (.int .u32 111), .lit (.int .u32 0), .lit (.int .u32 0)], .agg [.lit (.int .i64 1), .lit (.int .u32 103), .lit (.int .u32 0), .lit (.int .u32 0)], .agg [.lit (.int .i64 7), .lit (.int .u32 115), .lit (.int .u32 0), .lit (.int .u32 8192)]]
def laid_caponier_alu_ofTwo {H : Type} : DataW H := .agg [.lit (.int .i64 0), .lit (.int .i64 3), .lit (.int .i64 4), .lit (.int .i64 5), .lit (.int .i64 8), .lit (.int .i64 9), .lit (.int .i64 2), .lit (.int .i64 6), .lit (.int .i64 7)]

/-- 'caponierlaw05.CpuRuns': WHATEVER THE INPUT: true; the input reads as it did. -/
def cpuRunsSpec : ChangeSpec := { name := "cpuRuns", fn := fun _ => fun
  | [d1, d2] => { results := [.lit (.bool true)], args := [d1, d2] }
  | _ => none }
def cpuRunsRow : OpenClaim := { program := "ythnhopmbefgmgaagreatdoor", sum := "60d55f839803ad07ca404e4675076588a52329a72d94216cc50fbe332b66b8b6", func := "caponier/caponierlaw05.CpuRuns", spec := "cpuRuns", unfollowed := true, recurses := true, named := ["caponier/alu.ofTwo", "caponier/ins.operations", "caponier/ins.layouts"], plainKeys := false, apart := false, laid := [("caponier/ins.layouts", laid_caponier_ins_layouts), ("caponier/ins.operations", laid_caponier_ins_operations), ("caponier/alu.ofTwo", laid_caponier_alu_ofTwo)] }
def CpuRunsSaid : Prop := cpuRunsRow.holds Tryz.pinned (OpenSpec.ofChange cpuRunsSpec)

/-- ITS FALSE NEIGHBOUR: 'it returns false'. Refute it at one input. -/
def cpuRunsWrong : ChangeSpec := { name := "cpuRuns", fn := fun _ => fun
  | [d1, d2] => { results := [.lit (.bool false)], args := [d1, d2] }
  | _ => none }
def CpuRunsWrongFalsely : Prop := cpuRunsRow.holds Tryz.pinned (OpenSpec.ofChange cpuRunsWrong)

/-- 'caponierlaw05.CpuSteps': WHATEVER THE INPUT: true; the input reads as it did. -/
def cpuStepsSpec : ChangeSpec := { name := "cpuSteps", fn := fun _ => fun
  | [d1, d2, d3] => { results := [.lit (.bool true)], args := [d1, d2, d3] }
  | _ => none }
def cpuStepsRow : OpenClaim := { program := "ythnhopmbefgmgaagreatdoor", sum := "60d55f839803ad07ca404e4675076588a52329a72d94216cc50fbe332b66b8b6", func := "caponier/caponierlaw05.CpuSteps", spec := "cpuSteps", unfollowed := true, recurses := true, named := ["caponier/alu.ofTwo", "caponier/ins.operations", "caponier/ins.layouts"], plainKeys := false, apart := false, laid := [("caponier/ins.layouts", laid_caponier_ins_layouts), ("caponier/ins.operations", laid_caponier_ins_operations), ("caponier/alu.ofTwo", laid_caponier_alu_ofTwo)] }
def CpuStepsSaid : Prop := cpuStepsRow.holds Tryz.pinned (OpenSpec.ofChange cpuStepsSpec)

/-- ITS FALSE NEIGHBOUR: 'it returns false'. Refute it at one input. -/
def cpuStepsWrong : ChangeSpec := { name := "cpuSteps", fn := fun _ => fun
  | [d1, d2, d3] => { results := [.lit (.bool false)], args := [d1, d2, d3] }
  | _ => none }
def CpuStepsWrongFalsely : Prop := cpuStepsRow.holds Tryz.pinned (OpenSpec.ofChange cpuStepsWrong)

/-- 'caponierlaw05.CpuCounts': WHATEVER THE INPUT: true; the input reads as it did. -/
def cpuCountsSpec : ChangeSpec := { name := "cpuCounts", fn := fun _ => fun
  | [d1, d2] => { results := [.lit (.bool true)], args := [d1, d2] }
  | _ => none }
def cpuCountsRow : OpenClaim := { program := "ythnhopmbefgmgaagreatdoor", sum := "60d55f839803ad07ca404e4675076588a52329a72d94216cc50fbe332b66b8b6", func := "caponier/caponierlaw05.CpuCounts", spec := "cpuCounts", unfollowed := true, recurses := true, named := ["caponier/alu.ofTwo", "caponier/ins.operations", "caponier/ins.layouts"], plainKeys := false, apart := false, laid := [("caponier/ins.layouts", laid_caponier_ins_layouts), ("caponier/ins.operations", laid_caponier_ins_operations), ("caponier/alu.ofTwo", laid_caponier_alu_ofTwo)] }
def CpuCountsSaid : Prop := cpuCountsRow.holds Tryz.pinned (OpenSpec.ofChange cpuCountsSpec)

/-- ITS FALSE NEIGHBOUR: 'it returns false'. Refute it at one input. -/
def cpuCountsWrong : ChangeSpec := { name := "cpuCounts", fn := fun _ => fun
  | [d1, d2] => { results := [.lit (.bool false)], args := [d1, d2] }
  | _ => none }
def CpuCountsWrongFalsely : Prop := cpuCountsRow.holds Tryz.pinned (OpenSpec.ofChange cpuCountsWrong)

/-- 'caponierlaw05.CpuGates': WHATEVER THE INPUT: true; the input reads as it did. -/
def cpuGatesSpec : ChangeSpec := { name := "cpuGates", fn := fun _ => fun
  | [d1, d2] => { results := [.lit (.bool true)], args := [d1, d2] }
  | _ => none }
def cpuGatesRow : OpenClaim := { program := "ythnhopmbefgmgaagreatdoor", sum := "60d55f839803ad07ca404e4675076588a52329a72d94216cc50fbe332b66b8b6", func := "caponier/caponierlaw05.CpuGates", spec := "cpuGates", unfollowed := true, recurses := true, named := ["caponier/alu.ofTwo", "caponier/ins.operations", "caponier/ins.layouts"], plainKeys := false, apart := false, laid := [("caponier/ins.layouts", laid_caponier_ins_layouts), ("caponier/ins.operations", laid_caponier_ins_operations), ("caponier/alu.ofTwo", laid_caponier_alu_ofTwo)] }
def CpuGatesSaid : Prop := cpuGatesRow.holds Tryz.pinned (OpenSpec.ofChange cpuGatesSpec)

/-- ITS FALSE NEIGHBOUR: 'it returns false'. Refute it at one input. -/
def cpuGatesWrong : ChangeSpec := { name := "cpuGates", fn := fun _ => fun
  | [d1, d2] => { results := [.lit (.bool false)], args := [d1, d2] }
  | _ => none }
def CpuGatesWrongFalsely : Prop := cpuGatesRow.holds Tryz.pinned (OpenSpec.ofChange cpuGatesWrong)

/-- 'caponierlaw05.CpuStores': WHATEVER THE INPUT: true; the input reads as it did. -/
def cpuStoresSpec : ChangeSpec := { name := "cpuStores", fn := fun _ => fun
  | [d1, d2] => { results := [.lit (.bool true)], args := [d1, d2] }
  | _ => none }
def cpuStoresRow : OpenClaim := { program := "ythnhopmbefgmgaagreatdoor", sum := "60d55f839803ad07ca404e4675076588a52329a72d94216cc50fbe332b66b8b6", func := "caponier/caponierlaw05.CpuStores", spec := "cpuStores", unfollowed := true, recurses := true, named := ["caponier/alu.ofTwo", "caponier/ins.operations", "caponier/ins.layouts"], plainKeys := false, apart := false, laid := [("caponier/ins.layouts", laid_caponier_ins_layouts), ("caponier/ins.operations", laid_caponier_ins_operations), ("caponier/alu.ofTwo", laid_caponier_alu_ofTwo)] }
def CpuStoresSaid : Prop := cpuStoresRow.holds Tryz.pinned (OpenSpec.ofChange cpuStoresSpec)

/-- ITS FALSE NEIGHBOUR: 'it returns false'. Refute it at one input. -/
def cpuStoresWrong : ChangeSpec := { name := "cpuStores", fn := fun _ => fun
  | [d1, d2] => { results := [.lit (.bool false)], args := [d1, d2] }
  | _ => none }
def CpuStoresWrongFalsely : Prop := cpuStoresRow.holds Tryz.pinned (OpenSpec.ofChange cpuStoresWrong)

/-- 'caponierlaw05.CpuBreaks': WHATEVER THE INPUT: true; the input reads as it did. -/
def cpuBreaksSpec : ChangeSpec := { name := "cpuBreaks", fn := fun _ => fun
  | [d1, d2] => { results := [.lit (.bool true)], args := [d1, d2] }
  | _ => none }
def cpuBreaksRow : OpenClaim := { program := "ythnhopmbefgmgaagreatdoor", sum := "60d55f839803ad07ca404e4675076588a52329a72d94216cc50fbe332b66b8b6", func := "caponier/caponierlaw05.CpuBreaks", spec := "cpuBreaks", unfollowed := true, recurses := true, named := ["caponier/alu.ofTwo", "caponier/ins.operations", "caponier/ins.layouts"], plainKeys := false, apart := false, laid := [("caponier/ins.layouts", laid_caponier_ins_layouts), ("caponier/ins.operations", laid_caponier_ins_operations), ("caponier/alu.ofTwo", laid_caponier_alu_ofTwo)] }
def CpuBreaksSaid : Prop := cpuBreaksRow.holds Tryz.pinned (OpenSpec.ofChange cpuBreaksSpec)

/-- ITS FALSE NEIGHBOUR: 'it returns false'. Refute it at one input. -/
def cpuBreaksWrong : ChangeSpec := { name := "cpuBreaks", fn := fun _ => fun
  | [d1, d2] => { results := [.lit (.bool false)], args := [d1, d2] }
  | _ => none }
def CpuBreaksWrongFalsely : Prop := cpuBreaksRow.holds Tryz.pinned (OpenSpec.ofChange cpuBreaksWrong)

/-- 'caponierlaw05.CpuFar': WHATEVER THE INPUT: true; the input reads as it did. -/
def cpuFarSpec : ChangeSpec := { name := "cpuFar", fn := fun _ => fun
  | [d1, d2, d3] => { results := [.lit (.bool true)], args := [d1, d2, d3] }
  | _ => none }
def cpuFarRow : OpenClaim := { program := "ythnhopmbefgmgaagreatdoor", sum := "60d55f839803ad07ca404e4675076588a52329a72d94216cc50fbe332b66b8b6", func := "caponier/caponierlaw05.CpuFar", spec := "cpuFar", unfollowed := true, recurses := true, named := ["caponier/alu.ofTwo", "caponier/ins.operations", "caponier/ins.layouts"], plainKeys := false, apart := false, laid := [("caponier/ins.layouts", laid_caponier_ins_layouts), ("caponier/ins.operations", laid_caponier_ins_operations), ("caponier/alu.ofTwo", laid_caponier_alu_ofTwo)] }
def CpuFarSaid : Prop := cpuFarRow.holds Tryz.pinned (OpenSpec.ofChange cpuFarSpec)

/-- ITS FALSE NEIGHBOUR: 'it returns false'. Refute it at one input. -/
def cpuFarWrong : ChangeSpec := { name := "cpuFar", fn := fun _ => fun
  | [d1, d2, d3] => { results := [.lit (.bool false)], args := [d1, d2, d3] }
  | _ => none }
def CpuFarWrongFalsely : Prop := cpuFarRow.holds Tryz.pinned (OpenSpec.ofChange cpuFarWrong)

/- THE SECOND FORM. 'bulk': how many values and letters a reading holds, each counted each time it is reached (what is shared counts as often as it is met; a slice's spare places count too). A statement '..UptoSaid' is the law's where the arguments, and the package variables that the reading takes, are together of bulk at most 1048576: NARROWER than '..Said'. Prove '..Said' where nothing that the law and all that it calls make is longer than what came in: it says more and counts as full. Else prove '..UptoSaid'. A law counts once. -/
mutual
def uptoBulk {H : Type} : DataW H → Nat
  | .lit (.string bytes) => bytes.length + 1
  | .lit _ => 1
  | .nil => 1
  | .ptr d => uptoBulk d + 1
  | .slice elems spare => uptoBulkAll elems + uptoBulkAll spare + 1
  | .agg parts => uptoBulkAll parts + 1
  | .iface _ d => uptoBulk d + 1
  | .map entries => uptoBulkEntries entries + 1
  | .held _ => 1
def uptoBulkAll {H : Type} : List (DataW H) → Nat
  | [] => 0
  | d :: r => uptoBulk d + uptoBulkAll r
def uptoBulkEntries {H : Type} : List (Lit × DataW H) → Nat
  | [] => 0
  | x :: r => uptoBulkEntry x + uptoBulkEntries r
def uptoBulkEntry {H : Type} : Lit × DataW H → Nat
  | (.string bytes, d) => bytes.length + uptoBulk d + 1
  | (_, d) => uptoBulk d + 1
 end
def uptoSmall : (H : Type) → List (DataW H) → Bool := fun _ ds => decide (uptoBulkAll ds ≤ 1048576)
def OpenSpec.upto (s : _root_.Go.ChangeSpec) : _root_.Go.OpenSpec := { _root_.Go.OpenSpec.ofChange s with cond := some uptoSmall }

/-- 'caponierlaw05.CpuRuns', WHERE WHAT IT READS IS OF BULK AT MOST 1048576: true; the input reads as it did. -/
def cpuRunsUptoRow : OpenClaim := { program := "ythnhopmbefgmgaagreatdoor", sum := "60d55f839803ad07ca404e4675076588a52329a72d94216cc50fbe332b66b8b6", func := "caponier/caponierlaw05.CpuRuns", spec := "cpuRuns", unfollowed := true, recurses := true, named := ["caponier/alu.ofTwo", "caponier/ins.operations", "caponier/ins.layouts"], plainKeys := false, apart := false, laid := [("caponier/ins.layouts", laid_caponier_ins_layouts), ("caponier/ins.operations", laid_caponier_ins_operations), ("caponier/alu.ofTwo", laid_caponier_alu_ofTwo)], narrowed := true }
def CpuRunsUptoSaid : Prop := cpuRunsUptoRow.holds Tryz.pinned (OpenSpec.upto cpuRunsSpec)

/-- 'caponierlaw05.CpuSteps', WHERE WHAT IT READS IS OF BULK AT MOST 1048576: true; the input reads as it did. -/
def cpuStepsUptoRow : OpenClaim := { program := "ythnhopmbefgmgaagreatdoor", sum := "60d55f839803ad07ca404e4675076588a52329a72d94216cc50fbe332b66b8b6", func := "caponier/caponierlaw05.CpuSteps", spec := "cpuSteps", unfollowed := true, recurses := true, named := ["caponier/alu.ofTwo", "caponier/ins.operations", "caponier/ins.layouts"], plainKeys := false, apart := false, laid := [("caponier/ins.layouts", laid_caponier_ins_layouts), ("caponier/ins.operations", laid_caponier_ins_operations), ("caponier/alu.ofTwo", laid_caponier_alu_ofTwo)], narrowed := true }
def CpuStepsUptoSaid : Prop := cpuStepsUptoRow.holds Tryz.pinned (OpenSpec.upto cpuStepsSpec)

/-- 'caponierlaw05.CpuCounts', WHERE WHAT IT READS IS OF BULK AT MOST 1048576: true; the input reads as it did. -/
def cpuCountsUptoRow : OpenClaim := { program := "ythnhopmbefgmgaagreatdoor", sum := "60d55f839803ad07ca404e4675076588a52329a72d94216cc50fbe332b66b8b6", func := "caponier/caponierlaw05.CpuCounts", spec := "cpuCounts", unfollowed := true, recurses := true, named := ["caponier/alu.ofTwo", "caponier/ins.operations", "caponier/ins.layouts"], plainKeys := false, apart := false, laid := [("caponier/ins.layouts", laid_caponier_ins_layouts), ("caponier/ins.operations", laid_caponier_ins_operations), ("caponier/alu.ofTwo", laid_caponier_alu_ofTwo)], narrowed := true }
def CpuCountsUptoSaid : Prop := cpuCountsUptoRow.holds Tryz.pinned (OpenSpec.upto cpuCountsSpec)

/-- 'caponierlaw05.CpuGates', WHERE WHAT IT READS IS OF BULK AT MOST 1048576: true; the input reads as it did. -/
def cpuGatesUptoRow : OpenClaim := { program := "ythnhopmbefgmgaagreatdoor", sum := "60d55f839803ad07ca404e4675076588a52329a72d94216cc50fbe332b66b8b6", func := "caponier/caponierlaw05.CpuGates", spec := "cpuGates", unfollowed := true, recurses := true, named := ["caponier/alu.ofTwo", "caponier/ins.operations", "caponier/ins.layouts"], plainKeys := false, apart := false, laid := [("caponier/ins.layouts", laid_caponier_ins_layouts), ("caponier/ins.operations", laid_caponier_ins_operations), ("caponier/alu.ofTwo", laid_caponier_alu_ofTwo)], narrowed := true }
def CpuGatesUptoSaid : Prop := cpuGatesUptoRow.holds Tryz.pinned (OpenSpec.upto cpuGatesSpec)

/-- 'caponierlaw05.CpuStores', WHERE WHAT IT READS IS OF BULK AT MOST 1048576: true; the input reads as it did. -/
def cpuStoresUptoRow : OpenClaim := { program := "ythnhopmbefgmgaagreatdoor", sum := "60d55f839803ad07ca404e4675076588a52329a72d94216cc50fbe332b66b8b6", func := "caponier/caponierlaw05.CpuStores", spec := "cpuStores", unfollowed := true, recurses := true, named := ["caponier/alu.ofTwo", "caponier/ins.operations", "caponier/ins.layouts"], plainKeys := false, apart := false, laid := [("caponier/ins.layouts", laid_caponier_ins_layouts), ("caponier/ins.operations", laid_caponier_ins_operations), ("caponier/alu.ofTwo", laid_caponier_alu_ofTwo)], narrowed := true }
def CpuStoresUptoSaid : Prop := cpuStoresUptoRow.holds Tryz.pinned (OpenSpec.upto cpuStoresSpec)

/-- 'caponierlaw05.CpuBreaks', WHERE WHAT IT READS IS OF BULK AT MOST 1048576: true; the input reads as it did. -/
def cpuBreaksUptoRow : OpenClaim := { program := "ythnhopmbefgmgaagreatdoor", sum := "60d55f839803ad07ca404e4675076588a52329a72d94216cc50fbe332b66b8b6", func := "caponier/caponierlaw05.CpuBreaks", spec := "cpuBreaks", unfollowed := true, recurses := true, named := ["caponier/alu.ofTwo", "caponier/ins.operations", "caponier/ins.layouts"], plainKeys := false, apart := false, laid := [("caponier/ins.layouts", laid_caponier_ins_layouts), ("caponier/ins.operations", laid_caponier_ins_operations), ("caponier/alu.ofTwo", laid_caponier_alu_ofTwo)], narrowed := true }
def CpuBreaksUptoSaid : Prop := cpuBreaksUptoRow.holds Tryz.pinned (OpenSpec.upto cpuBreaksSpec)

/-- 'caponierlaw05.CpuFar', WHERE WHAT IT READS IS OF BULK AT MOST 1048576: true; the input reads as it did. -/
def cpuFarUptoRow : OpenClaim := { program := "ythnhopmbefgmgaagreatdoor", sum := "60d55f839803ad07ca404e4675076588a52329a72d94216cc50fbe332b66b8b6", func := "caponier/caponierlaw05.CpuFar", spec := "cpuFar", unfollowed := true, recurses := true, named := ["caponier/alu.ofTwo", "caponier/ins.operations", "caponier/ins.layouts"], plainKeys := false, apart := false, laid := [("caponier/ins.layouts", laid_caponier_ins_layouts), ("caponier/ins.operations", laid_caponier_ins_operations), ("caponier/alu.ofTwo", laid_caponier_alu_ofTwo)], narrowed := true }
def CpuFarUptoSaid : Prop := cpuFarUptoRow.holds Tryz.pinned (OpenSpec.upto cpuFarSpec)

end Rows
end Go.Proofs.YthnhopmbefgmgaaGreatDoor
