/-
  NARROWER THAN 'FOR EVERY INPUT', by the rows' own cells (each row's printed sentence says how): AluReckons: laid · AluDivides: laid · AluBranches: laid · AluSums: laid · AluShifts: laid · AluBits: laid · AluOrder: laid · AluMul: laid.
  DERIVED. THE GIVEN ROWS OF THIS SEAT. 8 by the template 'for every input the law returns true; each argument reads behind the call as it read before'; 0 by the template 'total and deterministic' (their statements: YtndaphdfhlefoaaDoorTotals.lean).
  GIVEN WITH THE SEED: the statements are not yours to turn. If you find one false, say at which input.
  Laid BY PROGRAM, IN A SANDBOX (cutbox-rows.mjs): the forced cells as the released guide's own fill.sh prints them over the translation 25c3961ff41c2007… (all of the seat's roots in one cut). By AI agents, Wed Nov 11 2026. No macro, syntax, notation, axiom, sorry.
-/
import Derived.Test.YtndaphdfhlefoaaDoorChecked
import GoSem.Claim
import GoSem.ClaimJoined
import GoSem.ClaimMapViews
import Derived.JoinedTies
import Derived.KernelRfl
namespace Go.Proofs.YtndaphdfhlefoaaDoor
/- THE CELL 'sum', in the pinned program and in every row, IS THE sha256 OF THE DUMP (.gsa) THAT YtndaphdfhlefoaaDoorProg.lean LOADS. Nothing in Lean hashes anything: it is a label: what it is worth is what the hold of that sum in a sandbox is worth. -/
noncomputable def Tryd.pinned : Pinned := { name := "ytndaphdfhlefoaadoor", sum := "25c3961ff41c200711714c5db610fc13ef33817893825be11e201327631067ec", checked := Tryd.checked }
namespace Rows
def none {H : Type} : Left H := { results := [], args := [] }

/- WHAT THE LISTED PACKAGE-LEVEL VARIABLES READ AS WHEN THE CALL BEGINS. Each datum BY PROGRAM (the guide's laid-datum.mjs) off the statement by which the dump's own 'gosem.cut.vars' lays the variable. In a bare row this is a premise. The card (YtndaphdfhlefoaaDoorCards.lean) ties it to the program's text. -/
def laid_caponier_alu_ofTwo {H : Type} : DataW H := .agg [.lit (.int .i64 0), .lit (.int .i64 3), .lit (.int .i64 4), .lit (.int .i64 5), .lit (.int .i64 8), .lit (.int .i64 9), .lit (.int .i64 2), .lit (.int .i64 6), .lit (.int .i64 7)]

/-- 'caponierlaw03.AluReckons': WHATEVER THE INPUT: true; the input reads as it did. -/
def aluReckonsSpec : ChangeSpec := { name := "aluReckons", fn := fun _ => fun
  | [d1, d2, d3] => { results := [.lit (.bool true)], args := [d1, d2, d3] }
  | _ => none }
def aluReckonsRow : OpenClaim := { program := "ytndaphdfhlefoaadoor", sum := "25c3961ff41c200711714c5db610fc13ef33817893825be11e201327631067ec", func := "caponier/caponierlaw03.AluReckons", spec := "aluReckons", unfollowed := true, recurses := true, named := ["caponier/alu.ofTwo"], apart := false, laid := [("caponier/alu.ofTwo", laid_caponier_alu_ofTwo)] }
def AluReckonsSaid : Prop := aluReckonsRow.holds Tryd.pinned (OpenSpec.ofChange aluReckonsSpec)

/-- ITS FALSE NEIGHBOUR: 'it returns false'. Refute it at one input. -/
def aluReckonsWrong : ChangeSpec := { name := "aluReckons", fn := fun _ => fun
  | [d1, d2, d3] => { results := [.lit (.bool false)], args := [d1, d2, d3] }
  | _ => none }
def AluReckonsWrongFalsely : Prop := aluReckonsRow.holds Tryd.pinned (OpenSpec.ofChange aluReckonsWrong)

/-- 'caponierlaw03.AluDivides': WHATEVER THE INPUT: true; the input reads as it did. -/
def aluDividesSpec : ChangeSpec := { name := "aluDivides", fn := fun _ => fun
  | [d1, d2] => { results := [.lit (.bool true)], args := [d1, d2] }
  | _ => none }
def aluDividesRow : OpenClaim := { program := "ytndaphdfhlefoaadoor", sum := "25c3961ff41c200711714c5db610fc13ef33817893825be11e201327631067ec", func := "caponier/caponierlaw03.AluDivides", spec := "aluDivides", unfollowed := true, recurses := true, named := ["caponier/alu.ofTwo"], apart := false, laid := [("caponier/alu.ofTwo", laid_caponier_alu_ofTwo)] }
def AluDividesSaid : Prop := aluDividesRow.holds Tryd.pinned (OpenSpec.ofChange aluDividesSpec)

/-- ITS FALSE NEIGHBOUR: 'it returns false'. Refute it at one input. -/
def aluDividesWrong : ChangeSpec := { name := "aluDivides", fn := fun _ => fun
  | [d1, d2] => { results := [.lit (.bool false)], args := [d1, d2] }
  | _ => none }
def AluDividesWrongFalsely : Prop := aluDividesRow.holds Tryd.pinned (OpenSpec.ofChange aluDividesWrong)

/-- 'caponierlaw03.AluBranches': WHATEVER THE INPUT: true; the input reads as it did. -/
def aluBranchesSpec : ChangeSpec := { name := "aluBranches", fn := fun _ => fun
  | [d1, d2] => { results := [.lit (.bool true)], args := [d1, d2] }
  | _ => none }
def aluBranchesRow : OpenClaim := { program := "ytndaphdfhlefoaadoor", sum := "25c3961ff41c200711714c5db610fc13ef33817893825be11e201327631067ec", func := "caponier/caponierlaw03.AluBranches", spec := "aluBranches", unfollowed := true, recurses := true, named := ["caponier/alu.ofTwo"], apart := false, laid := [("caponier/alu.ofTwo", laid_caponier_alu_ofTwo)] }
def AluBranchesSaid : Prop := aluBranchesRow.holds Tryd.pinned (OpenSpec.ofChange aluBranchesSpec)

/-- ITS FALSE NEIGHBOUR: 'it returns false'. Refute it at one input. -/
def aluBranchesWrong : ChangeSpec := { name := "aluBranches", fn := fun _ => fun
  | [d1, d2] => { results := [.lit (.bool false)], args := [d1, d2] }
  | _ => none }
def AluBranchesWrongFalsely : Prop := aluBranchesRow.holds Tryd.pinned (OpenSpec.ofChange aluBranchesWrong)

/-- 'caponierlaw03.AluSums': WHATEVER THE INPUT: true; the input reads as it did. -/
def aluSumsSpec : ChangeSpec := { name := "aluSums", fn := fun _ => fun
  | [d1, d2] => { results := [.lit (.bool true)], args := [d1, d2] }
  | _ => none }
def aluSumsRow : OpenClaim := { program := "ytndaphdfhlefoaadoor", sum := "25c3961ff41c200711714c5db610fc13ef33817893825be11e201327631067ec", func := "caponier/caponierlaw03.AluSums", spec := "aluSums", unfollowed := true, recurses := true, named := ["caponier/alu.ofTwo"], apart := false, laid := [("caponier/alu.ofTwo", laid_caponier_alu_ofTwo)] }
def AluSumsSaid : Prop := aluSumsRow.holds Tryd.pinned (OpenSpec.ofChange aluSumsSpec)

/-- ITS FALSE NEIGHBOUR: 'it returns false'. Refute it at one input. -/
def aluSumsWrong : ChangeSpec := { name := "aluSums", fn := fun _ => fun
  | [d1, d2] => { results := [.lit (.bool false)], args := [d1, d2] }
  | _ => none }
def AluSumsWrongFalsely : Prop := aluSumsRow.holds Tryd.pinned (OpenSpec.ofChange aluSumsWrong)

/-- 'caponierlaw03.AluShifts': WHATEVER THE INPUT: true; the input reads as it did. -/
def aluShiftsSpec : ChangeSpec := { name := "aluShifts", fn := fun _ => fun
  | [d1, d2] => { results := [.lit (.bool true)], args := [d1, d2] }
  | _ => none }
def aluShiftsRow : OpenClaim := { program := "ytndaphdfhlefoaadoor", sum := "25c3961ff41c200711714c5db610fc13ef33817893825be11e201327631067ec", func := "caponier/caponierlaw03.AluShifts", spec := "aluShifts", unfollowed := true, recurses := true, named := ["caponier/alu.ofTwo"], apart := false, laid := [("caponier/alu.ofTwo", laid_caponier_alu_ofTwo)] }
def AluShiftsSaid : Prop := aluShiftsRow.holds Tryd.pinned (OpenSpec.ofChange aluShiftsSpec)

/-- ITS FALSE NEIGHBOUR: 'it returns false'. Refute it at one input. -/
def aluShiftsWrong : ChangeSpec := { name := "aluShifts", fn := fun _ => fun
  | [d1, d2] => { results := [.lit (.bool false)], args := [d1, d2] }
  | _ => none }
def AluShiftsWrongFalsely : Prop := aluShiftsRow.holds Tryd.pinned (OpenSpec.ofChange aluShiftsWrong)

/-- 'caponierlaw03.AluBits': WHATEVER THE INPUT: true; the input reads as it did. -/
def aluBitsSpec : ChangeSpec := { name := "aluBits", fn := fun _ => fun
  | [d1, d2, d3] => { results := [.lit (.bool true)], args := [d1, d2, d3] }
  | _ => none }
def aluBitsRow : OpenClaim := { program := "ytndaphdfhlefoaadoor", sum := "25c3961ff41c200711714c5db610fc13ef33817893825be11e201327631067ec", func := "caponier/caponierlaw03.AluBits", spec := "aluBits", unfollowed := true, recurses := true, named := ["caponier/alu.ofTwo"], apart := false, laid := [("caponier/alu.ofTwo", laid_caponier_alu_ofTwo)] }
def AluBitsSaid : Prop := aluBitsRow.holds Tryd.pinned (OpenSpec.ofChange aluBitsSpec)

/-- ITS FALSE NEIGHBOUR: 'it returns false'. Refute it at one input. -/
def aluBitsWrong : ChangeSpec := { name := "aluBits", fn := fun _ => fun
  | [d1, d2, d3] => { results := [.lit (.bool false)], args := [d1, d2, d3] }
  | _ => none }
def AluBitsWrongFalsely : Prop := aluBitsRow.holds Tryd.pinned (OpenSpec.ofChange aluBitsWrong)

/-- 'caponierlaw03.AluOrder': WHATEVER THE INPUT: true; the input reads as it did. -/
def aluOrderSpec : ChangeSpec := { name := "aluOrder", fn := fun _ => fun
  | [d1, d2, d3] => { results := [.lit (.bool true)], args := [d1, d2, d3] }
  | _ => none }
def aluOrderRow : OpenClaim := { program := "ytndaphdfhlefoaadoor", sum := "25c3961ff41c200711714c5db610fc13ef33817893825be11e201327631067ec", func := "caponier/caponierlaw03.AluOrder", spec := "aluOrder", unfollowed := true, recurses := true, named := ["caponier/alu.ofTwo"], apart := false, laid := [("caponier/alu.ofTwo", laid_caponier_alu_ofTwo)] }
def AluOrderSaid : Prop := aluOrderRow.holds Tryd.pinned (OpenSpec.ofChange aluOrderSpec)

/-- ITS FALSE NEIGHBOUR: 'it returns false'. Refute it at one input. -/
def aluOrderWrong : ChangeSpec := { name := "aluOrder", fn := fun _ => fun
  | [d1, d2, d3] => { results := [.lit (.bool false)], args := [d1, d2, d3] }
  | _ => none }
def AluOrderWrongFalsely : Prop := aluOrderRow.holds Tryd.pinned (OpenSpec.ofChange aluOrderWrong)

/-- 'caponierlaw03.AluMul': WHATEVER THE INPUT: true; the input reads as it did. -/
def aluMulSpec : ChangeSpec := { name := "aluMul", fn := fun _ => fun
  | [d1, d2, d3] => { results := [.lit (.bool true)], args := [d1, d2, d3] }
  | _ => none }
def aluMulRow : OpenClaim := { program := "ytndaphdfhlefoaadoor", sum := "25c3961ff41c200711714c5db610fc13ef33817893825be11e201327631067ec", func := "caponier/caponierlaw03.AluMul", spec := "aluMul", unfollowed := true, recurses := true, named := ["caponier/alu.ofTwo"], apart := false, laid := [("caponier/alu.ofTwo", laid_caponier_alu_ofTwo)] }
def AluMulSaid : Prop := aluMulRow.holds Tryd.pinned (OpenSpec.ofChange aluMulSpec)

/-- ITS FALSE NEIGHBOUR: 'it returns false'. Refute it at one input. -/
def aluMulWrong : ChangeSpec := { name := "aluMul", fn := fun _ => fun
  | [d1, d2, d3] => { results := [.lit (.bool false)], args := [d1, d2, d3] }
  | _ => none }
def AluMulWrongFalsely : Prop := aluMulRow.holds Tryd.pinned (OpenSpec.ofChange aluMulWrong)

/- THE SECOND FORM. 'bulk': how many values and letters a reading holds, each counted each time it is reached (what is shared counts as often as it is met; a slice's spare places count too). A statement '..UptoSaid' is the law's where the arguments, and the package variables that the reading takes, are together of bulk at most 1048576: NARROWER than '..Said'. Prove '..Said' where nothing that the law and all that it calls make is longer than what came in: it says more and counts as full. Else prove '..UptoSaid'. A law counts once. -/
mutual
def uptoBulk {H : Type} : DataW H → Nat
  | .lit (.string bytes) => bytes.length + 1
  | .lit _ => 1
  | .nil => 1
  | .ptr d => uptoBulk d + 1
  | .slice elems spare => uptoBulkAll elems + uptoBulkAll spare + 1
  | .agg parts => uptoBulkAll parts + 1
  | .iface _ d => uptoBulk d + 1
  | .map entries => uptoBulkEntries entries + 1
  | .held _ => 1
def uptoBulkAll {H : Type} : List (DataW H) → Nat
  | [] => 0
  | d :: r => uptoBulk d + uptoBulkAll r
def uptoBulkEntries {H : Type} : List (Lit × DataW H) → Nat
  | [] => 0
  | x :: r => uptoBulkEntry x + uptoBulkEntries r
def uptoBulkEntry {H : Type} : Lit × DataW H → Nat
  | (.string bytes, d) => bytes.length + uptoBulk d + 1
  | (_, d) => uptoBulk d + 1
 end
def uptoSmall : (H : Type) → List (DataW H) → Bool := fun _ ds => decide (uptoBulkAll ds ≤ 1048576)
def OpenSpec.upto (s : _root_.Go.ChangeSpec) : _root_.Go.OpenSpec := { _root_.Go.OpenSpec.ofChange s with cond := some uptoSmall }

/-- 'caponierlaw03.AluReckons', WHERE WHAT IT READS IS OF BULK AT MOST 1048576: true; the input reads as it did. -/
def aluReckonsUptoRow : OpenClaim := { program := "ytndaphdfhlefoaadoor", sum := "25c3961ff41c200711714c5db610fc13ef33817893825be11e201327631067ec", func := "caponier/caponierlaw03.AluReckons", spec := "aluReckons", unfollowed := true, recurses := true, named := ["caponier/alu.ofTwo"], apart := false, laid := [("caponier/alu.ofTwo", laid_caponier_alu_ofTwo)], narrowed := true }
def AluReckonsUptoSaid : Prop := aluReckonsUptoRow.holds Tryd.pinned (OpenSpec.upto aluReckonsSpec)

/-- 'caponierlaw03.AluDivides', WHERE WHAT IT READS IS OF BULK AT MOST 1048576: true; the input reads as it did. -/
def aluDividesUptoRow : OpenClaim := { program := "ytndaphdfhlefoaadoor", sum := "25c3961ff41c200711714c5db610fc13ef33817893825be11e201327631067ec", func := "caponier/caponierlaw03.AluDivides", spec := "aluDivides", unfollowed := true, recurses := true, named := ["caponier/alu.ofTwo"], apart := false, laid := [("caponier/alu.ofTwo", laid_caponier_alu_ofTwo)], narrowed := true }
def AluDividesUptoSaid : Prop := aluDividesUptoRow.holds Tryd.pinned (OpenSpec.upto aluDividesSpec)

/-- 'caponierlaw03.AluBranches', WHERE WHAT IT READS IS OF BULK AT MOST 1048576: true; the input reads as it did. -/
def aluBranchesUptoRow : OpenClaim := { program := "ytndaphdfhlefoaadoor", sum := "25c3961ff41c200711714c5db610fc13ef33817893825be11e201327631067ec", func := "caponier/caponierlaw03.AluBranches", spec := "aluBranches", unfollowed := true, recurses := true, named := ["caponier/alu.ofTwo"], apart := false, laid := [("caponier/alu.ofTwo", laid_caponier_alu_ofTwo)], narrowed := true }
def AluBranchesUptoSaid : Prop := aluBranchesUptoRow.holds Tryd.pinned (OpenSpec.upto aluBranchesSpec)

/-- 'caponierlaw03.AluSums', WHERE WHAT IT READS IS OF BULK AT MOST 1048576: true; the input reads as it did. -/
def aluSumsUptoRow : OpenClaim := { program := "ytndaphdfhlefoaadoor", sum := "25c3961ff41c200711714c5db610fc13ef33817893825be11e201327631067ec", func := "caponier/caponierlaw03.AluSums", spec := "aluSums", unfollowed := true, recurses := true, named := ["caponier/alu.ofTwo"], apart := false, laid := [("caponier/alu.ofTwo", laid_caponier_alu_ofTwo)], narrowed := true }
def AluSumsUptoSaid : Prop := aluSumsUptoRow.holds Tryd.pinned (OpenSpec.upto aluSumsSpec)

/-- 'caponierlaw03.AluShifts', WHERE WHAT IT READS IS OF BULK AT MOST 1048576: true; the input reads as it did. -/
def aluShiftsUptoRow : OpenClaim := { program := "ytndaphdfhlefoaadoor", sum := "25c3961ff41c200711714c5db610fc13ef33817893825be11e201327631067ec", func := "caponier/caponierlaw03.AluShifts", spec := "aluShifts", unfollowed := true, recurses := true, named := ["caponier/alu.ofTwo"], apart := false, laid := [("caponier/alu.ofTwo", laid_caponier_alu_ofTwo)], narrowed := true }
def AluShiftsUptoSaid : Prop := aluShiftsUptoRow.holds Tryd.pinned (OpenSpec.upto aluShiftsSpec)

/-- 'caponierlaw03.AluBits', WHERE WHAT IT READS IS OF BULK AT MOST 1048576: true; the input reads as it did. -/
def aluBitsUptoRow : OpenClaim := { program := "ytndaphdfhlefoaadoor", sum := "25c3961ff41c200711714c5db610fc13ef33817893825be11e201327631067ec", func := "caponier/caponierlaw03.AluBits", spec := "aluBits", unfollowed := true, recurses := true, named := ["caponier/alu.ofTwo"], apart := false, laid := [("caponier/alu.ofTwo", laid_caponier_alu_ofTwo)], narrowed := true }
def AluBitsUptoSaid : Prop := aluBitsUptoRow.holds Tryd.pinned (OpenSpec.upto aluBitsSpec)

/-- 'caponierlaw03.AluOrder', WHERE WHAT IT READS IS OF BULK AT MOST 1048576: true; the input reads as it did. -/
def aluOrderUptoRow : OpenClaim := { program := "ytndaphdfhlefoaadoor", sum := "25c3961ff41c200711714c5db610fc13ef33817893825be11e201327631067ec", func := "caponier/caponierlaw03.AluOrder", spec := "aluOrder", unfollowed := true, recurses := true, named := ["caponier/alu.ofTwo"], apart := false, laid := [("caponier/alu.ofTwo", laid_caponier_alu_ofTwo)], narrowed := true }
def AluOrderUptoSaid : Prop := aluOrderUptoRow.holds Tryd.pinned (OpenSpec.upto aluOrderSpec)

/-- 'caponierlaw03.AluMul', WHERE WHAT IT READS IS OF BULK AT MOST 1048576: true; the input reads as it did. -/
def aluMulUptoRow : OpenClaim := { program := "ytndaphdfhlefoaadoor", sum := "25c3961ff41c200711714c5db610fc13ef33817893825be11e201327631067ec", func := "caponier/caponierlaw03.AluMul", spec := "aluMul", unfollowed := true, recurses := true, named := ["caponier/alu.ofTwo"], apart := false, laid := [("caponier/alu.ofTwo", laid_caponier_alu_ofTwo)], narrowed := true }
def AluMulUptoSaid : Prop := aluMulUptoRow.holds Tryd.pinned (OpenSpec.upto aluMulSpec)

end Rows
end Go.Proofs.YtndaphdfhlefoaaDoor
