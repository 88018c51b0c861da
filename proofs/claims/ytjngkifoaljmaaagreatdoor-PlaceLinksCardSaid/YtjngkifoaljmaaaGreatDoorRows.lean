/-
  NARROWER THAN 'FOR EVERY INPUT', by the rows' own cells (each row's printed sentence says how): PlaceLinks: laid.
  DERIVED. THE GIVEN ROWS OF THIS SEAT. 1 by the template 'for every input the law returns true; each argument reads behind the call as it read before'; 0 by the template 'total and deterministic' (their statements: YtjngkifoaljmaaaGreatDoorTotals.lean).
  GIVEN WITH THE SEED: the statements are not yours to turn. If you find one false, say at which input.
  Laid BY PROGRAM, IN A SANDBOX (cutbox-rows.mjs): the forced cells as the released guide's own fill.sh prints them over the translation 07932f9adeac1921… (all of the seat's roots in one cut). By AI agents, Wed Nov 11 2026. No macro, syntax, notation, axiom, sorry.
-/
import Derived.Test.YtjngkifoaljmaaaGreatDoorChecked
import GoSem.Claim
import GoSem.ClaimJoined
import GoSem.ClaimMapViews
import Derived.JoinedTies
import Derived.KernelRfl
namespace Go.Proofs.YtjngkifoaljmaaaGreatDoor
/- THE CELL 'sum', in the pinned program and in every row, IS THE sha256 OF THE DUMP (.gsa) THAT YtjngkifoaljmaaaGreatDoorProg.lean LOADS. Nothing in Lean hashes anything: it is a label: what it is worth is what the hold of that sum in a sandbox is worth. -/
noncomputable def Tryz.pinned : Pinned := { name := "ytjngkifoaljmaaagreatdoor", sum := "07932f9adeac192137236d7688010512c96a54f50d90efcbae3c3ba8c079969a", checked := Tryz.checked }
namespace Rows
def none {H : Type} : Left H := { results := [], args := [] }

/- WHAT THE LISTED PACKAGE-LEVEL VARIABLES READ AS WHEN THE CALL BEGINS. Each datum BY PROGRAM (the guide's laid-datum.mjs) off the statement by which the dump's own 'gosem.cut.vars' lays the variable. In a bare row this is a premise. The card (YtjngkifoaljmaaaGreatDoorCards.lean) ties it to the program's text. -/
def laid_caponier_ins_layouts {H : Type} : DataW H := .agg [.agg [.lit (.string [82]), .lit (.bool true), .lit (.bool true), .lit (.bool true), .lit (.bool true), .lit (.int .i64 25), .lit (.int .i64 0), .agg [.agg [.lit (.int .i64 0), .lit (.int .i64 0), .lit (.int .i64 0)], .agg [.lit (.int .i64 0), .lit (.int .i64 0), .lit (.int .i64 0)], .agg [.lit (.int .i64 0), .lit (.int .i64 0), .lit (.int .i64 0)], .agg [.lit (.int .i64 0), .lit (.int .i64 0), .lit (.int .i64 0)]]], .agg [.lit (.string [73]), .lit (.bool true), .lit (.bool true), .lit (.bool false), .lit (.bool true), .lit (.int .i64 32), .lit (.int .i64 12), .agg [.agg [.lit (.int .i64 0), .lit (.int .i64 12), .lit (.int .i64 20)], .agg [.lit (.int .i64 0), .lit (.int .i64 0), .lit (.int .i64 0)], .agg [.lit (.int .i64 0), .lit (.int .i64 0), .lit (.int .i64 0)], .agg [.lit (.int .i64 0), .lit (.int .i64 0), .lit (.int .i64 0)]]], .agg [.lit (.string [73]), .lit (.bool true), .lit (.bool true), .lit (.bool false), .lit (.bool true), .lit (.int .i64 26), .lit (.int .i64 0), .agg [.agg [.lit (.int .i64 0), .lit (.int .i64 6), .lit (.int .i64 20)], .agg [.lit (.int .i64 0), .lit (.int .i64 0), .lit (.int .i64 0)], .agg [.lit (.int .i64 0), .lit (.int .i64 0), .lit (.int .i64 0)], .agg [.lit (.int .i64 0), .lit (.int .i64 0), .lit (.int .i64 0)]]], .agg [.lit (.string [83]), .lit (.bool false), .lit (.bool true), .lit (.bool true), .lit (.bool true), .lit (.int .i64 32), .lit (.int .i64 12), .agg [.agg [.lit (.int .i64 0), .lit (.int .i64 5), .lit (.int .i64 7)], .agg [.lit (.int .i64 5), .lit (.int .i64 7), .lit (.int .i64 25)], .agg [.lit (.int .i64 0), .lit (.int .i64 0), .lit (.int .i64 0)], .agg [.lit (.int .i64 0), .lit (.int .i64 0), .lit (.int .i64 0)]]], .agg [.lit (.string [66]), .lit (.bool false), .lit (.bool true), .lit (.bool true), .lit (.bool true), .lit (.int .i64 32), .lit (.int .i64 13), .agg [.agg [.lit (.int .i64 1), .lit (.int .i64 4), .lit (.int .i64 8)], .agg [.lit (.int .i64 5), .lit (.int .i64 6), .lit (.int .i64 25)], .agg [.lit (.int .i64 11), .lit (.int .i64 1), .lit (.int .i64 7)], .agg [.lit (.int .i64 12), .lit (.int .i64 1), .lit (.int .i64 31)]]], .agg [.lit (.string [85]), .lit (.bool true), .lit (.bool false), .lit (.bool false), .lit (.bool false), .lit (.int .i64 32), .lit (.int .i64 32), .agg [.agg [.lit (.int .i64 12), .lit (.int .i64 20), .lit (.int .i64 12)], .agg [.lit (.int .i64 0), .lit (.int .i64 0), .lit (.int .i64 0)], .agg [.lit (.int .i64 0), .lit (.int .i64 0), .lit (.int .i64 0)], .agg [.lit (.int .i64 0), .lit (.int .i64 0), .lit (.int .i64 0)]]], .agg [.lit (.string [74]), .lit (.bool true), .lit (.bool false), .lit (.bool false), .lit (.bool false), .lit (.int .i64 32), .lit (.int .i64 21), .agg [.agg [.lit (.int .i64 1), .lit (.int .i64 10), .lit (.int .i64 21)], .agg [.lit (.int .i64 11), .lit (.int .i64 1), .lit (.int .i64 20)], .agg [.lit (.int .i64 12), .lit (.int .i64 8), .lit (.int .i64 12)], .agg [.lit (.int .i64 20), .lit (.int .i64 1), .lit (.int .i64 31)]]], .agg [.lit (.string [69]), .lit (.bool false), .lit (.bool false), .lit (.bool false), .lit (.bool false), .lit (.int .i64 7), .lit (.int .i64 0), .agg [.agg [.lit (.int .i64 0), .lit (.int .i64 0), .lit (.int .i64 0)], .agg [.lit (.int .i64 0), .lit (.int .i64 0), .lit (.int .i64 0)], .agg [.lit (.int .i64 0), .lit (.int .i64 0), .lit (.int .i64 0)], .agg [.lit (.int .i64 0), .lit (.int .i64 0), .lit (.int .i64 0)]]]]
def laid_caponier_ins_operations {H : Type} : DataW H := .agg [.agg [.lit (.int .i64 0), .lit (.int .u32 51), .lit (.int .u32 0), .lit (.int .u32 0)], .agg [.lit (.int .i64 0), .lit (.int .u32 51), .lit (.int .u32 0), .lit (.int .u32 32)], .agg [.lit (.int .i64 0), .lit (.int .u32 51), .lit (.int .u32 1), .lit (.int .u32 0)], .agg [.lit (.int .i64 0), .lit (.int .u32 51), .lit (.int .u32 2), .lit (.int .u32 0)], .agg [.lit (.int .i64 0), .lit (.int .u32 51), .lit (.int .u32 3), .lit (.int .u32 0)], .agg [.lit (.int .i64 0), .lit (.int .u32 51), .lit (.int .u32 4), .lit (.int .u32 0)], .agg [.lit (.int .i64 0), .lit (.int .u32 51), .lit (.int .u32 5), .lit (.int .u32 0)], .agg [.lit (.int .i64 0), .lit (.int .u32 51), .lit (.int .u32 5), .lit (.int .u32 32)], .agg [.lit (.int .i64 0), .lit (.int .u32 51), .lit (.int .u32 6), .lit (.int .u32 0)], .agg [.lit (.int .i64 0), .lit (.int .u32 51), .lit (.int .u32 7), .lit (.int .u32 0)], .agg [.lit (.int .i64 0), .lit (.int .u32 51), .lit (.int .u32 0), .lit (.int .u32 1)], .agg [.lit (.int .i64 0), .lit (.int .u32 51), .lit (.int .u32 3), .lit (.int .u32 1)], .agg [.lit (.int .i64 0), .lit (.int .u32 51), .lit (.int .u32 4), .lit (.int .u32 1)], .agg [.lit (.int .i64 0), .lit (.int .u32 51), .lit (.int .u32 5), .lit (.int .u32 1)], .agg [.lit (.int .i64 0), .lit (.int .u32 51), .lit (.int .u32 6), .lit (.int .u32 1)], .agg [.lit (.int .i64 0), .lit (.int .u32 51), .lit (.int .u32 7), .lit (.int .u32 1)], .agg [.lit (.int .i64 1), .lit (.int .u32 19), .lit (.int .u32 0), .lit (.int .u32 0)], .agg [.lit (.int .i64 1), .lit (.int .u32 19), .lit (.int .u32 2), .lit (.int .u32 0)], .agg [.lit (.int .i64 1), .lit (.int .u32 19), .lit (.int .u32 3), .lit (.int .u32 0)], .agg [.lit (.int .i64 1), .lit (.int .u32 19), .lit (.int .u32 4), .lit (.int .u32 0)], .agg [.lit (.int .i64 1), .lit (.int .u32 19), .lit (.int .u32 6), .lit (.int .u32 0)], .agg [.lit (.int .i64 1), .lit (.int .u32 19), .lit (.int .u32 7), .lit (.int .u32 0)], .agg [.lit (.int .i64 2), .lit (.int .u32 19), .lit (.int .u32 1), .lit (.int .u32 0)], .agg [.lit (.int .i64 2), .lit (.int .u32 19), .lit (.int .u32 5), .lit (.int .u32 0)], .agg [.lit (.int .i64 2), .lit (.int .u32 19), .lit (.int .u32 5), .lit (.int .u32 16)], .agg [.lit (.int .i64 1), .lit (.int .u32 3), .lit (.int .u32 0), .lit (.int .u32 0)], .agg [.lit (.int .i64 1), .lit (.int .u32 3), .lit (.int .u32 4), .lit (.int .u32 0)], .agg [.lit (.int .i64 1), .lit (.int .u32 3), .lit (.int .u32 2), .lit (.int .u32 0)], .agg [.lit (.int .i64 1), .lit (.int .u32 3), .lit (.int .u32 3), .lit (.int .u32 0)], .agg [.lit (.int .i64 3), .lit (.int .u32 35), .lit (.int .u32 0), .lit (.int .u32 0)], .agg [.lit (.int .i64 3), .lit (.int .u32 35), .lit (.int .u32 2), .lit (.int .u32 0)], .agg [.lit (.int .i64 3), .lit (.int .u32 35), .lit (.int .u32 3), .lit (.int .u32 0)], .agg [.lit (.int .i64 4), .lit (.int .u32 99), .lit (.int .u32 0), .lit (.int .u32 0)], .agg [.lit (.int .i64 4), .lit (.int .u32 99), .lit (.int .u32 1), .lit (.int .u32 0)], .agg [.lit (.int .i64 4), .lit (.int .u32 99), .lit (.int .u32 4), .lit (.int .u32 0)], .agg [.lit (.int .i64 4), .lit (.int .u32 99), .lit (.int .u32 5), .lit (.int .u32 0)], .agg [.lit (.int .i64 4), .lit (.int .u32 99), .lit (.int .u32 6), .lit (.int .u32 0)], .agg [.lit (.int .i64 4), .lit (.int .u32 99), .lit (.int .u32 7), .lit (.int .u32 0)], .agg [.lit (.int .i64 5), .lit (.int .u32 55), .lit (.int .u32 0), .lit (.int .u32 0)], .agg [.lit (.int .i64 5), .lit (.int .u32 23), .lit (.int .u32 0), .lit (.int .u32 0)], .agg [.lit (.int .i64 6), .lit (.int .u32 111), .lit (.int .u32 0), .lit (.int .u32 0)], .agg [.lit (.int .i64 1), .lit (.int .u32 103), .lit (.int .u32 0), .lit (.int .u32 0)], .agg [.lit (.int .i64 7), .lit (.int .u32 115), .lit (.int .u32 0), .lit (.int .u32 8192)]]

/-- 'caponierlaw08.PlaceLinks': WHATEVER THE INPUT: true; the input reads as it did. -/
def placeLinksSpec : ChangeSpec := { name := "placeLinks", fn := fun _ => fun
  | [d1, d2, d3] => { results := [.lit (.bool true)], args := [d1, d2, d3] }
  | _ => none }
def placeLinksRow : OpenClaim := { program := "ytjngkifoaljmaaagreatdoor", sum := "07932f9adeac192137236d7688010512c96a54f50d90efcbae3c3ba8c079969a", func := "caponier/caponierlaw08.PlaceLinks", spec := "placeLinks", unfollowed := true, recurses := true, named := ["caponier/ins.operations", "caponier/ins.layouts"], plainKeys := false, apart := false, laid := [("caponier/ins.layouts", laid_caponier_ins_layouts), ("caponier/ins.operations", laid_caponier_ins_operations)] }
def PlaceLinksSaid : Prop := placeLinksRow.holds Tryz.pinned (OpenSpec.ofChange placeLinksSpec)

/-- ITS FALSE NEIGHBOUR: 'it returns false'. Refute it at one input. -/
def placeLinksWrong : ChangeSpec := { name := "placeLinks", fn := fun _ => fun
  | [d1, d2, d3] => { results := [.lit (.bool false)], args := [d1, d2, d3] }
  | _ => none }
def PlaceLinksWrongFalsely : Prop := placeLinksRow.holds Tryz.pinned (OpenSpec.ofChange placeLinksWrong)

/- THE SECOND FORM. 'bulk': how many values and letters a reading holds, each counted each time it is reached (what is shared counts as often as it is met; a slice's spare places count too). A statement '..UptoSaid' is the law's where the arguments, and the package variables that the reading takes, are together of bulk at most 1048576: NARROWER than '..Said'. Prove '..Said' where nothing that the law and all that it calls make is longer than what came in: it says more and counts as full. Else prove '..UptoSaid'. A law counts once. -/
mutual
def uptoBulk {H : Type} : DataW H → Nat
  | .lit (.string bytes) => bytes.length + 1
  | .lit _ => 1
  | .nil => 1
  | .ptr d => uptoBulk d + 1
  | .slice elems spare => uptoBulkAll elems + uptoBulkAll spare + 1
  | .agg parts => uptoBulkAll parts + 1
  | .iface _ d => uptoBulk d + 1
  | .map entries => uptoBulkEntries entries + 1
  | .held _ => 1
def uptoBulkAll {H : Type} : List (DataW H) → Nat
  | [] => 0
  | d :: r => uptoBulk d + uptoBulkAll r
def uptoBulkEntries {H : Type} : List (Lit × DataW H) → Nat
  | [] => 0
  | x :: r => uptoBulkEntry x + uptoBulkEntries r
def uptoBulkEntry {H : Type} : Lit × DataW H → Nat
  | (.string bytes, d) => bytes.length + uptoBulk d + 1
  | (_, d) => uptoBulk d + 1
 end
def uptoSmall : (H : Type) → List (DataW H) → Bool := fun _ ds => decide (uptoBulkAll ds ≤ 1048576)
def OpenSpec.upto (s : _root_.Go.ChangeSpec) : _root_.Go.OpenSpec := { _root_.Go.OpenSpec.ofChange s with cond := some uptoSmall }

/-- 'caponierlaw08.PlaceLinks', WHERE WHAT IT READS IS OF BULK AT MOST 1048576: true; the input reads as it did. -/
def placeLinksUptoRow : OpenClaim := { program := "ytjngkifoaljmaaagreatdoor", sum := "07932f9adeac192137236d7688010512c96a54f50d90efcbae3c3ba8c079969a", func := "caponier/caponierlaw08.PlaceLinks", spec := "placeLinks", unfollowed := true, recurses := true, named := ["caponier/ins.operations", "caponier/ins.layouts"], plainKeys := false, apart := false, laid := [("caponier/ins.layouts", laid_caponier_ins_layouts), ("caponier/ins.operations", laid_caponier_ins_operations)], narrowed := true }
def PlaceLinksUptoSaid : Prop := placeLinksUptoRow.holds Tryz.pinned (OpenSpec.upto placeLinksSpec)

end Rows
end Go.Proofs.YtjngkifoaljmaaaGreatDoor
