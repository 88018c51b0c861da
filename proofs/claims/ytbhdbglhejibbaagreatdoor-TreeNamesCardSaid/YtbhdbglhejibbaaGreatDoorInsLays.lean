/- Package-level tables that are listed: from what a row's condition says to the cells, whatever the table: elements that are structs of one-cell fields, structs within. No program.
   Layer 2: where a row lists the two tables of package ins, the world's two tables are those. -/
import Derived.OpenShut
import Derived.LaidLaws
import Derived.Lib.LaidTab
import Derived.MakeChecks
import Derived.Test.YtbhdbglhejibbaaGreatDoorInsA
import Derived.Test.YtbhdbglhejibbaaGreatDoorRows
namespace Go.Proofs.YtbhdbglhejibbaaGreatDoor
set_option maxRecDepth 100000
open Go.ChangeShapes Go.WideShapes
set_option linter.unusedVariables false
section
variable {H : Type} {enc : TypeId × Value → H} {P : Program} {w : World} {base : Nat} {sp : Nat → Bool} {held : Bool}
theorem lit_cell {k : IntKind} {t : TypeId} (ht : P.underlying t = some (.int k)) {fuel : Nat} {cs : List Value} {n : Int} {q : IntKind} {p : List MemPlace} (h : DataW.trod enc P w base sp held fuel t cs = some (.lit (.int q n), p)) : cs = [.int q n] := by
  obtain ⟨m, rfl, hx, _⟩ := DataW.trod_int ht h
  simp only [Prod.mk.injEq, DataW.lit.injEq, Lit.int.injEq] at hx
  obtain ⟨⟨rfl, rfl⟩, _⟩ := hx
  rfl
theorem bool_cell {t : TypeId} (ht : P.underlying t = some .bool) {fuel : Nat} {cs : List Value} {b : Bool} {p : List MemPlace} (h : DataW.trod enc P w base sp held fuel t cs = some (.lit (.bool b), p)) : cs = [.bool b] := by
  obtain ⟨m, rfl, hx⟩ := DataW.trod_bool ht h
  simp only [Prod.mk.injEq, DataW.lit.injEq, Lit.bool.injEq] at hx
  rw [hx.1]
theorem string_cell {t : TypeId} (ht : P.underlying t = some .string) {fuel : Nat} {cs : List Value} {l : List UInt8} {p : List MemPlace} (h : DataW.trod enc P w base sp held fuel t cs = some (.lit (.string l), p)) : cs = [.string ⟨l.toArray⟩] := by
  obtain ⟨s, rfl, hx, _⟩ := DataW.trod_string ht h
  simp only [Prod.mk.injEq, DataW.lit.injEq, Lit.string.injEq] at hx
  rw [hx.1]
/-- an array's elements, each by itself -/
theorem array_parts {t e : TypeId} {n : Nat} (ht : P.underlying t = some (.array n e)) {fuel : Nat} {cs : List Value} {ds : List (DataW H)} {p : List MemPlace} (h : DataW.trod enc P w base sp held fuel t cs = some (.agg ds, p)) :
    cs.length = P.cellsOf t ∧ ∃ m, ∀ (i : Nat) (d : DataW H), i < n → ds[i]? = some d → ∃ q, DataW.trod enc P w base sp held m e ((cs.drop (i * P.cellsOf e)).take (P.cellsOf e)) = some (d, q) := by
  obtain ⟨xs, m, _, hx, hl, hn, hel⟩ := DataW.trod_array ht h
  simp only [Prod.mk.injEq, DataW.agg.injEq] at hx
  refine ⟨hl, m, fun i d hi hd => ?_⟩
  have := hel i hi
  rw [hx.1] at hd
  simp only [List.getElem?_map, Option.map_eq_some_iff] at hd
  obtain ⟨y, hy, rfl⟩ := hd
  exact ⟨y.2, by rw [this, hy]⟩
/-- a struct's fields, each by itself -/
theorem struct_parts {t : TypeId} {fs : Array Field} (ht : P.underlying t = some (.struct fs)) {fuel : Nat} {cs : List Value} {ds : List (DataW H)} {p : List MemPlace} (h : DataW.trod enc P w base sp held fuel t cs = some (.agg ds, p)) :
    cs.length = P.cellsOf t ∧ ∃ m, ∀ (j : Nat) (f : Field) (d : DataW H), fs[j]? = some f → ds[j]? = some d → ∃ q, DataW.trod enc P w base sp held m f.type ((cs.drop f.offset).take (P.cellsOf f.type)) = some (d, q) := by
  obtain ⟨xs, m, _, hx, hl, hn, hel⟩ := DataW.trod_struct ht h
  simp only [Prod.mk.injEq, DataW.agg.injEq] at hx
  refine ⟨hl, m, fun j f d hf hd => ?_⟩
  have := hel j f hf
  rw [hx.1] at hd
  simp only [List.getElem?_map, Option.map_eq_some_iff] at hd
  obtain ⟨y, hy, rfl⟩ := hd
  exact ⟨y.2, by rw [this, hy]⟩
end
theorem laidVars_mem {P : Program} {W : World} : ∀ {l : List (String × DataW Unit)} {ps : List MemPlace}, DataW.LaidVars P W l ps → ∀ n d, (n, d) ∈ l → ∃ g t cs fuel p, P.globalNamed n = some g ∧ (P.globals[g]?).map (·.type) = some t ∧ W.var? P n = some cs ∧ DataW.trod (fun _ => ()) P W 0 (fun _ => true) false fuel t cs.toList = some (d, p)
  | [], _, _, _, _, hm => by cases hm
  | (n0, d0) :: r, ps, h, n, d, hm => by
    obtain ⟨g, t, cs, fuel, p, q, h1, h2, h3, h4, h5, _⟩ := h
    rcases List.mem_cons.1 hm with e | hm
    · cases e; exact ⟨g, t, cs, fuel, p, h1, h2, h3, h4⟩
    · exact laidVars_mem h5 n d hm
/-- a listed variable's cells, and what they read as -/
theorem laid_var {P : Program} {W : World} {l : List (String × DataW Unit)} (hp : (l.all fun x => x.2.handleName?.isNone) = true) (h : laidMetH P l W) {n : String} {d : DataW Unit} (hm : (n, d) ∈ l) {g : Nat} {t : TypeId} (hg : P.globalNamed n = some g) (ht : (P.globals[g]?).map (·.type) = some t) :
    ∃ cs : Array Value, (∀ i, W.cell? ⟨g, i, none⟩ = cs[i]?) ∧ ∃ fuel p, DataW.trod (fun _ => ()) P W 0 (fun _ => true) false fuel t cs.toList = some (d, p) := by
  rw [MakeChecks.laidMetH_plain _ _ _ hp] at h
  obtain ⟨ps, hv, _, _⟩ := h
  obtain ⟨g', t', cs, fuel, p, h1, h2, h3, h4⟩ := laidVars_mem hv n d hm
  obtain rfl := Option.some.inj (hg.symm.trans h1)
  obtain rfl := Option.some.inj (ht.symm.trans h2)
  exact ⟨cs, fun i => World.var?_cell hg h3 i, fuel, p, h4⟩
end Go.Proofs.YtbhdbglhejibbaaGreatDoor
namespace Go.Proofs.YtbhdbglhejibbaaGreatDoor
set_option maxRecDepth 100000
open Go.RowKit
set_option linter.unusedVariables false
def opD (n : Nat) : DataW Unit := .agg [.lit (.int .i64 (opS n)), .lit (.int .u32 (opF n)), .lit (.int .u32 (opK n)), .lit (.int .u32 (opR n))]
def partD (s k : Nat) : DataW Unit := .agg [.lit (.int .i64 (pF s k)), .lit (.int .i64 (pN s k)), .lit (.int .i64 (pA s k))]
def layD (s : Nat) : DataW Unit := .agg [.lit (.string [lLet s]), .lit (.bool (lRd s)), .lit (.bool (lR1 s)), .lit (.bool (lR2 s)), .lit (.bool (lKd s)), .lit (.int .i64 (lRest s)), .lit (.int .i64 (lSg s)), .agg [partD s 0, partD s 1, partD s 2, partD s 3]]
theorem cInt : Tryz.prog.cellsOf 3 = 1 := by kernel_rfl
theorem cU32 : Tryz.prog.cellsOf 240 = 1 := by kernel_rfl
theorem cBool : Tryz.prog.cellsOf 4 = 1 := by kernel_rfl
theorem cStr : Tryz.prog.cellsOf 9 = 1 := by kernel_rfl
theorem one_at {cs : List Value} {o : Nat} {v : Value} (h : (cs.drop o).take 1 = [v]) : cs[o]? = some v := by
  have := congrArg (fun l : List Value => l[0]?) h
  simpa using this
theorem take_at {cs : List Value} {o c i : Nat} {v : Value} (hi : i < c) (h : ((cs.drop o).take c)[i]? = some v) : cs[o + i]? = some v := by
  rw [List.getElem?_take_of_lt hi, List.getElem?_drop] at h
  exact h
end Go.Proofs.YtbhdbglhejibbaaGreatDoor
