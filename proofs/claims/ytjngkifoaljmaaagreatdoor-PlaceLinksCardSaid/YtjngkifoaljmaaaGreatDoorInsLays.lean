/- Package-level tables that are listed: from what a row's condition says to the cells, whatever the table: elements that are structs of one-cell fields, structs within. No program.
   Layer 2: where a row lists the two tables of package ins, the world's two tables are those. -/
import Derived.OpenShut
import Derived.LaidLaws
import Derived.Lib.LaidTab
import Derived.MakeChecks
import Derived.Test.YtjngkifoaljmaaaGreatDoorInsA
import Derived.Test.YtjngkifoaljmaaaGreatDoorRows
namespace Go.Proofs.YtjngkifoaljmaaaGreatDoor
set_option maxRecDepth 100000
open Go.ChangeShapes Go.WideShapes
set_option linter.unusedVariables false
section
variable {H : Type} {enc : TypeId × Value → H} {P : Program} {w : World} {base : Nat} {sp : Nat → Bool} {held : Bool}
theorem lit_cell {k : IntKind} {t : TypeId} (ht : P.underlying t = some (.int k)) {fuel : Nat} {cs : List Value} {n : Int} {q : IntKind} {p : List MemPlace} (h : DataW.trod enc P w base sp held fuel t cs = some (.lit (.int q n), p)) : cs = [.int q n] := by
  obtain ⟨m, rfl, hx, _⟩ := DataW.trod_int ht h
  simp only [Prod.mk.injEq, DataW.lit.injEq, Lit.int.injEq] at hx
  obtain ⟨⟨rfl, rfl⟩, _⟩ := hx
  rfl
theorem bool_cell {t : TypeId} (ht : P.underlying t = some .bool) {fuel : Nat} {cs : List Value} {b : Bool} {p : List MemPlace} (h : DataW.trod enc P w base sp held fuel t cs = some (.lit (.bool b), p)) : cs = [.bool b] := by
  obtain ⟨m, rfl, hx⟩ := DataW.trod_bool ht h
  simp only [Prod.mk.injEq, DataW.lit.injEq, Lit.bool.injEq] at hx
  rw [hx.1]
theorem string_cell {t : TypeId} (ht : P.underlying t = some .string) {fuel : Nat} {cs : List Value} {l : List UInt8} {p : List MemPlace} (h : DataW.trod enc P w base sp held fuel t cs = some (.lit (.string l), p)) : cs = [.string ⟨l.toArray⟩] := by
  obtain ⟨s, rfl, hx, _⟩ := DataW.trod_string ht h
  simp only [Prod.mk.injEq, DataW.lit.injEq, Lit.string.injEq] at hx
  rw [hx.1]
/-- an array's elements, each by itself -/
theorem array_parts {t e : TypeId} {n : Nat} (ht : P.underlying t = some (.array n e)) {fuel : Nat} {cs : List Value} {ds : List (DataW H)} {p : List MemPlace} (h : DataW.trod enc P w base sp held fuel t cs = some (.agg ds, p)) :
    cs.length = P.cellsOf t ∧ ∃ m, ∀ (i : Nat) (d : DataW H), i < n → ds[i]? = some d → ∃ q, DataW.trod enc P w base sp held m e ((cs.drop (i * P.cellsOf e)).take (P.cellsOf e)) = some (d, q) := by
  obtain ⟨xs, m, _, hx, hl, hn, hel⟩ := DataW.trod_array ht h
  simp only [Prod.mk.injEq, DataW.agg.injEq] at hx
  refine ⟨hl, m, fun i d hi hd => ?_⟩
  have := hel i hi
  rw [hx.1] at hd
  simp only [List.getElem?_map, Option.map_eq_some_iff] at hd
  obtain ⟨y, hy, rfl⟩ := hd
  exact ⟨y.2, by rw [this, hy]⟩
/-- a struct's fields, each by itself -/
theorem struct_parts {t : TypeId} {fs : Array Field} (ht : P.underlying t = some (.struct fs)) {fuel : Nat} {cs : List Value} {ds : List (DataW H)} {p : List MemPlace} (h : DataW.trod enc P w base sp held fuel t cs = some (.agg ds, p)) :
    cs.length = P.cellsOf t ∧ ∃ m, ∀ (j : Nat) (f : Field) (d : DataW H), fs[j]? = some f → ds[j]? = some d → ∃ q, DataW.trod enc P w base sp held m f.type ((cs.drop f.offset).take (P.cellsOf f.type)) = some (d, q) := by
  obtain ⟨xs, m, _, hx, hl, hn, hel⟩ := DataW.trod_struct ht h
  simp only [Prod.mk.injEq, DataW.agg.injEq] at hx
  refine ⟨hl, m, fun j f d hf hd => ?_⟩
  have := hel j f hf
  rw [hx.1] at hd
  simp only [List.getElem?_map, Option.map_eq_some_iff] at hd
  obtain ⟨y, hy, rfl⟩ := hd
  exact ⟨y.2, by rw [this, hy]⟩
end
theorem laidVars_mem {P : Program} {W : World} : ∀ {l : List (String × DataW Unit)} {ps : List MemPlace}, DataW.LaidVars P W l ps → ∀ n d, (n, d) ∈ l → ∃ g t cs fuel p, P.globalNamed n = some g ∧ (P.globals[g]?).map (·.type) = some t ∧ W.var? P n = some cs ∧ DataW.trod (fun _ => ()) P W 0 (fun _ => true) false fuel t cs.toList = some (d, p)
  | [], _, _, _, _, hm => by cases hm
  | (n0, d0) :: r, ps, h, n, d, hm => by
    obtain ⟨g, t, cs, fuel, p, q, h1, h2, h3, h4, h5, _⟩ := h
    rcases List.mem_cons.1 hm with e | hm
    · cases e; exact ⟨g, t, cs, fuel, p, h1, h2, h3, h4⟩
    · exact laidVars_mem h5 n d hm
/-- a listed variable's cells, and what they read as -/
theorem laid_var {P : Program} {W : World} {l : List (String × DataW Unit)} (hp : (l.all fun x => x.2.handleName?.isNone) = true) (h : laidMetH P l W) {n : String} {d : DataW Unit} (hm : (n, d) ∈ l) {g : Nat} {t : TypeId} (hg : P.globalNamed n = some g) (ht : (P.globals[g]?).map (·.type) = some t) :
    ∃ cs : Array Value, (∀ i, W.cell? ⟨g, i, none⟩ = cs[i]?) ∧ ∃ fuel p, DataW.trod (fun _ => ()) P W 0 (fun _ => true) false fuel t cs.toList = some (d, p) := by
  rw [MakeChecks.laidMetH_plain _ _ _ hp] at h
  obtain ⟨ps, hv, _, _⟩ := h
  obtain ⟨g', t', cs, fuel, p, h1, h2, h3, h4⟩ := laidVars_mem hv n d hm
  obtain rfl := Option.some.inj (hg.symm.trans h1)
  obtain rfl := Option.some.inj (ht.symm.trans h2)
  exact ⟨cs, fun i => World.var?_cell hg h3 i, fuel, p, h4⟩
end Go.Proofs.YtjngkifoaljmaaaGreatDoor
namespace Go.Proofs.YtjngkifoaljmaaaGreatDoor
set_option maxRecDepth 100000
open Go.RowKit
set_option linter.unusedVariables false
def opD (n : Nat) : DataW Unit := .agg [.lit (.int .i64 (opS n)), .lit (.int .u32 (opF n)), .lit (.int .u32 (opK n)), .lit (.int .u32 (opR n))]
def partD (s k : Nat) : DataW Unit := .agg [.lit (.int .i64 (pF s k)), .lit (.int .i64 (pN s k)), .lit (.int .i64 (pA s k))]
def layD (s : Nat) : DataW Unit := .agg [.lit (.string [lLet s]), .lit (.bool (lRd s)), .lit (.bool (lR1 s)), .lit (.bool (lR2 s)), .lit (.bool (lKd s)), .lit (.int .i64 (lRest s)), .lit (.int .i64 (lSg s)), .agg [partD s 0, partD s 1, partD s 2, partD s 3]]
theorem ops_list : (Rows.laid_caponier_ins_operations : DataW Unit) = .agg ((List.range 43).map opD) := by kernel_rfl
theorem lays_list : (Rows.laid_caponier_ins_layouts : DataW Unit) = .agg ((List.range 8).map layD) := by kernel_rfl
theorem cTold : Tryz.prog.cellsOf 129 = 4 := by kernel_rfl
theorem cLay : Tryz.prog.cellsOf 126 = 19 := by kernel_rfl
theorem cPart : Tryz.prog.cellsOf 123 = 3 := by kernel_rfl
theorem cParts : Tryz.prog.cellsOf 124 = 12 := by kernel_rfl
theorem cInt : Tryz.prog.cellsOf 3 = 1 := by kernel_rfl
theorem cU32 : Tryz.prog.cellsOf 45 = 1 := by kernel_rfl
theorem cBool : Tryz.prog.cellsOf 4 = 1 := by kernel_rfl
theorem cStr : Tryz.prog.cellsOf 9 = 1 := by kernel_rfl
theorem one_at {cs : List Value} {o : Nat} {v : Value} (h : (cs.drop o).take 1 = [v]) : cs[o]? = some v := by
  have := congrArg (fun l : List Value => l[0]?) h
  simpa using this
theorem told_cells {W : World} {fuel n : Nat} {cs : List Value} {p : List MemPlace} (h : DataW.trod (fun _ => ()) Tryz.prog W 0 (fun _ => true) false fuel 129 cs = some (opD n, p)) : ∀ j, j < 4 → cs[j]? = some (nthV (opCells n) j) := by
  obtain ⟨hl, m, hp⟩ := struct_parts Tryz.underlying129 h
  intro j hj
  match j, hj with
  | 0, _ => obtain ⟨q, e⟩ := hp 0 _ _ rfl rfl; exact one_at (lit_cell Tryz.underlying3 (by rw [← cInt]; exact e))
  | 1, _ => obtain ⟨q, e⟩ := hp 1 _ _ rfl rfl; exact one_at (lit_cell Tryz.underlying45 (by rw [← cU32]; exact e))
  | 2, _ => obtain ⟨q, e⟩ := hp 2 _ _ rfl rfl; exact one_at (lit_cell Tryz.underlying45 (by rw [← cU32]; exact e))
  | 3, _ => obtain ⟨q, e⟩ := hp 3 _ _ rfl rfl; exact one_at (lit_cell Tryz.underlying45 (by rw [← cU32]; exact e))
theorem part_cells {W : World} {fuel s k : Nat} {cs : List Value} {p : List MemPlace} (h : DataW.trod (fun _ => ()) Tryz.prog W 0 (fun _ => true) false fuel 123 cs = some (partD s k, p)) : cs[0]? = some (.int .i64 (pF s k)) ∧ cs[1]? = some (.int .i64 (pN s k)) ∧ cs[2]? = some (.int .i64 (pA s k)) := by
  obtain ⟨hl, m, hp⟩ := struct_parts Tryz.underlying123 h
  refine ⟨?_, ?_, ?_⟩
  · obtain ⟨q, e⟩ := hp 0 _ _ rfl rfl; exact one_at (lit_cell Tryz.underlying3 (by rw [← cInt]; exact e))
  · obtain ⟨q, e⟩ := hp 1 _ _ rfl rfl; exact one_at (lit_cell Tryz.underlying3 (by rw [← cInt]; exact e))
  · obtain ⟨q, e⟩ := hp 2 _ _ rfl rfl; exact one_at (lit_cell Tryz.underlying3 (by rw [← cInt]; exact e))
theorem take_at {cs : List Value} {o c i : Nat} {v : Value} (hi : i < c) (h : ((cs.drop o).take c)[i]? = some v) : cs[o + i]? = some v := by
  rw [List.getElem?_take_of_lt hi, List.getElem?_drop] at h
  exact h
theorem lay_cells {W : World} {fuel s : Nat} {cs : List Value} {p : List MemPlace} (h : DataW.trod (fun _ => ()) Tryz.prog W 0 (fun _ => true) false fuel 126 cs = some (layD s, p)) : ∀ j, j < 19 → cs[j]? = some (nthV (layCells s) j) := by
  obtain ⟨hl, m, hp⟩ := struct_parts Tryz.underlying126 h
  obtain ⟨q7, e7⟩ := hp 7 _ _ rfl rfl
  obtain ⟨hl7, m7, ha⟩ := array_parts Tryz.underlying124 e7
  have hk : ∀ k, k < 4 → ∀ d, [partD s 0, partD s 1, partD s 2, partD s 3][k]? = some d → d = partD s k → cs[7 + k * 3]? = some (.int .i64 (pF s k)) ∧ cs[7 + k * 3 + 1]? = some (.int .i64 (pN s k)) ∧ cs[7 + k * 3 + 2]? = some (.int .i64 (pA s k)) := by
    intro k hk d hd hdk
    subst hdk
    obtain ⟨q, e⟩ := ha k _ hk hd
    rw [cPart] at e
    obtain ⟨a0, a1, a2⟩ := part_cells e
    have b0 := take_at (by omega) a0
    have b1 := take_at (by omega) a1
    have b2 := take_at (by omega) a2
    have c : ∀ i v, i < 12 → ((cs.drop 7).take 12)[i]? = some v → cs[7 + i]? = some v := fun i v hi hh => take_at hi hh
    have fix : (List.take (Tryz.prog.cellsOf 124) (List.drop 7 cs)) = (cs.drop 7).take 12 := by rw [cParts]
    have b0 := c (k * 3 + 0) _ (by omega) (by rw [← fix]; exact b0)
    have b1 := c (k * 3 + 1) _ (by omega) (by rw [← fix]; exact b1)
    have b2 := c (k * 3 + 2) _ (by omega) (by rw [← fix]; exact b2)
    refine ⟨by simpa using b0, ?_, ?_⟩
    · rw [show 7 + k * 3 + 1 = 7 + (k * 3 + 1) by omega]; exact b1
    · rw [show 7 + k * 3 + 2 = 7 + (k * 3 + 2) by omega]; exact b2
  obtain ⟨x0, x1, x2⟩ := hk 0 (by omega) _ rfl rfl
  obtain ⟨x3, x4, x5⟩ := hk 1 (by omega) _ rfl rfl
  obtain ⟨x6, x7, x8⟩ := hk 2 (by omega) _ rfl rfl
  obtain ⟨x9, x10, x11⟩ := hk 3 (by omega) _ rfl rfl
  intro j hj
  match j, hj with
  | 0, _ => obtain ⟨q, e⟩ := hp 0 _ _ rfl rfl; exact one_at (string_cell Tryz.underlying9 (by rw [← cStr]; exact e))
  | 1, _ => obtain ⟨q, e⟩ := hp 1 _ _ rfl rfl; exact one_at (bool_cell Tryz.underlying4 (by rw [← cBool]; exact e))
  | 2, _ => obtain ⟨q, e⟩ := hp 2 _ _ rfl rfl; exact one_at (bool_cell Tryz.underlying4 (by rw [← cBool]; exact e))
  | 3, _ => obtain ⟨q, e⟩ := hp 3 _ _ rfl rfl; exact one_at (bool_cell Tryz.underlying4 (by rw [← cBool]; exact e))
  | 4, _ => obtain ⟨q, e⟩ := hp 4 _ _ rfl rfl; exact one_at (bool_cell Tryz.underlying4 (by rw [← cBool]; exact e))
  | 5, _ => obtain ⟨q, e⟩ := hp 5 _ _ rfl rfl; exact one_at (lit_cell Tryz.underlying3 (by rw [← cInt]; exact e))
  | 6, _ => obtain ⟨q, e⟩ := hp 6 _ _ rfl rfl; exact one_at (lit_cell Tryz.underlying3 (by rw [← cInt]; exact e))
  | 7, _ => exact x0
  | 8, _ => exact x1
  | 9, _ => exact x2
  | 10, _ => exact x3
  | 11, _ => exact x4
  | 12, _ => exact x5
  | 13, _ => exact x6
  | 14, _ => exact x7
  | 15, _ => exact x8
  | 16, _ => exact x9
  | 17, _ => exact x10
  | 18, _ => exact x11
  | j + 19, h => exact absurd h (by omega)
theorem gOps : Tryz.prog.globalNamed "caponier/ins.operations" = some 1 := by kernel_rfl
theorem gLays : Tryz.prog.globalNamed "caponier/ins.layouts" = some 0 := by kernel_rfl
theorem tOps : (Tryz.prog.globals[1]?).map (·.type) = some 130 := by kernel_rfl
theorem tLays : (Tryz.prog.globals[0]?).map (·.type) = some 127 := by kernel_rfl
theorem tabs_of_laid {W : World} {l : List (String × DataW Unit)} (hp : (l.all fun x => x.2.handleName?.isNone) = true) (h : laidMetH Tryz.prog l W)
    (ho : ("caponier/ins.operations", Rows.laid_caponier_ins_operations) ∈ l) (hl : ("caponier/ins.layouts", Rows.laid_caponier_ins_layouts) ∈ l) : Tabs W := by
  obtain ⟨co, ho1, fo, po, ho2⟩ := laid_var hp h ho gOps tOps
  obtain ⟨cl, hl1, fl, pl, hl2⟩ := laid_var hp h hl gLays tLays
  rw [ops_list] at ho2
  rw [lays_list] at hl2
  obtain ⟨_, mo, hop⟩ := array_parts Tryz.underlying130 ho2
  obtain ⟨_, ml, hlp⟩ := array_parts Tryz.underlying127 hl2
  refine ⟨fun n hn j hj => ?_, fun s hs j hj => ?_⟩
  · obtain ⟨q, e⟩ := hop n (opD n) hn (by simp [hn])
    rw [cTold] at e
    rw [ho1, ← Array.getElem?_toList]
    exact take_at hj (told_cells e j hj)
  · obtain ⟨q, e⟩ := hlp s (layD s) hs (by simp [hs])
    rw [cLay] at e
    rw [hl1, ← Array.getElem?_toList]
    exact take_at hj (lay_cells e j hj)
end Go.Proofs.YtjngkifoaljmaaaGreatDoor
