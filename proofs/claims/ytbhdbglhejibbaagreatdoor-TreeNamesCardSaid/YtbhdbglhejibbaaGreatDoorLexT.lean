/- Layer 9: where a row lists the library's variables, the world's are those. -/
import Derived.OpenShut
import Derived.LaidLaws
import Derived.Lib.LaidTab
import Derived.MakeChecks
import Derived.Shelf.Vars
import Derived.Test.YtbhdbglhejibbaaGreatDoorLexD
import Derived.Test.YtbhdbglhejibbaaGreatDoorRows
namespace Go.Proofs.YtbhdbglhejibbaaGreatDoor
set_option maxRecDepth 100000
open Go.ChangeShapes Go.WideShapes
set_option linter.unusedVariables false
theorem laid_mem9 {P : Program} {W : World} : ∀ {l : List (String × DataW Unit)} {ps : List MemPlace}, DataW.LaidVars P W l ps → ∀ n d, (n, d) ∈ l → ∃ g t cs fuel p, P.globalNamed n = some g ∧ (P.globals[g]?).map (·.type) = some t ∧ W.var? P n = some cs ∧ DataW.trod (fun _ => ()) P W 0 (fun _ => true) false fuel t cs.toList = some (d, p)
  | [], _, _, _, _, hm => by cases hm
  | (n0, d0) :: r, ps, h, n, d, hm => by
    obtain ⟨g, t, cs, fuel, p, q, h1, h2, h3, h4, h5, _⟩ := h
    rcases List.mem_cons.1 hm with e | hm
    · cases e; exact ⟨g, t, cs, fuel, p, h1, h2, h3, h4⟩
    · exact laid_mem9 h5 n d hm
theorem laid_var9 {P : Program} {W : World} {l : List (String × DataW Unit)} (hp : (l.all fun x => x.2.handleName?.isNone) = true) (h : laidMetH P l W) {n : String} {d : DataW Unit} (hm : (n, d) ∈ l) {g : Nat} {t : TypeId} (hg : P.globalNamed n = some g) (ht : (P.globals[g]?).map (·.type) = some t) :
    ∃ cs : Array Value, W.var? P n = some cs ∧ ∃ fuel p, DataW.trod (fun _ => ()) P W 0 (fun _ => true) false fuel t cs.toList = some (d, p) := by
  rw [MakeChecks.laidMetH_plain _ _ _ hp] at h
  obtain ⟨ps, hv, _, _⟩ := h
  obtain ⟨g', t', cs, fuel, p, h1, h2, h3, h4⟩ := laid_mem9 hv n d hm
  obtain rfl := Option.some.inj (hg.symm.trans h1)
  obtain rfl := Option.some.inj (ht.symm.trans h2)
  exact ⟨cs, h3, fuel, p, h4⟩
theorem iface_cells {P : Program} {w : World} {t : TypeId} {ms : Array (String × TypeId)} (hi : P.underlying t = some (.interface ms)) {fuel : Nat} {cs : List Value} {x : DataW Unit × List MemPlace}
    (h : DataW.trod (fun _ => ()) P w 0 (fun _ => true) false fuel t cs = some x) : cs = [.nilIface] ∨ ∃ u v, cs = [.iface u v] := by
  cases fuel with
  | zero => cases h
  | succ fuel =>
    unfold DataW.trod at h
    rw [hi] at h
    split at h
    all_goals first
      | (rename_i h1 _; cases h1; done)
      | exact .inl rfl
      | exact .inr ⟨_, _, rfl⟩
      | (simp_all; done)
theorem err_laid {W : World} {l : List (String × DataW Unit)} (hp : (l.all fun x => x.2.handleName?.isNone) = true) (h : laidMetH Tryz.prog l W) {n : String} {d : DataW Unit} (hm : (n, d) ∈ l) {g : Nat} (hg : Tryz.prog.globalNamed n = some g) (ht : (Tryz.prog.globals[g]?).map (·.type) = some 206) : ErrAt W g := by
  obtain ⟨cs, h1, f, p, h2⟩ := laid_var9 hp h hm hg ht
  rcases iface_cells Tryz.underlying206 h2 with h3 | ⟨u, v, h3⟩
  · refine ⟨.nilIface, ?_, .inl rfl⟩
    rw [World.var?_cell hg h1 0, ← Array.getElem?_toList, h3]; rfl
  · refine ⟨.iface u v, ?_, .inr ⟨u, v, rfl⟩⟩
    rw [World.var?_cell hg h1 0, ← Array.getElem?_toList, h3]; rfl
theorem pow_data : (Rows.laid_internal_strconv_uint64pow10 : DataW Unit) = Lib.tabData .u64 Lib.pow10Tab := by kernel_rfl
theorem lxT_of_laid {W : World} {l : List (String × DataW Unit)} (hp : (l.all fun x => x.2.handleName?.isNone) = true) (h : laidMetH Tryz.prog l W) (hsh : W.ShapedOpen Tryz.prog)
    (hm1 : ("internal/strconv.uint64pow10", Rows.laid_internal_strconv_uint64pow10) ∈ l) (hm2 : ("strconv.ErrSyntax", Rows.laid_strconv_ErrSyntax) ∈ l) (hm3 : ("strconv.ErrRange", Rows.laid_strconv_ErrRange) ∈ l) : LxT W := by
  refine ⟨?_, err_laid hp h hm2 (by kernel_rfl) (by kernel_rfl), err_laid hp h hm3 (by kernel_rfl) (by kernel_rfl), ?_⟩
  · obtain ⟨cs, h1, f, p, h2⟩ := laid_var9 hp h hm1 (g := 4) (t := 239) (by kernel_rfl) (by kernel_rfl)
    rw [pow_data] at h2
    have := Lib.cells_of_tab Tryz.underlying239 Tryz.underlying39 (by kernel_rfl) (by kernel_rfl) h2
    unfold Lib.TabIs
    rw [h1, ← this]
  · exact cell_of_shapedOpen_int (zero := #[.int .i64 0]) (t := 3) hsh (of_decide_eq_true (by kernel_rfl)) (by kernel_rfl) (by kernel_rfl) (by kernel_rfl) (by kernel_rfl) (by kernel_rfl)
end Go.Proofs.YtbhdbglhejibbaaGreatDoor
