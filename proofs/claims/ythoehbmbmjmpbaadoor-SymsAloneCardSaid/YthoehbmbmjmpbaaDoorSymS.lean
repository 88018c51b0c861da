/- Layer 7: rows of Defs; Used, of a list with one use at most. Condition: the tables of package ins read as they should. -/
import Derived.Test.YthoehbmbmjmpbaaDoorSymR
import Derived.Test.YthoehbmbmjmpbaaDoorSymV
namespace Go.Proofs.YthoehbmbmjmpbaaDoor
set_option maxRecDepth 100000
open Go.RowKit Go.Maps
set_option linter.unusedVariables false
def encDef (x : Int × Int) : List Value := [.int .i64 x.1, .int .i64 x.2]
def DefsAt (w : World) (base : Nat) (ds : List (Int × Int)) (v : Value) : Prop := ∃ A c, v = .slice A ds.length c ∧ w.ownsRow base 39 2 v ds.length (ds.flatMap encDef)
theorem info_def : (Tryd.prog.info? 39).map (fun i => (i.zero, i.size, i.bytes)) = some (some (.agg #[.int .i64 0, .int .i64 0]), 2, 16) := by kernel_rfl
theorem one_def (x : Int × Int) : ∀ u ∈ encDef x, u.oneCell' = true := fun u hu => by
  unfold encDef at hu
  simp only [List.mem_cons, List.not_mem_nil, or_false] at hu
  rcases hu with rfl | rfl <;> rfl
def valD (M : Kn → Option Int) (nb : Nat) (t : Us) : Int × Int := (meanM M nb t.2 t.1).getD (0, 0)
theorem defV_val (M : Kn → Option Int) (nb : Nat) (t : Us) : defV (meanM M nb t.2 t.1) = .agg #[.int .i64 (valD M nb t).1, .int .i64 (valD M nb t).2] := by
  unfold valD
  cases meanM M nb t.2 t.1 <;> rfl
/-- what those keys that have gone by mean -/
def NmD (D : DataW Unit) (M : Kn → Option Int) (nb : Nat) (left : Lit → Bool) (ds : List (Int × Int)) : Prop :=
  ∀ x, x ∈ ds ↔ ∃ t, UsW t ∧ valD M nb t = x ∧ has D (uKey t) = true ∧ left (uKey t) = false
theorem NmD.start (D : DataW Unit) (M : Kn → Option Int) (nb : Nat) : NmD D M nb (has D) [] := fun s =>
  ⟨fun h => (by cases h), fun ⟨t, _, _, h1, h2⟩ => (by rw [h1] at h2; cases h2)⟩
theorem NmD.hit {D : DataW Unit} {M : Kn → Option Int} {nb : Nat} {left : Lit → Bool} {ds : List (Int × Int)} {t : Us} (h : NmD D M nb left ds) (ht : UsW t) (hd : has D (uKey t) = true) : NmD D M nb (fun z => left z && !z.sameKey (uKey t)) (ds ++ [valD M nb t]) := fun s => by
  rw [List.mem_append, List.mem_singleton, h s]
  constructor
  · rintro (⟨u, h1, h2, h3, h4⟩ | rfl)
    · exact ⟨u, h1, h2, h3, (leftU_next ht h1).2 (.inl h4)⟩
    · exact ⟨t, ht, rfl, hd, (leftU_next ht ht).2 (.inr rfl)⟩
  · rintro ⟨u, h1, h2, h3, h4⟩
    rcases (leftU_next ht h1).1 h4 with h | rfl
    · exact .inl ⟨u, h1, h2, h3, h⟩
    · exact .inr h2.symm
/-- a Def that some relocation's name means -/
def usedP (l : List ObjD) (x : Int × Int) : Prop := ∃ t : Us, UsW t ∧ (usL l l.length t).isSome = true ∧ valD (bookM l) l.length t = x
theorem used_iff {l : List ObjD} {D : DataW Unit} {left : Lit → Bool} {ds : List (Int × Int)} (h : NmD D (bookM l) l.length left ds) (hl : ∀ kl, left kl = false) (hat : AtU D (usL l l.length)) : ∀ x, x ∈ ds ↔ usedP l x := fun x => by
  rw [h x]
  constructor
  · rintro ⟨t, h1, h2, h3, _⟩
    refine ⟨t, h1, ?_, h2⟩
    cases hm : usL l l.length t with
    | none => rw [(hat t h1).1 hm] at h3; cases h3
    | some c => rfl
  · rintro ⟨t, h1, h2, h3⟩
    obtain ⟨c, hc⟩ := Option.isSome_iff_exists.1 h2
    exact ⟨t, h1, h3, ((hat _ h1).2 c hc).1, hl _⟩
theorem DefsAt.slice {w : World} {base : Nat} {ds : List (Int × Int)} {v : Value} (h : DefsAt w base ds v) : ∃ A c, v = .slice A ds.length c := by
  obtain ⟨A, c, h, _⟩ := h; exact ⟨A, c, h⟩
end Go.Proofs.YthoehbmbmjmpbaaDoor
