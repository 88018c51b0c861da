/- Layer 4: the map of a memory: keys that are regions, values that are rows of bytes of the memory's own. -/
import Derived.Test.YtpfohbinjcdcbaaMemFind
import Derived.Maps.OwnSet
import Derived.Maps.OwnOps
import Derived.Maps.Views
import Derived.DeepKeys4
namespace Go.Proofs.Ytpfohbinjcdcbaa
open Go.RowKit Go.Maps
set_option linter.unusedVariables false

theorem laidAllM : laidOutB Try.prog = true := by kernel_rfl
theorem rowReg : (35 : TypeId) < Try.prog.types.size := of_decide_eq_true (by kernel_rfl)
theorem wideReg : (match Try.prog.underlying 35 with | some (.array _ _) | some (.struct _) => true | _ => false) = true := by rw [Try.underlying35]
theorem lawReg : Keyed Try.prog 35 := Keyed.of_law (deep_law_laid laidAllM (m := 3) (by omega) rowReg (by kernel_rfl) wideReg)
theorem zeroRow (w : World) : (zeroValue 24).run Try.prog w = .ok (.slice none 0 0) w := by kernel_rfl
/-- a region as a key -/
def rKey (r : Rg) : Lit := .string (keyBytes [.int .u64 (rlo r), .int .u64 (rhi r), .int .i64 (rown r), .int .i64 (rout r)])
theorem rKey_of {r : Rg} (h : RgW r) : keyOf Try.prog 35 (.agg #[.int .u64 (rlo r), .int .u64 (rhi r), .int .i64 (rown r), .int .i64 (rout r)]) = some (rKey r) := by
  obtain ⟨⟨l0, l1⟩, ⟨u0, u1⟩, ⟨o0, o1⟩, ⟨p0, p1⟩⟩ := h
  have wo : (Lit.int .i64 (rown r)).wf = true := WalkArith.wf_i64 ⟨by omega, by omega⟩
  have wp : (Lit.int .i64 (rout r)).wf = true := WalkArith.wf_i64 ⟨by omega, by omega⟩
  have wu : ∀ x : Int, 0 ≤ x → x < 18446744073709551616 → (Lit.int .u64 x).wf = true := fun x h0 h1 => by
    simp only [Lit.wf, Bool.and_eq_true, decide_eq_true_eq]
    exact ⟨h0, by show x ≤ 18446744073709551615; omega⟩
  have wl := wu _ l0 l1
  have wh := wu _ u0 u1
  have h1 : Try.prog.keyType 35 = true := by kernel_rfl
  have hc : Try.prog.cellsOf 35 = 4 := by kernel_rfl
  have h2 : (Value.agg #[.int .u64 (rlo r), .int .u64 (rhi r), .int .i64 (rown r), .int .i64 (rout r)]).formed Try.prog 35 = true := by
    simp [Value.formed, Try.underlying35, hc]
  have hci : Try.prog.cellsOf 3 = 1 := by kernel_rfl
  have hcu : Try.prog.cellsOf 23 = 1 := by kernel_rfl
  have ht : 35 < Try.prog.types.size := rowReg
  have e : Try.prog.types.size + 1 = (Try.prog.types.size - 1) + 1 + 1 := by generalize Try.prog.types.size = q at ht; omega
  have h3 : ∀ d, Try.prog.keyLits (d + 1 + 1) 35 [.int .u64 (rlo r), .int .u64 (rhi r), .int .i64 (rown r), .int .i64 (rout r)] = some [.int .u64 (rlo r), .int .u64 (rhi r), .int .i64 (rown r), .int .i64 (rout r)] := fun d => by
    simp [Program.keyLits, Try.underlying35, Try.underlying23, Try.underlying3, hc, hci, hcu, wo, wp, wl, wh]
  unfold keyOf
  rw [Try.underlying35]
  simp only [h1, h2, Bool.and_self, if_true]
  show Option.map _ (Try.prog.keyLits (Try.prog.types.size + 1) 35 [.int .u64 (rlo r), .int .u64 (rhi r), .int .i64 (rown r), .int .i64 (rout r)]) = _
  rw [e, h3]
  rfl
theorem rKey_inj {r s : Rg} (hr : RgW r) (hs : RgW s) (h : rKey r = rKey s) : r = s := by
  have a := rKey_of hr
  have b := rKey_of hs
  rw [h] at a
  have := lawReg.inj a b
  simp only [Value.agg.injEq, Array.mk.injEq, List.cons.injEq, Value.int.injEq, true_and, and_true] at this
  obtain ⟨h0, h1, h2, h3⟩ := this
  exact Prod.ext h0 (Prod.ext h1 (Prod.ext h2 h3))
theorem isKey_r (r : Rg) : WideAt.IsKeyLit (rKey r) := trivial

/-- a row of bytes, told by its block -/
def encD (g n c : Nat) : DataW Unit := .agg [.lit (.int .i64 g), .lit (.int .i64 n), .lit (.int .i64 c)]
def encR (v : Value) : Option (DataW Unit × List MemPlace) := match v with
  | .slice (some ⟨g, 0, none⟩) n c => some (encD g n c, [])
  | .slice none 0 0 => some (.nil, [])
  | _ => none
theorem encR_row (g n c : Nat) : encR (.slice (some ⟨g, 0, none⟩) n c) = some (encD g n c, []) := rfl
theorem encR_nil : encR (.slice none 0 0) = some (.nil, []) := rfl
theorem encR_inv {v : Value} {g n c : Nat} {ps : List MemPlace} (h : encR v = some (encD g n c, ps)) : v = .slice (some ⟨g, 0, none⟩) n c := by
  unfold encR at h
  split at h
  · simp only [Option.some.injEq, Prod.mk.injEq, encD, DataW.agg.injEq, List.cons.injEq, DataW.lit.injEq, Lit.int.injEq, true_and, and_true] at h
    obtain ⟨⟨h0, h1, h2⟩, _⟩ := h
    have e0 : _ = g := Int.ofNat.inj h0
    have e1 : _ = n := Int.ofNat.inj h1
    have e2 : _ = c := Int.ofNat.inj h2
    rw [e0, e1, e2]
  · simp [encD] at h
  · cases h
/-- the map that block b is: the first k regions' rows -/
abbrev OwnM (w : World) (b n : Nat) (D : DataW Unit) : Prop := w.ownsMap Try.prog 35 encR b n D
def HeldM (w : World) (b : Nat) (T : List Rg) (G : Nat → Nat) (L : Nat → Nat) (k : Nat) : Prop :=
  ∃ D, OwnM w b k D ∧ IsMap D ∧ (∀ i, i < k → ∀ z, D.atKey (rKey (nthR T i)) z = encD (G i) (L i) (L i)) ∧ ∀ kl, has D kl = true → ∃ i, i < k ∧ kl = rKey (nthR T i)
theorem HeldM.below {w w' : World} {b k : Nat} {T : List Rg} {G L : Nat → Nat} (h : HeldM w b T G L k) (hb : Below w.heap.size w w') : HeldM w' b T G L k := by
  obtain ⟨D, ⟨es, clock, h1, h2⟩, h3⟩ := h
  have lt : b < w.heap.size := (Array.getElem?_eq_some_iff.1 h1).1
  exact ⟨D, ⟨es, clock, by rw [hb.block b lt]; exact h1, h2⟩, h3⟩
theorem HeldM.lt {w : World} {b k : Nat} {T : List Rg} {G L : Nat → Nat} (h : HeldM w b T G L k) : b < w.heap.size := by
  obtain ⟨D, h1, _⟩ := h
  exact h1.lt
theorem HeldM.kept {w w' : World} {b k : Nat} {T : List Rg} {G L : Nat → Nat} {row : Option Nat} (h : HeldM w b T G L k) (hg : w.grownBy w' row) (hne : some b ≠ row) : HeldM w' b T G L k := by
  obtain ⟨D, h1, h2⟩ := h
  exact ⟨D, h1.kept hg hne, h2⟩
theorem HeldM.congr {w : World} {b k : Nat} {T : List Rg} {G G' L L' : Nat → Nat} (h : HeldM w b T G L k) (e : ∀ i, i < k → G i = G' i) (e' : ∀ i, i < k → L i = L' i) : HeldM w b T G' L' k := by
  obtain ⟨D, h1, h2, h3, h4⟩ := h
  exact ⟨D, h1, h2, fun i hi z => by rw [← e i hi, ← e' i hi]; exact h3 i hi z, h4⟩
theorem HeldM.made (w : World) (T : List Rg) (G L : Nat → Nat) : HeldM (w.alloc (.map #[] 0)) w.heap.size T G L 0 :=
  ⟨.map [], World.ownsMap_made _ _ _ _, isMap_empty, fun i hi => by omega, fun kl h => by simp [Maps.has_eq] at h⟩
/-- a look-up finds a region's row -/
theorem HeldM.look {w : World} {b k i : Nat} {T : List Rg} {G L : Nat → Nat} (h : HeldM w b T G L k) (hi : i < k) (hW : RgW (nthR T i)) :
    (Instr.lookup 59 (.map (some b)) (.agg #[.int .u64 (rlo (nthR T i)), .int .u64 (rhi (nthR T i)), .int .i64 (rown (nthR T i)), .int .i64 (rout (nthR T i))]) false).run Try.prog w = .ok (.slice (some ⟨G i, 0, none⟩) (L i) (L i)) w := by
  obtain ⟨D, h1, _, h3, _⟩ := h
  obtain ⟨v, ps, hr, hv⟩ := h1.lookup lawReg Try.underlying59 (zeroRow w) encR_nil (rKey_of hW)
  rw [h3 i hi] at hv
  rw [hr, encR_inv hv]
/-- a row more -/
theorem HeldM.put {w : World} {b k g n : Nat} {T : List Rg} {G L : Nat → Nat} (h : HeldM w b T G L k) (hk : k < 1000) (hW : ∀ i, i ≤ k → RgW (nthR T i)) (hne : ∀ i, i < k → nthR T i ≠ nthR T k) :
    ∃ w', (Instr.mapUpdate 59 (.map (some b)) (.agg #[.int .u64 (rlo (nthR T k)), .int .u64 (rhi (nthR T k)), .int .i64 (rown (nthR T k)), .int .i64 (rout (nthR T k))]) (.slice (some ⟨g, 0, none⟩) n n)).run Try.prog w = .ok () w' ∧
      HeldM w' b T (fun i => if i = k then g else G i) (fun i => if i = k then n else L i) (k + 1) ∧ w.grownBy w' (some b) := by
  obtain ⟨D, h1, h2, h3, h4⟩ := h
  obtain ⟨w', hr, hown, hg⟩ := h1.update lawReg Try.underlying59 (by unfold maxLen; omega) (rKey_of (hW k (Nat.le_refl _))) (encR_row g n n)
  refine ⟨w', hr, ⟨_, hown, h2.put _ _, fun i hi z => ?_, fun kl hkl => ?_⟩, hg⟩
  · by_cases e : i = k
    · subst e
      show _ = encD (if i = i then g else G i) (if i = i then n else L i) (if i = i then n else L i)
      rw [if_pos rfl, if_pos rfl, atKey_put_same h2 (isKey_r _)]
    · have hlt : i < k := by omega
      show _ = encD (if i = k then g else G i) (if i = k then n else L i) (if i = k then n else L i)
      rw [if_neg e, if_neg e, atKey_put_other (fun h => hne i hlt (rKey_inj (hW i (by omega)) (hW k (Nat.le_refl _)) h)), h3 i hlt]
  · by_cases e : kl = rKey (nthR T k)
    · exact ⟨k, by omega, e⟩
    · rw [has_put_other e] at hkl
      obtain ⟨i, hi, h⟩ := h4 kl hkl
      exact ⟨i, by omega, h⟩
end Go.Proofs.Ytpfohbinjcdcbaa
