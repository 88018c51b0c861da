/- Layer 5's reference: its memory's bytes as the regions' bytes, one behind the other; its processor's block; the processor as it stands in a world. -/
import Derived.Test.YtoeagbcjnffpaaaGreatDoorRStore
import Derived.Test.YtoeagbcjnffpaaaGreatDoorCpuA
import Derived.Test.YtoeagbcjnffpaaaGreatDoorCpuC
namespace Go.Proofs.YtoeagbcjnffpaaaGreatDoor
set_option maxRecDepth 100000
open Go.RowKit Go.Maps
set_option linter.unusedVariables false

/-! ### The regions' bytes, one behind the other -/
def flatB (B : Nat → List Int) : Nat → List Int
  | 0 => []
  | n + 1 => flatB B n ++ B n
def LensB (T : List Rg) (B : Nat → List Int) (n : Nat) : Prop := ∀ i, i < n → (B i).length = lenR (nthR T i)
theorem LensB.pre {T : List Rg} {B : Nat → List Int} {n : Nat} (h : LensB T B (n + 1)) : LensB T B n := fun i hi => h i (by omega)
theorem flat_len {T : List Rg} {B : Nat → List Int} : ∀ {n : Nat}, LensB T B n → (flatB B n).length = offT T n := by
  intro n
  induction n with
  | zero => intro _; rfl
  | succ n ih => intro h; simp only [flatB, List.length_append, offT]; rw [ih h.pre, h n (by omega)]
theorem flat_cut {T : List Rg} {B : Nat → List Int} {i a q : Nat} : ∀ {n : Nat}, LensB T B n → i < n → a + q ≤ (B i).length → ((flatB B n).drop (offT T i + a)).take q = ((B i).drop a).take q := by
  intro n
  induction n with
  | zero => intro _ h; omega
  | succ n ih =>
    intro h hi ha
    have hl := flat_len h.pre
    by_cases e : i = n
    · subst e
      simp only [flatB]
      rw [List.drop_append, List.drop_of_length_le (by omega), List.nil_append, hl, show offT T i + a - offT T i = a by omega]
    · have h1 : offT T (i + 1) ≤ offT T n := offT_mono (by omega)
      have h2 : offT T (i + 1) = offT T i + lenR (nthR T i) := rfl
      have h3 := h i (by omega)
      simp only [flatB]
      rw [List.drop_append_of_le_length (by omega), List.take_append_of_le_length (by rw [List.length_drop]; omega)]
      exact ih h.pre (by omega) ha
theorem flat_congr {B B' : Nat → List Int} : ∀ {n : Nat}, (∀ i, i < n → B i = B' i) → flatB B n = flatB B' n := by
  intro n
  induction n with
  | zero => intro _; rfl
  | succ n ih => intro h; simp only [flatB]; rw [ih (fun i hi => h i (by omega)), h n (by omega)]
theorem splice_pre {a t x : List Int} {p : Nat} (h : p + x.length ≤ a.length) : splice (a ++ t) p x = splice a p x ++ t := by
  unfold splice
  rw [List.take_append_of_le_length (by omega), List.drop_append_of_le_length (by omega), List.append_assoc, List.append_assoc]
theorem splice_behind {a t x : List Int} {p : Nat} : splice (a ++ t) (a.length + p) x = a ++ splice t p x := by
  unfold splice
  rw [List.take_append, List.drop_append, List.take_of_length_le (by omega), List.drop_of_length_le (by omega), List.nil_append, List.append_assoc, show a.length + p - a.length = p by omega, show a.length + p + x.length - a.length = p + x.length by omega]
theorem flat_splice {T : List Rg} {B : Nat → List Int} {i a : Nat} {l : List Int} : ∀ {n : Nat}, LensB T B n → i < n → a + l.length ≤ (B i).length → splice (flatB B n) (offT T i + a) l = flatB (setB B i (splice (B i) a l)) n := by
  intro n
  induction n with
  | zero => intro _ h; omega
  | succ n ih =>
    intro h hi ha
    have hl := flat_len h.pre
    by_cases e : i = n
    · subst e
      simp only [flatB]
      rw [← hl, splice_behind, setB_same]
      congr 1
      exact flat_congr (fun j hj => (setB_other B _ (by omega)).symm)
    · have h1 : offT T (i + 1) ≤ offT T n := offT_mono (by omega)
      have h2 : offT T (i + 1) = offT T i + lenR (nthR T i) := rfl
      have h3 := h i (by omega)
      simp only [flatB]
      rw [splice_pre (by omega), ih h.pre (by omega) ha, setB_other B _ (show n ≠ i by omega)]
theorem lens_set {T : List Rg} {B : Nat → List Int} {n i : Nat} {l : List Int} (h : LensB T B n) (hl : l.length = (B i).length) : LensB T (setB B i l) n := fun j hj => by
  by_cases e : j = i
  · subst e; rw [setB_same, hl]; exact h j hj
  · rw [setB_other B l e]; exact h j hj

/-! ### The reference's memory -/
/-- a memory of the reference's, told by its regions -/
def RFl (w : World) (r tb to tc bb bc n : Nat) (T : List Rg) (B : Nat → List Int) : Prop := RMem w r tb to tc bb bc n T (flatB B n) ∧ LensB T B n
section
variable {w w' : World} {r tb to tc bb bc n : Nat} {T : List Rg} {L : List Int} {B : Nat → List Int}
theorem RMem.keptR {g : Nat} (h : RMem w r tb to tc bb bc n T L) (hg : w.grownBy w' (some g)) (h0 : g ≠ r) (h1 : g ≠ tb) (h2 : g ≠ bb) : RMem w' r tb to tc bb bc n T L := by
  refine ⟨hg.cell h.c0 (by simp; exact Ne.symm h0), hg.cell h.c1 (by simp; exact Ne.symm h0), fun i hi => ?_, h.row.kept hg (by simp; exact Ne.symm h2), h.len, h.may, h.tabw, h.llen, h.all, h.apart, h.cap⟩
  obtain ⟨c0, c1, c2, c3⟩ := h.tab i hi
  have hne : some tb ≠ some g := by simp; exact Ne.symm h1
  exact ⟨hg.cell c0 hne, hg.cell c1 hne, hg.cell c2 hne, hg.cell c3 hne⟩
theorem RFl.below (h : RFl w r tb to tc bb bc n T B) (hb : Below w.heap.size w w') : RFl w' r tb to tc bb bc n T B := ⟨h.1.below hb, h.2⟩
theorem RFl.kept {g : Nat} (h : RFl w r tb to tc bb bc n T B) (hg : w.grownBy w' (some g)) (h0 : g ≠ r) (h1 : g ≠ tb) (h2 : g ≠ bb) : RFl w' r tb to tc bb bc n T B := ⟨h.1.keptR hg h0 h1 h2, h.2⟩
theorem RFl.spot {p q : Int} {i : Nat} (h : RFl w r tb to tc bb bc n T B) (hF : FindYes T p q i) : i < n ∧ (p - rlo (nthR T i)).toNat + q.toNat ≤ (B i).length := by
  obtain ⟨h1, h2, h3, _⟩ := hF
  have h4 := hitB_iff.1 h3
  have hi : i < n := by rw [← h.1.len]; exact h2
  refine ⟨hi, ?_⟩
  rw [h.2 i hi]
  unfold lenR
  omega
theorem RFl.cut_eq {p q : Int} {i : Nat} (h : RFl w r tb to tc bb bc n T B) (hF : FindYes T p q i) : ((flatB B n).drop (placeT T p i)).take q.toNat = cut T B p q i := by
  obtain ⟨hi, ha⟩ := h.spot hF
  exact flat_cut h.2 hi ha
theorem RFl.cut_all {p q : Int} {i : Nat} (h : RFl w r tb to tc bb bc n T B) (hF : FindYes T p q i) : AllB (cut T B p q i) := by
  rw [← h.cut_eq hF]
  exact (h.1.all.drop _).take _
theorem rload_is (p q : Int) (own : Bool) (hp : IsU p) (hq : q = 1 ∨ q = 4 ∨ q = 8) (w : World) (hM : RFl w r tb to tc bb bc n T B) :
    Calls Tryz.prog 144 #[.pointer (some ⟨r, 0, none⟩), .int .u64 p, .int .i64 q, .bool own] w fun e w' => e = .returned (.tuple #[.int .u64 (wOf (loadM T B p q own 1)), .int .i64 (cOf (loadM T B p q own 1))]) ∧ Below w.heap.size w w' := by
  rcases all_or T p q own 1 with h | ⟨i, h⟩
  · have e : loadM T B p q own 1 = none := by unfold loadM; rw [allI_no h]; rfl
    rw [e]
    exact (rload_no r tb to tc bb bc n T _ p q own hp hq w hM.1 h).mono fun e w' ⟨h1, h2⟩ => ⟨h1, h2 ▸ Below.refl _ _⟩
  · have e : loadM T B p q own 1 = some (wordI (cut T B p q i)) := by unfold loadM; rw [allI_yes h]; rfl
    rw [e, ← hM.cut_eq h.2.1]
    exact rload_yes r tb to tc bb bc n T _ p q own i hp hq w hM.1 h
theorem rfetch_is (p : Int) (own : Bool) (hp : IsU p) (w : World) (hM : RFl w r tb to tc bb bc n T B) :
    Calls Tryz.prog 136 #[.pointer (some ⟨r, 0, none⟩), .int .u64 p, .bool own] w fun e w' => e = .returned (.tuple #[.int .u32 (wOf (loadM T B p 4 own 4)), .int .i64 (cOf (loadM T B p 4 own 4))]) ∧ Below w.heap.size w w' := by
  rcases all_or T p 4 own 4 with h | ⟨i, h⟩
  · have e : loadM T B p 4 own 4 = none := by unfold loadM; rw [allI_no h]; rfl
    rw [e]
    exact (rfetch_no r tb to tc bb bc n T _ p own hp w hM.1 h).mono fun e w' ⟨h1, h2⟩ => ⟨h1, h2 ▸ Below.refl _ _⟩
  · have e : loadM T B p 4 own 4 = some (wordI (cut T B p 4 i)) := by unfold loadM; rw [allI_yes h]; rfl
    rw [e, ← hM.cut_eq h.2.1]
    exact rfetch_yes r tb to tc bb bc n T _ p own i hp w hM.1 h
theorem rstoreM_yes {T : List Rg} {B B' : Nat → List Int} {p q v : Int} {own : Bool} (h : storeM T B p q own v = some B') : ∃ i, AllYes T p q own 2 i ∧ B' = setB B i (splice (B i) (p - rlo (nthR T i)).toNat (bytesL v q.toNat)) := by
  unfold storeM at h
  rw [Option.map_eq_some_iff] at h
  obtain ⟨i, hi, h⟩ := h
  exact ⟨i, allI_is hi, h.symm⟩
theorem rstoreM_no {T : List Rg} {B : Nat → List Int} {p q v : Int} {own : Bool} (h : storeM T B p q own v = none) : AllNo T p q own 2 := by
  unfold storeM at h
  rw [Option.map_eq_none_iff] at h
  exact allI_not h
theorem rstore_some {B' : Nat → List Int} (p q : Int) (own : Bool) (v : Int) (hp : IsU p) (hv : IsU v) (hq : q = 1 ∨ q = 4 ∨ q = 8) (w : World) (hM : RFl w r tb to tc bb bc n T B) (h : storeM T B p q own v = some B') :
    Calls Tryz.prog 143 #[.pointer (some ⟨r, 0, none⟩), .int .u64 p, .int .i64 q, .bool own, .int .u64 v] w fun e w' => e = .returned (.int .i64 0) ∧ RFl w' r tb to tc bb bc n T B' ∧ w.grownBy w' (some bb) := by
  obtain ⟨i, hY, rfl⟩ := rstoreM_yes h
  obtain ⟨hi, ha⟩ := hM.spot hY.2.1
  obtain ⟨k, rfl⟩ : ∃ k : Nat, q = k := ⟨q.toNat, by omega⟩
  have hk : (k : Int).toNat = k := by omega
  rw [hk] at ha ⊢
  have hl := bytesL_length v k
  have e : splice (flatB B n) (placeT T p i) (bytesL v k) = flatB (setB B i (splice (B i) (p - rlo (nthR T i)).toNat (bytesL v k))) n := flat_splice hM.2 hi (by rw [hl]; exact ha)
  refine (rstore_yes r tb to tc bb bc n T _ p k own v i hp hv hq w hM.1 hY).mono ?_
  rintro e' w' ⟨rfl, hM', hg⟩
  rw [e] at hM'
  exact ⟨rfl, ⟨hM', lens_set hM.2 (length_splice _ _ _ (by rw [hl]; exact ha))⟩, hg⟩
theorem rstore_none (p q : Int) (own : Bool) (v : Int) (hp : IsU p) (hq : q = 1 ∨ q = 4 ∨ q = 8) (w : World) (hM : RFl w r tb to tc bb bc n T B) (h : storeM T B p q own v = none) :
    Calls Tryz.prog 143 #[.pointer (some ⟨r, 0, none⟩), .int .u64 p, .int .i64 q, .bool own, .int .u64 v] w fun e w' => e = .returned (.int .i64 13) ∧ w = w' :=
  rstore_no r tb to tc bb bc n T _ p q own v hp hq w hM.1 (rstoreM_no h)
theorem rloadM_word {p : Int} {own : Bool} {q x : Int} (hM : RFl w r tb to tc bb bc n T B) (h : loadM T B p 4 own q = some x) : IsW x := by
  unfold loadM at h
  rw [Option.map_eq_some_iff] at h
  obtain ⟨i, hi, rfl⟩ := h
  have hF := (allI_is hi).2.1
  refine word4_bd (hM.cut_all hF) ?_
  have := (hM.spot hF).2
  unfold cut
  rw [List.length_take, List.length_drop]
  have : (4 : Int).toNat = 4 := rfl
  omega
theorem rloadM_u {p k : Int} {own : Bool} {q x : Int} (hM : RFl w r tb to tc bb bc n T B) (h : loadM T B p k own q = some x) : IsU x := by
  unfold loadM at h
  rw [Option.map_eq_some_iff] at h
  obtain ⟨i, hi, rfl⟩ := h
  have hF := (allI_is hi).2.1
  have h1 := wordI_bd (hM.cut_all hF)
  have h0 : (cut T B p k i).length = k.toNat := by
    have := (hM.spot hF).2
    unfold cut
    rw [List.length_take, List.length_drop]
    omega
  rw [h0] at h1
  have h2 := pow256_le (k := k.toNat) (by have := accB_n (allI_is hi).1; omega)
  exact ⟨h1.1, by omega⟩
end

/-! ### The reference's processor -/
def rcpuL (m : Nat) (vE : Value) (s : CS) (ve vl : Value) : List Value :=
  .pointer (some ⟨m, 0, none⟩) :: vE :: (stateL s ++ [ve, vl])
/-- block c is a processor -/
def RCpuB (w : World) (c m : Nat) (vE : Value) (s : CS) (ve vl : Value) : Prop :=
  w.heap[c]? = some (.cells (rcpuL m vE s ve vl).toArray 47 (0, 0)) ∧ s.R.length = 32
section
variable {w w' : World} {c m : Nat} {vE : Value} {s : CS} {ve vl : Value}
theorem RCpuB.lt (h : RCpuB w c m vE s ve vl) : c < w.heap.size := (Array.getElem?_eq_some_iff.1 h.1).1
theorem RCpuB.cell (h : RCpuB w c m vE s ve vl) (k : Nat) : w.cell? ⟨c, k, none⟩ = (rcpuL m vE s ve vl)[k]? := by
  rw [cell_of_row w c k _ _ _ h.1]; simp
theorem RCpuB.free (h : RCpuB w c m vE s ve vl) (k : Nat) : w.frozen? ⟨c, k, none⟩ = false := frozen_of_row w c k _ _ h.1
theorem RCpuB.mem (h : RCpuB w c m vE s ve vl) : w.cell? ⟨c, 0, none⟩ = some (.pointer (some ⟨m, 0, none⟩)) := by rw [h.cell]; rfl
theorem RCpuB.ent (h : RCpuB w c m vE s ve vl) : w.cell? ⟨c, 1, none⟩ = some vE := by rw [h.cell]; rfl
theorem RCpuB.st (h : RCpuB w c m vE s ve vl) {k : Nat} (hk : k < 35) : w.cell? ⟨c, 2 + k, none⟩ = (stateL s)[k]? := by
  rw [h.cell, Nat.add_comm]
  show (stateL s ++ _)[k]? = _
  rw [List.getElem?_append_left (by rw [stateL_len h.2]; exact hk)]
theorem RCpuB.rest (h : RCpuB w c m vE s ve vl) (k : Nat) : w.cell? ⟨c, 37 + k, none⟩ = [ve, vl][k]? := by
  rw [h.cell, show 37 + k = (35 + k) + 1 + 1 by omega]
  show (stateL s ++ _)[35 + k]? = _
  rw [List.getElem?_append_right (by rw [stateL_len h.2]; omega), stateL_len h.2]
  congr 1; omega
theorem RCpuB.reg (h : RCpuB w c m vE s ve vl) {r : Nat} (hr : r < 32) : w.cell? ⟨c, 2 + r, none⟩ = some (.int .u64 (nth s.R r)) := by
  rw [h.st (by omega), stateL_reg h.2 hr]
theorem RCpuB.pc (h : RCpuB w c m vE s ve vl) : w.cell? ⟨c, 34, none⟩ = some (.int .u64 s.pc) := (h.st (k := 32) (by omega)).trans (stateL_at h.2 0)
theorem RCpuB.own (h : RCpuB w c m vE s ve vl) : w.cell? ⟨c, 35, none⟩ = some (.bool s.own) := (h.st (k := 33) (by omega)).trans (stateL_at h.2 1)
theorem RCpuB.dn (h : RCpuB w c m vE s ve vl) : w.cell? ⟨c, 36, none⟩ = some (.int .i64 s.dn) := (h.st (k := 34) (by omega)).trans (stateL_at h.2 2)
theorem RCpuB.evs (h : RCpuB w c m vE s ve vl) : w.cell? ⟨c, 37, none⟩ = some ve := h.rest 0
theorem RCpuB.lks (h : RCpuB w c m vE s ve vl) : w.cell? ⟨c, 38, none⟩ = some vl := h.rest 1
theorem RCpuB.grown {row : Option Nat} (h : RCpuB w c m vE s ve vl) (hg : w.grownBy w' row) (hne : some c ≠ row) : RCpuB w' c m vE s ve vl :=
  ⟨by rw [hg.block c h.lt hne]; exact h.1, h.2⟩
theorem RCpuB.below (h : RCpuB w c m vE s ve vl) (hb : Below w.heap.size w w') : RCpuB w' c m vE s ve vl := h.grown (grown_of_below (row := none) hb) (by simp)
theorem RCpuB.set (h : RCpuB w c m vE s ve vl) (k : Nat) (v : Value) : (w.setCell ⟨c, k, none⟩ v).heap[c]? = some (.cells ((rcpuL m vE s ve vl).set k v).toArray 47 (0, 0)) := by
  rw [heap_setCell_same w c k _ _ v h.1]
  simp
theorem rcpuL_st (m : Nat) (vE : Value) (s : CS) (ve vl : Value) {k : Nat} (hk : k < 35) (hl : s.R.length = 32) (v : Value) : (rcpuL m vE s ve vl).set (2 + k) v = .pointer (some ⟨m, 0, none⟩) :: vE :: ((stateL s).set k v ++ [ve, vl]) := by
  rw [show 2 + k = k + 1 + 1 by omega]
  unfold rcpuL
  simp only [List.set_cons_succ]
  rw [List.set_append_left _ _ (by rw [stateL_len hl]; exact hk)]
theorem rcpuL_rest (m : Nat) (vE : Value) (s : CS) (ve vl : Value) (k : Nat) (hl : s.R.length = 32) (v : Value) : (rcpuL m vE s ve vl).set (37 + k) v = .pointer (some ⟨m, 0, none⟩) :: vE :: (stateL s ++ [ve, vl].set k v) := by
  rw [show 37 + k = (35 + k) + 1 + 1 by omega]
  unfold rcpuL
  simp only [List.set_cons_succ]
  rw [List.set_append_right _ _ (by rw [stateL_len hl]; omega), stateL_len hl, show 35 + k - 35 = k by omega]
theorem RCpuB.setPc (h : RCpuB w c m vE s ve vl) (p : Int) : RCpuB (w.setCell ⟨c, 34, none⟩ (.int .u64 p)) c m vE (goTo s p) ve vl := by
  refine ⟨?_, h.2⟩
  rw [h.set 34, show (34 : Nat) = 2 + 32 from rfl, rcpuL_st m vE s ve vl (by omega) h.2, stateL_set s h.2 0]
  rfl
theorem RCpuB.setOwn (h : RCpuB w c m vE s ve vl) (b : Bool) : RCpuB (w.setCell ⟨c, 35, none⟩ (.bool b)) c m vE { s with own := b } ve vl := by
  refine ⟨?_, h.2⟩
  rw [h.set 35, show (35 : Nat) = 2 + 33 from rfl, rcpuL_st m vE s ve vl (by omega) h.2, stateL_set s h.2 1]
  rfl
theorem RCpuB.setDn (h : RCpuB w c m vE s ve vl) (d : Int) : RCpuB (w.setCell ⟨c, 36, none⟩ (.int .i64 d)) c m vE (doneS s d) ve vl := by
  refine ⟨?_, h.2⟩
  rw [h.set 36, show (36 : Nat) = 2 + 34 from rfl, rcpuL_st m vE s ve vl (by omega) h.2, stateL_set s h.2 2]
  rfl
theorem RCpuB.setReg (h : RCpuB w c m vE s ve vl) {r : Nat} (h0 : r ≠ 0) (hr : r < 32) (v : Int) : RCpuB (w.setCell ⟨c, 2 + r, none⟩ (.int .u64 v)) c m vE (setR s r v) ve vl := by
  have e : setR s r v = { s with R := s.R.set r v } := by unfold setR; rw [if_neg (by omega)]; simp
  rw [e]
  refine ⟨?_, by simpa using h.2⟩
  rw [h.set (2 + r), rcpuL_st m vE s ve vl (by omega) h.2]
  have : (stateL s).set r (.int .u64 v) = stateL { s with R := s.R.set r v } := by
    unfold stateL
    rw [List.set_append_left _ _ (by simp [regsL]; have := h.2; omega)]
    congr 1
    simp [regsL, List.map_set]
  rw [this]
  rfl
theorem RCpuB.setEv (h : RCpuB w c m vE s ve vl) (v : Value) : RCpuB (w.setCell ⟨c, 37, none⟩ v) c m vE s v vl := by
  refine ⟨?_, h.2⟩
  rw [h.set 37, show (37 : Nat) = 37 + 0 from rfl, rcpuL_rest m vE s ve vl 0 h.2]
  rfl
theorem RCpuB.setLk (h : RCpuB w c m vE s ve vl) (v : Value) : RCpuB (w.setCell ⟨c, 38, none⟩ v) c m vE s ve v := by
  refine ⟨?_, h.2⟩
  rw [h.set 38, show (38 : Nat) = 37 + 1 from rfl, rcpuL_rest m vE s ve vl 1 h.2]
  rfl
end/-- it changed its own block alone -/
def RCpuTo (w w' : World) (c m : Nat) (vE : Value) (s : CS) (ve vl : Value) : Prop := RCpuB w' c m vE s ve vl ∧ w.grownBy w' (some c)
/-- what a processor is made of, once and for all -/
structure RK where
  c : Nat
  r : Nat
  tb : Nat
  to : Nat
  tc : Nat
  bb : Nat
  bc : Nat
  n : Nat
  T : List Rg
  EA : Option Addr
  ec : Nat
  E : List Int
def REntsOk (w : World) (K : RK) : Prop := K.E.length ≤ 1000000 ∧ (∀ x ∈ K.E, IsU x) ∧ (K.E = [] ∨ ∃ b off, K.EA = some ⟨b, off, none⟩ ∧ b < K.c ∧ K.bb ≠ b ∧ ∀ k, k < K.E.length → w.cell? ⟨b, off + k, none⟩ = some (.int .u64 (nth K.E k)))
structure RCpuIs (w : World) (K : RK) (ve vl : Value) (st : St) : Prop where
  blk : RCpuB w K.c K.r (.slice K.EA K.E.length K.ec) st.s ve vl
  evr : w.ownsRow (K.c + 1) 88 10 ve st.ev.length (evsL st.ev)
  lkr : w.ownsRow (K.c + 1) 91 3 vl st.lk.length (lksL st.lk)
  mem : RFl w K.r K.tb K.to K.tc K.bb K.bc K.n K.T st.B
  ent : REntsOk w K
  wf : CsW st.s
  low : K.r < K.c ∧ K.tb < K.c ∧ K.bb < K.c
  few : st.ev.length ≤ 100000000 ∧ st.lk.length ≤ 100000000
/-- what it may write -/
def RFootIs (w : World) (K : RK) (F : Nat → Prop) (ve vl : Value) : Prop := F K.c ∧ F K.bb ∧ (∀ b, ve.ownBlock = some b → F b) ∧ (∀ b, vl.ownBlock = some b → F b) ∧ ∀ b, w.heap.size ≤ b → F b
def RCpuAt (w : World) (K : RK) (F : Nat → Prop) (st : St) : Prop := ∃ ve vl, RCpuIs w K ve vl st ∧ RFootIs w K F ve vl
section
variable {F : Nat → Prop} {w w1 w2 w' : World} {K : RK} {ve vl v' : Value} {st : St}
theorem REntsOk.kept {row : Option Nat} (h : REntsOk w K) (hg : w.grownBy w' row) (hne : ∀ b, row = some b → K.c ≤ b ∨ K.bb = b) : REntsOk w' K := by
  refine ⟨h.1, h.2.1, ?_⟩
  rcases h.2.2 with h | ⟨b, off, h1, h2, h3, h4⟩
  · exact .inl h
  · refine .inr ⟨b, off, h1, h2, h3, fun k hk => hg.cell (h4 k hk) (fun e => ?_)⟩
    rcases hne b e.symm with h | h
    · omega
    · exact h3 h
/-- a block beyond the processor's own, or none of its, is written -/
theorem RCpuIs.grown {row : Option Nat} (h : RCpuIs w K ve vl st) (hg : w.grownBy w' row) (hr : ∀ b, row = some b → K.c < b ∧ ve.ownBlock ≠ some b ∧ vl.ownBlock ≠ some b) : RCpuIs w' K ve vl st := by
  obtain ⟨l0, l1, l2⟩ := h.low
  refine ⟨h.blk.grown hg (fun e => ?_), row_kept h.evr hg (fun b hb e => (hr b e.symm).2.1 hb), row_kept h.lkr hg (fun b hb e => (hr b e.symm).2.2 hb), ?_, h.ent.kept hg (fun b e => .inl (Nat.le_of_lt (hr b e).1)), h.wf, h.low, h.few⟩
  · have := hr _ e.symm; omega
  · cases row with
    | none => exact h.mem.below ⟨hg.os, hg.tape, hg.output, hg.size, fun k hk => hg.block k hk (by simp)⟩
    | some g =>
      have := (hr g rfl).1
      exact h.mem.kept hg (by omega) (by omega) (by omega)
theorem RCpuIs.below (h : RCpuIs w K ve vl st) (hb : Below w.heap.size w w') : RCpuIs w' K ve vl st := h.grown (grown_of_below (row := none) hb) (by simp)
theorem RFootIs.mono (h : RFootIs w K F ve vl) (hs : w.heap.size ≤ w'.heap.size) : RFootIs w' K F ve vl := ⟨h.1, h.2.1, h.2.2.1, h.2.2.2.1, fun b hb => h.2.2.2.2 b (Nat.le_trans hs hb)⟩
theorem RCpuAt.below (h : RCpuAt w K F st) (hb : Below w.heap.size w w') : RCpuAt w' K F st := by
  obtain ⟨ve, vl, h1, h2⟩ := h
  exact ⟨ve, vl, h1.below hb, h2.mono hb.size⟩
theorem RCpuAt.drewN (h : RCpuAt w K F st) (n : Nat) : RCpuAt (w.drewN n) K F st := h.below (bel_drewN (Below.refl _ _) n)
theorem RCpuAt.wf (h : RCpuAt w K F st) : CsW st.s := by obtain ⟨_, _, h, _⟩ := h; exact h.wf
/-- the own block is written: a state's cell -/
theorem RCpuIs.state {s : CS} (h : RCpuIs w K ve vl st) (hT : RCpuTo w w' K.c K.r (.slice K.EA K.E.length K.ec) s ve vl) (hs : CsW s) : RCpuIs w' K ve vl (withS st s) := by
  obtain ⟨l0, l1, l2⟩ := h.low
  refine ⟨hT.1, row_kept h.evr hT.2 (fun b hb e => ?_), row_kept h.lkr hT.2 (fun b hb e => ?_), h.mem.kept hT.2 (by omega) (by omega) (by omega), h.ent.kept hT.2 (fun b e => by cases e; exact .inl (Nat.le_refl _)), hs, h.low, h.few⟩
  · have := (ownBlock_lt h.evr hb).2.1; cases e; omega
  · have := (ownBlock_lt h.lkr hb).2.1; cases e; omega
theorem RCpuAt.state {s : CS} (h : RCpuIs w K ve vl st) (hF : RFootIs w K F ve vl) (hT : RCpuTo w w' K.c K.r (.slice K.EA K.E.length K.ec) s ve vl) (hs : CsW s) : RCpuAt w' K F (withS st s) ∧ Out F w w' :=
  ⟨⟨ve, vl, h.state hT hs, hF.mono hT.2.size⟩, .of_grown hT.2 (fun g e => by cases e; exact hF.1)⟩
/-- the bytes are written -/
theorem RCpuIs.stored {B' : Nat → List Int} (h : RCpuIs w K ve vl st) (hM : RFl w' K.r K.tb K.to K.tc K.bb K.bc K.n K.T B') (hg : w.grownBy w' (some K.bb)) : RCpuIs w' K ve vl (withB st B') := by
  obtain ⟨l0, l1, l2⟩ := h.low
  exact ⟨h.blk.grown hg (by simp; omega), row_kept h.evr hg (fun b hb e => by have := (ownBlock_lt h.evr hb).2.1; cases e; omega), row_kept h.lkr hg (fun b hb e => by have := (ownBlock_lt h.lkr hb).2.1; cases e; omega), hM, h.ent.kept hg (fun b e => by cases e; exact .inr rfl), h.wf, h.low, h.few⟩
/-- the row of what was shown has one more -/
theorem RCpuIs.shown (h : RCpuIs w K ve vl st) {k a b : Int} (hg : w.grownBy w2 vl.ownBlock) (hr : w2.ownsRow (K.c + 1) 91 3 v' (st.lk.length + 1) (lksL st.lk ++ lkC (k, a, b)))
    (ho : st.s.own = true) (hl : st.lk.length < 100000000) :
    RCpuIs (w2.setCell ⟨K.c, 38, none⟩ v') K ve v' (showC st k a b) := by
  obtain ⟨l0, l1, l2⟩ := h.low
  have hne : ∀ b, vl.ownBlock = some b → K.c < b ∧ ve.ownBlock ≠ some b := fun b hb => ⟨(ownBlock_lt h.lkr hb).2.1, row_apart h.lkr h.evr (by decide) hb⟩
  have e : showC st k a b = { st with lk := st.lk ++ [(k, a, b)] } := by unfold showC; rw [if_pos ho]
  rw [e]
  have hB : RCpuB w2 K.c K.r (.slice K.EA K.E.length K.ec) st.s ve vl := h.blk.grown hg (fun e => by have := hne _ e.symm; omega)
  have g2 := grown_setCell w2 K.c 38 v'
  have hev := row_kept h.evr hg (fun b hb e => (hne b e.symm).2 hb)
  have hmem : RFl w2 K.r K.tb K.to K.tc K.bb K.bc K.n K.T st.B := by
    cases ho : vl.ownBlock with
    | none => rw [ho] at hg; exact h.mem.below ⟨hg.os, hg.tape, hg.output, hg.size, fun k hk => hg.block k hk (by simp)⟩
    | some g =>
      rw [ho] at hg
      have := (hne g ho).1
      exact h.mem.kept hg (by omega) (by omega) (by omega)
  refine ⟨hB.setLk v', row_kept hev g2 (fun b hb e => ?_), ?_, hmem.kept g2 (by omega) (by omega) (by omega), (h.ent.kept hg (fun b e => .inl (Nat.le_of_lt (hne b e).1))).kept g2 (fun b e => by cases e; exact .inl (Nat.le_refl _)), h.wf, h.low, ⟨h.few.1, by simp; omega⟩⟩
  · have := (ownBlock_lt hev hb).2.1; cases e; omega
  · show World.ownsRow _ _ _ 3 v' (st.lk ++ [(k, a, b)]).length (lksL (st.lk ++ [(k, a, b)]))
    rw [lksL_snoc, List.length_append]
    exact row_kept hr g2 (fun b hb e => by have := (ownBlock_lt hr hb).2.1; cases e; omega)
theorem RFootIs.shown (h : RFootIs w K F ve vl) (hs : w.heap.size ≤ w2.heap.size) (hv : v'.ownBlock = vl.ownBlock ∨ ∃ g, v'.ownBlock = some g ∧ w.heap.size ≤ g) : RFootIs w2 K F ve v' := by
  obtain ⟨h1, h2, h3, h4, h5⟩ := h.mono hs
  refine ⟨h1, h2, h3, fun b hb => ?_, h5⟩
  rcases hv with e | ⟨g, e, hg⟩
  · rw [e] at hb; exact h4 b hb
  · rw [e] at hb; cases hb; exact h.2.2.2.2 _ hg
theorem rshow_out (h : RFootIs w K F ve vl) (hg : w.grownBy w2 vl.ownBlock) (v : Value) : Out F w (w2.setCell ⟨K.c, 38, none⟩ v) :=
  (Out.of_grown hg (fun g e => h.2.2.2.1 g e)).trans (Out.of_grown (grown_setCell w2 K.c 38 v) (fun g e => by cases e; exact h.1))
theorem RCpuIs.blk2 (h : RCpuIs w K ve vl st) (hg : w.grownBy w2 vl.ownBlock) : RCpuB w2 K.c K.r (.slice K.EA K.E.length K.ec) st.s ve vl :=
  h.blk.grown hg (fun e => by have := (ownBlock_lt h.lkr e.symm).2.1; omega)
/-- the row of changes has one more -/
theorem RCpuIs.evented (h : RCpuIs w K ve vl st) {x : Ev} (hg : w.grownBy w2 ve.ownBlock) (hr : w2.ownsRow (K.c + 1) 88 10 v' (st.ev.length + 1) (evsL st.ev ++ evC x))
    (hl : st.ev.length < 100000000) :
    RCpuIs (w2.setCell ⟨K.c, 37, none⟩ v') K v' vl { st with ev := st.ev ++ [x] } := by
  obtain ⟨l0, l1, l2⟩ := h.low
  have hne : ∀ b, ve.ownBlock = some b → K.c < b ∧ vl.ownBlock ≠ some b := fun b hb => ⟨(ownBlock_lt h.evr hb).2.1, row_apart h.evr h.lkr (by decide) hb⟩
  have hB : RCpuB w2 K.c K.r (.slice K.EA K.E.length K.ec) st.s ve vl := h.blk.grown hg (fun e => by have := hne _ e.symm; omega)
  have g2 := grown_setCell w2 K.c 37 v'
  have hlk := row_kept h.lkr hg (fun b hb e => (hne b e.symm).2 hb)
  have hmem : RFl w2 K.r K.tb K.to K.tc K.bb K.bc K.n K.T st.B := by
    cases ho : ve.ownBlock with
    | none => rw [ho] at hg; exact h.mem.below ⟨hg.os, hg.tape, hg.output, hg.size, fun k hk => hg.block k hk (by simp)⟩
    | some g =>
      rw [ho] at hg
      have := (hne g ho).1
      exact h.mem.kept hg (by omega) (by omega) (by omega)
  refine ⟨hB.setEv v', ?_, row_kept hlk g2 (fun b hb e => ?_), hmem.kept g2 (by omega) (by omega) (by omega), (h.ent.kept hg (fun b e => .inl (Nat.le_of_lt (hne b e).1))).kept g2 (fun b e => by cases e; exact .inl (Nat.le_refl _)), h.wf, h.low, ⟨by simp; omega, h.few.2⟩⟩
  · show World.ownsRow _ _ _ 10 v' (st.ev ++ [x]).length (evsL (st.ev ++ [x]))
    rw [evsL_snoc, List.length_append]
    exact row_kept hr g2 (fun b hb e => by have := (ownBlock_lt hr hb).2.1; cases e; omega)
  · have := (ownBlock_lt hlk hb).2.1; cases e; omega
theorem RFootIs.evented (h : RFootIs w K F ve vl) (hs : w.heap.size ≤ w2.heap.size) (hv : v'.ownBlock = ve.ownBlock ∨ ∃ g, v'.ownBlock = some g ∧ w.heap.size ≤ g) : RFootIs w2 K F v' vl := by
  obtain ⟨h1, h2, h3, h4, h5⟩ := h.mono hs
  refine ⟨h1, h2, fun b hb => ?_, h4, h5⟩
  rcases hv with e | ⟨g, e, hg⟩
  · rw [e] at hb; exact h3 b hb
  · rw [e] at hb; cases hb; exact h.2.2.2.2 _ hg
theorem revent_out (h : RFootIs w K F ve vl) (hg : w.grownBy w2 ve.ownBlock) (v : Value) : Out F w (w2.setCell ⟨K.c, 37, none⟩ v) :=
  (Out.of_grown hg (fun g e => h.2.2.1 g e)).trans (Out.of_grown (grown_setCell w2 K.c 37 v) (fun g e => by cases e; exact h.1))
theorem RCpuIs.blk3 (h : RCpuIs w K ve vl st) (hg : w.grownBy w2 ve.ownBlock) : RCpuB w2 K.c K.r (.slice K.EA K.E.length K.ec) st.s ve vl :=
  h.blk.grown hg (fun e => by have := (ownBlock_lt h.evr e.symm).2.1; omega)
theorem REntsOk.sl (h : REntsOk w K) : SlU w K.EA K.E := h.2.2.imp id (fun ⟨b, off, h1, _, _, h4⟩ => ⟨b, off, h1, h4⟩)
end
end Go.Proofs.YtoeagbcjnffpaaaGreatDoor
namespace Go.Proofs.YtoeagbcjnffpaaaGreatDoor
set_option maxRecDepth 100000
open Go.RowKit Go.Maps
set_option linter.unusedVariables false
/-- one element more, as an operation of a walk -/
theorem wpList_append_at {P : Program} {ops : Array Oper} {rest : List Oper} {o : Oper} {a : Act} {Q : Exit → Act → World → Prop} {w : World} (hgd : o.guard = none) (s x : Operand) (t : TypeId)
    (ho : o.op = .call { callee := .builtin .append, args := #[s, x], argTypes := #[t, t] })
    (base : Nat) (e : TypeId) (i : TypeInfo) (z : Value) (size bytes : Nat) (ht : P.underlying t = some (.slice e)) (hi : P.info? e = some i) (hz : i.zero = some z)
    (hsize : i.size = size) (hby : i.bytes = bytes) (hzs : z.cells.size = size) (hsz : 0 < size)
    (v : Value) (n : Nat) (xs : List Value) (hs : a.eval s = v) (hown : w.ownsRow base e size v n xs)
    (ad : Addr) (m c : Nat) (news : List Value) (hx : a.eval x = .slice (some ad) m c) (hl : news.length = m * size) (hnews : ∀ j u, news[j]? = some u → w.cell? (ad.add j) = some u) (h1 : ∀ u ∈ news, u.oneCell' = true)
    (h63 : n + m ≤ maxLen) (hbytes : (n + m) * bytes ≤ 140737488355328) (hbase : base ≤ w.heap.size)
    (h : ∀ v' w', w'.ownsRow base e size v' (n + m) (xs ++ news) → w.grownBy w' v.ownBlock → (v'.ownBlock = v.ownBlock ∨ v'.ownBlock = some w.heap.size) → wpList P ops Q rest (a.put o.dst v') w') : wpList P ops Q (o :: rest) a w := by
  refine wpList_plain hgd fun K' hK' => ?_
  obtain ⟨v', w', hr, h2, h3, h4, h5⟩ := run_append_own_at (P := P) w base t o.type e i z size bytes ht hi hz hsize hby hzs hsz v n xs hown ad m c news hl hnews h1 h63 hbytes hbase
  unfold Oper.wp execOp
  simp only [ho, resolve, invoke, builtin, Sem.run_bind, Sem.run_pure, Result.andThen_ok, List.map_toArray, List.map_cons, List.map_nil, hs, hx, hr]
  exact hK' _ _ (h v' w' h2 h3 h5)
/-- it leaves what it should -/
def RShowP (w : World) (K : RK) (F : Nat → Prop) (st : St) (e : Ending) (w' : World) : Prop := e = .returned (.tuple #[]) ∧ RCpuAt w' K F st ∧ Out F w w'
set_option maxHeartbeats 1000000 in
theorem rshow_any (K : RK) (F : Nat → Prop) (st : St) (k a b : Int) (w : World) (hA : RCpuAt w K F st) (hl : st.lk.length < 100000000) :
    Calls Tryz.prog 83 #[.pointer (some ⟨K.c, 0, none⟩), .int .i64 k, .int .u64 a, .int .u64 b] w (RShowP w K F (showC st k a b)) := by
  obtain ⟨ve, vl, hC, hF⟩ := hA
  have ho := hC.blk.own
  cases hb : st.s.own with
  | false =>
    have HE := Lib.hid (show showC st k a b = st by unfold showC; rw [hb]; rfl)
    have HC := Lib.hid hC
    have HF := Lib.hid hF
    have lt := hC.blk.lt
    rw [hb] at ho
    clear hb hC hF
    go_enter Tryz.func83, Tryz.ntmps83
    go_wp2
    go_end0
    exact ⟨rfl, by rw [HE.out]; exact ⟨ve, vl, HC.out, HF.out⟩, .refl _ _⟩
  | true =>
    rw [hb] at ho
    obtain ⟨i0, hi, hz0, hz1, hz2⟩ := info_parts infoLk
    have hw0 := (Below.refl w.heap.size w).alloc (Nat.le_refl _) (.cells #[.int .i64 k, .int .u64 a, .int .u64 b] 91)
    have HX := Lib.hid (hC.below hw0)
    have HF := Lib.hid (hF.mono hw0.size)
    have HW := Lib.hid hw0
    have HB := Lib.hid hb
    have HL := Lib.hid hl
    have hv := hC.blk.lks
    have lt := hC.blk.lt
    have HN1 := Lib.hid (show st.lk.length + 1 ≤ maxLen by unfold maxLen; omega)
    have HN2 := Lib.hid (show (st.lk.length + 1) * 24 ≤ 140737488355328 by omega)
    have HN3 := Lib.hid (show K.c + 1 ≤ (w.alloc (.cells #[.int .i64 k, .int .u64 a, .int .u64 b] 91)).heap.size by simp; omega)
    have HO := Lib.hid (show ∀ u ∈ lkC (k, a, b), u.oneCell' = true by intro u hu; simp [lkC] at hu; rcases hu with rfl | rfl | rfl <;> rfl)
    have HNw := Lib.hid (news_new (w := w) (c := lkC (k, a, b)) (t := 91))
    clear hb hw0 hC hF hl
    go_enter Tryz.func83, Tryz.ntmps83
    go_wp2_with (at_builtin; refine wpList_append_at rfl _ _ _ rfl (K.c + 1) 91 i0 _ 3 24 Tryz.underlying45 hi hz0 hz1 hz2 rfl (Nat.succ_pos 2) vl st.lk.length (lksL st.lk) ?hs HX.out.lkr _ 1 1 (lkC (k, a, b)) ?hx rfl HNw.out HO.out HN1.out HN2.out HN3.out ?_; (case hs => rfl); (case hx => rfl); intro v' w2 hr hg hv'; obtain ⟨g, cap, rfl⟩ := row_some hr; have hv2 := (HX.out.blk2 hg).lks; have hf2 := (HX.out.blk2 hg).free 38; have HR := Lib.hid hr; have HG := Lib.hid hg; have HV := Lib.hid hv'; clear hr hg hv')
    have HV' := Lib.hid (row_or HV.out (Nat.le_refl _))
    go_end0
    exact ⟨rfl, ⟨ve, _, HX.out.shown HG.out HR.out HB.out HL.out, (HF.out.shown (v' := .slice (some ⟨g, 0, none⟩) (st.lk.length + 1) cap) HG.out.size HV'.out).mono (by simp [World.setCell])⟩, (Out.of_below HW.out).trans (rshow_out HF.out HG.out _)⟩
/-- the step breaks -/
def RBrokeP (w : World) (K : RK) (F : Nat → Prop) (st : St) (e : Ending) (w' : World) : Prop := e = .returned (.bool true) ∧ RCpuAt w' K F st ∧ Out F w w'
theorem rbroken_any (K : RK) (F : Nat → Prop) (st : St) (w : World) (hA : RCpuAt w K F st) :
    Calls Tryz.prog 82 #[.pointer (some ⟨K.c, 0, none⟩)] w (RBrokeP w K F (broke st)) := by
  obtain ⟨ve, vl, hC, hF⟩ := hA
  have h1 := hC.blk.dn
  have h2 := hC.blk.free 36
  have HX := Lib.hid (RCpuAt.state hC hF ⟨hC.blk.setDn 2, grown_setCell _ K.c 36 _⟩ (hC.wf.done (.inr (.inr rfl))))
  clear hC hF
  go_enter Tryz.func82, Tryz.ntmps82
  go_wp2
  go_ret
  exact ⟨rfl, HX.out⟩
set_option maxHeartbeats 400000 in
theorem rentry_any (K : RK) (ve vl : Value) (st : St) (p : Int) (w : World) (hC : RCpuIs w K ve vl st) :
    Calls Tryz.prog 137 #[.pointer (some ⟨K.c, 0, none⟩), .int .u64 p] w fun e w' => e = .returned (.bool (hasE K.E p)) ∧ w' = w := by
  have h0 := hC.blk.ent
  have HS := Lib.hid hC.ent.sl
  have hm := hC.ent.1
  clear hC
  obtain ⟨A, hA⟩ : ∃ A, K.EA = A := ⟨_, rfl⟩
  obtain ⟨n, hn⟩ : ∃ n, K.E.length = n := ⟨_, rfl⟩
  rw [hA, hn] at h0
  rw [hA] at HS
  rw [hn] at hm
  have HN := Lib.hid hn
  clear hA hn
  go_enter Tryz.func137, Tryz.ntmps137
  go_wp2
  go_loop [5] (fun i => ∃ k : Nat, k ≤ n ∧ i = .int .i64 k ∧ Hid (∀ j, j < k → nth K.E j ≠ p)) (fun i => n - (intOf i).toNat)
  case atStart => exact ⟨0, by omega, rfl, Lib.hid (fun j hj => by omega)⟩
  case round =>
    obtain ⟨k, hk, rfl, HK⟩ := hrel
    by_cases hlt : k < n
    · have hl : k < K.E.length := by have := HN.out; omega
      obtain ⟨b, off, rfl, hc⟩ : ∃ b off, A = some ⟨b, off, none⟩ ∧ w.cell? ⟨b, off + k, none⟩ = some (.int .u64 (nth K.E k)) := by
        rcases HS.out with h | ⟨b, off, h1, h2⟩
        · rw [h] at hl; simp at hl
        · exact ⟨b, off, h1, h2 k hl⟩
      have k0 : (0 : Int) ≤ k := by omega
      have k1 : (k : Int) < n := by omega
      have HX := Lib.hid hl
      clear hl
      by_cases he : nth K.E k = p
      · have he2 : (nth K.E k == p) = true := by rw [beq_iff_eq]; exact he
        have HE := Lib.hid he
        clear he
        go_wp2
        go_ret
        exact ⟨ret_bool (by unfold hasE; rw [← HE.out, contains_yes HX.out]), rfl⟩
      · have he2 : (nth K.E k == p) = false := by rw [beq_eq_false_iff_ne]; exact he
        have HE := Lib.hid (take_mem HX.out HK.out he)
        clear he HK
        go_wp2
        go_round
        case rel => exact ⟨k + 1, by omega, by go_num, HE⟩
        case measure => simp [intOf]; omega
    · obtain rfl : k = n := by omega
      go_wp2
      go_ret
      exact ⟨ret_bool (by unfold hasE; rw [contains_no (by rw [HN.out]; exact HK.out)]), rfl⟩
end Go.Proofs.YtoeagbcjnffpaaaGreatDoor
