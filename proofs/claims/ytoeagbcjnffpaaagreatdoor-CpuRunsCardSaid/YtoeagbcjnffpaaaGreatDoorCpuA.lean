/- Layer 5: what a processor does, step by step: plain mathematics over a table of regions and their bytes.
   Layer 5: a processor's block and its cells; what its small methods answer, and leave.
   Layer 5: what a processor's set, write, leap and sum do.
   Layer 5: the map of what each operation does: method values of a processor.
   Layer 5: a processor as it stands in a world: its block, its rows, its memory, its map; what keeps it. -/
import Derived.Test.YtoeagbcjnffpaaaGreatDoorMemB
import Derived.Test.YtoeagbcjnffpaaaGreatDoorMemC
import Derived.Test.YtoeagbcjnffpaaaGreatDoorInsD
import Derived.Test.YtoeagbcjnffpaaaGreatDoorAluM
import Derived.Deep.QuietTactic
import Derived.BigQuiet
import Derived.Deep.RegionHeld3
import Derived.StillTailTactics
import Derived.Maps.OwnSet
import Derived.Maps.OwnOps
import Derived.Maps.Views
import Derived.Laws.AppendOwn
namespace Go.Proofs.YtoeagbcjnffpaaaGreatDoor
set_option maxRecDepth 100000
open Go.RowKit Go.Maps
set_option linter.unusedVariables false

/-- registers, where it goes on, whether the module runs, how it stands -/
structure CS where
  R : List Int
  pc : Int
  own : Bool
  dn : Int
/-- a change: into the module or out of it, where, eight registers -/
abbrev Ev := Bool × Int × List Int
/-- what is shown -/
abbrev Lk := Int × Int × Int
/-- a processor: its state, all changes, all that was shown, the regions' bytes -/
structure St where
  s : CS
  ev : List Ev
  lk : List Lk
  B : Nat → List Int
structure X where
  op : Nat
  rd : Int
  r1 : Int
  r2 : Int
  imm : Int
def CsW (s : CS) : Prop := s.R.length = 32 ∧ (∀ x ∈ s.R, IsU x) ∧ nth s.R 0 = 0 ∧ IsU s.pc ∧ (s.dn = 0 ∨ s.dn = 1 ∨ s.dn = 2)
def reg (s : CS) (r : Int) : Int := nth s.R r.toNat
/-- an instruction that may be decoded -/
def XW (x : X) : Prop := x.op < 43 ∧ (0 ≤ x.rd ∧ x.rd < 32) ∧ (0 ≤ x.r1 ∧ x.r1 < 32) ∧ (0 ≤ x.r2 ∧ x.r2 < 32) ∧ IsI x.imm ∧ (lRd (opS x.op) = false → x.rd = 0)

/-! ### Memory -/
def findI (T : List Rg) (p n : Int) : Option Nat := if n < 1 then none else (List.range T.length).find? (fun i => hitB (nthR T i) p n)
theorem findI_yes {T : List Rg} {p n : Int} {i : Nat} (h : FindYes T p n i) : findI T p n = some i := by
  obtain ⟨h1, h2, h3, h4⟩ := h
  unfold findI
  rw [if_neg (by omega), List.find?_range_eq_some]
  exact ⟨h3, by simpa using h2, fun j hj => by rw [h4 j hj]; rfl⟩
theorem findI_no {T : List Rg} {p n : Int} (h : FindNo T p n) : findI T p n = none := by
  unfold findI
  split
  · rfl
  · rcases h with h | h
    · omega
    · rw [List.find?_eq_none]
      intro x hx
      rw [h x (by simpa using hx)]
      simp
def allI (T : List Rg) (p n : Int) (own : Bool) (q : Int) : Option Nat :=
  if accB p n then (match findI T p n with | none => none | some i => if hasB (rightI (nthR T i) own) q then some i else none) else none
theorem allI_yes {T : List Rg} {p n : Int} {own : Bool} {q : Int} {i : Nat} (h : AllYes T p n own q i) : allI T p n own q = some i := by
  obtain ⟨h1, h2, h3⟩ := h
  unfold allI
  rw [if_pos h1, findI_yes h2]
  simp [h3]
theorem allI_no {T : List Rg} {p n : Int} {own : Bool} {q : Int} (h : AllNo T p n own q) : allI T p n own q = none := by
  unfold allI
  rcases h with h | h | ⟨i, h, h'⟩
  · rw [if_neg (by rw [h]; simp)]
  · rw [findI_no h]; simp
  · rw [findI_yes h]; simp [h']
theorem allI_is {T : List Rg} {p n : Int} {own : Bool} {q : Int} {i : Nat} (h : allI T p n own q = some i) : AllYes T p n own q i := by
  rcases all_or T p n own q with h' | ⟨j, h'⟩
  · rw [allI_no h'] at h; cases h
  · rw [allI_yes h'] at h; cases h; exact h'
theorem allI_not {T : List Rg} {p n : Int} {own : Bool} {q : Int} (h : allI T p n own q = none) : AllNo T p n own q := by
  rcases all_or T p n own q with h' | ⟨j, h'⟩
  · exact h'
  · rw [allI_yes h'] at h; cases h
def loadM (T : List Rg) (B : Nat → List Int) (p n : Int) (own : Bool) (q : Int) : Option Int := (allI T p n own q).map (fun i => wordI (cut T B p n i))
def storeM (T : List Rg) (B : Nat → List Int) (p n : Int) (own : Bool) (v : Int) : Option (Nat → List Int) :=
  (allI T p n own 2).map (fun i => setB B i (splice (B i) (p - rlo (nthR T i)).toNat (bytesL v n.toNat)))

/-! ### Steps -/
def setR (s : CS) (r v : Int) : CS := if r = 0 then s else { s with R := s.R.set r.toNat v }
def goTo (s : CS) (p : Int) : CS := { s with pc := p }
def doneS (s : CS) (d : Int) : CS := { s with dn := d }
def showC (st : St) (k a b : Int) : St := if st.s.own then { st with lk := st.lk ++ [(k, a, b)] } else st
def withS (st : St) (s : CS) : St := { st with s := s }
def withB (st : St) (B : Nat → List Int) : St := { st with B := B }
def nextP (s : CS) : Int := modU (s.pc + 4)
def farP (s : CS) (n : Int) : Int := modU (s.pc + n)
def sumP (s : CS) (x : X) : Int := modU (reg s x.r1 + x.imm)
/-- a register becomes a number, and it goes on 4 further -/
def writeC (st : St) (r v : Int) : St := withS st (goTo (setR st.s r v) (nextP st.s))
def leapC (st : St) (r to : Int) : St := withS st (goTo (setR st.s r (nextP st.s)) to)
def broke (st : St) : St := withS st (doneS st.s 2)
def changed (st : St) : St := { st with s := { st.s with own := !st.s.own }, ev := st.ev ++ [(!st.s.own, st.s.pc, (st.s.R.drop 10).take 8)] }
def lenOf (op : Nat) : Int := if op = 25 ∨ op = 26 ∨ op = 29 then 1 else if op = 27 ∨ op = 30 then 4 else 8
def bitsOf (op : Nat) : Int := if op = 25 then 8 else if op = 27 then 32 else 64
def loadV (op : Nat) (v : Int) : Int := modU (sgn v (bitsOf op))

def execC (T : List Rg) (x : X) (st : St) : St :=
  if x.op < 16 then writeC (if varB x.op then showC st 2 (reg st.s x.r1) (reg st.s x.r2) else st) x.rd (twoV x.op (reg st.s x.r1) (reg st.s x.r2))
  else if x.op < 25 then writeC st x.rd (oneV x.op (reg st.s x.r1) x.imm)
  else if x.op < 29 then (match loadM T st.B (sumP st.s x) (lenOf x.op) st.s.own 1 with
    | none => broke (showC st 1 (sumP st.s x) 0)
    | some y => writeC (showC st 1 (sumP st.s x) 0) x.rd (loadV x.op y))
  else if x.op < 32 then (match storeM T st.B (sumP st.s x) (lenOf x.op) st.s.own (reg st.s x.r2) with
    | none => broke (showC st 1 (sumP st.s x) 0)
    | some B' => withS (withB (showC st 1 (sumP st.s x) 0) B') (goTo st.s (nextP st.s)))
  else if x.op < 38 then withS st (goTo st.s (if takV x.op (reg st.s x.r1) (reg st.s x.r2) then farP st.s x.imm else nextP st.s))
  else if x.op = 38 then writeC st x.rd (modU x.imm)
  else if x.op = 39 then writeC st x.rd (farP st.s x.imm)
  else if x.op = 40 then leapC st x.rd (farP st.s x.imm)
  else if x.op = 41 then leapC st x.rd (sumP st.s x - sumP st.s x % 2)
  else withS st (doneS st.s 1)
instance (v : Int) (n : Nat) : Decidable (Match v n) := by unfold Match; infer_instance
def xOf (v : Int) (n : Nat) : X := ⟨n, regI v 7 (lRd (opS n)), regI v 15 (lR1 (opS n)), regI v 20 (lR2 (opS n)), numberI v (opS n)⟩
def decI (v : Int) : Option X := ((List.range 43).find? (fun n => decide (Match v n))).map (xOf v)
/-- is it an entry? -/
def hasE (E : List Int) (p : Int) : Bool := E.contains p
def fetchC (T : List Rg) (E : List Int) (st : St) : Option (Int × St) :=
  match loadM T st.B st.s.pc 4 st.s.own 4 with
  | some w => some (w, st)
  | none => if st.s.own || hasE E st.s.pc then (match loadM T st.B st.s.pc 4 (!st.s.own) 4 with | some w => some (w, changed st) | none => none) else none
def stepC (T : List Rg) (E : List Int) (st : St) : St :=
  if st.s.dn ≠ 0 then st else
  match fetchC T E st with
  | none => broke st
  | some (w, st1) => match decI w with
    | none => broke st1
    | some x => execC T x (showC st1 0 st1.s.pc 0)
/-- with so much fuel: how many steps, and what is left -/
def runC (T : List Rg) (E : List Int) : Nat → St → Nat × St
  | 0, st => (0, st)
  | k + 1, st => if st.s.dn ≠ 0 then (0, st) else ((runC T E k (stepC T E st)).1 + 1, (runC T E k (stepC T E st)).2)
def ranN (T : List Rg) (E : List Int) (k : Nat) (st : St) : Nat := (runC T E k st).1
def ranS (T : List Rg) (E : List Int) (k : Nat) (st : St) : St := (runC T E k st).2
def newS (s : CS) : CS := { R := s.R.set 0 0, pc := s.pc, own := s.own, dn := if s.dn ≠ 0 ∧ s.dn ≠ 1 then 2 else s.dn }

theorem decI_yes {v : Int} {n : Nat} (hn : n < 43) (h : Match v n) : decI v = some (xOf v n) := by
  unfold decI
  have : (List.range 43).find? (fun n => decide (Match v n)) = some n := by
    rw [List.find?_range_eq_some]
    refine ⟨by simpa using h, by simpa using hn, fun j hj => ?_⟩
    simp only [Bool.not_eq_true', decide_eq_false_iff_not]
    intro h'
    have := Match.one (by omega) hn h' h
    omega
  rw [this]; rfl
theorem decI_no {v : Int} (h : ∀ n, n < 43 → ¬ Match v n) : decI v = none := by
  unfold decI
  have : (List.range 43).find? (fun n => decide (Match v n)) = none := by
    rw [List.find?_eq_none]
    intro n hn
    simpa using h n (by simpa using hn)
  rw [this]; rfl
theorem dec_or (v : Int) : (∀ n, n < 43 → ¬ Match v n) ∨ ∃ n, n < 43 ∧ Match v n := by
  by_cases h : ∃ n, n < 43 ∧ Match v n
  · exact .inr h
  · exact .inl (fun n hn h' => h ⟨n, hn, h'⟩)
theorem isU_modU' (a : Int) : IsU (modU a) := by unfold modU IsU; omega
theorem reg_isU {s : CS} (h : CsW s) (r : Int) : IsU (reg s r) := by
  unfold reg
  by_cases hr : r.toNat < s.R.length
  · rw [nth_get hr]; exact h.2.1 _ (List.getElem_mem hr)
  · unfold nth; rw [List.getD_eq_getElem?_getD, List.getElem?_eq_none (by omega)]; exact ⟨by simp, by simp⟩
theorem CsW.goTo {s : CS} (h : CsW s) {p : Int} (hp : IsU p) : CsW (goTo s p) := ⟨h.1, h.2.1, h.2.2.1, hp, h.2.2.2.2⟩
theorem CsW.done {s : CS} (h : CsW s) {d : Int} (hp : d = 0 ∨ d = 1 ∨ d = 2) : CsW (doneS s d) := ⟨h.1, h.2.1, h.2.2.1, h.2.2.2.1, hp⟩
theorem CsW.own {s : CS} (h : CsW s) (b : Bool) : CsW { s with own := b } := h
theorem CsW.setR {s : CS} (h : CsW s) {r v : Int} (h0 : 0 ≤ r) (hr : r < 32) (hv : IsU v) : CsW (setR s r v) := by
  unfold Proofs.YtoeagbcjnffpaaaGreatDoor.setR
  split
  · exact h
  · refine ⟨by simpa using h.1, fun x hx => ?_, ?_, h.2.2.2⟩
    · rcases List.mem_or_eq_of_mem_set hx with h1 | h1
      · exact h.2.1 x h1
      · subst h1; exact hv
    · show nth (s.R.set r.toNat v) 0 = 0
      have := h.2.2.1
      unfold nth at *
      rw [List.getD_eq_getElem?_getD, List.getElem?_set_ne (by omega), ← List.getD_eq_getElem?_getD]
      exact this
end Go.Proofs.YtoeagbcjnffpaaaGreatDoor
namespace Go.Proofs.YtoeagbcjnffpaaaGreatDoor
set_option maxRecDepth 100000
open Go.RowKit Go.Maps
set_option linter.unusedVariables false

def regsL (s : CS) : List Value := s.R.map (Value.int .u64)
def stateL (s : CS) : List Value := regsL s ++ [.int .u64 s.pc, .bool s.own, .int .i64 s.dn]
def cpuL (m : Nat) (vE : Value) (s : CS) (ve vl : Value) (md : Nat) : List Value :=
  .pointer (some ⟨m, 0, none⟩) :: vE :: (stateL s ++ [ve, vl, .map (some md)])
/-- block c is a processor -/
def CpuB (w : World) (c m : Nat) (vE : Value) (s : CS) (ve vl : Value) (md : Nat) : Prop :=
  w.heap[c]? = some (.cells (cpuL m vE s ve vl md).toArray 84 (0, 0)) ∧ s.R.length = 32
section
variable {w w' : World} {c m : Nat} {vE : Value} {s : CS} {ve vl : Value} {md : Nat}
theorem CpuB.lt (h : CpuB w c m vE s ve vl md) : c < w.heap.size := (Array.getElem?_eq_some_iff.1 h.1).1
theorem CpuB.cell (h : CpuB w c m vE s ve vl md) (k : Nat) : w.cell? ⟨c, k, none⟩ = (cpuL m vE s ve vl md)[k]? := by
  rw [cell_of_row w c k _ _ _ h.1]; simp
theorem CpuB.free (h : CpuB w c m vE s ve vl md) (k : Nat) : w.frozen? ⟨c, k, none⟩ = false := frozen_of_row w c k _ _ h.1
theorem CpuB.mem (h : CpuB w c m vE s ve vl md) : w.cell? ⟨c, 0, none⟩ = some (.pointer (some ⟨m, 0, none⟩)) := by rw [h.cell]; rfl
theorem CpuB.ent (h : CpuB w c m vE s ve vl md) : w.cell? ⟨c, 1, none⟩ = some vE := by rw [h.cell]; rfl
theorem stateL_reg {s : CS} (h : s.R.length = 32) {r : Nat} (hr : r < 32) : (stateL s)[r]? = some (.int .u64 (nth s.R r)) := by
  unfold stateL regsL
  rw [List.getElem?_append_left (by simp; omega), List.getElem?_map, List.getElem?_eq_getElem (by omega), nth_get (by omega)]; rfl
theorem stateL_len {s : CS} (h : s.R.length = 32) : (stateL s).length = 35 := by simp [stateL, regsL, h]
theorem stateL_at {s : CS} (h : s.R.length = 32) (k : Nat) : (stateL s)[32 + k]? = [Value.int .u64 s.pc, .bool s.own, .int .i64 s.dn][k]? := by
  unfold stateL regsL
  rw [List.getElem?_append_right (by simp; omega)]
  congr 1
  simp; omega
theorem CpuB.st (h : CpuB w c m vE s ve vl md) {k : Nat} (hk : k < 35) : w.cell? ⟨c, 2 + k, none⟩ = (stateL s)[k]? := by
  rw [h.cell, Nat.add_comm]
  show (stateL s ++ _)[k]? = _
  rw [List.getElem?_append_left (by rw [stateL_len h.2]; exact hk)]
theorem CpuB.rest (h : CpuB w c m vE s ve vl md) (k : Nat) : w.cell? ⟨c, 37 + k, none⟩ = [ve, vl, .map (some md)][k]? := by
  rw [h.cell, show 37 + k = (35 + k) + 1 + 1 by omega]
  show (stateL s ++ _)[35 + k]? = _
  rw [List.getElem?_append_right (by rw [stateL_len h.2]; omega), stateL_len h.2]
  congr 1; omega
theorem CpuB.reg (h : CpuB w c m vE s ve vl md) {r : Nat} (hr : r < 32) : w.cell? ⟨c, 2 + r, none⟩ = some (.int .u64 (nth s.R r)) := by
  rw [h.st (by omega), stateL_reg h.2 hr]
theorem CpuB.pc (h : CpuB w c m vE s ve vl md) : w.cell? ⟨c, 34, none⟩ = some (.int .u64 s.pc) := (h.st (k := 32) (by omega)).trans (stateL_at h.2 0)
theorem CpuB.own (h : CpuB w c m vE s ve vl md) : w.cell? ⟨c, 35, none⟩ = some (.bool s.own) := (h.st (k := 33) (by omega)).trans (stateL_at h.2 1)
theorem CpuB.dn (h : CpuB w c m vE s ve vl md) : w.cell? ⟨c, 36, none⟩ = some (.int .i64 s.dn) := (h.st (k := 34) (by omega)).trans (stateL_at h.2 2)
theorem CpuB.evs (h : CpuB w c m vE s ve vl md) : w.cell? ⟨c, 37, none⟩ = some ve := h.rest 0
theorem CpuB.lks (h : CpuB w c m vE s ve vl md) : w.cell? ⟨c, 38, none⟩ = some vl := h.rest 1
theorem CpuB.map (h : CpuB w c m vE s ve vl md) : w.cell? ⟨c, 39, none⟩ = some (.map (some md)) := h.rest 2
theorem CpuB.grown {row : Option Nat} (h : CpuB w c m vE s ve vl md) (hg : w.grownBy w' row) (hne : some c ≠ row) : CpuB w' c m vE s ve vl md :=
  ⟨by rw [hg.block c h.lt hne]; exact h.1, h.2⟩
theorem CpuB.below (h : CpuB w c m vE s ve vl md) (hb : Below w.heap.size w w') : CpuB w' c m vE s ve vl md := h.grown (grown_of_below (row := none) hb) (by simp)
theorem grown_setCell (w : World) (b o : Nat) (v : Value) : w.grownBy (w.setCell ⟨b, o, none⟩ v) (some b) :=
  ⟨rfl, rfl, rfl, by simp [World.setCell], fun k _ hne => heap_setCell_other w _ k v (fun e => hne (by rw [e]))⟩
theorem CpuB.set (h : CpuB w c m vE s ve vl md) (k : Nat) (v : Value) : (w.setCell ⟨c, k, none⟩ v).heap[c]? = some (.cells ((cpuL m vE s ve vl md).set k v).toArray 84 (0, 0)) := by
  rw [heap_setCell_same w c k _ _ v h.1]
  simp
theorem cpuL_st (m : Nat) (vE : Value) (s : CS) (ve vl : Value) (md : Nat) {k : Nat} (hk : k < 35) (hl : s.R.length = 32) (v : Value) : (cpuL m vE s ve vl md).set (2 + k) v = .pointer (some ⟨m, 0, none⟩) :: vE :: ((stateL s).set k v ++ [ve, vl, .map (some md)]) := by
  rw [show 2 + k = k + 1 + 1 by omega]
  unfold cpuL
  simp only [List.set_cons_succ]
  rw [List.set_append_left _ _ (by rw [stateL_len hl]; exact hk)]
theorem cpuL_rest (m : Nat) (vE : Value) (s : CS) (ve vl : Value) (md : Nat) (k : Nat) (hl : s.R.length = 32) (v : Value) : (cpuL m vE s ve vl md).set (37 + k) v = .pointer (some ⟨m, 0, none⟩) :: vE :: (stateL s ++ [ve, vl, .map (some md)].set k v) := by
  rw [show 37 + k = (35 + k) + 1 + 1 by omega]
  unfold cpuL
  simp only [List.set_cons_succ]
  rw [List.set_append_right _ _ (by rw [stateL_len hl]; omega), stateL_len hl, show 35 + k - 35 = k by omega]
theorem stateL_set (s : CS) (hl : s.R.length = 32) (k : Nat) (v : Value) : (stateL s).set (32 + k) v = regsL s ++ [Value.int .u64 s.pc, .bool s.own, .int .i64 s.dn].set k v := by
  unfold stateL
  rw [List.set_append_right _ _ (by simp [regsL]; omega)]
  congr 2
  simp [regsL]; omega
theorem CpuB.setPc (h : CpuB w c m vE s ve vl md) (p : Int) : CpuB (w.setCell ⟨c, 34, none⟩ (.int .u64 p)) c m vE (goTo s p) ve vl md := by
  refine ⟨?_, h.2⟩
  rw [h.set 34, show (34 : Nat) = 2 + 32 from rfl, cpuL_st m vE s ve vl md (by omega) h.2, stateL_set s h.2 0]
  rfl
theorem CpuB.setOwn (h : CpuB w c m vE s ve vl md) (b : Bool) : CpuB (w.setCell ⟨c, 35, none⟩ (.bool b)) c m vE { s with own := b } ve vl md := by
  refine ⟨?_, h.2⟩
  rw [h.set 35, show (35 : Nat) = 2 + 33 from rfl, cpuL_st m vE s ve vl md (by omega) h.2, stateL_set s h.2 1]
  rfl
theorem CpuB.setDn (h : CpuB w c m vE s ve vl md) (d : Int) : CpuB (w.setCell ⟨c, 36, none⟩ (.int .i64 d)) c m vE (doneS s d) ve vl md := by
  refine ⟨?_, h.2⟩
  rw [h.set 36, show (36 : Nat) = 2 + 34 from rfl, cpuL_st m vE s ve vl md (by omega) h.2, stateL_set s h.2 2]
  rfl
theorem CpuB.setReg (h : CpuB w c m vE s ve vl md) {r : Nat} (h0 : r ≠ 0) (hr : r < 32) (v : Int) : CpuB (w.setCell ⟨c, 2 + r, none⟩ (.int .u64 v)) c m vE (setR s r v) ve vl md := by
  have e : setR s r v = { s with R := s.R.set r v } := by unfold setR; rw [if_neg (by omega)]; simp
  rw [e]
  refine ⟨?_, by simpa using h.2⟩
  rw [h.set (2 + r), cpuL_st m vE s ve vl md (by omega) h.2]
  have : (stateL s).set r (.int .u64 v) = stateL { s with R := s.R.set r v } := by
    unfold stateL
    rw [List.set_append_left _ _ (by simp [regsL]; have := h.2; omega)]
    congr 1
    simp [regsL, List.map_set]
  rw [this]
  rfl
theorem CpuB.setEv (h : CpuB w c m vE s ve vl md) (v : Value) : CpuB (w.setCell ⟨c, 37, none⟩ v) c m vE s v vl md := by
  refine ⟨?_, h.2⟩
  rw [h.set 37, show (37 : Nat) = 37 + 0 from rfl, cpuL_rest m vE s ve vl md 0 h.2]
  rfl
theorem CpuB.setLk (h : CpuB w c m vE s ve vl md) (v : Value) : CpuB (w.setCell ⟨c, 38, none⟩ v) c m vE s ve v md := by
  refine ⟨?_, h.2⟩
  rw [h.set 38, show (38 : Nat) = 37 + 1 from rfl, cpuL_rest m vE s ve vl md 1 h.2]
  rfl
theorem CpuB.setMap (h : CpuB w c m vE s ve vl md) (d : Nat) : CpuB (w.setCell ⟨c, 39, none⟩ (.map (some d))) c m vE s ve vl d := by
  refine ⟨?_, h.2⟩
  rw [h.set 39, show (39 : Nat) = 37 + 2 from rfl, cpuL_rest m vE s ve vl md 2 h.2]
  rfl
end
theorem read_any (c m : Nat) (vE : Value) (s : CS) (ve vl : Value) (md : Nat) (r : Int) (h0 : 0 ≤ r) (h1 : r < 32) (w : World) (hC : CpuB w c m vE s ve vl md) :
    Calls Tryz.prog 126 #[.pointer (some ⟨c, 0, none⟩), .int .i64 r] w fun e w' => e = .returned (.int .u64 (reg s r)) ∧ w' = w := by
  obtain ⟨k, rfl⟩ := Int.eq_ofNat_of_zero_le h0
  have hk : k < 32 := by omega
  have hc := hC.reg hk
  have he : reg s (k : Int) = nth s.R k := by simp [reg]
  rw [he]
  clear hC he
  go_enter Tryz.func126, Tryz.ntmps126
  go_wp2
  go_ret
  exact ⟨rfl, rfl⟩
theorem far_any (c m : Nat) (vE : Value) (s : CS) (ve vl : Value) (md : Nat) (n : Int) (w : World) (hC : CpuB w c m vE s ve vl md) :
    Calls Tryz.prog 128 #[.pointer (some ⟨c, 0, none⟩), .int .i64 n] w fun e w' => e = .returned (.int .u64 (farP s n)) ∧ w' = w := by
  have hc := hC.pc
  clear hC
  go_enter Tryz.func128, Tryz.ntmps128
  go_wp2
  go_ret
  refine ⟨?_, rfl⟩
  show Ending.returned (Value.int .u64 _) = _
  rw [IntKind.wrap_u64, IntKind.wrap_u64]
  unfold farP modU
  congr 2
  omega
theorem next_any (c m : Nat) (vE : Value) (s : CS) (ve vl : Value) (md : Nat) (w : World) (hC : CpuB w c m vE s ve vl md) :
    Calls Tryz.prog 127 #[.pointer (some ⟨c, 0, none⟩)] w fun e w' => e = .returned (.int .u64 (nextP s)) ∧ w' = w := by
  have HC := Lib.hid hC
  clear hC
  go_enter Tryz.func127, Tryz.ntmps127
  go_wp2_with fail
  refine (far_any c m vE s ve vl md 4 _ HC.out).mono ?_
  rintro e w1 ⟨rfl, rfl⟩
  go_wp2
  go_ret
  exact ⟨rfl, rfl⟩
theorem set_no (c : Nat) (v : Int) (w : World) :
    Calls Tryz.prog 173 #[.pointer (some ⟨c, 0, none⟩), .int .i64 0, .int .u64 v] w fun e w' => e = .returned (.tuple #[]) ∧ w = w' := by
  go_enter Tryz.func173, Tryz.ntmps173
  go_wp2
  go_end0
  exact ⟨rfl, rfl⟩
end Go.Proofs.YtoeagbcjnffpaaaGreatDoor
namespace Go.Proofs.YtoeagbcjnffpaaaGreatDoor
set_option maxRecDepth 100000
open Go.RowKit Go.Maps
set_option linter.unusedVariables false

/-- it changed its own block alone -/
def CpuTo (w w' : World) (c m : Nat) (vE : Value) (s : CS) (ve vl : Value) (md : Nat) : Prop := CpuB w' c m vE s ve vl md ∧ w.grownBy w' (some c)
theorem cpuTo_refl {w : World} {c m : Nat} {vE : Value} {s : CS} {ve vl : Value} {md : Nat} (h : CpuB w c m vE s ve vl md) : CpuTo w w c m vE s ve vl md := ⟨h, rfl, rfl, rfl, Nat.le_refl _, fun _ _ _ => rfl⟩
theorem CpuTo.trans {w w1 w2 : World} {c m : Nat} {vE : Value} {s s2 : CS} {ve vl : Value} {md : Nat} (h : CpuTo w w1 c m vE s ve vl md) (k : CpuTo w1 w2 c m vE s2 ve vl md) : CpuTo w w2 c m vE s2 ve vl md := ⟨k.1, grown_trans h.2 k.2⟩
theorem setR_zero (s : CS) (v : Int) : setR s 0 v = s := by simp [setR]
theorem set_any (c m : Nat) (vE : Value) (s : CS) (ve vl : Value) (md : Nat) (r v : Int) (h0 : 0 ≤ r) (h1 : r < 32) (w : World) (hC : CpuB w c m vE s ve vl md) :
    Calls Tryz.prog 173 #[.pointer (some ⟨c, 0, none⟩), .int .i64 r, .int .u64 v] w fun e w' => e = .returned (.tuple #[]) ∧ CpuTo w w' c m vE (setR s r v) ve vl md := by
  by_cases hr : r = 0
  · subst hr
    rw [setR_zero]
    exact (set_no c v w).mono fun e w' ⟨h1, h2⟩ => ⟨h1, h2 ▸ cpuTo_refl hC⟩
  obtain ⟨k, rfl⟩ := Int.eq_ofNat_of_zero_le h0
  have hk : k < 32 := by omega
  have HT := Lib.hid (show CpuTo w (w.setCell ⟨c, 2 + k, none⟩ (.int .u64 v)) c m vE (setR s k v) ve vl md from ⟨hC.setReg (by omega) hk v, grown_setCell w c _ _⟩)
  have hc := hC.reg hk
  have hf := hC.free (2 + k)
  clear hC
  go_enter Tryz.func173, Tryz.ntmps173
  go_wp2
  go_end0
  exact ⟨rfl, HT.out⟩
theorem write_any (c m : Nat) (vE : Value) (s : CS) (ve vl : Value) (md : Nat) (r v : Int) (h0 : 0 ≤ r) (h1 : r < 32) (w : World) (hC : CpuB w c m vE s ve vl md) :
    Calls Tryz.prog 123 #[.pointer (some ⟨c, 0, none⟩), .int .i64 r, .int .u64 v] w fun e w' => e = .returned (.tuple #[]) ∧ CpuTo w w' c m vE (goTo (setR s r v) (nextP s)) ve vl md := by
  have HC := Lib.hid hC
  clear hC
  go_enter Tryz.func123, Tryz.ntmps123
  go_wp2_with fail
  refine (set_any c m vE s ve vl md r v h0 h1 _ HC.out).mono ?_
  rintro e w1 ⟨rfl, hT⟩
  have HT := Lib.hid hT
  clear hT
  go_wp2_with fail
  refine (next_any c m vE (setR s r v) ve vl md _ HT.out.1).mono ?_
  rw [show nextP (setR s r v) = nextP s by unfold setR nextP; split <;> rfl]
  rintro e w2 ⟨rfl, rfl⟩
  have HE := Lib.hid (HT.out.trans ⟨HT.out.1.setPc (nextP s), grown_setCell w2 c _ _⟩)
  have hc := HT.out.1.pc
  have hf := HT.out.1.free 34
  clear HT
  go_wp2
  go_end0
  exact ⟨rfl, HE.out⟩
theorem leap_any (c m : Nat) (vE : Value) (s : CS) (ve vl : Value) (md : Nat) (r p : Int) (h0 : 0 ≤ r) (h1 : r < 32) (w : World) (hC : CpuB w c m vE s ve vl md) :
    Calls Tryz.prog 129 #[.pointer (some ⟨c, 0, none⟩), .int .i64 r, .int .u64 p] w fun e w' => e = .returned (.tuple #[]) ∧ CpuTo w w' c m vE (goTo (setR s r (nextP s)) p) ve vl md := by
  have HC := Lib.hid hC
  clear hC
  go_enter Tryz.func129, Tryz.ntmps129
  go_wp2_with fail
  refine (next_any c m vE s ve vl md _ HC.out).mono ?_
  rintro e w1 ⟨rfl, rfl⟩
  go_wp2_with fail
  refine (set_any c m vE s ve vl md r (nextP s) h0 h1 _ HC.out).mono ?_
  rintro e w2 ⟨rfl, hT⟩
  have HE := Lib.hid (hT.trans ⟨hT.1.setPc p, grown_setCell w2 c _ _⟩)
  have hc := hT.1.pc
  have hf := hT.1.free 34
  clear hT HC
  go_wp2
  go_end0
  exact ⟨rfl, HE.out⟩
/-- an instruction as cells -/
def xV (x : X) : Value := .agg #[.int .i64 x.op, .int .i64 x.rd, .int .i64 x.r1, .int .i64 x.r2, .int .i64 x.imm]
theorem sum_any (c m : Nat) (vE : Value) (s : CS) (ve vl : Value) (md : Nat) (x : X) (hx : XW x) (w : World) (hC : CpuB w c m vE s ve vl md) :
    Calls Tryz.prog 130 #[.pointer (some ⟨c, 0, none⟩), .agg #[.int .i64 x.op, .int .i64 x.rd, .int .i64 x.r1, .int .i64 x.r2, .int .i64 x.imm]] w fun e w' => e = .returned (.int .u64 (sumP s x)) ∧ Below w.heap.size w w' := by
  have HC := Lib.hid (hC.below ((Below.refl _ w).alloc (Nat.le_refl _) (.cells #[.int .i64 x.op, .int .i64 x.rd, .int .i64 x.r1, .int .i64 x.r2, .int .i64 x.imm] 74)))
  obtain ⟨_, _, ⟨r0, r1⟩, _⟩ := hx
  have HE := Lib.hid (show modU (reg s x.r1 + modU x.imm) = sumP s x by unfold sumP modU; omega)
  clear hC
  go_enter Tryz.func130, Tryz.ntmps130
  go_wp2_with fail
  go_quiet ((go_at_call 126; exact Calls.quiet_of_same (read_any c m vE s ve vl md _ r0 r1 _ (HC.out.below (bel_drewN (Below.refl _ _) _)))))
  go_wp2
  go_ret
  refine ⟨?_, ?_⟩
  · show Ending.returned (Value.int .u64 _) = _
    rw [IntKind.wrap_u64, IntKind.wrap_u64, ← HE.out]
    rfl
  · exact bel_drewN ((Below.refl _ w).alloc (Nat.le_refl _) _) _
end Go.Proofs.YtoeagbcjnffpaaaGreatDoor
namespace Go.Proofs.YtoeagbcjnffpaaaGreatDoor
set_option maxRecDepth 100000
open Go.RowKit Go.Maps
set_option linter.unusedVariables false

/-- the method of operation k, and of a load or a store its bytes and bits -/
def opG (k : Nat) : Nat × Option (Int × Int) :=
  if k < 16 then (76, none) else if k < 25 then (77, none)
  else if k = 25 then (69, some (1, 8)) else if k = 26 then (69, some (1, 64))
  else if k = 27 then (69, some (4, 32)) else if k = 28 then (69, some (8, 64))
  else if k = 29 then (70, some (1, 0)) else if k = 30 then (70, some (4, 0)) else if k = 31 then (70, some (8, 0))
  else if k < 38 then (78, none) else if k = 38 then (71, none) else if k = 39 then (72, none)
  else if k = 40 then (73, none) else if k = 41 then (74, none) else (75, none)
/-- what the method value has bound -/
def boundV (c : Nat) (p : Option (Int × Int)) : Value := match p with
  | none => .pointer (some ⟨c, 0, none⟩)
  | some (a, b) => .agg #[.pointer (some ⟨c, 0, none⟩), .int .i64 a, .int .i64 b]
def opV (c k : Nat) : Value := .func (.func (opG k).1) #[boundV c (opG k).2] #[]
/-- an element reads as itself -/
def encF (v : Value) : Option (DataW Value × List MemPlace) := some (.held v, [])
theorem encF_inv {v u : Value} {ps : List MemPlace} (h : encF v = some (.held u, ps)) : v = u := by
  unfold encF at h
  simp only [Option.some.injEq, Prod.mk.injEq, DataW.held.injEq] at h
  exact h.1
theorem lawInt : Keyed Tryz.prog 3 := int_keyed Tryz.underlying3
theorem zeroFn (w : World) : (zeroValue 135).run Tryz.prog w = .ok .nilFunc w := by kernel_rfl
/-- block b is a map of at most n entries, with the methods of all k of P -/
def OpsK (w : World) (b c n : Nat) (P : Nat → Prop) : Prop :=
  ∃ D, w.ownsMap Tryz.prog 3 encF b n D ∧ IsMap D ∧ ∀ k, P k → ∀ z, D.atKey (.int .i64 k) z = .held (opV c k)
theorem OpsK.lt {w : World} {b c n : Nat} {P : Nat → Prop} (h : OpsK w b c n P) : b < w.heap.size := by obtain ⟨D, h, _⟩ := h; exact h.lt
theorem OpsK.kept {w w' : World} {b c n : Nat} {P : Nat → Prop} {row : Option Nat} (h : OpsK w b c n P) (hg : w.grownBy w' row) (hne : some b ≠ row) : OpsK w' b c n P := by
  obtain ⟨D, h1, h2⟩ := h
  exact ⟨D, h1.kept hg hne, h2⟩
theorem OpsK.mono {w : World} {b c n : Nat} {P Q : Nat → Prop} (h : OpsK w b c n P) (hq : ∀ k, Q k → P k) : OpsK w b c n Q := by
  obtain ⟨D, h1, h2, h3⟩ := h
  exact ⟨D, h1, h2, fun k hk z => h3 k (hq k hk) z⟩
theorem OpsK.made (w : World) (c : Nat) : OpsK (w.alloc (.map #[] 0)) w.heap.size c 0 (fun _ => False) :=
  ⟨.map [], World.ownsMap_made _ _ _ _, isMap_empty, fun k h => h.elim⟩
theorem keyInt (k : Nat) (hk : k < 1000) : keyOf Tryz.prog 3 (.int .i64 k) = some (.int .i64 k) :=
  keyOf_int_mk Tryz.underlying3 (WalkArith.wf_i64 ⟨by omega, by omega⟩)
theorem OpsK.look {w : World} {b c n k : Nat} {P : Nat → Prop} (h : OpsK w b c n P) (hp : P k) (hk : k < 1000) :
    (Instr.lookup 82 (.map (some b)) (.int .i64 k) false).run Tryz.prog w = .ok (opV c k) w := by
  obtain ⟨D, h1, _, h3⟩ := h
  obtain ⟨v, ps, hr, hv⟩ := h1.lookup lawInt Tryz.underlying82 (zeroFn w) rfl (keyInt k hk)
  rw [h3 k hp] at hv
  rw [hr, encF_inv hv]
theorem OpsK.put {w : World} {b c n : Nat} {P : Nat → Prop} (h : OpsK w b c n P) (hn : n < 1000) (k : Nat) (hk : k < 1000) :
    ∃ w', (Instr.mapUpdate 82 (.map (some b)) (.int .i64 k) (opV c k)).run Tryz.prog w = .ok () w' ∧ OpsK w' b c (n + 1) (fun j => j = k ∨ P j) ∧ w.grownBy w' (some b) := by
  obtain ⟨D, h1, h2, h3⟩ := h
  obtain ⟨w', hr, hown, hg⟩ := h1.update lawInt Tryz.underlying82 (by unfold maxLen; omega) (keyInt k hk) (rfl : encF (opV c k) = _)
  refine ⟨w', hr, ⟨_, hown, h2.put _ _, fun j hj z => ?_⟩, hg⟩
  by_cases e : j = k
  · subst e
    exact atKey_put_same (k := .int .i64 j) h2 trivial _ _
  · rw [atKey_put_other (fun h => e (by simp at h; omega))]
    rcases hj with hj | hj
    · exact absurd hj e
    · exact h3 j hj z
theorem wpList_insert_f {ops : Array Oper} {rest : List Oper} {o : Oper} {a : Act} {Q : Exit → Act → World → Prop} {w : World} (hg : o.guard = none) (m x v : Operand)
    (hop : o.op = Op.insert 82 m x v) (b c n : Nat) (P : Nat → Prop) (k : Nat) (hk : k < 1000) (hn : n < 1000)
    (hm : a.eval m = .map (some b)) (hx : a.eval x = .int .i64 k) (hv : a.eval v = opV c k) (hown : OpsK w b c n P)
    (hK : ∀ w', OpsK w' b c (n + 1) (fun j => j = k ∨ P j) → w.grownBy w' (some b) → wpList Tryz.prog ops Q rest (a.put o.dst undef) w') : wpList Tryz.prog ops Q (o :: rest) a w := by
  refine wpList_plain hg fun K' hK' => ?_
  obtain ⟨w', hrun, r1, r2⟩ := hown.put hn k hk
  unfold Oper.wp
  simp [execOp, hop, hm, hx, hv, hrun, Result.andThen]
  exact hK' _ _ (hK w' r1 r2)
theorem wpList_update_f {ops : Array Oper} {rest : List Oper} {o : Oper} {a : Act} {Q : Exit → Act → World → Prop} {w : World} (hg : o.guard = none) (m x v : Operand)
    (hop : o.op = Op.mapUpdate 82 m x v) (b c n : Nat) (P : Nat → Prop) (k : Nat) (hk : k < 1000) (hn : n < 1000)
    (hm : a.eval m = .map (some b)) (hx : a.eval x = .int .i64 k) (hv : a.eval v = opV c k) (hown : OpsK w b c n P)
    (hK : ∀ w', OpsK w' b c (n + 1) (fun j => j = k ∨ P j) → w.grownBy w' (some b) → wpList Tryz.prog ops Q rest (a.put o.dst undef) w') : wpList Tryz.prog ops Q (o :: rest) a w := by
  refine wpList_plain hg fun K' hK' => ?_
  obtain ⟨w', hrun, r1, r2⟩ := hown.put hn k hk
  unfold Oper.wp
  simp [execOp, hop, hm, hx, hv, hrun, Result.andThen]
  exact hK' _ _ (hK w' r1 r2)
end Go.Proofs.YtoeagbcjnffpaaaGreatDoor
namespace Go.Proofs.YtoeagbcjnffpaaaGreatDoor
set_option maxRecDepth 100000
open Go.RowKit Go.Maps
set_option linter.unusedVariables false

def evC (e : Ev) : List Value := .bool e.1 :: .int .u64 e.2.1 :: e.2.2.map (Value.int .u64)
def lkC (l : Lk) : List Value := [.int .i64 l.1, .int .u64 l.2.1, .int .u64 l.2.2]
def evsL (l : List Ev) : List Value := l.flatMap evC
def lksL (l : List Lk) : List Value := l.flatMap lkC
theorem evsL_snoc (l : List Ev) (e : Ev) : evsL (l ++ [e]) = evsL l ++ evC e := by simp [evsL]
theorem lksL_snoc (l : List Lk) (e : Lk) : lksL (l ++ [e]) = lksL l ++ lkC e := by simp [lksL]
/-- the slice at A reads as the words l -/
def SlU (w : World) (A : Option Addr) (l : List Int) : Prop := l = [] ∨ ∃ b off, A = some ⟨b, off, none⟩ ∧ ∀ k, k < l.length → w.cell? ⟨b, off + k, none⟩ = some (.int .u64 (nth l k))
theorem SlU.lt {w : World} {A : Option Addr} {l : List Int} (h : SlU w A l) (hl : 0 < l.length) : ∀ a, A = some a → a.block < w.heap.size := by
  rcases h with h | ⟨b, off, rfl, hc⟩
  · subst h; simp at hl
  · intro a ha; cases ha; exact block_lt (hc 0 hl)
/-- what a processor is made of, once and for all -/
structure CK where
  c : Nat
  m : Nat
  tb : Nat
  tc : Nat
  hb : Nat
  n : Nat
  T : List Rg
  G : Nat → Nat
  EA : Option Addr
  ec : Nat
  E : List Int
  md : Nat
/-- entries: a slice that reads so, in a block ahead of the processor's own that is no region's -/
def EntsOk (w : World) (K : CK) : Prop := K.E.length ≤ 1000000 ∧ (∀ x ∈ K.E, IsU x) ∧ (K.E = [] ∨ ∃ b off, K.EA = some ⟨b, off, none⟩ ∧ b < K.c ∧ (∀ i, i < K.n → K.G i ≠ b) ∧ ∀ k, k < K.E.length → w.cell? ⟨b, off + k, none⟩ = some (.int .u64 (nth K.E k)))
structure CpuIs (w : World) (K : CK) (ve vl : Value) (st : St) : Prop where
  blk : CpuB w K.c K.m (.slice K.EA K.E.length K.ec) st.s ve vl K.md
  evr : w.ownsRow (K.c + 1) 88 10 ve st.ev.length (evsL st.ev)
  lkr : w.ownsRow (K.c + 1) 91 3 vl st.lk.length (lksL st.lk)
  mem : MemIs w 0 K.m K.tb K.tc K.hb K.n K.T K.G st.B
  ent : EntsOk w K
  ops : OpsK w K.md K.c 43 (fun k => k < 43)
  wf : CsW st.s
  low : K.m < K.c ∧ K.tb < K.c ∧ K.hb < K.c ∧ ∀ i, i < K.n → K.G i < K.c
  few : st.ev.length ≤ 100000000 ∧ st.lk.length ≤ 100000000
/-- what it may write -/
def FootIs (w : World) (K : CK) (F : Nat → Prop) (ve vl : Value) : Prop := F K.c ∧ (∀ i, i < K.n → F (K.G i)) ∧ (∀ b, ve.ownBlock = some b → F b) ∧ (∀ b, vl.ownBlock = some b → F b) ∧ ∀ b, w.heap.size ≤ b → F b
def CpuAt (w : World) (K : CK) (F : Nat → Prop) (st : St) : Prop := ∃ ve vl, CpuIs w K ve vl st ∧ FootIs w K F ve vl
/-- nothing outside F has turned -/
structure Out (F : Nat → Prop) (w w' : World) : Prop where
  os : w'.os = w.os
  tape : w'.tape = w.tape
  output : w'.output = w.output
  size : w.heap.size ≤ w'.heap.size
  block : ∀ k, k < w.heap.size → ¬ F k → w'.heap[k]? = w.heap[k]?
section
variable {F : Nat → Prop} {w w1 w2 w' : World}
theorem Out.refl (F : Nat → Prop) (w : World) : Out F w w := ⟨rfl, rfl, rfl, Nat.le_refl _, fun _ _ _ => rfl⟩
theorem Out.trans (h : Out F w w1) (k : Out F w1 w2) : Out F w w2 :=
  ⟨k.os.trans h.os, k.tape.trans h.tape, k.output.trans h.output, Nat.le_trans h.size k.size, fun i hi hn => (k.block i (Nat.lt_of_lt_of_le hi h.size) hn).trans (h.block i hi hn)⟩
theorem Out.of_below (h : Below w.heap.size w w') : Out F w w' := ⟨h.os, h.tape, h.output, h.size, fun k hk _ => h.block k hk⟩
theorem Out.of_grown {row : Option Nat} (h : w.grownBy w' row) (hF : ∀ g, row = some g → F g) : Out F w w' :=
  ⟨h.os, h.tape, h.output, h.size, fun k hk hn => h.block k hk (fun e => hn (hF k e.symm))⟩
theorem Out.to_below {B : Nat} (h : Out (fun b => B ≤ b) w w') (hB : B ≤ w.heap.size) : Below B w w' :=
  ⟨h.os, h.tape, h.output, h.size, fun k hk => h.block k (Nat.lt_of_lt_of_le hk hB) (by omega)⟩
theorem ownBlock_lt {base n s : Nat} {e : TypeId} {v : Value} {xs : List Value} (h : w.ownsRow base e s v n xs) {b : Nat} (hb : v.ownBlock = some b) : b < w.heap.size ∧ base ≤ b ∧ ∃ cur, w.heap[b]? = some (.cells cur e (0, 0)) := by
  rcases h.2 with ⟨rfl, _⟩ | ⟨g, cap, cur, rfl, hg, hc, _⟩
  · cases hb
  · cases hb; exact ⟨(Array.getElem?_eq_some_iff.1 hc).1, hg, cur, hc⟩
theorem row_kept {base n s : Nat} {e : TypeId} {v : Value} {xs : List Value} {row : Option Nat} (h : w.ownsRow base e s v n xs) (hg : w.grownBy w' row) (hne : ∀ b, v.ownBlock = some b → some b ≠ row) : w'.ownsRow base e s v n xs := by
  refine ⟨h.1, ?_⟩
  rcases h.2 with h | ⟨g, cap, cur, rfl, h1, h2, h3⟩
  · exact .inl h
  · exact .inr ⟨g, cap, cur, rfl, h1, by rw [hg.block g (Array.getElem?_eq_some_iff.1 h2).1 (hne g rfl)]; exact h2, h3⟩
theorem EntsOk.kept {K : CK} {row : Option Nat} (h : EntsOk w K) (hg : w.grownBy w' row) (hne : ∀ b, row = some b → K.c ≤ b ∨ ∃ i, i < K.n ∧ K.G i = b) : EntsOk w' K := by
  refine ⟨h.1, h.2.1, ?_⟩
  rcases h.2.2 with h | ⟨b, off, h1, h2, h3, h4⟩
  · exact .inl h
  · refine .inr ⟨b, off, h1, h2, h3, fun k hk => hg.cell (h4 k hk) (fun e => ?_)⟩
    rcases hne b e.symm with h | ⟨i, hi, h⟩
    · omega
    · exact h3 i hi h
theorem map_ne_cells {b g : Nat} {es : Array (Value × Value × Nat)} {c : Nat} {cur : Array Value} {t : TypeId} {f : Nat × Nat} (e : b = g) (h2 : w.heap[g]? = some (.cells cur t f)) {P : Nat → Prop} {n d : Nat} (h : OpsK w b d n P) : False := by
  obtain ⟨D, ⟨es', clock, h1, _⟩, _⟩ := h
  rw [e, h2] at h1
  cases h1
variable {K : CK} {ve vl : Value} {st : St}
/-- a block beyond the processor's own, or a region's, or none of its, is written -/
theorem CpuIs.grown {row : Option Nat} (h : CpuIs w K ve vl st) (hg : w.grownBy w' row) (hr : ∀ b, row = some b → K.c < b ∧ K.md ≠ b ∧ ve.ownBlock ≠ some b ∧ vl.ownBlock ≠ some b) : CpuIs w' K ve vl st := by
  obtain ⟨l0, l1, l2, l3⟩ := h.low
  refine ⟨h.blk.grown hg (fun e => ?_), row_kept h.evr hg (fun b hb e => (hr b e.symm).2.2.1 hb), row_kept h.lkr hg (fun b hb e => (hr b e.symm).2.2.2 hb), ?_, h.ent.kept hg (fun b e => .inl (Nat.le_of_lt (hr b e).1)), h.ops.kept hg (fun e => (hr _ e.symm).2.1 rfl), h.wf, h.low, h.few⟩
  · have := hr _ e.symm; omega
  · cases row with
    | none => exact h.mem.below ⟨hg.os, hg.tape, hg.output, hg.size, fun k hk => hg.block k hk (by simp)⟩
    | some g =>
      have := (hr g rfl).1
      exact h.mem.kept hg (by omega) (by omega) (by omega) (fun i hi e => by have := l3 i hi; omega)
theorem CpuIs.below (h : CpuIs w K ve vl st) (hb : Below w.heap.size w w') : CpuIs w' K ve vl st := h.grown (grown_of_below (row := none) hb) (by simp)
theorem FootIs.mono {F : Nat → Prop} (h : FootIs w K F ve vl) (hs : w.heap.size ≤ w'.heap.size) : FootIs w' K F ve vl := ⟨h.1, h.2.1, h.2.2.1, h.2.2.2.1, fun b hb => h.2.2.2.2 b (Nat.le_trans hs hb)⟩
theorem CpuAt.below (h : CpuAt w K F st) (hb : Below w.heap.size w w') : CpuAt w' K F st := by
  obtain ⟨ve, vl, h1, h2⟩ := h
  exact ⟨ve, vl, h1.below hb, h2.mono hb.size⟩
/-- the own block is written: a state's cell -/
theorem CpuIs.state {s : CS} (h : CpuIs w K ve vl st) (hT : CpuTo w w' K.c K.m (.slice K.EA K.E.length K.ec) s ve vl K.md) (hs : CsW s) : CpuIs w' K ve vl (withS st s) := by
  obtain ⟨l0, l1, l2, l3⟩ := h.low
  refine ⟨hT.1, row_kept h.evr hT.2 (fun b hb e => ?_), row_kept h.lkr hT.2 (fun b hb e => ?_), h.mem.kept hT.2 (by omega) (by omega) (by omega) (fun i hi e => by have := l3 i hi; omega), h.ent.kept hT.2 (fun b e => by cases e; exact .inl (Nat.le_refl _)), h.ops.kept hT.2 (fun e => ?_), hs, h.low, h.few⟩
  · have := (ownBlock_lt h.evr hb).2.1; cases e; omega
  · have := (ownBlock_lt h.lkr hb).2.1; cases e; omega
  · exact map_ne_cells (es := #[]) (c := 0) (Option.some.inj e) h.blk.1 h.ops
theorem CpuAt.state {s : CS} (h : CpuIs w K ve vl st) (hF : FootIs w K F ve vl) (hT : CpuTo w w' K.c K.m (.slice K.EA K.E.length K.ec) s ve vl K.md) (hs : CsW s) : CpuAt w' K F (withS st s) ∧ Out F w w' :=
  ⟨⟨ve, vl, h.state hT hs, hF.mono hT.2.size⟩, .of_grown hT.2 (fun g e => by cases e; exact hF.1)⟩
/-- a region is written -/
theorem CpuIs.stored {B' : Nat → List Int} {i : Nat} (h : CpuIs w K ve vl st) (hi : i < K.n) (hM : MemIs w' 0 K.m K.tb K.tc K.hb K.n K.T K.G B') (hg : w.grownBy w' (some (K.G i))) : CpuIs w' K ve vl (withB st B') := by
  obtain ⟨l0, l1, l2, l3⟩ := h.low
  have lt := l3 i hi
  obtain ⟨cur, hc⟩ : ∃ cur, w.heap[K.G i]? = some (.cells cur 5 (0, 0)) := ⟨_, h.mem.rows i hi⟩
  exact ⟨h.blk.grown hg (by simp; omega), row_kept h.evr hg (fun b hb e => by have := (ownBlock_lt h.evr hb).2.1; cases e; omega), row_kept h.lkr hg (fun b hb e => by have := (ownBlock_lt h.lkr hb).2.1; cases e; omega), hM, h.ent.kept hg (fun b e => by cases e; exact .inr ⟨i, hi, rfl⟩), h.ops.kept hg (fun e => map_ne_cells (es := #[]) (c := 0) (Option.some.inj e) hc h.ops), h.wf, h.low, h.few⟩
end
end Go.Proofs.YtoeagbcjnffpaaaGreatDoor
