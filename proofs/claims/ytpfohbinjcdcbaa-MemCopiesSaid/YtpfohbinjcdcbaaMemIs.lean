/- Layer 4: a memory with its bytes; what number, Load, Fetch, Peek, Poke and Store of package mem answer, and leave. -/
import Derived.Test.YtpfohbinjcdcbaaMemLie
import Derived.Laws.CopyOwn
namespace Go.Proofs.Ytpfohbinjcdcbaa
open Go.RowKit Go.Maps
set_option linter.unusedVariables false

theorem grown_of_below {w w' : World} {row : Option Nat} (hb : Below w.heap.size w w') : w.grownBy w' row := ⟨hb.os, hb.tape, hb.output, hb.size, fun k hk _ => hb.block k hk⟩
theorem grown_trans {w w1 w2 : World} {row : Option Nat} (h : w.grownBy w1 row) (k : w1.grownBy w2 row) : w.grownBy w2 row :=
  ⟨k.os.trans h.os, k.tape.trans h.tape, k.output.trans h.output, Nat.le_trans h.size k.size, fun i hi hne => (k.block i (Nat.lt_of_lt_of_le hi h.size) hne).trans (h.block i hi hne)⟩
theorem grown_setRow (w : World) (g : Nat) (cs : Array Value) : w.grownBy (w.setRow g cs) (some g) :=
  ⟨rfl, rfl, rfl, by simp [World.setRow], fun k hk hne => setRow_other w g k cs (fun e => hne (by rw [e]))⟩
theorem Row.kept {w w' : World} {g : Nat} {l : List Int} {row : Option Nat} (h : Row w g l) (hg : w.grownBy w' row) (hne : some g ≠ row) : Row w' g l := by
  unfold Row; rw [hg.block g h.lt hne]; exact h
theorem Sl.kept {w w' : World} {A : Option Addr} {l : List Int} {g : Nat} (h : Sl w A l) (hg : w.grownBy w' (some g)) (hne : ∀ a, A = some a → a.block ≠ g) : Sl w' A l := by
  rcases h with h | ⟨b, off, rfl, hc⟩
  · exact .inl h
  · exact .inr ⟨b, off, rfl, fun k hk => hg.cell (hc k hk) (by have := hne _ rfl; simpa using this)⟩
/-- a memory with its bytes, all of its own blocks from base on -/
structure MemIs (w : World) (base m tb tc hb n : Nat) (T : List Rg) (G : Nat → Nat) (B : Nat → List Int) : Prop where
  toH : MemH w m tb tc hb n T G
  rows : ∀ i, i < n → Row w (G i) (B i)
  all : ∀ i, i < n → AllB (B i)
  lens : ∀ i, i < n → (B i).length = lenR (nthR T i)
  apart : ∀ i j, i < n → j < n → G i = G j → i = j
  away : ∀ i, i < n → G i ≠ m ∧ G i ≠ tb ∧ G i ≠ hb
  from_ : ∀ i, i < n → base ≤ G i
  own : base ≤ m ∧ base ≤ tb ∧ base ≤ hb
section
variable {w w' : World} {base m tb tc hb n : Nat} {T : List Rg} {G : Nat → Nat} {B : Nat → List Int}
theorem MemIs.below (h : MemIs w base m tb tc hb n T G B) (k : Below w.heap.size w w') : MemIs w' base m tb tc hb n T G B :=
  ⟨h.toH.below k, fun i hi => (h.rows i hi).below k, h.all, h.lens, h.apart, h.away, h.from_, h.own⟩
theorem MemH.kept {g : Nat} (h : MemH w m tb tc hb n T G) (hg : w.grownBy w' (some g)) (h0 : g ≠ m) (h1 : g ≠ tb) (h2 : g ≠ hb) : MemH w' m tb tc hb n T G := by
  refine ⟨h.len, h.few, h.tabw, hg.cell h.c0 (by simp; exact Ne.symm h0), hg.cell h.c1 (by simp; exact Ne.symm h0), fun i hi => ?_, h.held.kept hg (by simp; exact Ne.symm h2)⟩
  obtain ⟨c0, c1, c2, c3⟩ := h.tab i hi
  exact ⟨hg.cell c0 (by simp; exact Ne.symm h1), hg.cell c1 (by simp; exact Ne.symm h1), hg.cell c2 (by simp; exact Ne.symm h1), hg.cell c3 (by simp; exact Ne.symm h1)⟩
theorem MemIs.rebase {b' : Nat} (h : MemIs w base m tb tc hb n T G B) (k : b' ≤ base) : MemIs w b' m tb tc hb n T G B :=
  ⟨h.toH, h.rows, h.all, h.lens, h.apart, h.away, fun i hi => Nat.le_trans k (h.from_ i hi), ⟨Nat.le_trans k h.own.1, Nat.le_trans k h.own.2.1, Nat.le_trans k h.own.2.2⟩⟩
/-- another block is written -/
theorem MemIs.kept {g : Nat} (h : MemIs w base m tb tc hb n T G B) (hg : w.grownBy w' (some g)) (h0 : g ≠ m) (h1 : g ≠ tb) (h2 : g ≠ hb) (h3 : ∀ i, i < n → G i ≠ g) : MemIs w' base m tb tc hb n T G B :=
  ⟨h.toH.kept hg h0 h1 h2, fun i hi => (h.rows i hi).kept hg (by simp; exact h3 i hi), h.all, h.lens, h.apart, h.away, h.from_, h.own⟩
/-- bytes of region i are written -/
def setB (B : Nat → List Int) (i : Nat) (l : List Int) : Nat → List Int := fun j => if j = i then l else B j
theorem setB_same (B : Nat → List Int) (i : Nat) (l : List Int) : setB B i l i = l := by simp [setB]
theorem setB_other (B : Nat → List Int) {i j : Nat} (l : List Int) (h : j ≠ i) : setB B i l j = B j := by simp [setB, h]
theorem MemIs.poked {i : Nat} {l : List Int} (h : MemIs w base m tb tc hb n T G B) (hi : i < n) (hg : w.grownBy w' (some (G i))) (hr : Row w' (G i) l) (hl : l.length = (B i).length) (ha : AllB l) : MemIs w' base m tb tc hb n T G (setB B i l) := by
  obtain ⟨a0, a1, a2⟩ := h.away i hi
  refine ⟨h.toH.kept hg a0 a1 a2, fun j hj => ?_, fun j hj => ?_, fun j hj => ?_, h.apart, h.away, h.from_, h.own⟩
  all_goals by_cases e : j = i
  · subst e; rw [setB_same]; exact hr
  · rw [setB_other _ _ e]; exact (h.rows j hj).kept hg (by simp; exact fun e' => e (h.apart j i hj hi e'))
  · subst e; rw [setB_same]; exact ha
  · rw [setB_other _ _ e]; exact h.all j hj
  · subst e; rw [setB_same, hl]; exact h.lens j hj
  · rw [setB_other _ _ e]; exact h.lens j hj
/-- where bytes that are found lie -/
theorem MemIs.spot {p q : Int} {i : Nat} (h : MemIs w base m tb tc hb n T G B) (hF : FindYes T p q i) : i < n ∧ (p - rlo (nthR T i)).toNat + q.toNat ≤ (B i).length ∧ 0 < q.toNat ∧ ((q.toNat : Nat) : Int) = q := by
  obtain ⟨h1, h2, h3, _⟩ := hF
  obtain ⟨y0, y1, y2⟩ := hitB_iff.1 h3
  have hi : i < n := by rw [← h.toH.len]; exact h2
  refine ⟨hi, ?_, by omega, by omega⟩
  rw [h.lens i hi]
  unfold lenR
  omega
end
/-- q bytes from p on, in region i -/
def cut (T : List Rg) (B : Nat → List Int) (p q : Int) (i : Nat) : List Int := ((B i).drop (p - rlo (nthR T i)).toNat).take q.toNat
section
variable {w w' : World} {base m tb tc hb n : Nat} {T : List Rg} {G : Nat → Nat} {B : Nat → List Int}
theorem cut_length {p q : Int} {i : Nat} (h : MemIs w base m tb tc hb n T G B) (hF : FindYes T p q i) : (cut T B p q i).length = q.toNat := by
  have := (h.spot hF).2.1
  unfold cut
  simp
  omega
theorem cut_all {p q : Int} {i : Nat} (h : MemIs w base m tb tc hb n T G B) (hF : FindYes T p q i) : AllB (cut T B p q i) := ((h.all i (h.spot hF).1).drop _).take _
theorem cut_sl {p q : Int} {i : Nat} (h : MemIs w base m tb tc hb n T G B) (hF : FindYes T p q i) : Sl w (some ⟨G i, (p - rlo (nthR T i)).toNat, none⟩) (cut T B p q i) :=
  (h.rows i (h.spot hF).1).sl _ _ (h.spot hF).2.1
end
theorem number_no (base m tb tc hb n : Nat) (T : List Rg) (G : Nat → Nat) (B : Nat → List Int) (p q : Int) (own : Bool) (x : Int) (hp : IsU p) (hq : IsI q) (w : World) (hM : MemIs w base m tb tc hb n T G B) (hA : AllNo T p q own x) :
    Calls Try.prog 30 #[.pointer (some ⟨m, 0, none⟩), .int .u64 p, .int .i64 q, .bool own, .int .i64 x] w fun e w' => e = .returned (.tuple #[.int .u64 0, .int .i64 13]) ∧ Below w.heap.size w w' := by
  have HM := Lib.hid hM
  have HP := Lib.hid hp
  have HQ := Lib.hid hq
  have HA := Lib.hid hA
  clear hM hp hq hA
  go_enter Try.func30, Try.ntmps30
  go_wp2_with fail
  refine (allowed_no m tb tc hb n T G p q own x HP.out HQ.out _ HM.out.toH HA.out).mono ?_
  rintro e w1 ⟨rfl, hb1⟩
  have Hb := Lib.hid hb1
  clear hb1
  go_wp2
  go_ret2
  exact ⟨rfl, Hb.out⟩
theorem number_yes (base m tb tc hb n : Nat) (T : List Rg) (G : Nat → Nat) (B : Nat → List Int) (p q : Int) (own : Bool) (x : Int) (i : Nat) (hp : IsU p) (hq : IsI q) (w : World) (hM : MemIs w base m tb tc hb n T G B) (hA : AllYes T p q own x i) :
    Calls Try.prog 30 #[.pointer (some ⟨m, 0, none⟩), .int .u64 p, .int .i64 q, .bool own, .int .i64 x] w fun e w' => e = .returned (.tuple #[.int .u64 (wordI (cut T B p q i)), .int .i64 0]) ∧ Below w.heap.size w w' := by
  have HM := Lib.hid hM
  have HP := Lib.hid hp
  have HQ := Lib.hid hq
  have HA := Lib.hid hA
  have HF := Lib.hid hA.2.1
  have HC := Lib.hid (show q.toNat ≤ 8 by have := accB_n hA.1; omega)
  clear hM hp hq hA
  go_enter Try.func30, Try.ntmps30
  go_wp2_with fail
  refine (allowed_yes m tb tc hb n T G p q own x i HP.out HQ.out _ HM.out.toH HA.out).mono ?_
  rintro e w1 ⟨rfl, hb1⟩
  have HM1 := Lib.hid (HM.out.below hb1)
  have Hb := Lib.hid hb1
  clear hb1
  go_wp2_with fail
  refine (lying_yes m tb tc hb n T G p q i HP.out HQ.out _ HM1.out.toH HF.out).mono ?_
  rintro e w2 ⟨rfl, hb2⟩
  have HM2 := Lib.hid (HM1.out.below hb2)
  have Hb2 := Lib.hid (Hb.out.trans (hb2.mono Hb.out.size))
  clear hb2
  go_wp2_with fail
  refine (word_yes _ (cut T B p q i) _ _ _ (cut_sl HM2.out HF.out) (cut_length HM2.out HF.out) (cut_all HM2.out HF.out) HC.out).mono ?_
  rintro e w' ⟨rfl, rfl⟩
  go_wp2
  go_ret2
  exact ⟨rfl, Hb2.out⟩
theorem load_no (base m tb tc hb n : Nat) (T : List Rg) (G : Nat → Nat) (B : Nat → List Int) (p q : Int) (own : Bool) (hp : IsU p) (hq : IsI q) (w : World) (hM : MemIs w base m tb tc hb n T G B) (hA : AllNo T p q own 1) :
    Calls Try.prog 19 #[.pointer (some ⟨m, 0, none⟩), .int .u64 p, .int .i64 q, .bool own] w fun e w' => e = .returned (.tuple #[.int .u64 0, .int .i64 13]) ∧ Below w.heap.size w w' := by
  have HM := Lib.hid hM
  have HA := Lib.hid hA
  clear hM hA
  go_enter Try.func19, Try.ntmps19
  go_wp2_with fail
  refine (number_no base m tb tc hb n T G B p q own 1 hp hq _ HM.out HA.out).mono ?_
  rintro e w1 ⟨rfl, hb1⟩
  have Hb := Lib.hid hb1
  clear hb1
  go_wp2
  go_ret2
  exact ⟨rfl, Hb.out⟩
theorem load_yes (base m tb tc hb n : Nat) (T : List Rg) (G : Nat → Nat) (B : Nat → List Int) (p q : Int) (own : Bool) (i : Nat) (hp : IsU p) (hq : IsI q) (w : World) (hM : MemIs w base m tb tc hb n T G B) (hA : AllYes T p q own 1 i) :
    Calls Try.prog 19 #[.pointer (some ⟨m, 0, none⟩), .int .u64 p, .int .i64 q, .bool own] w fun e w' => e = .returned (.tuple #[.int .u64 (wordI (cut T B p q i)), .int .i64 0]) ∧ Below w.heap.size w w' := by
  have HM := Lib.hid hM
  have HA := Lib.hid hA
  clear hM hA
  go_enter Try.func19, Try.ntmps19
  go_wp2_with fail
  refine (number_yes base m tb tc hb n T G B p q own 1 i hp hq _ HM.out HA.out).mono ?_
  rintro e w1 ⟨rfl, hb1⟩
  have Hb := Lib.hid hb1
  clear hb1
  go_wp2
  go_ret2
  exact ⟨rfl, Hb.out⟩
theorem fetch_no (base m tb tc hb n : Nat) (T : List Rg) (G : Nat → Nat) (B : Nat → List Int) (p : Int) (own : Bool) (hp : IsU p) (w : World) (hM : MemIs w base m tb tc hb n T G B) (hA : AllNo T p 4 own 4) :
    Calls Try.prog 21 #[.pointer (some ⟨m, 0, none⟩), .int .u64 p, .bool own] w fun e w' => e = .returned (.tuple #[.int .u32 0, .int .i64 13]) ∧ Below w.heap.size w w' := by
  have HM := Lib.hid hM
  have HA := Lib.hid hA
  clear hM hA
  go_enter Try.func21, Try.ntmps21
  go_wp2_with fail
  refine (number_no base m tb tc hb n T G B p 4 own 4 hp ⟨by omega, by omega⟩ _ HM.out HA.out).mono ?_
  rintro e w1 ⟨rfl, hb1⟩
  have Hb := Lib.hid hb1
  clear hb1
  go_wp2
  go_ret2
  exact ⟨rfl, Hb.out⟩
theorem word4_bd {l : List Int} (h : AllB l) (hl : l.length = 4) : 0 ≤ wordI l ∧ wordI l < 4294967296 := by
  have := wordI_bd h
  rw [hl] at this
  exact this
theorem ret_w32 {a b c : Int} (h : a = b) : Ending.returned (.tuple #[.int .u32 a, .int .i64 c]) = Ending.returned (.tuple #[.int .u32 b, .int .i64 c]) := by rw [h]
theorem fetch_yes (base m tb tc hb n : Nat) (T : List Rg) (G : Nat → Nat) (B : Nat → List Int) (p : Int) (own : Bool) (i : Nat) (hp : IsU p) (w : World) (hM : MemIs w base m tb tc hb n T G B) (hA : AllYes T p 4 own 4 i) :
    Calls Try.prog 21 #[.pointer (some ⟨m, 0, none⟩), .int .u64 p, .bool own] w fun e w' => e = .returned (.tuple #[.int .u32 (wordI (cut T B p 4 i)), .int .i64 0]) ∧ Below w.heap.size w w' := by
  have HM := Lib.hid hM
  have HA := Lib.hid hA
  obtain ⟨b0, b1⟩ := word4_bd (cut_all hM hA.2.1) (cut_length hM hA.2.1)
  clear hM hA
  go_enter Try.func21, Try.ntmps21
  go_wp2_with fail
  refine (number_yes base m tb tc hb n T G B p 4 own 4 i hp ⟨by omega, by omega⟩ _ HM.out HA.out).mono ?_
  rintro e w1 ⟨rfl, hb1⟩
  have Hb := Lib.hid hb1
  generalize hX : wordI (cut T B p 4 i) = X at *
  have HX := Lib.hid hX
  clear hb1 hX
  go_wp2
  go_ret2
  exact ⟨ret_w32 HX.out.symm, Hb.out⟩
end Go.Proofs.Ytpfohbinjcdcbaa
