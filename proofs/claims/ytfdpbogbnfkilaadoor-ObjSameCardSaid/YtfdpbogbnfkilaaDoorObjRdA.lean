/- Layer 6: the reader of package obj: want, take, number and what rests on them. -/
import Derived.Test.YtfdpbogbnfkilaaDoorObjRd
import Derived.Laws.IdiomStrings
namespace Go.Proofs.YtfdpbogbnfkilaaDoor
set_option maxRecDepth 100000
open Go.RowKit
set_option linter.unusedVariables false
/-- it leaves by the panic -/
def lackP : Ending := .panicked [{ v := lackV, recovered := false }]
theorem want_yes (w : World) : Calls Tryd.prog 44 #[.bool true] w fun e w' => e = .returned (.tuple #[]) ∧ w = w' := by
  go_enter Tryd.func44, Tryd.ntmps44
  go_wp2
  go_end0
  exact ⟨rfl, rfl⟩
theorem want_no (w : World) : Calls Tryd.prog 44 #[.bool false] w fun e w' => e = lackP ∧ w = w' := by
  go_enter Tryd.func44, Tryd.ntmps44
  go_wp2
  exact ⟨rfl, rfl, rfl⟩
/-- what a reader's call comes to: it leaves, where there is too little, else it hands back what was read -/
def RdP {α : Type} (p B : Nat) (r : Option (α × List Int)) (V : α → Value → World → Prop) (w : World) (e : Ending) (w' : World) : Prop :=
  RdOut p w w' ∧ match r with
    | none => e = lackP
    | some (x, l') => ∃ v, e = .returned v ∧ V x v w' ∧ RdIs w' p B l'
theorem RdP.no {α : Type} {p B : Nat} {r : Option (α × List Int)} {V : α → Value → World → Prop} {w w' : World} {e : Ending} (h : RdP p B r V w e w') (hr : r = none) : e = lackP ∧ RdOut p w w' := by
  subst hr; exact ⟨h.2, h.1⟩
theorem RdP.yes {α : Type} {p B : Nat} {r : Option (α × List Int)} {V : α → Value → World → Prop} {w w' : World} {e : Ending} {x : α} {l' : List Int} (h : RdP p B r V w e w') (hr : r = some (x, l')) : ∃ v, e = .returned v ∧ V x v w' ∧ RdIs w' p B l' ∧ RdOut p w w' := by
  subst hr; obtain ⟨h1, v, h2, h3, h4⟩ := h; exact ⟨v, h2, h3, h4, h1⟩
theorem RdP.mkNo {α : Type} {p B : Nat} {r : Option (α × List Int)} {V : α → Value → World → Prop} {w w' : World} (hr : r = none) (ho : RdOut p w w') : RdP p B r V w lackP w' := by
  subst hr; exact ⟨ho, rfl⟩
theorem RdP.mkYes {α : Type} {p B : Nat} {r : Option (α × List Int)} {V : α → Value → World → Prop} {w w' : World} {x : α} {l' : List Int} {v : Value} (hr : r = some (x, l')) (ho : RdOut p w w') (hv : V x v w') (hR : RdIs w' p B l') : RdP p B r V w (.returned v) w' := by
  subst hr; exact ⟨ho, v, rfl, hv, hR⟩
def SliceV (p B k : Nat) (x : List Int) (v : Value) (w : World) : Prop := ∃ A c, v = .slice A k c ∧ SlO w p B A x ∧ x.length = k
theorem dropSl (A : Option Addr) (n k c : Nat) : sliced A k n c 1 = .slice (dropA A k c) (n - k) (c - k) := by
  unfold sliced dropA; rfl
set_option maxHeartbeats 1000000 in
theorem take_any (k : Nat) (p B : Nat) (l : List Int) (w : World) (hR : RdIs w p B l) :
    Calls Tryd.prog 97 #[.pointer (some ⟨p, 0, none⟩), .int .i64 k] w (RdP p B (rdB k l) (SliceV p B k) w) := by
  obtain ⟨A, n, c, hV⟩ := hR
  have hn := hV.2.1
  have hc := hV.2.2.2.2.1
  have hm := hV.2.2.2.2.2.1
  unfold maxLen at hm
  have HV := Lib.hid hV
  have hcell := hV.cell
  have hfz := hV.free
  clear hV
  by_cases hk : k ≤ n
  · have HS := Lib.hid (HV.out.set (l' := l.drop k) (A' := dropA A k c) (n' := n - k) (c' := c - k) (by rw [List.length_drop]; omega) (HV.out.2.2.1.drop k) (HV.out.2.2.2.1.drop k c (by omega)) (by omega) (by unfold maxLen; omega))
    have HT := Lib.hid (HV.out.2.2.2.1.take k)
    have hr : rdB k l = some (l.take k, l.drop k) := by unfold rdB; rw [if_pos (by omega)]
    have HL := Lib.hid (show (l.take k).length = k by rw [List.length_take]; omega)
    rw [hr]
    have hs1 : ∀ w, (Instr.slice 35 (.slice A n c) none (some (.int .i64 k)) none).run Tryd.prog w = .ok (.slice A k c) w := fun w => by
      have he : (sizeOf (Tryd.prog.elem 35)).run Tryd.prog w = .ok 1 w := by kernel_rfl
      rw [run_slice_h w 35 A n c Tryd.underlying35 .i64 k (by omega) (by omega), he]
      simp only [Result.andThen_ok, sliced, Int.toNat_natCast]
      congr 2
      by_cases e : c = 0
      · simp [e]
      · rw [if_neg e]
        rcases A with _ | A
        · rfl
        · simp [Addr.add]
    have hs2 : ∀ w, (Instr.slice 35 (.slice A n c) (some (.int .i64 k)) none none).run Tryd.prog w = .ok (.slice (dropA A k c) (n - k) (c - k)) w := fun w => by
      have he : (sizeOf (Tryd.prog.elem 35)).run Tryd.prog w = .ok 1 w := by kernel_rfl
      rw [run_slice_l w 35 A n c Tryd.underlying35 .i64 k (by omega) (by omega), he]
      rw [Result.andThen_ok, Int.toNat_natCast, dropSl]
    have hkn : (k : Int) ≤ n := by omega
    clear hn hr
    go_enter Tryd.func97, Tryd.ntmps97
    go_wp2_with fail
    refine (want_yes _).mono ?_
    rintro e w' ⟨rfl, rfl⟩
    go_wp2
    go_ret
    exact ⟨HS.out.2, _, rfl, ⟨A, c, rfl, HT.out.keep (fun j hj hp => HS.out.2.block j (Nat.lt_of_lt_of_le hj HV.out.2.2.2.2.2.2.2) hp), HL.out⟩, HS.out.1⟩
  · have hr : rdB k l = none := by unfold rdB; rw [if_neg (by omega)]
    rw [hr]
    have hkn : ¬ (k : Int) ≤ n := by omega
    clear hn hr
    go_enter Tryd.func97, Tryd.ntmps97
    go_wp2_with fail
    refine (want_no _).mono ?_
    rintro e w' ⟨rfl, rfl⟩
    exact ⟨rfl, OutO.refl _ _, rfl⟩
theorem wpost_panic {P : Program} {fn : Func} {R : Ending → World → Prop} {c : List PanicEntry} {t : Array Value} {w : World} (h : R (.panicked c) w) : bodyPost P fn R (.panic c) { tmps := t, defers := [] } w := ⟨rfl, h⟩
theorem rdN_ofB_no {n : Nat} {l : List Int} (h : ¬ n ≤ l.length) : rdN n l = none ∧ rdB n l = none := by
  unfold rdN rdB; rw [if_neg h, if_neg h]; exact ⟨rfl, rfl⟩
theorem rdN_ofB_yes {n : Nat} {l : List Int} (h : n ≤ l.length) : rdN n l = some (wordI (l.take n), l.drop n) ∧ rdB n l = some (l.take n, l.drop n) := by
  unfold rdN rdB; rw [if_pos h, if_pos h]; exact ⟨rfl, rfl⟩
theorem RdOut.trans {p : Nat} {w w1 w2 : World} (h : RdOut p w w1) (k : RdOut p w1 w2) : RdOut p w w2 := OutO.trans h k
theorem RdOut.below {p : Nat} {w w1 : World} (h : Below w.heap.size w w1) : RdOut p w w1 := OutO.of_below h
def NumV (x : Int) (v : Value) (w : World) : Prop := v = .int .u64 x
set_option maxHeartbeats 1000000 in
theorem rdnum_any (n : Nat) (hn : n ≤ 8) (p B : Nat) (l : List Int) (w : World) (hR : RdIs w p B l) :
    Calls Tryd.prog 140 #[.pointer (some ⟨p, 0, none⟩), .int .i64 n] w (RdP p B (rdN n l) NumV w) := by
  have HR := Lib.hid hR
  have ha := hR.all
  by_cases hk : n ≤ l.length
  · obtain ⟨e1, e2⟩ := rdN_ofB_yes hk
    have hx := isU_word (ha.take n) (by rw [List.length_take]; omega)
    have HA := Lib.hid (ha.take n)
    rw [e1]
    have E2 := Lib.hid e2
    have HN := Lib.hid hn
    clear e1 e2 hk hR ha hn hx
    go_enter Tryd.func140, Tryd.ntmps140
    go_wp2_with fail
    refine (take_any n p B l _ HR.out).mono ?_
    intro e w1 h1
    obtain ⟨v, rfl, ⟨A, c, rfl, hs, hl⟩, h2, h3⟩ := h1.yes E2.out
    have H2 := Lib.hid h2
    have H3 := Lib.hid h3
    have HC := Lib.hid (word_yes A (l.take n) n c w1 hs.sl hl HA.out HN.out)
    clear h1 h2 h3 hs hl
    go_wp2_with fail
    refine HC.out.mono ?_
    rintro e w2 ⟨rfl, rfl⟩
    go_wp2
    go_ret
    exact ⟨H3.out, _, rfl, rfl, H2.out⟩
  · obtain ⟨e1, e2⟩ := rdN_ofB_no hk
    rw [e1]
    have E2 := Lib.hid e2
    clear e1 e2 hk hR ha hn
    go_enter Tryd.func140, Tryd.ntmps140
    go_wp2_with fail
    refine (take_any n p B l _ HR.out).mono ?_
    intro e w1 h1
    obtain ⟨rfl, h3⟩ := h1.no E2.out
    exact ⟨rfl, h3, rfl⟩
end Go.Proofs.YtfdpbogbnfkilaaDoor
