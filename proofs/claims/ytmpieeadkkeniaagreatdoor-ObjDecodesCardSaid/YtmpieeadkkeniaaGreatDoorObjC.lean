/- Layer 6: the reader of package obj: what it is in memory, and what its parts answer.
   Layer 6: the reader of package obj: want, take, number and what rests on them.
   Layer 6: the reader of package obj: numbers of so many bytes, names.
   Layer 6: the reader of package obj: lists.
   Layer 6: the reader of package obj: a Sym, a Rel.
   Layer 6: the reader of package obj: a Rel.
   Layer 6: the reader of package obj: lists of Syms and of Rels.
   Layer 6: the reader of package obj: an Entry.
   Layer 6: the reader of package obj: lists of Entries. -/
import Derived.Test.YtmpieeadkkeniaaGreatDoorObjB
import Derived.Test.YtmpieeadkkeniaaGreatDoorObjA
import Derived.Test.YtmpieeadkkeniaaGreatDoorBitA
import Derived.Laws.IdiomStrings
namespace Go.Proofs.YtmpieeadkkeniaaGreatDoor
set_option maxRecDepth 100000
open Go.RowKit
set_option linter.unusedVariables false
/-- bytes that lie below B, and not in block p -/
def SlO (w : World) (p B : Nat) (A : Option Addr) (l : List Int) : Prop := l = [] ∨ ∃ b off, A = some ⟨b, off, none⟩ ∧ b < B ∧ b ≠ p ∧ ∀ k, k < l.length → w.cell? ⟨b, off + k, none⟩ = some (.int .u8 (nth l k))
/-- block p is a reader that has l left; all of it lies below B -/
def RdV (w : World) (p B : Nat) (l : List Int) (A : Option Addr) (n c : Nat) : Prop :=
  w.heap[p]? = some (.cells #[.slice A n c] 122 (0, 0)) ∧ n = l.length ∧ AllB l ∧ SlO w p B A l ∧ n ≤ c ∧ c ≤ maxLen ∧ p < B ∧ B ≤ w.heap.size
def RdIs (w : World) (p B : Nat) (l : List Int) : Prop := ∃ A n c, RdV w p B l A n c
/-- nothing that was has turned but block p -/
def RdOut (p : Nat) (w w' : World) : Prop := OutO (fun k => k = p) w w'
section
variable {w w1 w2 w' : World} {p B : Nat} {l : List Int} {A : Option Addr} {n c : Nat}
theorem RdV.cell (h : RdV w p B l A n c) : w.cell? ⟨p, 0, none⟩ = some (.slice A n c) := by rw [cell_of_row w p 0 _ _ _ h.1]; rfl
theorem RdV.free (h : RdV w p B l A n c) : w.frozen? ⟨p, 0, none⟩ = false := frozen_of_row w p 0 _ _ h.1
theorem SlO.keep (h : SlO w p B A l) (hk : ∀ k, k < B → k ≠ p → w'.heap[k]? = w.heap[k]?) : SlO w' p B A l := by
  rcases h with h | ⟨b, off, e, hb, hp, hc⟩
  · exact .inl h
  · exact .inr ⟨b, off, e, hb, hp, fun k hk' => by rw [World.cell?_of_block (hk b hb hp)]; exact hc k hk'⟩
theorem RdV.keep (h : RdV w p B l A n c) (hs : w.heap.size ≤ w'.heap.size) (hk : ∀ k, k < B → w'.heap[k]? = w.heap[k]?) : RdV w' p B l A n c := by
  obtain ⟨h1, h2, h3, h4, h5, h6, h7, h8⟩ := h
  exact ⟨by rw [hk p h7]; exact h1, h2, h3, h4.keep (fun k hb _ => hk k hb), h5, h6, h7, Nat.le_trans h8 hs⟩
theorem RdIs.keep (h : RdIs w p B l) (hs : w.heap.size ≤ w'.heap.size) (hk : ∀ k, k < B → w'.heap[k]? = w.heap[k]?) : RdIs w' p B l := by
  obtain ⟨A, n, c, h⟩ := h; exact ⟨A, n, c, h.keep hs hk⟩
theorem RdIs.lt (h : RdIs w p B l) : p < B ∧ B ≤ w.heap.size := by obtain ⟨A, n, c, h⟩ := h; exact ⟨h.2.2.2.2.2.2.1, h.2.2.2.2.2.2.2⟩
theorem RdIs.all (h : RdIs w p B l) : AllB l := by obtain ⟨A, n, c, h⟩ := h; exact h.2.2.1
theorem RdIs.below (h : RdIs w p B l) (hb : Below w.heap.size w w') : RdIs w' p B l := h.keep hb.size (fun k hk => hb.block k (Nat.lt_of_lt_of_le hk h.lt.2))
theorem RdIs.grown {row : Option Nat} (h : RdIs w p B l) (hg : w.grownBy w' row) (hr : ∀ g, row = some g → B ≤ g) : RdIs w' p B l :=
  h.keep hg.size (fun k hk => hg.block k (Nat.lt_of_lt_of_le hk h.lt.2) (fun e => by have := hr k e.symm; omega))
/-- what is left is stored -/
theorem RdV.set (h : RdV w p B l A n c) {l' : List Int} {A' : Option Addr} {n' c' : Nat} (hn : n' = l'.length) (ha : AllB l') (hs : SlO w p B A' l') (hc : n' ≤ c') (hm : c' ≤ maxLen) : RdIs (w.setCell ⟨p, 0, none⟩ (.slice A' n' c')) p B l' ∧ RdOut p w (w.setCell ⟨p, 0, none⟩ (.slice A' n' c')) := by
  have g := grown_setO w p 0 (.slice A' n' c')
  refine ⟨⟨A', n', c', ?_, hn, ha, hs.keep (fun k hk hp => g.block k (Nat.lt_of_lt_of_le hk h.2.2.2.2.2.2.2) (fun e => hp (by cases e; rfl))), hc, hm, h.2.2.2.2.2.2.1, Nat.le_trans h.2.2.2.2.2.2.2 g.size⟩, OutO.of_grown g (fun k e => by cases e; rfl)⟩
  rw [heap_setCell_same w p 0 _ _ _ h.1]; rfl
end
/-- the address behind k of c bytes -/
def dropA (A : Option Addr) (k c : Nat) : Option Addr := if c = k then A else A.map (·.add (k * 1))
theorem SlO.take {w : World} {p B : Nat} {A : Option Addr} {l : List Int} (h : SlO w p B A l) (k : Nat) : SlO w p B A (l.take k) := by
  rcases h with h | ⟨b, off, e, hb, hp, hc⟩
  · exact .inl (by rw [h, List.take_nil])
  · refine .inr ⟨b, off, e, hb, hp, fun j hj => ?_⟩
    have hj' : j < l.length := by rw [List.length_take] at hj; omega
    have hj2 : j < k := by rw [List.length_take] at hj; omega
    rw [hc j hj', nth_get hj, nth_get hj', List.getElem_take]
theorem SlO.drop {w : World} {p B : Nat} {A : Option Addr} {l : List Int} (h : SlO w p B A l) (k c : Nat) (hc : l.length ≤ c) : SlO w p B (dropA A k c) (l.drop k) := by
  by_cases e : c = k
  · left; rw [List.drop_eq_nil_iff]; omega
  unfold dropA
  rw [if_neg e]
  rcases h with h | ⟨b, off, rfl, hb, hp, hcell⟩
  · exact .inl (by rw [h]; simp)
  · refine .inr ⟨b, off + k, by simp [Addr.add], hb, hp, fun j hj => ?_⟩
    have hj' : k + j < l.length := by rw [List.length_drop] at hj; omega
    have := hcell (k + j) hj'
    rw [← Nat.add_assoc] at this
    rw [this, nth_get hj, nth_get hj', List.getElem_drop]
theorem SlO.sl {w : World} {p B : Nat} {A : Option Addr} {l : List Int} (h : SlO w p B A l) : Sl w A l := by
  rcases h with h | ⟨b, off, e, hb, hp, hc⟩
  · exact .inl h
  · exact .inr ⟨b, off, e, hc⟩
/-- what leaves by a panic: the code that tells of it -/
def lackV : Value := .iface 69 (.int .i64 3)
end Go.Proofs.YtmpieeadkkeniaaGreatDoor
namespace Go.Proofs.YtmpieeadkkeniaaGreatDoor
set_option maxRecDepth 100000
open Go.RowKit
set_option linter.unusedVariables false
/-- it leaves by the panic -/
def lackP : Ending := .panicked [{ v := lackV, recovered := false }]
theorem want_yes (w : World) : Calls Tryz.prog 33 #[.bool true] w fun e w' => e = .returned (.tuple #[]) ∧ w = w' := by
  go_enter Tryz.func33, Tryz.ntmps33
  go_wp2
  go_end0
  exact ⟨rfl, rfl⟩
theorem want_no (w : World) : Calls Tryz.prog 33 #[.bool false] w fun e w' => e = lackP ∧ w = w' := by
  go_enter Tryz.func33, Tryz.ntmps33
  go_wp2
  exact ⟨rfl, rfl, rfl⟩
/-- what a reader's call comes to: it leaves, where there is too little, else it hands back what was read -/
def RdP {α : Type} (p B : Nat) (r : Option (α × List Int)) (V : α → Value → World → Prop) (w : World) (e : Ending) (w' : World) : Prop :=
  RdOut p w w' ∧ match r with
    | none => e = lackP
    | some (x, l') => ∃ v, e = .returned v ∧ V x v w' ∧ RdIs w' p B l'
theorem RdP.no {α : Type} {p B : Nat} {r : Option (α × List Int)} {V : α → Value → World → Prop} {w w' : World} {e : Ending} (h : RdP p B r V w e w') (hr : r = none) : e = lackP ∧ RdOut p w w' := by
  subst hr; exact ⟨h.2, h.1⟩
theorem RdP.yes {α : Type} {p B : Nat} {r : Option (α × List Int)} {V : α → Value → World → Prop} {w w' : World} {e : Ending} {x : α} {l' : List Int} (h : RdP p B r V w e w') (hr : r = some (x, l')) : ∃ v, e = .returned v ∧ V x v w' ∧ RdIs w' p B l' ∧ RdOut p w w' := by
  subst hr; obtain ⟨h1, v, h2, h3, h4⟩ := h; exact ⟨v, h2, h3, h4, h1⟩
theorem RdP.mkNo {α : Type} {p B : Nat} {r : Option (α × List Int)} {V : α → Value → World → Prop} {w w' : World} (hr : r = none) (ho : RdOut p w w') : RdP p B r V w lackP w' := by
  subst hr; exact ⟨ho, rfl⟩
theorem RdP.mkYes {α : Type} {p B : Nat} {r : Option (α × List Int)} {V : α → Value → World → Prop} {w w' : World} {x : α} {l' : List Int} {v : Value} (hr : r = some (x, l')) (ho : RdOut p w w') (hv : V x v w') (hR : RdIs w' p B l') : RdP p B r V w (.returned v) w' := by
  subst hr; exact ⟨ho, v, rfl, hv, hR⟩
def SliceV (p B k : Nat) (x : List Int) (v : Value) (w : World) : Prop := ∃ A c, v = .slice A k c ∧ SlO w p B A x ∧ x.length = k
theorem dropSl (A : Option Addr) (n k c : Nat) : sliced A k n c 1 = .slice (dropA A k c) (n - k) (c - k) := by
  unfold sliced dropA; rfl
set_option maxHeartbeats 1000000 in
theorem take_any (k : Nat) (p B : Nat) (l : List Int) (w : World) (hR : RdIs w p B l) :
    Calls Tryz.prog 106 #[.pointer (some ⟨p, 0, none⟩), .int .i64 k] w (RdP p B (rdB k l) (SliceV p B k) w) := by
  obtain ⟨A, n, c, hV⟩ := hR
  have hn := hV.2.1
  have hc := hV.2.2.2.2.1
  have hm := hV.2.2.2.2.2.1
  unfold maxLen at hm
  have HV := Lib.hid hV
  have hcell := hV.cell
  have hfz := hV.free
  clear hV
  by_cases hk : k ≤ n
  · have HS := Lib.hid (HV.out.set (l' := l.drop k) (A' := dropA A k c) (n' := n - k) (c' := c - k) (by rw [List.length_drop]; omega) (HV.out.2.2.1.drop k) (HV.out.2.2.2.1.drop k c (by omega)) (by omega) (by unfold maxLen; omega))
    have HT := Lib.hid (HV.out.2.2.2.1.take k)
    have hr : rdB k l = some (l.take k, l.drop k) := by unfold rdB; rw [if_pos (by omega)]
    have HL := Lib.hid (show (l.take k).length = k by rw [List.length_take]; omega)
    rw [hr]
    have hs1 : ∀ w, (Instr.slice 31 (.slice A n c) none (some (.int .i64 k)) none).run Tryz.prog w = .ok (.slice A k c) w := fun w => by
      have he : (sizeOf (Tryz.prog.elem 31)).run Tryz.prog w = .ok 1 w := by kernel_rfl
      rw [run_slice_h w 31 A n c Tryz.underlying31 .i64 k (by omega) (by omega), he]
      simp only [Result.andThen_ok, sliced, Int.toNat_natCast]
      congr 2
      by_cases e : c = 0
      · simp [e]
      · rw [if_neg e]
        rcases A with _ | A
        · rfl
        · simp [Addr.add]
    have hs2 : ∀ w, (Instr.slice 31 (.slice A n c) (some (.int .i64 k)) none none).run Tryz.prog w = .ok (.slice (dropA A k c) (n - k) (c - k)) w := fun w => by
      have he : (sizeOf (Tryz.prog.elem 31)).run Tryz.prog w = .ok 1 w := by kernel_rfl
      rw [run_slice_l w 31 A n c Tryz.underlying31 .i64 k (by omega) (by omega), he]
      rw [Result.andThen_ok, Int.toNat_natCast, dropSl]
    have hkn : (k : Int) ≤ n := by omega
    clear hn hr
    go_enter Tryz.func106, Tryz.ntmps106
    go_wp2_with fail
    refine (want_yes _).mono ?_
    rintro e w' ⟨rfl, rfl⟩
    go_wp2
    go_ret
    exact ⟨HS.out.2, _, rfl, ⟨A, c, rfl, HT.out.keep (fun j hj hp => HS.out.2.block j (Nat.lt_of_lt_of_le hj HV.out.2.2.2.2.2.2.2) hp), HL.out⟩, HS.out.1⟩
  · have hr : rdB k l = none := by unfold rdB; rw [if_neg (by omega)]
    rw [hr]
    have hkn : ¬ (k : Int) ≤ n := by omega
    clear hn hr
    go_enter Tryz.func106, Tryz.ntmps106
    go_wp2_with fail
    refine (want_no _).mono ?_
    rintro e w' ⟨rfl, rfl⟩
    exact ⟨rfl, OutO.refl _ _, rfl⟩
theorem wpost_panic {P : Program} {fn : Func} {R : Ending → World → Prop} {c : List PanicEntry} {t : Array Value} {w : World} (h : R (.panicked c) w) : bodyPost P fn R (.panic c) { tmps := t, defers := [] } w := ⟨rfl, h⟩
theorem rdN_ofB_no {n : Nat} {l : List Int} (h : ¬ n ≤ l.length) : rdN n l = none ∧ rdB n l = none := by
  unfold rdN rdB; rw [if_neg h, if_neg h]; exact ⟨rfl, rfl⟩
theorem rdN_ofB_yes {n : Nat} {l : List Int} (h : n ≤ l.length) : rdN n l = some (wordI (l.take n), l.drop n) ∧ rdB n l = some (l.take n, l.drop n) := by
  unfold rdN rdB; rw [if_pos h, if_pos h]; exact ⟨rfl, rfl⟩
theorem RdOut.trans {p : Nat} {w w1 w2 : World} (h : RdOut p w w1) (k : RdOut p w1 w2) : RdOut p w w2 := OutO.trans h k
theorem RdOut.below {p : Nat} {w w1 : World} (h : Below w.heap.size w w1) : RdOut p w w1 := OutO.of_below h
def NumV (x : Int) (v : Value) (w : World) : Prop := v = .int .u64 x
set_option maxHeartbeats 1000000 in
theorem rdnum_any (n : Nat) (hn : n ≤ 8) (p B : Nat) (l : List Int) (w : World) (hR : RdIs w p B l) :
    Calls Tryz.prog 132 #[.pointer (some ⟨p, 0, none⟩), .int .i64 n] w (RdP p B (rdN n l) NumV w) := by
  have HR := Lib.hid hR
  have ha := hR.all
  by_cases hk : n ≤ l.length
  · obtain ⟨e1, e2⟩ := rdN_ofB_yes hk
    have hx := isU_word (ha.take n) (by rw [List.length_take]; omega)
    have HA := Lib.hid (ha.take n)
    rw [e1]
    have E2 := Lib.hid e2
    have HN := Lib.hid hn
    clear e1 e2 hk hR ha hn hx
    go_enter Tryz.func132, Tryz.ntmps132
    go_wp2_with fail
    refine (take_any n p B l _ HR.out).mono ?_
    intro e w1 h1
    obtain ⟨v, rfl, ⟨A, c, rfl, hs, hl⟩, h2, h3⟩ := h1.yes E2.out
    have H2 := Lib.hid h2
    have H3 := Lib.hid h3
    have HC := Lib.hid (word_yes A (l.take n) n c w1 hs.sl hl HA.out HN.out)
    clear h1 h2 h3 hs hl
    go_wp2_with fail
    refine HC.out.mono ?_
    rintro e w2 ⟨rfl, rfl⟩
    go_wp2
    go_ret
    exact ⟨H3.out, _, rfl, rfl, H2.out⟩
  · obtain ⟨e1, e2⟩ := rdN_ofB_no hk
    rw [e1]
    have E2 := Lib.hid e2
    clear e1 e2 hk hR ha hn
    go_enter Tryz.func132, Tryz.ntmps132
    go_wp2_with fail
    refine (take_any n p B l _ HR.out).mono ?_
    intro e w1 h1
    obtain ⟨rfl, h3⟩ := h1.no E2.out
    exact ⟨rfl, h3, rfl⟩
end Go.Proofs.YtmpieeadkkeniaaGreatDoor
namespace Go.Proofs.YtmpieeadkkeniaaGreatDoor
set_option maxRecDepth 100000
open Go.RowKit
set_option linter.unusedVariables false
def IntV (x : Int) (v : Value) (w : World) : Prop := v = .int .i64 x
def W32V (x : Int) (v : Value) (w : World) : Prop := v = .int .u32 x
def StrV (s : ByteArray) (v : Value) (w : World) : Prop := v = .string s
theorem rdN_bd {n : Nat} {l l' : List Int} {x : Int} (hn : n ≤ 8) (ha : AllB l) (h : rdN n l = some (x, l')) : 0 ≤ x ∧ x < 256 ^ n := by
  have := rdN_back hn ha h
  exact ⟨this.2.2.1.1, this.2.2.2.1⟩
theorem count_any (p B : Nat) (l : List Int) (w : World) (hR : RdIs w p B l) :
    Calls Tryz.prog 108 #[.pointer (some ⟨p, 0, none⟩)] w (RdP p B (rdN 2 l) IntV w) := by
  have HR := Lib.hid hR
  have HA := Lib.hid hR.all
  have HC := Lib.hid (fun w (h : RdIs w p B l) => rdnum_any 2 (by omega) p B l w h)
  clear hR
  cases hr : rdN 2 l with
  | none =>
    have E := Lib.hid hr
    clear hr
    go_enter Tryz.func108, Tryz.ntmps108
    go_wp2_with fail
    refine (HC.out _ HR.out).mono ?_
    intro e w1 h1
    obtain ⟨rfl, h3⟩ := h1.no E.out
    exact ⟨rfl, h3, rfl⟩
  | some xl =>
    obtain ⟨x, l'⟩ := xl
    have hb := rdN_bd (by omega) HA.out hr
    have hb1 : x < 65536 := hb.2
    have hb0 := hb.1
    have E := Lib.hid hr
    clear hr hb
    go_enter Tryz.func108, Tryz.ntmps108
    go_wp2_with fail
    refine (HC.out _ HR.out).mono ?_
    intro e w1 h1
    obtain ⟨v, rfl, rfl, h2, h3⟩ := h1.yes E.out
    have H2 := Lib.hid h2
    have H3 := Lib.hid h3
    clear h1 h2 h3
    go_wp2
    go_ret
    exact ⟨H3.out, _, rfl, rfl, H2.out⟩
theorem small_any (p B : Nat) (l : List Int) (w : World) (hR : RdIs w p B l) :
    Calls Tryz.prog 134 #[.pointer (some ⟨p, 0, none⟩)] w (RdP p B (rdN 1 l) IntV w) := by
  have HR := Lib.hid hR
  have HA := Lib.hid hR.all
  have HC := Lib.hid (fun w (h : RdIs w p B l) => rdnum_any 1 (by omega) p B l w h)
  clear hR
  cases hr : rdN 1 l with
  | none =>
    have E := Lib.hid hr
    clear hr
    go_enter Tryz.func134, Tryz.ntmps134
    go_wp2_with fail
    refine (HC.out _ HR.out).mono ?_
    intro e w1 h1
    obtain ⟨rfl, h3⟩ := h1.no E.out
    exact ⟨rfl, h3, rfl⟩
  | some xl =>
    obtain ⟨x, l'⟩ := xl
    have hb := rdN_bd (by omega) HA.out hr
    have hb1 : x < 256 := hb.2
    have hb0 := hb.1
    have E := Lib.hid hr
    clear hr hb
    go_enter Tryz.func134, Tryz.ntmps134
    go_wp2_with fail
    refine (HC.out _ HR.out).mono ?_
    intro e w1 h1
    obtain ⟨v, rfl, rfl, h2, h3⟩ := h1.yes E.out
    have H2 := Lib.hid h2
    have H3 := Lib.hid h3
    clear h1 h2 h3
    go_wp2
    go_ret
    exact ⟨H3.out, _, rfl, rfl, H2.out⟩
theorem offset_any (p B : Nat) (l : List Int) (w : World) (hR : RdIs w p B l) :
    Calls Tryz.prog 135 #[.pointer (some ⟨p, 0, none⟩)] w (RdP p B (rdN 4 l) IntV w) := by
  have HR := Lib.hid hR
  have HA := Lib.hid hR.all
  have HC := Lib.hid (fun w (h : RdIs w p B l) => rdnum_any 4 (by omega) p B l w h)
  clear hR
  cases hr : rdN 4 l with
  | none =>
    have E := Lib.hid hr
    clear hr
    go_enter Tryz.func135, Tryz.ntmps135
    go_wp2_with fail
    refine (HC.out _ HR.out).mono ?_
    intro e w1 h1
    obtain ⟨rfl, h3⟩ := h1.no E.out
    exact ⟨rfl, h3, rfl⟩
  | some xl =>
    obtain ⟨x, l'⟩ := xl
    have hb := rdN_bd (by omega) HA.out hr
    have hb1 : x < 4294967296 := hb.2
    have hb0 := hb.1
    have E := Lib.hid hr
    clear hr hb
    go_enter Tryz.func135, Tryz.ntmps135
    go_wp2_with fail
    refine (HC.out _ HR.out).mono ?_
    intro e w1 h1
    obtain ⟨v, rfl, rfl, h2, h3⟩ := h1.yes E.out
    have H2 := Lib.hid h2
    have H3 := Lib.hid h3
    clear h1 h2 h3
    go_wp2
    go_ret
    exact ⟨H3.out, _, rfl, rfl, H2.out⟩
theorem instr_any (p B : Nat) (l : List Int) (w : World) (hR : RdIs w p B l) :
    Calls Tryz.prog 110 #[.pointer (some ⟨p, 0, none⟩)] w (RdP p B (rdN 4 l) W32V w) := by
  have HR := Lib.hid hR
  have HA := Lib.hid hR.all
  have HC := Lib.hid (fun w (h : RdIs w p B l) => rdnum_any 4 (by omega) p B l w h)
  clear hR
  cases hr : rdN 4 l with
  | none =>
    have E := Lib.hid hr
    clear hr
    go_enter Tryz.func110, Tryz.ntmps110
    go_wp2_with fail
    refine (HC.out _ HR.out).mono ?_
    intro e w1 h1
    obtain ⟨rfl, h3⟩ := h1.no E.out
    exact ⟨rfl, h3, rfl⟩
  | some xl =>
    obtain ⟨x, l'⟩ := xl
    have hb := rdN_bd (by omega) HA.out hr
    have hb1 : x < 4294967296 := hb.2
    have hb0 := hb.1
    have E := Lib.hid hr
    clear hr hb
    go_enter Tryz.func110, Tryz.ntmps110
    go_wp2_with fail
    refine (HC.out _ HR.out).mono ?_
    intro e w1 h1
    obtain ⟨v, rfl, rfl, h2, h3⟩ := h1.yes E.out
    have H2 := Lib.hid h2
    have H3 := Lib.hid h3
    clear h1 h2 h3
    go_wp2
    go_ret
    exact ⟨H3.out, _, rfl, rfl, H2.out⟩
theorem rdword_any (p B : Nat) (l : List Int) (w : World) (hR : RdIs w p B l) :
    Calls Tryz.prog 112 #[.pointer (some ⟨p, 0, none⟩)] w (RdP p B (rdN 8 l) NumV w) := by
  have HR := Lib.hid hR
  have HA := Lib.hid hR.all
  have HC := Lib.hid (fun w (h : RdIs w p B l) => rdnum_any 8 (by omega) p B l w h)
  clear hR
  cases hr : rdN 8 l with
  | none =>
    have E := Lib.hid hr
    clear hr
    go_enter Tryz.func112, Tryz.ntmps112
    go_wp2_with fail
    refine (HC.out _ HR.out).mono ?_
    intro e w1 h1
    obtain ⟨rfl, h3⟩ := h1.no E.out
    exact ⟨rfl, h3, rfl⟩
  | some xl =>
    obtain ⟨x, l'⟩ := xl
    have hb := rdN_bd (by omega) HA.out hr
    have hb1 : x < 18446744073709551616 := hb.2
    have hb0 := hb.1
    have E := Lib.hid hr
    clear hr hb
    go_enter Tryz.func112, Tryz.ntmps112
    go_wp2_with fail
    refine (HC.out _ HR.out).mono ?_
    intro e w1 h1
    obtain ⟨v, rfl, rfl, h2, h3⟩ := h1.yes E.out
    have H2 := Lib.hid h2
    have H3 := Lib.hid h3
    clear h1 h2 h3
    go_wp2
    go_ret
    exact ⟨H3.out, _, rfl, rfl, H2.out⟩
theorem str_sl {w : World} {A : Option Addr} {x : List Int} {k c : Nat} (hs : Sl w A x) (hl : x.length = k) (ha : AllB x) : (convert 31 9 (.slice A k c)).run Tryz.prog w = .ok (.string (toBA x)) w := by
  subst hl
  rcases hs with e | ⟨b, o, e, hc⟩
  · subst e
    rcases A with _ | a
    · rw [run_convert_bytes_string w 31 9 5 none _ c Tryz.underlying31 Tryz.underlying5 Tryz.underlying9]
      simp [Conv.bytesToString, toBA]
      rfl
    · exact run_convert_bytes_back (P := Tryz.prog) w 31 9 5 a c [] Tryz.underlying31 Tryz.underlying5 Tryz.underlying9 (fun j hj => by simp at hj)
  · subst e
    have h := run_convert_bytes_back (P := Tryz.prog) w 31 9 5 ⟨b, o, none⟩ c (x.map (fun x => UInt8.ofNat x.toNat)) Tryz.underlying31 Tryz.underlying5 Tryz.underlying9 (fun j hj => by
      have hj' : j < x.length := by simpa using hj
      rw [addO, hc j hj', List.getElem_map, nth_get hj']
      have := ha _ (List.getElem_mem hj')
      congr 2
      simp
      omega)
    rw [List.length_map] at h
    exact h
set_option maxHeartbeats 1000000 in
theorem rdname_any (p B : Nat) (l : List Int) (w : World) (hR : RdIs w p B l) :
    Calls Tryz.prog 133 #[.pointer (some ⟨p, 0, none⟩)] w (RdP p B (rdName l) StrV w) := by
  have HR := Lib.hid hR
  have HA := Lib.hid hR.all
  clear hR
  cases hr : rdN 1 l with
  | none =>
    have HN := Lib.hid (show rdName l = none from rdBind_no hr)
    have E := Lib.hid hr
    clear hr
    go_enter Tryz.func133, Tryz.ntmps133
    go_wp2_with fail
    refine (small_any p B l _ HR.out).mono ?_
    intro e w1 h1
    obtain ⟨rfl, h3⟩ := h1.no E.out
    exact ⟨rfl, RdP.mkNo HN.out h3⟩
  | some xl =>
    obtain ⟨x, l1⟩ := xl
    have hb := rdN_back (by omega) HA.out hr
    have hx := hb.2.2.1.1
    obtain ⟨k, rfl⟩ := Int.eq_ofNat_of_zero_le hx
    have HA1 := Lib.hid hb.2.1
    have hnm : rdName l = rdBind (rdB k) (fun l => rdRet (toBA l)) l1 := by unfold rdName; rw [rdBind_at hr]; rfl
    have E := Lib.hid hr
    clear hb hx
    cases hr2 : rdB k l1 with
    | none =>
      have HN := Lib.hid (hnm.trans (rdBind_no hr2))
      have E2 := Lib.hid hr2
      clear hr hr2 hnm
      go_enter Tryz.func133, Tryz.ntmps133
      go_wp2_with fail
      refine (small_any p B l _ HR.out).mono ?_
      intro e w1 h1
      obtain ⟨v, rfl, rfl, h2, h3⟩ := h1.yes E.out
      have H2 := Lib.hid h2
      have H3 := Lib.hid h3
      clear h1 h2 h3
      go_wp2_with fail
      refine (take_any k p B l1 _ H2.out).mono ?_
      intro e w2 h1
      obtain ⟨rfl, h3⟩ := h1.no E2.out
      exact ⟨rfl, RdP.mkNo HN.out (H3.out.trans h3)⟩
    | some xl2 =>
      obtain ⟨x, l2⟩ := xl2
      have HN := Lib.hid (hnm.trans (rdBind_at hr2))
      have hax : AllB x := by
        unfold rdB at hr2
        split at hr2
        · simp only [Option.some.injEq, Prod.mk.injEq] at hr2
          rw [← hr2.1]; exact HA1.out.take k
        · cases hr2
      have HX := Lib.hid hax
      have E2 := Lib.hid hr2
      clear hr hr2 hnm hax
      go_enter Tryz.func133, Tryz.ntmps133
      go_wp2_with fail
      refine (small_any p B l _ HR.out).mono ?_
      intro e w1 h1
      obtain ⟨v, rfl, rfl, h2, h3⟩ := h1.yes E.out
      have H2 := Lib.hid h2
      have H3 := Lib.hid h3
      clear h1 h2 h3
      go_wp2_with fail
      refine (take_any k p B l1 _ H2.out).mono ?_
      intro e w2 h1
      obtain ⟨v, rfl, ⟨A, c, rfl, hs, hl⟩, h2, h3⟩ := h1.yes E2.out
      have H4 := Lib.hid h2
      have H5 := Lib.hid (H3.out.trans h3)
      have hcv := str_sl (c := c) hs.sl hl HX.out
      clear h1 h2 h3 hs hl
      go_wp2
      go_ret
      exact RdP.mkYes HN.out H5.out rfl H4.out
end Go.Proofs.YtmpieeadkkeniaaGreatDoor
namespace Go.Proofs.YtmpieeadkkeniaaGreatDoor
set_option maxRecDepth 100000
open Go.RowKit
set_option linter.unusedVariables false
/-- cells that lie in a block from lo on, below hi -/
def RowC (w : World) (lo hi : Nat) (A : Option Addr) (cs : List Value) : Prop := cs = [] ∨ ∃ b o, A = some ⟨b, o, none⟩ ∧ lo ≤ b ∧ b < hi ∧ ∀ j v, cs[j]? = some v → w.cell? ⟨b, o + j, none⟩ = some v
theorem RowC.of_own {w : World} {base sz n c : Nat} {ty : TypeId} {A : Option Addr} {cs : List Value} (h : w.ownsRow base ty sz (.slice A n c) n cs) : RowC w base w.heap.size A cs := by
  by_cases e : cs = []
  · exact .inl e
  rcases h.2 with ⟨h1, h2⟩ | ⟨g, cap, cur, h1, h2, h3, _⟩
  · exact absurd (List.eq_nil_of_length_eq_zero (by rw [h.1, h2, Nat.zero_mul])) e
  · cases h1
    refine .inr ⟨g, 0, rfl, h2, (Array.getElem?_eq_some_iff.1 h3).1, fun j v hj => ?_⟩
    have := h.cells (g := g) rfl j v hj
    rwa [addO] at this
theorem rdL_fail {α : Type} {f : Rd α} {l : List Int} {k : Nat} (h : rdL f k l = none) : ∀ n, k ≤ n → rdL f n l = none := by
  intro n hn
  induction n with
  | zero => have : k = 0 := by omega
            subst this; exact h
  | succ n ih =>
    by_cases e : k = n + 1
    · subst e; exact h
    · rw [rdL_snoc]; exact rdBind_no (ih (by omega))
theorem rdL_stop {α : Type} {f : Rd α} {l r : List Int} {k n : Nat} {xs : List α} (h : rdL f k l = some (xs, r)) (hf : f r = none) (hn : k < n) : rdL f n l = none :=
  rdL_fail (k := k + 1) (by rw [rdL_snoc, rdBind_at h]; exact rdBind_no hf) n hn
theorem rdL_go {α : Type} {f : Rd α} {l r r' : List Int} {k : Nat} {xs : List α} {x : α} (h : rdL f k l = some (xs, r)) (hf : f r = some (x, r')) : rdL f (k + 1) l = some (xs ++ [x], r') := by
  rw [rdL_snoc, rdBind_at h, rdBind_at hf]; rfl
theorem news_at {w w2 : World} {cs : List Value} {ty : TypeId} (e : w2 = w.alloc (.cells cs.toArray ty)) : ∀ j u, cs[j]? = some u → w2.cell? ((⟨w.heap.size, 0, none⟩ : Addr).add j) = some u := by
  intro j u hu
  subst e
  rw [addO]
  have h1 : (w.alloc (.cells cs.toArray ty)).heap[w.heap.size]? = some (.cells cs.toArray ty) := heap_alloc_new w _
  have := cell_of_row (w.alloc (.cells cs.toArray ty)) w.heap.size (0 + j) _ _ _ h1
  rw [this]
  simpa using hu
theorem OutO.rowKept {w w' : World} {p base sz n : Nat} {ty : TypeId} {v : Value} {cs : List Value} (h : w.ownsRow base ty sz v n cs) (ho : RdOut p w w') (hp : p < base) : w'.ownsRow base ty sz v n cs := by
  refine ⟨h.1, ?_⟩
  rcases h.2 with h | ⟨g, cap, cur, rfl, h1, h2, h3⟩
  · exact .inl h
  · exact .inr ⟨g, cap, cur, rfl, h1, by rw [ho.block g (Array.getElem?_eq_some_iff.1 h2).1 (by omega)]; exact h2, h3⟩
theorem RdOut.grown {p : Nat} {w w1 w2 : World} {row : Option Nat} (h : RdOut p w w1) (hg : w1.grownBy w2 row) (hr : ∀ g, row = some g → w.heap.size ≤ g) : RdOut p w w2 :=
  ⟨hg.os.trans h.os, hg.tape.trans h.tape, hg.output.trans h.output, Nat.le_trans h.size hg.size, fun k hk hn => by
    rw [hg.block k (Nat.lt_of_lt_of_le hk h.size) (fun e => by have := hr k e.symm; omega)]; exact h.block k hk hn⟩
theorem own_ge {w : World} {base sz n : Nat} {ty : TypeId} {v : Value} {cs : List Value} (h : w.ownsRow base ty sz v n cs) : ∀ g, v.ownBlock = some g → base ≤ g := fun g hg => (ownO_lt h hg).2.1
/-- what a list of elements is read as: a row of their cells -/
def LisV {α : Type} (enc : α → List Value) (w : World) (n : Nat) (xs : List α) (v : Value) (w' : World) : Prop := ∃ A c, v = .slice A n c ∧ xs.length = n ∧ RowC w' w.heap.size w'.heap.size A (xs.flatMap enc)
def LstR {α : Type} (w : World) (p B : Nat) (l0 : List Int) (f : Rd α) (ty : TypeId) (enc : α → List Value) (sz : Nat) (k : Nat) (v : Value) (wr : World) : Prop :=
  ∃ xs l, rdL f k l0 = some (xs, l) ∧ RdIs wr p B l ∧ RdOut p w wr ∧ wr.ownsRow w.heap.size ty sz v k (xs.flatMap enc) ∧ xs.length = k
theorem LstR.start {α : Type} {w : World} {p B : Nat} {l0 : List Int} {f : Rd α} {ty : TypeId} {enc : α → List Value} {sz : Nat} (h : RdIs w p B l0) : LstR w p B l0 f ty enc sz 0 (.slice none 0 0) w :=
  ⟨[], l0, rfl, h, OutO.refl _ _, World.ownsRow_nil w _ _ _, rfl⟩
theorem LstR.next {α : Type} {w w1 w2 w3 : World} {p B : Nat} {l0 : List Int} {f : Rd α} {ty : TypeId} {enc : α → List Value} {sz k : Nat} {v v' : Value} {xs : List α} {r r' : List Int} {x : α}
    (h1 : rdL f k l0 = some (xs, r)) (hf : f r = some (x, r')) (hl : xs.length = k) (ho : RdOut p w w1) (hR : RdIs w1 p B r')
    (hown : w1.ownsRow w.heap.size ty sz v k (xs.flatMap enc)) (hp : p < B) (hB : B ≤ w.heap.size)
    (hb : Below w1.heap.size w1 w2) (hr : w3.ownsRow w.heap.size ty sz v' (k + 1) (xs.flatMap enc ++ enc x)) (hg : w2.grownBy w3 v.ownBlock) : LstR w p B l0 f ty enc sz (k + 1) v' w3 := by
  have hge := own_ge hown
  refine ⟨xs ++ [x], r', rdL_go h1 hf, (hR.below hb).grown hg (fun g e => Nat.le_trans hB (hge g e)), (ho.trans (RdOut.below hb)).grown hg hge, ?_, by simp [hl]⟩
  rw [List.flatMap_append, List.flatMap_cons, List.flatMap_nil, List.append_nil]
  exact hr
def encI64 (x : Int) : List Value := [.int .i64 x]
def encU32 (x : Int) : List Value := [.int .u32 x]
def encU64 (x : Int) : List Value := [.int .u64 x]

theorem info_small : (Tryz.prog.info? 3).map (fun i => (i.zero, i.size, i.bytes)) = some (some (.int .i64 0), 1, 8) := by kernel_rfl
set_option maxHeartbeats 1000000 in
theorem list_small (n : Nat) (hn : n ≤ 1000000) (p B : Nat) (l : List Int) (w : World) (hR : RdIs w p B l) :
    Calls Tryz.prog 107 #[.int .i64 n, .func (Fn.func 134) #[.pointer (some ⟨p, 0, none⟩)] #[]] w (RdP p B (rdL (rdN 1) n l) (LisV encI64 w n) w) := by
  have HR := Lib.hid hR
  have HP := Lib.hid hR.lt
  clear hR
  obtain ⟨i0, hi, hz0, hz1, hz2⟩ := info_parts info_small
  go_enter Tryz.func107, Tryz.ntmps107
  go_wp2
  have hat : LstR w p B l (rdN 1) 3 encI64 1 0 (.slice none 0 0) w := LstR.start HR.out
  go_loopw [5, 7] (fun v i wr => ∃ k : Nat, k ≤ n ∧ i = .int .i64 k ∧ LstR w p B l (rdN 1) 3 encI64 1 k v wr) (fun _ i _ => n - (intOf i).toNat)
  case atStart => exact ⟨0, by omega, rfl, hat⟩
  case round =>
    obtain ⟨k, hk, rfl, he⟩ := hrel
    clear hat
    obtain ⟨xs, r, hrd, hRI, hout, hown, hlen⟩ := he
    have HRd := Lib.hid hrd
    have HRI := Lib.hid hRI
    have HOut := Lib.hid hout
    have HOwn := Lib.hid hown
    have HLen := Lib.hid hlen
    clear hrd hRI hout hown hlen
    by_cases hlt : k < n
    · have k0 : (0 : Int) ≤ k := by omega
      have k1 : (k : Int) < n := by omega
      cases hf : (rdN 1) r with
      | none =>
        have HF := Lib.hid hf
        have HN := Lib.hid (rdL_stop HRd.out hf hlt)
        clear hf
        go_wp2_with fail
        refine (small_any p B r _ HRI.out).mono ?_
        intro e w1 h1
        obtain ⟨rfl, h3⟩ := h1.no HF.out
        exact ⟨rfl, RdP.mkNo HN.out (HOut.out.trans h3)⟩
      | some xr =>
        obtain ⟨x, r'⟩ := xr
        have HF := Lib.hid hf
        clear hf
        go_wp2_with fail
        refine (small_any p B r _ HRI.out).mono ?_
        intro e w1 h1
        obtain ⟨v, rfl, rfl, h2, h3⟩ := h1.yes HF.out
        have H2 := Lib.hid h2
        have H3 := Lib.hid (HOut.out.trans h3)
        have HO1 := Lib.hid (OutO.rowKept HOwn.out h3 (by have := HP.out; omega))
        clear h1 h2 h3
        have HM := Lib.hid (show k + 1 ≤ maxLen by unfold maxLen; omega)
        have HB := Lib.hid (show (k + 1) * 8 ≤ 140737488355328 by omega)
        have HL1 := Lib.hid (show (encI64 x).length = 1 * 1 from rfl)
        have H1c := Lib.hid (show ∀ u ∈ encI64 x, u.oneCell' = true from fun u hu => by unfold encI64 at hu; simp only [List.mem_singleton] at hu; subst hu; rfl)
        have HBl := Lib.hid ((Below.refl w1.heap.size w1).alloc (Nat.le_refl _) (.cells #[.int .i64 x] 3))
        have HZ := Lib.hid (show w.heap.size ≤ (w1.alloc (.cells #[.int .i64 x] 3)).heap.size by (have := H3.out.size; simp; omega))
        have HN := Lib.hid (news_at (w := w1) (w2 := w1.alloc (.cells #[.int .i64 x] 3)) (cs := encI64 x) (ty := 3) rfl)
        have HO2 := Lib.hid (rowO_below HO1.out HBl.out)
        go_wp2_with (at_builtin; (refine wpList_append_at6 rfl _ _ 50 rfl w.heap.size 3 i0 (.int .i64 0) 1 8 Tryz.underlying50 hi hz0 hz1 hz2 rfl (by decide) u5 k (xs.flatMap encI64) ?hs HO2.out ⟨w1.heap.size, 0, none⟩ 1 1 (encI64 x) ?hx HL1.out HN.out H1c.out HM.out HB.out HZ.out ?_; (case hs => rfl); (case hx => rfl); intro v' w3 hr hg hv'; have HK := Lib.hid (LstR.next HRd.out HF.out HLen.out H3.out H2.out HO1.out HP.out.1 HP.out.2 HBl.out hr hg); clear hr hg hv'))
        go_roundw
        case rel => exact ⟨k + 1, by omega, by go_num, HK.out⟩
        case measure => simp [intOf]; omega
    · have hkn : k = n := by omega
      have k1 : ¬ (k : Int) < n := by omega
      have HKN := Lib.hid hkn
      obtain ⟨A, c, rfl⟩ := ownO_slice HOwn.out
      clear hkn hlt
      go_wp2
      go_ret
      exact RdP.mkYes (x := xs) (l' := r) (by rw [← HKN.out]; exact HRd.out) HOut.out ⟨A, c, by rw [HKN.out]; rfl, by rw [← HKN.out]; exact HLen.out, RowC.of_own HOwn.out⟩ HRI.out

set_option maxHeartbeats 1000000 in
theorem list_count (n : Nat) (hn : n ≤ 1000000) (p B : Nat) (l : List Int) (w : World) (hR : RdIs w p B l) :
    Calls Tryz.prog 107 #[.int .i64 n, .func (Fn.func 108) #[.pointer (some ⟨p, 0, none⟩)] #[]] w (RdP p B (rdL (rdN 2) n l) (LisV encI64 w n) w) := by
  have HR := Lib.hid hR
  have HP := Lib.hid hR.lt
  clear hR
  obtain ⟨i0, hi, hz0, hz1, hz2⟩ := info_parts info_small
  go_enter Tryz.func107, Tryz.ntmps107
  go_wp2
  have hat : LstR w p B l (rdN 2) 3 encI64 1 0 (.slice none 0 0) w := LstR.start HR.out
  go_loopw [5, 7] (fun v i wr => ∃ k : Nat, k ≤ n ∧ i = .int .i64 k ∧ LstR w p B l (rdN 2) 3 encI64 1 k v wr) (fun _ i _ => n - (intOf i).toNat)
  case atStart => exact ⟨0, by omega, rfl, hat⟩
  case round =>
    obtain ⟨k, hk, rfl, he⟩ := hrel
    clear hat
    obtain ⟨xs, r, hrd, hRI, hout, hown, hlen⟩ := he
    have HRd := Lib.hid hrd
    have HRI := Lib.hid hRI
    have HOut := Lib.hid hout
    have HOwn := Lib.hid hown
    have HLen := Lib.hid hlen
    clear hrd hRI hout hown hlen
    by_cases hlt : k < n
    · have k0 : (0 : Int) ≤ k := by omega
      have k1 : (k : Int) < n := by omega
      cases hf : (rdN 2) r with
      | none =>
        have HF := Lib.hid hf
        have HN := Lib.hid (rdL_stop HRd.out hf hlt)
        clear hf
        go_wp2_with fail
        refine (count_any p B r _ HRI.out).mono ?_
        intro e w1 h1
        obtain ⟨rfl, h3⟩ := h1.no HF.out
        exact ⟨rfl, RdP.mkNo HN.out (HOut.out.trans h3)⟩
      | some xr =>
        obtain ⟨x, r'⟩ := xr
        have HF := Lib.hid hf
        clear hf
        go_wp2_with fail
        refine (count_any p B r _ HRI.out).mono ?_
        intro e w1 h1
        obtain ⟨v, rfl, rfl, h2, h3⟩ := h1.yes HF.out
        have H2 := Lib.hid h2
        have H3 := Lib.hid (HOut.out.trans h3)
        have HO1 := Lib.hid (OutO.rowKept HOwn.out h3 (by have := HP.out; omega))
        clear h1 h2 h3
        have HM := Lib.hid (show k + 1 ≤ maxLen by unfold maxLen; omega)
        have HB := Lib.hid (show (k + 1) * 8 ≤ 140737488355328 by omega)
        have HL1 := Lib.hid (show (encI64 x).length = 1 * 1 from rfl)
        have H1c := Lib.hid (show ∀ u ∈ encI64 x, u.oneCell' = true from fun u hu => by unfold encI64 at hu; simp only [List.mem_singleton] at hu; subst hu; rfl)
        have HBl := Lib.hid ((Below.refl w1.heap.size w1).alloc (Nat.le_refl _) (.cells #[.int .i64 x] 3))
        have HZ := Lib.hid (show w.heap.size ≤ (w1.alloc (.cells #[.int .i64 x] 3)).heap.size by (have := H3.out.size; simp; omega))
        have HN := Lib.hid (news_at (w := w1) (w2 := w1.alloc (.cells #[.int .i64 x] 3)) (cs := encI64 x) (ty := 3) rfl)
        have HO2 := Lib.hid (rowO_below HO1.out HBl.out)
        go_wp2_with (at_builtin; (refine wpList_append_at6 rfl _ _ 50 rfl w.heap.size 3 i0 (.int .i64 0) 1 8 Tryz.underlying50 hi hz0 hz1 hz2 rfl (by decide) u5 k (xs.flatMap encI64) ?hs HO2.out ⟨w1.heap.size, 0, none⟩ 1 1 (encI64 x) ?hx HL1.out HN.out H1c.out HM.out HB.out HZ.out ?_; (case hs => rfl); (case hx => rfl); intro v' w3 hr hg hv'; have HK := Lib.hid (LstR.next HRd.out HF.out HLen.out H3.out H2.out HO1.out HP.out.1 HP.out.2 HBl.out hr hg); clear hr hg hv'))
        go_roundw
        case rel => exact ⟨k + 1, by omega, by go_num, HK.out⟩
        case measure => simp [intOf]; omega
    · have hkn : k = n := by omega
      have k1 : ¬ (k : Int) < n := by omega
      have HKN := Lib.hid hkn
      obtain ⟨A, c, rfl⟩ := ownO_slice HOwn.out
      clear hkn hlt
      go_wp2
      go_ret
      exact RdP.mkYes (x := xs) (l' := r) (by rw [← HKN.out]; exact HRd.out) HOut.out ⟨A, c, by rw [HKN.out]; rfl, by rw [← HKN.out]; exact HLen.out, RowC.of_own HOwn.out⟩ HRI.out

theorem info_u32 : (Tryz.prog.info? 43).map (fun i => (i.zero, i.size, i.bytes)) = some (some (.int .u32 0), 1, 4) := by kernel_rfl
set_option maxHeartbeats 1000000 in
theorem list_u32 (n : Nat) (hn : n ≤ 1000000) (p B : Nat) (l : List Int) (w : World) (hR : RdIs w p B l) :
    Calls Tryz.prog 109 #[.int .i64 n, .func (Fn.func 110) #[.pointer (some ⟨p, 0, none⟩)] #[]] w (RdP p B (rdL (rdN 4) n l) (LisV encU32 w n) w) := by
  have HR := Lib.hid hR
  have HP := Lib.hid hR.lt
  clear hR
  obtain ⟨i0, hi, hz0, hz1, hz2⟩ := info_parts info_u32
  go_enter Tryz.func109, Tryz.ntmps109
  go_wp2
  have hat : LstR w p B l (rdN 4) 43 encU32 1 0 (.slice none 0 0) w := LstR.start HR.out
  go_loopw [5, 7] (fun v i wr => ∃ k : Nat, k ≤ n ∧ i = .int .i64 k ∧ LstR w p B l (rdN 4) 43 encU32 1 k v wr) (fun _ i _ => n - (intOf i).toNat)
  case atStart => exact ⟨0, by omega, rfl, hat⟩
  case round =>
    obtain ⟨k, hk, rfl, he⟩ := hrel
    clear hat
    obtain ⟨xs, r, hrd, hRI, hout, hown, hlen⟩ := he
    have HRd := Lib.hid hrd
    have HRI := Lib.hid hRI
    have HOut := Lib.hid hout
    have HOwn := Lib.hid hown
    have HLen := Lib.hid hlen
    clear hrd hRI hout hown hlen
    by_cases hlt : k < n
    · have k0 : (0 : Int) ≤ k := by omega
      have k1 : (k : Int) < n := by omega
      cases hf : (rdN 4) r with
      | none =>
        have HF := Lib.hid hf
        have HN := Lib.hid (rdL_stop HRd.out hf hlt)
        clear hf
        go_wp2_with fail
        refine (instr_any p B r _ HRI.out).mono ?_
        intro e w1 h1
        obtain ⟨rfl, h3⟩ := h1.no HF.out
        exact ⟨rfl, RdP.mkNo HN.out (HOut.out.trans h3)⟩
      | some xr =>
        obtain ⟨x, r'⟩ := xr
        have HF := Lib.hid hf
        clear hf
        go_wp2_with fail
        refine (instr_any p B r _ HRI.out).mono ?_
        intro e w1 h1
        obtain ⟨v, rfl, rfl, h2, h3⟩ := h1.yes HF.out
        have H2 := Lib.hid h2
        have H3 := Lib.hid (HOut.out.trans h3)
        have HO1 := Lib.hid (OutO.rowKept HOwn.out h3 (by have := HP.out; omega))
        clear h1 h2 h3
        have HM := Lib.hid (show k + 1 ≤ maxLen by unfold maxLen; omega)
        have HB := Lib.hid (show (k + 1) * 4 ≤ 140737488355328 by omega)
        have HL1 := Lib.hid (show (encU32 x).length = 1 * 1 from rfl)
        have H1c := Lib.hid (show ∀ u ∈ encU32 x, u.oneCell' = true from fun u hu => by unfold encU32 at hu; simp only [List.mem_singleton] at hu; subst hu; rfl)
        have HBl := Lib.hid ((Below.refl w1.heap.size w1).alloc (Nat.le_refl _) (.cells #[.int .u32 x] 43))
        have HZ := Lib.hid (show w.heap.size ≤ (w1.alloc (.cells #[.int .u32 x] 43)).heap.size by (have := H3.out.size; simp; omega))
        have HN := Lib.hid (news_at (w := w1) (w2 := w1.alloc (.cells #[.int .u32 x] 43)) (cs := encU32 x) (ty := 43) rfl)
        have HO2 := Lib.hid (rowO_below HO1.out HBl.out)
        go_wp2_with (at_builtin; (refine wpList_append_at6 rfl _ _ 22 rfl w.heap.size 43 i0 (.int .u32 0) 1 4 Tryz.underlying22 hi hz0 hz1 hz2 rfl (by decide) u5 k (xs.flatMap encU32) ?hs HO2.out ⟨w1.heap.size, 0, none⟩ 1 1 (encU32 x) ?hx HL1.out HN.out H1c.out HM.out HB.out HZ.out ?_; (case hs => rfl); (case hx => rfl); intro v' w3 hr hg hv'; have HK := Lib.hid (LstR.next HRd.out HF.out HLen.out H3.out H2.out HO1.out HP.out.1 HP.out.2 HBl.out hr hg); clear hr hg hv'))
        go_roundw
        case rel => exact ⟨k + 1, by omega, by go_num, HK.out⟩
        case measure => simp [intOf]; omega
    · have hkn : k = n := by omega
      have k1 : ¬ (k : Int) < n := by omega
      have HKN := Lib.hid hkn
      obtain ⟨A, c, rfl⟩ := ownO_slice HOwn.out
      clear hkn hlt
      go_wp2
      go_ret
      exact RdP.mkYes (x := xs) (l' := r) (by rw [← HKN.out]; exact HRd.out) HOut.out ⟨A, c, by rw [HKN.out]; rfl, by rw [← HKN.out]; exact HLen.out, RowC.of_own HOwn.out⟩ HRI.out

theorem info_u64 : (Tryz.prog.info? 75).map (fun i => (i.zero, i.size, i.bytes)) = some (some (.int .u64 0), 1, 8) := by kernel_rfl
set_option maxHeartbeats 1000000 in
theorem list_u64 (n : Nat) (hn : n ≤ 1000000) (p B : Nat) (l : List Int) (w : World) (hR : RdIs w p B l) :
    Calls Tryz.prog 111 #[.int .i64 n, .func (Fn.func 112) #[.pointer (some ⟨p, 0, none⟩)] #[]] w (RdP p B (rdL (rdN 8) n l) (LisV encU64 w n) w) := by
  have HR := Lib.hid hR
  have HP := Lib.hid hR.lt
  clear hR
  obtain ⟨i0, hi, hz0, hz1, hz2⟩ := info_parts info_u64
  go_enter Tryz.func111, Tryz.ntmps111
  go_wp2
  have hat : LstR w p B l (rdN 8) 75 encU64 1 0 (.slice none 0 0) w := LstR.start HR.out
  go_loopw [5, 7] (fun v i wr => ∃ k : Nat, k ≤ n ∧ i = .int .i64 k ∧ LstR w p B l (rdN 8) 75 encU64 1 k v wr) (fun _ i _ => n - (intOf i).toNat)
  case atStart => exact ⟨0, by omega, rfl, hat⟩
  case round =>
    obtain ⟨k, hk, rfl, he⟩ := hrel
    clear hat
    obtain ⟨xs, r, hrd, hRI, hout, hown, hlen⟩ := he
    have HRd := Lib.hid hrd
    have HRI := Lib.hid hRI
    have HOut := Lib.hid hout
    have HOwn := Lib.hid hown
    have HLen := Lib.hid hlen
    clear hrd hRI hout hown hlen
    by_cases hlt : k < n
    · have k0 : (0 : Int) ≤ k := by omega
      have k1 : (k : Int) < n := by omega
      cases hf : (rdN 8) r with
      | none =>
        have HF := Lib.hid hf
        have HN := Lib.hid (rdL_stop HRd.out hf hlt)
        clear hf
        go_wp2_with fail
        refine (rdword_any p B r _ HRI.out).mono ?_
        intro e w1 h1
        obtain ⟨rfl, h3⟩ := h1.no HF.out
        exact ⟨rfl, RdP.mkNo HN.out (HOut.out.trans h3)⟩
      | some xr =>
        obtain ⟨x, r'⟩ := xr
        have HF := Lib.hid hf
        clear hf
        go_wp2_with fail
        refine (rdword_any p B r _ HRI.out).mono ?_
        intro e w1 h1
        obtain ⟨v, rfl, rfl, h2, h3⟩ := h1.yes HF.out
        have H2 := Lib.hid h2
        have H3 := Lib.hid (HOut.out.trans h3)
        have HO1 := Lib.hid (OutO.rowKept HOwn.out h3 (by have := HP.out; omega))
        clear h1 h2 h3
        have HM := Lib.hid (show k + 1 ≤ maxLen by unfold maxLen; omega)
        have HB := Lib.hid (show (k + 1) * 8 ≤ 140737488355328 by omega)
        have HL1 := Lib.hid (show (encU64 x).length = 1 * 1 from rfl)
        have H1c := Lib.hid (show ∀ u ∈ encU64 x, u.oneCell' = true from fun u hu => by unfold encU64 at hu; simp only [List.mem_singleton] at hu; subst hu; rfl)
        have HBl := Lib.hid ((Below.refl w1.heap.size w1).alloc (Nat.le_refl _) (.cells #[.int .u64 x] 75))
        have HZ := Lib.hid (show w.heap.size ≤ (w1.alloc (.cells #[.int .u64 x] 75)).heap.size by (have := H3.out.size; simp; omega))
        have HN := Lib.hid (news_at (w := w1) (w2 := w1.alloc (.cells #[.int .u64 x] 75)) (cs := encU64 x) (ty := 75) rfl)
        have HO2 := Lib.hid (rowO_below HO1.out HBl.out)
        go_wp2_with (at_builtin; (refine wpList_append_at6 rfl _ _ 23 rfl w.heap.size 75 i0 (.int .u64 0) 1 8 Tryz.underlying23 hi hz0 hz1 hz2 rfl (by decide) u5 k (xs.flatMap encU64) ?hs HO2.out ⟨w1.heap.size, 0, none⟩ 1 1 (encU64 x) ?hx HL1.out HN.out H1c.out HM.out HB.out HZ.out ?_; (case hs => rfl); (case hx => rfl); intro v' w3 hr hg hv'; have HK := Lib.hid (LstR.next HRd.out HF.out HLen.out H3.out H2.out HO1.out HP.out.1 HP.out.2 HBl.out hr hg); clear hr hg hv'))
        go_roundw
        case rel => exact ⟨k + 1, by omega, by go_num, HK.out⟩
        case measure => simp [intOf]; omega
    · have hkn : k = n := by omega
      have k1 : ¬ (k : Int) < n := by omega
      have HKN := Lib.hid hkn
      obtain ⟨A, c, rfl⟩ := ownO_slice HOwn.out
      clear hkn hlt
      go_wp2
      go_ret
      exact RdP.mkYes (x := xs) (l' := r) (by rw [← HKN.out]; exact HRd.out) HOut.out ⟨A, c, by rw [HKN.out]; rfl, by rw [← HKN.out]; exact HLen.out, RowC.of_own HOwn.out⟩ HRI.out
end Go.Proofs.YtmpieeadkkeniaaGreatDoor
namespace Go.Proofs.YtmpieeadkkeniaaGreatDoor
set_option maxRecDepth 100000
open Go.RowKit
set_option linter.unusedVariables false
def symA (s : SymD) : Array Value := #[.string s.1, .bool s.2.1, .int .i64 s.2.2.1, .bool s.2.2.2]
def SymV (s : SymD) (v : Value) (w : World) : Prop := v = .agg (symA s)
theorem RdIs.setNew {w : World} {p B b o : Nat} {l : List Int} {v : Value} (h : RdIs w p B l) (hb : B ≤ b) : RdIs (w.setCell ⟨b, o, none⟩ v) p B l :=
  h.grown (grown_setO w b o v) (fun g e => by cases e; exact hb)
theorem RdIs.alloc {w : World} {p B : Nat} {l : List Int} (h : RdIs w p B l) (o : Obj) : RdIs (w.alloc o) p B l := h.below ((Below.refl _ _).alloc (Nat.le_refl _) o)
theorem RdOut.setNew {p : Nat} {w w1 : World} {b o : Nat} {v : Value} (h : RdOut p w w1) (hb : w.heap.size ≤ b) : RdOut p w (w1.setCell ⟨b, o, none⟩ v) := h.grown (grown_setO w1 b o v) (fun g e => by cases e; exact hb)
theorem RdOut.alloc {p : Nat} {w w1 : World} (h : RdOut p w w1) (o : Obj) : RdOut p w (w1.alloc o) := h.trans (RdOut.below ((Below.refl _ _).alloc (Nat.le_refl _) o))
theorem RdOut.cellOf {p b : Nat} {w w1 : World} (h : RdOut p w w1) (hb : b < w.heap.size) (hp : b ≠ p) : ∀ o, w1.cell? ⟨b, o, none⟩ = w.cell? ⟨b, o, none⟩ := fun o => World.cell?_of_block (h.block b hb hp)
theorem RdOut.frozenOf {p b : Nat} {w w1 : World} (h : RdOut p w w1) (hb : b < w.heap.size) (hp : b ≠ p) : ∀ o, w1.frozen? ⟨b, o, none⟩ = w.frozen? ⟨b, o, none⟩ := fun o => World.frozen?_of_block (h.block b hb hp)
theorem setNew_row {w : World} {b c o : Nat} {v : Value} (h : b ≠ c) : (w.setCell ⟨c, o, none⟩ v).heap[b]? = w.heap[b]? := heap_setCell_other w _ b v (fun e => h e)
theorem fill4 {W : World} {b : Nat} {a0 a1 a2 a3 : Value} {T : TypeId} (h : W.heap[b]? = some (.cells #[a0, a1, a2, a3] T (0, 0))) (v0 v1 v2 v3 : Value) :
    ((((W.setCell ⟨b, 0, none⟩ v0).setCell ⟨b, 1, none⟩ v1).setCell ⟨b, 2, none⟩ v2).setCell ⟨b, 3, none⟩ v3).heap[b]? = some (.cells #[v0, v1, v2, v3] T (0, 0)) := by
  rw [heap_setCell_same _ b 3 _ _ _ (heap_setCell_same _ b 2 _ _ _ (heap_setCell_same _ b 1 _ _ _ (heap_setCell_same W b 0 _ _ _ h)))]
  rfl
theorem res_sym {T : Array Value} {b : Nat} {W : World} {v0 v1 v2 v3 : Value} (hT : T[2]? = some (.pointer (some ⟨b, 0, none⟩))) (h : W.heap[b]? = some (.cells #[v0, v1, v2, v3] 45 (0, 0))) :
    (results Tryz.f114 T).run Tryz.prog W = .ok (.agg #[v0, v1, v2, v3]) W := by
  have h0 := cell_of_row W b 0 _ _ _ h
  have h1 := cell_of_row W b 1 _ _ _ h
  have h2 := cell_of_row W b 2 _ _ _ h
  have h3 := cell_of_row W b 3 _ _ _ h
  simp only [List.getElem?_toArray, List.getElem?_cons_zero, List.getElem?_cons_succ] at h0 h1 h2 h3
  simp [results, Tryz.results114, go_sem, hT, h0, h1, h2, h3]
theorem mark1 {m : Int} (h0 : 0 ≤ m) (h1 : m ≤ 3) : (bits BinOp.and IntKind.i64 m 1 != 0) = decide (m % 2 = 1) := by
  rcases (by omega : m = 0 ∨ m = 1 ∨ m = 2 ∨ m = 3) with rfl | rfl | rfl | rfl <;> decide +kernel
theorem mark2 {m : Int} (h0 : 0 ≤ m) (h1 : m ≤ 3) : (bits BinOp.and IntKind.i64 m 2 != 0) = decide (m / 2 % 2 = 1) := by
  rcases (by omega : m = 0 ∨ m = 1 ∨ m = 2 ∨ m = 3) with rfl | rfl | rfl | rfl <;> decide +kernel
theorem RdOut.refl (p : Nat) (w : World) : RdOut p w w := OutO.refl _ w
set_option maxHeartbeats 2000000 in
theorem rdsym_any (p B : Nat) (l : List Int) (w : World) (hR : RdIs w p B l) :
    Calls Tryz.prog 114 #[.pointer (some ⟨p, 0, none⟩)] w (RdP p B (rdSym l) SymV w) := by
  have HR := Lib.hid hR
  have HL := Lib.hid hR.lt
  have HA := Lib.hid hR.all
  clear hR
  have HO0 := Lib.hid ((RdOut.refl p w).alloc (.cells #[.string ⟨#[]⟩, .bool false, .int .i64 0, .bool false] 45))
  have HZ := Lib.hid (show w.heap.size < (w.alloc (.cells #[.string ⟨#[]⟩, .bool false, .int .i64 0, .bool false] 45)).heap.size by simp)
  go_enter Tryz.func114, Tryz.ntmps114
  go_wp2_with fail
  refine (rdname_any p B l _ (HR.out.alloc _)).mono ?_
  intro e w1 h1
  cases hr1 : rdName l with
  | none =>
    obtain ⟨rfl, ho⟩ := h1.no hr1
    exact ⟨rfl, RdP.mkNo (rdBind_no hr1) (HO0.out.trans ho)⟩
  | some q =>
  obtain ⟨s, l1⟩ := q
  obtain ⟨v, rfl, rfl, h2, h3⟩ := h1.yes hr1
  have HS1 := Lib.hid hr1
  have HR1 := Lib.hid h2
  have HA1 := Lib.hid h2.all
  have HO1 := Lib.hid (HO0.out.trans h3)
  have c1 := h3.cellOf (b := w.heap.size) HZ.out (by have := HL.out; omega)
  have f1 := h3.frozenOf (b := w.heap.size) HZ.out (by have := HL.out; omega)
  have hz1 : w.heap.size < w1.heap.size := Nat.lt_of_lt_of_le HZ.out h3.size
  have HRow1 := Lib.hid ((h3.block w.heap.size HZ.out (by have := HL.out; omega)).trans (heap_alloc_new w _))
  clear h1 h2 h3 hr1
  go_wp2_with fail
  have HO1' := Lib.hid (HO1.out.alloc (.cells #[.string s, .bool false, .int .i64 0, .bool false] 45))
  have HZ1 := Lib.hid (show w1.heap.size < (w1.alloc (.cells #[.string s, .bool false, .int .i64 0, .bool false] 45)).heap.size by simp)
  refine (small_any p B l1 _ (HR1.out.alloc _)).mono ?_
  intro e w2 h1
  cases hr2 : rdN 1 l1 with
  | none =>
    obtain ⟨rfl, ho⟩ := h1.no hr2
    exact ⟨rfl, RdP.mkNo (by unfold rdSym; rw [rdBind_at HS1.out]; exact rdBind_no hr2) (HO1'.out.trans ho)⟩
  | some q =>
  obtain ⟨m, l2⟩ := q
  obtain ⟨v, rfl, rfl, h2, h3⟩ := h1.yes hr2
  have hm0 := (rdN_bd (by omega) HA1.out hr2).1
  have HS2 := Lib.hid hr2
  have HR2 := Lib.hid h2
  have HO2 := Lib.hid (HO1'.out.trans h3)
  have c2 := h3.cellOf (b := w1.heap.size) HZ1.out (by have := HL.out; omega)
  have f2 := h3.frozenOf (b := w1.heap.size) HZ1.out (by have := HL.out; omega)
  have d2 := h3.cellOf (b := w.heap.size) (Nat.lt_trans hz1 HZ1.out) (by have := HL.out; omega)
  have g2 := h3.frozenOf (b := w.heap.size) (Nat.lt_trans hz1 HZ1.out) (by have := HL.out; omega)
  have hz2 : w1.heap.size < w2.heap.size := Nat.lt_of_lt_of_le HZ1.out h3.size
  have hne : w.heap.size ≠ w1.heap.size := by omega
  have HRow2 := Lib.hid (((h3.block w.heap.size (Nat.lt_trans hz1 HZ1.out) (by have := HL.out; omega)).trans (heap_alloc_old (w := w1) _ hz1)).trans HRow1.out)
  clear h1 h2 h3 hr2
  by_cases hm : m ≤ 3
  case neg =>
    have hd : decide (m ≤ 3) = false := decide_eq_false hm
    have HM := Lib.hid (show ¬ m ≤ 3 from hm)
    go_wp2_with fail
    refine (want_no _).mono ?_
    rintro e w' ⟨rfl, rfl⟩
    exact ⟨rfl, RdP.mkNo (by unfold rdSym; rw [rdBind_at HS1.out, rdBind_at HS2.out, if_neg (by have := HM.out; omega)]) HO2.out⟩
  have HM := Lib.hid hm
  have HM0 := Lib.hid hm0
  go_wp2_with fail
  refine (want_yes _).mono ?_
  rintro e w' ⟨rfl, rfl⟩
  go_wp2_with fail
  have HO2' := Lib.hid ((HO2.out.setNew (b := w1.heap.size) (o := 1) (v := .bool (bits BinOp.and IntKind.i64 m 1 != 0)) (by omega)).setNew (b := w1.heap.size) (o := 3) (v := .bool (bits BinOp.and IntKind.i64 m 2 != 0)) (by omega))
  have HZ2 := Lib.hid (show w1.heap.size < ((w2.setCell ⟨w1.heap.size, 1, none⟩ (.bool (bits BinOp.and IntKind.i64 m 1 != 0))).setCell ⟨w1.heap.size, 3, none⟩ (.bool (bits BinOp.and IntKind.i64 m 2 != 0))).heap.size by simp; omega)
  refine (offset_any p B l2 _ ((HR2.out.setNew (by have := HL.out; omega)).setNew (by have := HL.out; omega))).mono ?_
  intro e w3 h1
  cases hr3 : rdN 4 l2 with
  | none =>
    obtain ⟨rfl, ho⟩ := h1.no hr3
    exact ⟨rfl, RdP.mkNo (by unfold rdSym; rw [rdBind_at HS1.out, rdBind_at HS2.out, if_pos HM.out]; exact rdBind_no hr3) (HO2'.out.trans ho)⟩
  | some q =>
  obtain ⟨o, l3⟩ := q
  obtain ⟨v, rfl, rfl, h2, h3⟩ := h1.yes hr3
  have HS3 := Lib.hid hr3
  have HR3 := Lib.hid h2
  have HO3 := Lib.hid (HO2'.out.trans h3)
  have c3 := h3.cellOf (b := w1.heap.size) HZ2.out (by have := HL.out; omega)
  have f3 := h3.frozenOf (b := w1.heap.size) HZ2.out (by have := HL.out; omega)
  have d3 := h3.cellOf (b := w.heap.size) (Nat.lt_trans hz1 HZ2.out) (by have := HL.out; omega)
  have g3 := h3.frozenOf (b := w.heap.size) (Nat.lt_trans hz1 HZ2.out) (by have := HL.out; omega)
  have HRow := Lib.hid (((h3.block w.heap.size (Nat.lt_trans hz1 HZ2.out) (by have := HL.out; omega)).trans ((setNew_row (by omega)).trans (setNew_row (by omega)))).trans HRow2.out)
  clear h1 h2 h3 hr3
  go_wp2
  have hrow : w3.heap[w.heap.size]? = some (.cells #[.string ⟨#[]⟩, .bool false, .int .i64 0, .bool false] 45 (0, 0)) := HRow.out
  have HW := Lib.hid (fill4 ((setNew_row (o := 2) (v := .int .i64 o) hne).trans hrow) (.string s) (.bool (bits BinOp.and IntKind.i64 m 1 != 0)) (.int .i64 o) (.bool (bits BinOp.and IntKind.i64 m 2 != 0)))
  clear hrow
  refine bodyPost_ret (res_sym (b := w.heap.size) ?hT HW.out) rfl ?_
  case hT => rfl
  refine RdP.mkYes (x := (s, decide (m % 2 = 1), o, decide (m / 2 % 2 = 1))) (l' := l3) (by unfold rdSym; rw [rdBind_at HS1.out, rdBind_at HS2.out, if_pos HM.out, rdBind_at HS3.out]; rfl) ?ho ?hv ?hr
  case ho => (repeat (first | with_reducible exact HO3.out | refine RdOut.setNew ?_ (by omega)))
  case hv => exact congrArg Value.agg (by unfold symA; rw [mark1 HM0.out HM.out, mark2 HM0.out HM.out])
  case hr => (repeat (first | with_reducible exact HR3.out | refine RdIs.setNew ?_ (by have := HL.out; omega)))
end Go.Proofs.YtmpieeadkkeniaaGreatDoor
namespace Go.Proofs.YtmpieeadkkeniaaGreatDoor
set_option maxRecDepth 100000
open Go.RowKit
set_option linter.unusedVariables false
def relA (s : RelD) : Array Value := #[.int .i64 s.1, .int .i64 s.2.1, .string s.2.2.1, .int .i64 s.2.2.2]
def RelV (s : RelD) (v : Value) (w : World) : Prop := v = .agg (relA s)
theorem res_rel {T : Array Value} {b : Nat} {W : World} {v0 v1 v2 v3 : Value} (hT : T[2]? = some (.pointer (some ⟨b, 0, none⟩))) (h : W.heap[b]? = some (.cells #[v0, v1, v2, v3] 42 (0, 0))) :
    (results Tryz.f116 T).run Tryz.prog W = .ok (.agg #[v0, v1, v2, v3]) W := by
  have h0 := cell_of_row W b 0 _ _ _ h
  have h1 := cell_of_row W b 1 _ _ _ h
  have h2 := cell_of_row W b 2 _ _ _ h
  have h3 := cell_of_row W b 3 _ _ _ h
  simp only [List.getElem?_toArray, List.getElem?_cons_zero, List.getElem?_cons_succ] at h0 h1 h2 h3
  simp [results, Tryz.results116, go_sem, hT, h0, h1, h2, h3]
/-- a row that a call of the reader's leaves alone -/
theorem RdOut.row {p b : Nat} {w w1 : World} {o : Obj} (h : RdOut p w w1) (hr : w.heap[b]? = some o) (hp : b ≠ p) : w1.heap[b]? = some o := (h.block b (Array.getElem?_eq_some_iff.1 hr).1 hp).trans hr
theorem row_cells4 {W : World} {b : Nat} {v0 v1 v2 v3 : Value} {T : TypeId} (h : W.heap[b]? = some (.cells #[v0, v1, v2, v3] T (0, 0))) : W.cell? ⟨b, 0, none⟩ = some v0 ∧ W.cell? ⟨b, 1, none⟩ = some v1 ∧ W.cell? ⟨b, 2, none⟩ = some v2 ∧ W.cell? ⟨b, 3, none⟩ = some v3 ∧ ∀ o, W.frozen? ⟨b, o, none⟩ = false := by
  have h0 := cell_of_row W b 0 _ _ _ h
  have h1 := cell_of_row W b 1 _ _ _ h
  have h2 := cell_of_row W b 2 _ _ _ h
  have h3 := cell_of_row W b 3 _ _ _ h
  simp only [List.getElem?_toArray, List.getElem?_cons_zero, List.getElem?_cons_succ] at h0 h1 h2 h3
  exact ⟨h0, h1, h2, h3, fun o => frozen_of_row W b o _ _ h⟩
abbrev relZ : Array Value := #[.int .i64 0, .int .i64 0, .string ⟨#[]⟩, .int .i64 0]
set_option maxHeartbeats 2000000 in
theorem rdrel_any (p B : Nat) (l : List Int) (w : World) (hR : RdIs w p B l) :
    Calls Tryz.prog 116 #[.pointer (some ⟨p, 0, none⟩)] w (RdP p B (rdRel l) RelV w) := by
  have HR := Lib.hid hR
  have HL := Lib.hid hR.lt
  have HA := Lib.hid hR.all
  clear hR
  have HO0 := Lib.hid (((RdOut.refl p w).alloc (.cells #[.int .i64 0, .int .i64 0, .string ⟨#[]⟩, .int .i64 0] 42)).alloc (.cells #[.int .i64 0, .int .i64 0, .string ⟨#[]⟩, .int .i64 0] 42))
  have HX := Lib.hid (show ((w.alloc (.cells #[.int .i64 0, .int .i64 0, .string ⟨#[]⟩, .int .i64 0] 42)).alloc (.cells #[.int .i64 0, .int .i64 0, .string ⟨#[]⟩, .int .i64 0] 42)).heap[w.heap.size]? = some (.cells #[.int .i64 0, .int .i64 0, .string ⟨#[]⟩, .int .i64 0] 42 (0, 0)) by exact (heap_alloc_old _ _ (by simp)).trans (heap_alloc_new w _))
  have HY := Lib.hid (show ((w.alloc (.cells #[.int .i64 0, .int .i64 0, .string ⟨#[]⟩, .int .i64 0] 42)).alloc (.cells #[.int .i64 0, .int .i64 0, .string ⟨#[]⟩, .int .i64 0] 42)).heap[w.heap.size + 1]? = some (.cells #[.int .i64 0, .int .i64 0, .string ⟨#[]⟩, .int .i64 0] 42 (0, 0)) by have h := heap_alloc_new (w.alloc (.cells #[.int .i64 0, .int .i64 0, .string ⟨#[]⟩, .int .i64 0] 42)) (.cells #[.int .i64 0, .int .i64 0, .string ⟨#[]⟩, .int .i64 0] 42); simpa using h)
  go_enter Tryz.func116, Tryz.ntmps116
  go_wp2_with fail
  refine (offset_any p B l _ ((HR.out.alloc _).alloc _)).mono ?_
  intro e w1 h1
  cases hr1 : rdN 4 l with
  | none =>
    obtain ⟨rfl, ho⟩ := h1.no hr1
    exact ⟨rfl, RdP.mkNo (rdBind_no hr1) (HO0.out.trans ho)⟩
  | some q =>
  obtain ⟨x1, l1⟩ := q
  obtain ⟨v, rfl, rfl, h2, h3⟩ := h1.yes hr1
  have HS1 := Lib.hid hr1
  have HR1 := Lib.hid h2
  have HO1 := Lib.hid (HO0.out.trans h3)
  have HX1 := Lib.hid (h3.row HX.out (by have := HL.out; omega))
  have HY1 := Lib.hid (h3.row HY.out (by have := HL.out; omega))
  have HYs := Lib.hid (heap_setCell_same w1 (w.heap.size + 1) 0 _ _ (.int .i64 x1) HY1.out)
  obtain ⟨c0, c1, c2, c3, fr⟩ := row_cells4 HY1.out
  clear h1 h2 h3 hr1
  go_wp2_with fail
  clear c0 c1 c2 c3 fr
  refine (small_any p B l1 _ (HR1.out.setNew (by have := HL.out; omega))).mono ?_
  intro e w2 h1
  cases hr2 : rdN 1 l1 with
  | none =>
    obtain ⟨rfl, ho⟩ := h1.no hr2
    exact ⟨rfl, RdP.mkNo (by unfold rdRel; rw [rdBind_at HS1.out]; exact rdBind_no hr2) ((HO1.out.setNew (by omega)).trans ho)⟩
  | some q =>
  obtain ⟨x2, l2⟩ := q
  obtain ⟨v, rfl, rfl, h2, h3⟩ := h1.yes hr2
  have HS2 := Lib.hid hr2
  have HR2 := Lib.hid h2
  have HO2 := Lib.hid ((HO1.out.setNew (by omega)).trans h3)
  have HX2 := Lib.hid (h3.row ((setNew_row (by omega)).trans HX1.out) (by have := HL.out; omega))
  have HY2 := Lib.hid (h3.row HYs.out (by have := HL.out; omega))
  obtain ⟨c0, c1, c2, c3, fr⟩ := row_cells4 (v0 := .int .i64 x1) (v1 := .int .i64 0) (v2 := .string ⟨#[]⟩) (v3 := .int .i64 0) HY2.out
  have HY2s := Lib.hid (heap_setCell_same w2 (w.heap.size + 1) 1 _ _ (.int .i64 x2) HY2.out)
  clear h1 h2 h3 hr2
  go_wp2_with fail
  clear c0 c1 c2 c3 fr
  refine (rdname_any p B l2 _ (HR2.out.setNew (by have := HL.out; omega))).mono ?_
  intro e w3 h1
  cases hr3 : rdName l2 with
  | none =>
    obtain ⟨rfl, ho⟩ := h1.no hr3
    exact ⟨rfl, RdP.mkNo (by unfold rdRel; rw [rdBind_at HS1.out, rdBind_at HS2.out]; exact rdBind_no hr3) ((HO2.out.setNew (by omega)).trans ho)⟩
  | some q =>
  obtain ⟨s, l3⟩ := q
  obtain ⟨v, rfl, rfl, h2, h3⟩ := h1.yes hr3
  have HS3 := Lib.hid hr3
  have HR3 := Lib.hid h2
  have HA3 := Lib.hid h2.all
  have HO3 := Lib.hid ((HO2.out.setNew (by omega)).trans h3)
  have HX3 := Lib.hid (h3.row ((setNew_row (by omega)).trans HX2.out) (by have := HL.out; omega))
  have HY3 := Lib.hid (h3.row HY2s.out (by have := HL.out; omega))
  obtain ⟨c0, c1, c2, c3, fr⟩ := row_cells4 (v0 := .int .i64 x1) (v1 := .int .i64 x2) (v2 := .string ⟨#[]⟩) (v3 := .int .i64 0) HY3.out
  have HY3s := Lib.hid (heap_setCell_same w3 (w.heap.size + 1) 2 _ _ (.string s) HY3.out)
  clear h1 h2 h3 hr3
  go_wp2_with fail
  clear c0 c1 c2 c3 fr
  refine (rdnum_any 8 (by omega) p B l3 _ (HR3.out.setNew (by have := HL.out; omega))).mono ?_
  intro e w4 h1
  cases hr4 : rdN 8 l3 with
  | none =>
    obtain ⟨rfl, ho⟩ := h1.no hr4
    exact ⟨rfl, RdP.mkNo (by unfold rdRel; rw [rdBind_at HS1.out, rdBind_at HS2.out, rdBind_at HS3.out]; exact rdBind_no hr4) ((HO3.out.setNew (by omega)).trans ho)⟩
  | some q =>
  obtain ⟨d, l4⟩ := q
  obtain ⟨v, rfl, rfl, h2, h3⟩ := h1.yes hr4
  have hu := (rdN_back (by omega) HA3.out hr4).2.2.1
  have hu0 := hu.1
  have hu1 := hu.2
  have HS4 := Lib.hid hr4
  have HR4 := Lib.hid h2
  have HO4 := Lib.hid ((HO3.out.setNew (by omega)).trans h3)
  have HX4 := Lib.hid (h3.row ((setNew_row (by omega)).trans HX3.out) (by have := HL.out; omega))
  have HY4 := Lib.hid (h3.row HY3s.out (by have := HL.out; omega))
  obtain ⟨c0, c1, c2, c3, fr⟩ := row_cells4 (v0 := .int .i64 x1) (v1 := .int .i64 x2) (v2 := .string s) (v3 := .int .i64 0) HY4.out
  have hx4 := row_cells4 HX4.out
  obtain ⟨d0, d1, d2, d3, gr⟩ := hx4
  clear h1 h2 h3 hr4 hu
  go_wp2
  have HW := Lib.hid (fill4 ((setNew_row (w := w4) (b := w.heap.size) (c := w.heap.size + 1) (o := 3) (v := .int .i64 (wrap64 d)) (by omega)).trans HX4.out) (.int .i64 x1) (.int .i64 x2) (.string s) (.int .i64 (wrap64 d)))
  refine bodyPost_ret (res_rel (b := w.heap.size) ?hT HW.out) rfl ?_
  case hT => rfl
  refine RdP.mkYes (x := (x1, x2, s, sg64 d)) (l' := l4) (by unfold rdRel; rw [rdBind_at HS1.out, rdBind_at HS2.out, rdBind_at HS3.out, rdBind_at HS4.out]; rfl) ?ho rfl ?hr
  case ho => (repeat (first | with_reducible exact HO4.out | refine RdOut.setNew ?_ (by omega)))
  case hr => (repeat (first | with_reducible exact HR4.out | refine RdIs.setNew ?_ (by have := HL.out; omega)))
end Go.Proofs.YtmpieeadkkeniaaGreatDoor
namespace Go.Proofs.YtmpieeadkkeniaaGreatDoor
set_option maxRecDepth 100000
open Go.RowKit
set_option linter.unusedVariables false
def encSym (s : SymD) : List Value := [.string s.1, .bool s.2.1, .int .i64 s.2.2.1, .bool s.2.2.2]
def encRel (s : RelD) : List Value := [.int .i64 s.1, .int .i64 s.2.1, .string s.2.2.1, .int .i64 s.2.2.2]

theorem info_sym : (Tryz.prog.info? 45).map (fun i => (i.zero, i.size, i.bytes)) = some (some (.agg #[.string ⟨#[]⟩, .bool false, .int .i64 0, .bool false]), 4, 40) := by kernel_rfl
set_option maxHeartbeats 1000000 in
theorem list_sym (n : Nat) (hn : n ≤ 1000000) (p B : Nat) (l : List Int) (w : World) (hR : RdIs w p B l) :
    Calls Tryz.prog 113 #[.int .i64 n, .func (Fn.func 114) #[.pointer (some ⟨p, 0, none⟩)] #[]] w (RdP p B (rdL rdSym n l) (LisV encSym w n) w) := by
  have HR := Lib.hid hR
  have HP := Lib.hid hR.lt
  clear hR
  obtain ⟨i0, hi, hz0, hz1, hz2⟩ := info_parts info_sym
  go_enter Tryz.func113, Tryz.ntmps113
  go_wp2
  have hat : LstR w p B l rdSym 45 encSym 4 0 (.slice none 0 0) w := LstR.start HR.out
  go_loopw [5, 7] (fun v i wr => ∃ k : Nat, k ≤ n ∧ i = .int .i64 k ∧ LstR w p B l rdSym 45 encSym 4 k v wr) (fun _ i _ => n - (intOf i).toNat)
  case atStart => exact ⟨0, by omega, rfl, hat⟩
  case round =>
    obtain ⟨k, hk, rfl, he⟩ := hrel
    clear hat
    obtain ⟨xs, r, hrd, hRI, hout, hown, hlen⟩ := he
    have HRd := Lib.hid hrd
    have HRI := Lib.hid hRI
    have HOut := Lib.hid hout
    have HOwn := Lib.hid hown
    have HLen := Lib.hid hlen
    clear hrd hRI hout hown hlen
    by_cases hlt : k < n
    · have k0 : (0 : Int) ≤ k := by omega
      have k1 : (k : Int) < n := by omega
      cases hf : rdSym r with
      | none =>
        have HF := Lib.hid hf
        have HN := Lib.hid (rdL_stop HRd.out hf hlt)
        clear hf
        go_wp2_with fail
        refine (rdsym_any p B r _ HRI.out).mono ?_
        intro e w1 h1
        obtain ⟨rfl, h3⟩ := h1.no HF.out
        exact ⟨rfl, RdP.mkNo HN.out (HOut.out.trans h3)⟩
      | some xr =>
        obtain ⟨x, r'⟩ := xr
        have HF := Lib.hid hf
        clear hf
        go_wp2_with fail
        refine (rdsym_any p B r _ HRI.out).mono ?_
        intro e w1 h1
        obtain ⟨v, rfl, rfl, h2, h3⟩ := h1.yes HF.out
        unfold symA
        have H2 := Lib.hid h2
        have H3 := Lib.hid (HOut.out.trans h3)
        have HO1 := Lib.hid (OutO.rowKept HOwn.out h3 (by have := HP.out; omega))
        clear h1 h2 h3
        have HM := Lib.hid (show k + 1 ≤ maxLen by unfold maxLen; omega)
        have HB := Lib.hid (show (k + 1) * 40 ≤ 140737488355328 by omega)
        have HL1 := Lib.hid (show (encSym x).length = 1 * 4 from rfl)
        have H1c := Lib.hid (show ∀ u ∈ encSym x, u.oneCell' = true from fun u hu => by unfold encSym at hu; simp only [List.mem_cons, List.not_mem_nil, or_false] at hu; rcases hu with rfl | rfl | rfl | rfl <;> rfl)
        have HBl := Lib.hid ((Below.refl w1.heap.size w1).alloc (Nat.le_refl _) (.cells #[.string x.1, .bool x.2.1, .int .i64 x.2.2.1, .bool x.2.2.2] 45))
        have HZ := Lib.hid (show w.heap.size ≤ (w1.alloc (.cells #[.string x.1, .bool x.2.1, .int .i64 x.2.2.1, .bool x.2.2.2] 45)).heap.size by (have := H3.out.size; simp; omega))
        have HN := Lib.hid (news_at (w := w1) (w2 := w1.alloc (.cells #[.string x.1, .bool x.2.1, .int .i64 x.2.2.1, .bool x.2.2.2] 45)) (cs := encSym x) (ty := 45) rfl)
        have HO2 := Lib.hid (rowO_below HO1.out HBl.out)
        go_wp2_with (at_builtin; (refine wpList_append_at6 rfl _ _ 24 rfl w.heap.size 45 i0 (.agg #[.string ⟨#[]⟩, .bool false, .int .i64 0, .bool false]) 4 40 Tryz.underlying24 hi hz0 hz1 hz2 rfl (by decide) u5 k (xs.flatMap encSym) ?hs HO2.out ⟨w1.heap.size, 0, none⟩ 1 1 (encSym x) ?hx HL1.out HN.out H1c.out HM.out HB.out HZ.out ?_; (case hs => rfl); (case hx => rfl); intro v' w3 hr hg hv'; have HK := Lib.hid (LstR.next HRd.out HF.out HLen.out H3.out H2.out HO1.out HP.out.1 HP.out.2 HBl.out hr hg); clear hr hg hv'))
        go_roundw
        case rel => exact ⟨k + 1, by omega, by go_num, HK.out⟩
        case measure => simp [intOf]; omega
    · have hkn : k = n := by omega
      have k1 : ¬ (k : Int) < n := by omega
      have HKN := Lib.hid hkn
      obtain ⟨A, c, rfl⟩ := ownO_slice HOwn.out
      clear hkn hlt
      go_wp2
      go_ret
      exact RdP.mkYes (x := xs) (l' := r) (by rw [← HKN.out]; exact HRd.out) HOut.out ⟨A, c, by rw [HKN.out]; rfl, by rw [← HKN.out]; exact HLen.out, RowC.of_own HOwn.out⟩ HRI.out

theorem info_rel : (Tryz.prog.info? 42).map (fun i => (i.zero, i.size, i.bytes)) = some (some (.agg #[.int .i64 0, .int .i64 0, .string ⟨#[]⟩, .int .i64 0]), 4, 40) := by kernel_rfl
set_option maxHeartbeats 1000000 in
theorem list_rel (n : Nat) (hn : n ≤ 1000000) (p B : Nat) (l : List Int) (w : World) (hR : RdIs w p B l) :
    Calls Tryz.prog 115 #[.int .i64 n, .func (Fn.func 116) #[.pointer (some ⟨p, 0, none⟩)] #[]] w (RdP p B (rdL rdRel n l) (LisV encRel w n) w) := by
  have HR := Lib.hid hR
  have HP := Lib.hid hR.lt
  clear hR
  obtain ⟨i0, hi, hz0, hz1, hz2⟩ := info_parts info_rel
  go_enter Tryz.func115, Tryz.ntmps115
  go_wp2
  have hat : LstR w p B l rdRel 42 encRel 4 0 (.slice none 0 0) w := LstR.start HR.out
  go_loopw [5, 7] (fun v i wr => ∃ k : Nat, k ≤ n ∧ i = .int .i64 k ∧ LstR w p B l rdRel 42 encRel 4 k v wr) (fun _ i _ => n - (intOf i).toNat)
  case atStart => exact ⟨0, by omega, rfl, hat⟩
  case round =>
    obtain ⟨k, hk, rfl, he⟩ := hrel
    clear hat
    obtain ⟨xs, r, hrd, hRI, hout, hown, hlen⟩ := he
    have HRd := Lib.hid hrd
    have HRI := Lib.hid hRI
    have HOut := Lib.hid hout
    have HOwn := Lib.hid hown
    have HLen := Lib.hid hlen
    clear hrd hRI hout hown hlen
    by_cases hlt : k < n
    · have k0 : (0 : Int) ≤ k := by omega
      have k1 : (k : Int) < n := by omega
      cases hf : rdRel r with
      | none =>
        have HF := Lib.hid hf
        have HN := Lib.hid (rdL_stop HRd.out hf hlt)
        clear hf
        go_wp2_with fail
        refine (rdrel_any p B r _ HRI.out).mono ?_
        intro e w1 h1
        obtain ⟨rfl, h3⟩ := h1.no HF.out
        exact ⟨rfl, RdP.mkNo HN.out (HOut.out.trans h3)⟩
      | some xr =>
        obtain ⟨x, r'⟩ := xr
        have HF := Lib.hid hf
        clear hf
        go_wp2_with fail
        refine (rdrel_any p B r _ HRI.out).mono ?_
        intro e w1 h1
        obtain ⟨v, rfl, rfl, h2, h3⟩ := h1.yes HF.out
        unfold relA
        have H2 := Lib.hid h2
        have H3 := Lib.hid (HOut.out.trans h3)
        have HO1 := Lib.hid (OutO.rowKept HOwn.out h3 (by have := HP.out; omega))
        clear h1 h2 h3
        have HM := Lib.hid (show k + 1 ≤ maxLen by unfold maxLen; omega)
        have HB := Lib.hid (show (k + 1) * 40 ≤ 140737488355328 by omega)
        have HL1 := Lib.hid (show (encRel x).length = 1 * 4 from rfl)
        have H1c := Lib.hid (show ∀ u ∈ encRel x, u.oneCell' = true from fun u hu => by unfold encRel at hu; simp only [List.mem_cons, List.not_mem_nil, or_false] at hu; rcases hu with rfl | rfl | rfl | rfl <;> rfl)
        have HBl := Lib.hid ((Below.refl w1.heap.size w1).alloc (Nat.le_refl _) (.cells #[.int .i64 x.1, .int .i64 x.2.1, .string x.2.2.1, .int .i64 x.2.2.2] 42))
        have HZ := Lib.hid (show w.heap.size ≤ (w1.alloc (.cells #[.int .i64 x.1, .int .i64 x.2.1, .string x.2.2.1, .int .i64 x.2.2.2] 42)).heap.size by (have := H3.out.size; simp; omega))
        have HN := Lib.hid (news_at (w := w1) (w2 := w1.alloc (.cells #[.int .i64 x.1, .int .i64 x.2.1, .string x.2.2.1, .int .i64 x.2.2.2] 42)) (cs := encRel x) (ty := 42) rfl)
        have HO2 := Lib.hid (rowO_below HO1.out HBl.out)
        go_wp2_with (at_builtin; (refine wpList_append_at6 rfl _ _ 25 rfl w.heap.size 42 i0 (.agg #[.int .i64 0, .int .i64 0, .string ⟨#[]⟩, .int .i64 0]) 4 40 Tryz.underlying25 hi hz0 hz1 hz2 rfl (by decide) u5 k (xs.flatMap encRel) ?hs HO2.out ⟨w1.heap.size, 0, none⟩ 1 1 (encRel x) ?hx HL1.out HN.out H1c.out HM.out HB.out HZ.out ?_; (case hs => rfl); (case hx => rfl); intro v' w3 hr hg hv'; have HK := Lib.hid (LstR.next HRd.out HF.out HLen.out H3.out H2.out HO1.out HP.out.1 HP.out.2 HBl.out hr hg); clear hr hg hv'))
        go_roundw
        case rel => exact ⟨k + 1, by omega, by go_num, HK.out⟩
        case measure => simp [intOf]; omega
    · have hkn : k = n := by omega
      have k1 : ¬ (k : Int) < n := by omega
      have HKN := Lib.hid hkn
      obtain ⟨A, c, rfl⟩ := ownO_slice HOwn.out
      clear hkn hlt
      go_wp2
      go_ret
      exact RdP.mkYes (x := xs) (l' := r) (by rw [← HKN.out]; exact HRd.out) HOut.out ⟨A, c, by rw [HKN.out]; rfl, by rw [← HKN.out]; exact HLen.out, RowC.of_own HOwn.out⟩ HRI.out
end Go.Proofs.YtmpieeadkkeniaaGreatDoor
namespace Go.Proofs.YtmpieeadkkeniaaGreatDoor
set_option maxRecDepth 100000
open Go.RowKit
set_option linter.unusedVariables false
/-- an entry as it lies: its parameters' row lies from lo on -/
def EntV (lo : Nat) (s : EntD) (v : Value) (w : World) : Prop := ∃ A c, v = .agg #[.string s.1, .slice A s.2.length c] ∧ RowC w lo w.heap.size A (s.2.flatMap encI64)
theorem res_ent {T : Array Value} {b : Nat} {W : World} {v0 v1 : Value} (hT : T[2]? = some (.pointer (some ⟨b, 0, none⟩))) (h : W.heap[b]? = some (.cells #[v0, v1] 52 (0, 0))) :
    (results Tryz.f118 T).run Tryz.prog W = .ok (.agg #[v0, v1]) W := by
  have h0 := cell_of_row W b 0 _ _ _ h
  have h1 := cell_of_row W b 1 _ _ _ h
  simp only [List.getElem?_toArray, List.getElem?_cons_zero, List.getElem?_cons_succ] at h0 h1
  simp [results, Tryz.results118, go_sem, hT, h0, h1]
theorem fill2 {W : World} {b : Nat} {a0 a1 : Value} {T : TypeId} (h : W.heap[b]? = some (.cells #[a0, a1] T (0, 0))) (v0 v1 : Value) :
    ((W.setCell ⟨b, 0, none⟩ v0).setCell ⟨b, 1, none⟩ v1).heap[b]? = some (.cells #[v0, v1] T (0, 0)) := by
  rw [heap_setCell_same _ b 1 _ _ _ (heap_setCell_same W b 0 _ _ _ h)]
  rfl
theorem row_cells2 {W : World} {b : Nat} {v0 v1 : Value} {T : TypeId} (h : W.heap[b]? = some (.cells #[v0, v1] T (0, 0))) : W.cell? ⟨b, 0, none⟩ = some v0 ∧ W.cell? ⟨b, 1, none⟩ = some v1 ∧ ∀ o, W.frozen? ⟨b, o, none⟩ = false := by
  have h0 := cell_of_row W b 0 _ _ _ h
  have h1 := cell_of_row W b 1 _ _ _ h
  simp only [List.getElem?_toArray, List.getElem?_cons_zero, List.getElem?_cons_succ] at h0 h1
  exact ⟨h0, h1, fun o => frozen_of_row W b o _ _ h⟩
set_option maxHeartbeats 1000000 in
theorem rdent_any (p B : Nat) (l : List Int) (w : World) (hR : RdIs w p B l) :
    Calls Tryz.prog 118 #[.pointer (some ⟨p, 0, none⟩)] w (RdP p B (rdEnt l) (EntV w.heap.size) w) := by
  have hmf : ∀ (fn : Fn) (first cap : Array Value) (w : World), (Instr.makeFunc fn first cap).run Tryz.prog w = .ok (.func fn first cap) w := fun _ _ _ _ => rfl
  have HR := Lib.hid hR
  have HL := Lib.hid hR.lt
  clear hR
  have HO0 := Lib.hid ((RdOut.refl p w).alloc (.cells #[.string ⟨#[]⟩, .slice none 0 0] 52))
  have HX := Lib.hid (show (w.alloc (.cells #[.string ⟨#[]⟩, .slice none 0 0] 52)).heap[w.heap.size]? = some (.cells #[.string ⟨#[]⟩, .slice none 0 0] 52 (0, 0)) from heap_alloc_new w _)
  have HZ := Lib.hid (show w.heap.size < (w.alloc (.cells #[.string ⟨#[]⟩, .slice none 0 0] 52)).heap.size by simp)
  go_enter Tryz.func118, Tryz.ntmps118
  go_wp2_with fail
  refine (rdname_any p B l _ (HR.out.alloc _)).mono ?_
  intro e w1 h1
  cases hr1 : rdName l with
  | none =>
    obtain ⟨rfl, ho⟩ := h1.no hr1
    exact ⟨rfl, RdP.mkNo (rdBind_no hr1) (HO0.out.trans ho)⟩
  | some q =>
  obtain ⟨s, l1⟩ := q
  obtain ⟨v, rfl, rfl, h2, h3⟩ := h1.yes hr1
  have HS1 := Lib.hid hr1
  have HR1 := Lib.hid h2
  have HA1 := Lib.hid h2.all
  have HO1 := Lib.hid (HO0.out.trans h3)
  have HX1 := Lib.hid (h3.row HX.out (by have := HL.out; omega))
  have hz1 : w.heap.size < w1.heap.size := Nat.lt_of_lt_of_le HZ.out h3.size
  have HZ1 := Lib.hid hz1
  have HO1' := Lib.hid (HO1.out.alloc (.cells #[.string s, .slice none 0 0] 52))
  have HX1' := Lib.hid ((heap_alloc_old w1 (.cells #[.string s, .slice none 0 0] 52) hz1).trans HX1.out)
  have HY1 := Lib.hid (show (w1.alloc (.cells #[.string s, .slice none 0 0] 52)).heap[w1.heap.size]? = some (.cells #[.string s, .slice none 0 0] 52 (0, 0)) from heap_alloc_new w1 _)
  clear h1 h2 h3 hr1 hz1
  go_wp2_with fail
  refine (small_any p B l1 _ (HR1.out.alloc _)).mono ?_
  intro e w2 h1
  cases hr2 : rdN 1 l1 with
  | none =>
    obtain ⟨rfl, ho⟩ := h1.no hr2
    exact ⟨rfl, RdP.mkNo (by unfold rdEnt; rw [rdBind_at HS1.out]; exact rdBind_no hr2) (HO1'.out.trans ho)⟩
  | some q =>
  obtain ⟨k, l2⟩ := q
  obtain ⟨v, rfl, rfl, h2, h3⟩ := h1.yes hr2
  have hb := rdN_bd (by omega) HA1.out hr2
  have hb1 : k < 256 := by simpa using hb.2
  obtain ⟨k, rfl⟩ := Int.eq_ofNat_of_zero_le hb.1
  have HK := Lib.hid hb1
  have HS2 := Lib.hid hr2
  have HR2 := Lib.hid h2
  have HO2 := Lib.hid (HO1'.out.trans h3)
  have HX2 := Lib.hid (h3.row HX1'.out (by have := HL.out; omega))
  have HY2 := Lib.hid (h3.row HY1.out (by have := HL.out; have := HZ1.out; omega))
  clear h1 h2 h3 hr2 hb hb1
  go_wp2_with fail
  refine (list_small k (by have := HK.out; omega) p B l2 _ HR2.out).mono ?_
  intro e w3 h1
  cases hr3 : rdL (rdN 1) k l2 with
  | none =>
    obtain ⟨rfl, ho⟩ := h1.no hr3
    exact ⟨rfl, RdP.mkNo (by unfold rdEnt; rw [rdBind_at HS1.out, rdBind_at HS2.out]; exact rdBind_no hr3) (HO2.out.trans ho)⟩
  | some q =>
  obtain ⟨zs, l3⟩ := q
  obtain ⟨v, rfl, ⟨A, c, rfl, hzl, hrow⟩, h2, h3⟩ := h1.yes hr3
  have HS3 := Lib.hid hr3
  have HR3 := Lib.hid h2
  have HO3 := Lib.hid (HO2.out.trans h3)
  have HX3 := Lib.hid (h3.row HX2.out (by have := HL.out; omega))
  have HY3 := Lib.hid (h3.row HY2.out (by have := HL.out; have := HZ1.out; omega))
  have HRow := Lib.hid hrow
  have HZl := Lib.hid hzl
  have HS := Lib.hid HO2.out.size
  have hz2 : w1.heap.size < w2.heap.size := by have := (Array.getElem?_eq_some_iff.1 HY2.out).1; exact this
  have HZ2 := Lib.hid hz2
  obtain ⟨c0, c1, fr⟩ := row_cells2 HY3.out
  obtain ⟨d0, d1, gr⟩ := row_cells2 HX3.out
  have hne : w.heap.size ≠ w1.heap.size := by have := HZ1.out; omega
  clear h1 h2 h3 hr3 hrow hzl hz2
  go_wp2
  have HW := Lib.hid (fill2 ((setNew_row (w := w3) (b := w.heap.size) (c := w1.heap.size) (o := 1) (v := .slice A k c) hne).trans HX3.out) (.string s) (.slice A k c))
  refine bodyPost_ret (res_ent (b := w.heap.size) ?hT HW.out) rfl ?_
  case hT => rfl
  refine RdP.mkYes (x := (s, zs)) (l' := l3) (by unfold rdEnt; rw [rdBind_at HS1.out, rdBind_at HS2.out, Int.toNat_natCast, rdBind_at (x := zs) (q := l3) HS3.out]; rfl) ?ho ?hv ?hr
  case ho => (repeat (first | with_reducible exact HO3.out | refine RdOut.setNew ?_ (by have := HZ1.out; omega)))
  case hr => (repeat (first | with_reducible exact HR3.out | refine RdIs.setNew ?_ (by have := HL.out; have := HZ1.out; omega)))
  case hv =>
    refine ⟨A, c, by rw [HZl.out], ?_⟩
    rcases HRow.out with e | ⟨b, o, e, h1, h2, h3⟩
    · exact .inl e
    · refine .inr ⟨b, o, e, by have := HS.out; omega, by simpa using h2, fun j v hj => ?_⟩
      rw [World.cell?_of_block (setNew_row (by show b ≠ _; have := HZ2.out; have := HZ1.out; omega)), World.cell?_of_block (setNew_row (by show b ≠ _; have := HZ2.out; have := HZ1.out; omega)), World.cell?_of_block (setNew_row (by show b ≠ _; have := HZ2.out; have := HZ1.out; omega))]
      exact h3 j v hj
end Go.Proofs.YtmpieeadkkeniaaGreatDoor
namespace Go.Proofs.YtmpieeadkkeniaaGreatDoor
set_option maxRecDepth 100000
open Go.RowKit
set_option linter.unusedVariables false
/-- cells in a block from lo on, below hi, which isn't ob -/
def RowO (w : World) (lo hi : Nat) (ob : Option Nat) (A : Option Addr) (cs : List Value) : Prop := cs = [] ∨ ∃ b o, A = some ⟨b, o, none⟩ ∧ lo ≤ b ∧ b < hi ∧ some b ≠ ob ∧ ∀ j v, cs[j]? = some v → w.cell? ⟨b, o + j, none⟩ = some v
/-- the cells of entries, each with the row of its parameters -/
def EntC (w : World) (lo hi : Nat) (ob : Option Nat) : List EntD → List Value → Prop
  | [], cs => cs = []
  | e :: es, cs => ∃ A c rest, cs = .string e.1 :: .slice A e.2.length c :: rest ∧ RowO w lo hi ob A (e.2.flatMap encI64) ∧ EntC w lo hi ob es rest
theorem RowO.move {w w' : World} {lo hi hi' : Nat} {ob ob' : Option Nat} {A : Option Addr} {cs : List Value} (h : RowO w lo hi ob A cs) (hh : hi ≤ hi') (ho : ∀ b, lo ≤ b → b < hi → some b ≠ ob → some b ≠ ob') (hk : ∀ b, lo ≤ b → b < hi → some b ≠ ob → w'.heap[b]? = w.heap[b]?) : RowO w' lo hi' ob' A cs := by
  rcases h with h | ⟨b, o, e, h1, h2, h3, h4⟩
  · exact .inl h
  · exact .inr ⟨b, o, e, h1, by omega, ho b h1 h2 h3, fun j v hj => by rw [World.cell?_of_block (hk b h1 h2 h3)]; exact h4 j v hj⟩
theorem EntC.move {w w' : World} {lo hi hi' : Nat} {ob ob' : Option Nat} (hh : hi ≤ hi') (ho : ∀ b, lo ≤ b → b < hi → some b ≠ ob → some b ≠ ob') (hk : ∀ b, lo ≤ b → b < hi → some b ≠ ob → w'.heap[b]? = w.heap[b]?) : ∀ {es : List EntD} {cs : List Value}, EntC w lo hi ob es cs → EntC w' lo hi' ob' es cs
  | [], cs, h => h
  | e :: es, cs, ⟨A, c, rest, h1, h2, h3⟩ => ⟨A, c, rest, h1, h2.move hh ho hk, EntC.move hh ho hk h3⟩
theorem EntC.snoc {w : World} {lo hi : Nat} {ob : Option Nat} {e : EntD} {A : Option Addr} {c : Nat} (hr : RowO w lo hi ob A (e.2.flatMap encI64)) : ∀ {es : List EntD} {cs : List Value}, EntC w lo hi ob es cs → EntC w lo hi ob (es ++ [e]) (cs ++ [.string e.1, .slice A e.2.length c])
  | [], cs, h => by cases h; exact ⟨A, c, [], rfl, hr, rfl⟩
  | f :: es, cs, ⟨A1, c1, rest, h1, h2, h3⟩ => by subst h1; exact ⟨A1, c1, rest ++ [.string e.1, .slice A e.2.length c], rfl, h2, EntC.snoc hr h3⟩
theorem EntC.len {w : World} {lo hi : Nat} {ob : Option Nat} : ∀ {es : List EntD} {cs : List Value}, EntC w lo hi ob es cs → cs.length = es.length * 2
  | [], cs, h => by cases h; rfl
  | e :: es, cs, ⟨A, c, rest, h1, h2, h3⟩ => by subst h1; simp only [List.length_cons]; rw [EntC.len h3]; omega
/-- what a list of entries is read as -/
def EntsV (w : World) (n : Nat) (es : List EntD) (v : Value) (w' : World) : Prop := ∃ A c cs, v = .slice A n c ∧ es.length = n ∧ RowC w' w.heap.size w'.heap.size A cs ∧ EntC w' w.heap.size w'.heap.size none es cs
def LstE (w : World) (p B : Nat) (l0 : List Int) (k : Nat) (v : Value) (wr : World) : Prop :=
  ∃ es l cs, rdL rdEnt k l0 = some (es, l) ∧ RdIs wr p B l ∧ RdOut p w wr ∧ wr.ownsRow w.heap.size 52 2 v k cs ∧ es.length = k ∧ EntC wr w.heap.size wr.heap.size v.ownBlock es cs
theorem info_ent : (Tryz.prog.info? 52).map (fun i => (i.zero, i.size, i.bytes)) = some (some (.agg #[.string ⟨#[]⟩, .slice none 0 0]), 2, 40) := by kernel_rfl
theorem LstE.next {w wr w1 w2 w3 : World} {p B : Nat} {l0 : List Int} {k : Nat} {v v' : Value} {es : List EntD} {cs : List Value} {r r' : List Int} {x : EntD} {A : Option Addr} {c : Nat}
    (h1 : rdL rdEnt k l0 = some (es, r)) (hf : rdEnt r = some (x, r')) (hl : es.length = k) (hw : RdOut p w wr) (ho : RdOut p wr w1) (hR : RdIs w1 p B r')
    (hown : wr.ownsRow w.heap.size 52 2 v k cs) (hE : EntC wr w.heap.size wr.heap.size v.ownBlock es cs) (hx : RowC w1 wr.heap.size w1.heap.size A (x.2.flatMap encI64)) (hp : p < B) (hB : B ≤ w.heap.size)
    (hb : Below w1.heap.size w1 w2) (hr : w3.ownsRow w.heap.size 52 2 v' (k + 1) (cs ++ [.string x.1, .slice A x.2.length c])) (hg : w2.grownBy w3 v.ownBlock) (hv : v'.ownBlock = v.ownBlock ∨ v'.ownBlock = some w2.heap.size) : LstE w p B l0 (k + 1) v' w3 := by
  have hge := own_ge hown
  have s1 := hw.size
  have s2 := ho.size
  have s3 := hb.size
  have s4 := hg.size
  have hlt : ∀ g, v.ownBlock = some g → g < wr.heap.size := fun g hg => (ownO_lt hown hg).1
  refine ⟨es ++ [x], r', cs ++ [.string x.1, .slice A x.2.length c], rdL_go h1 hf, (hR.below hb).grown hg (fun g e => Nat.le_trans hB (hge g e)), ((hw.trans ho).trans (RdOut.below hb)).grown hg hge, hr, by simp [hl], ?_⟩
  have hE1 : EntC w1 w.heap.size w1.heap.size v.ownBlock es cs := hE.move s2 (fun b _ _ h => h) (fun b h1 h2 _ => ho.block b h2 (by omega))
  have hx1 : RowO w1 w.heap.size w1.heap.size v.ownBlock A (x.2.flatMap encI64) := by
    rcases hx with h | ⟨b, o, e, h1, h2, h3⟩
    · exact .inl h
    · exact .inr ⟨b, o, e, by omega, h2, fun e => by have := hlt b e.symm; omega, h3⟩
  refine (EntC.snoc hx1 hE1).move (by omega) (fun b h1 h2 h3 e => ?_) (fun b h1 h2 h3 => (hg.block b (by omega) h3).trans (hb.block b h2))
  rcases hv with hv | hv
  · exact h3 (e.trans hv)
  · rw [hv] at e; cases e; omega
set_option maxHeartbeats 1000000 in
theorem list_ent (n : Nat) (hn : n ≤ 1000000) (p B : Nat) (l : List Int) (w : World) (hR : RdIs w p B l) :
    Calls Tryz.prog 117 #[.int .i64 n, .func (Fn.func 118) #[.pointer (some ⟨p, 0, none⟩)] #[]] w (RdP p B (rdL rdEnt n l) (EntsV w n) w) := by
  have HR := Lib.hid hR
  have HP := Lib.hid hR.lt
  clear hR
  obtain ⟨i0, hi, hz0, hz1, hz2⟩ := info_parts info_ent
  go_enter Tryz.func117, Tryz.ntmps117
  go_wp2
  have hat : LstE w p B l 0 (.slice none 0 0) w := ⟨[], l, [], rfl, HR.out, RdOut.refl _ _, World.ownsRow_nil w _ _ _, rfl, rfl⟩
  go_loopw [5, 7] (fun v i wr => ∃ k : Nat, k ≤ n ∧ i = .int .i64 k ∧ LstE w p B l k v wr) (fun _ i _ => n - (intOf i).toNat)
  case atStart => exact ⟨0, by omega, rfl, hat⟩
  case round =>
    obtain ⟨k, hk, rfl, he⟩ := hrel
    clear hat
    obtain ⟨xs, r, cs, hrd, hRI, hout, hown, hlen, hent⟩ := he
    have HRd := Lib.hid hrd
    have HRI := Lib.hid hRI
    have HOut := Lib.hid hout
    have HOwn := Lib.hid hown
    have HLen := Lib.hid hlen
    have HEnt := Lib.hid hent
    clear hrd hRI hout hown hlen hent
    by_cases hlt : k < n
    · have k0 : (0 : Int) ≤ k := by omega
      have k1 : (k : Int) < n := by omega
      cases hf : rdEnt r with
      | none =>
        have HF := Lib.hid hf
        have HN := Lib.hid (rdL_stop HRd.out hf hlt)
        clear hf
        go_wp2_with fail
        refine (rdent_any p B r _ HRI.out).mono ?_
        intro e w1 h1
        obtain ⟨rfl, h3⟩ := h1.no HF.out
        exact ⟨rfl, RdP.mkNo HN.out (HOut.out.trans h3)⟩
      | some xr =>
        obtain ⟨x, r'⟩ := xr
        have HF := Lib.hid hf
        clear hf
        go_wp2_with fail
        refine (rdent_any p B r _ HRI.out).mono ?_
        intro e w1 h1
        obtain ⟨v, rfl, ⟨A, c, rfl, hrow⟩, h2, h3⟩ := h1.yes HF.out
        have H2 := Lib.hid h2
        have H3 := Lib.hid h3
        have HRow := Lib.hid hrow
        have HO1 := Lib.hid (OutO.rowKept HOwn.out h3 (by have := HP.out; omega))
        clear h1 h2 h3 hrow
        have HM := Lib.hid (show k + 1 ≤ maxLen by unfold maxLen; omega)
        have HB := Lib.hid (show (k + 1) * 40 ≤ 140737488355328 by omega)
        have HL1 := Lib.hid (show ([Value.string x.1, .slice A x.2.length c]).length = 1 * 2 from rfl)
        have H1c := Lib.hid (show ∀ u ∈ [Value.string x.1, .slice A x.2.length c], u.oneCell' = true from fun u hu => by simp only [List.mem_cons, List.not_mem_nil, or_false] at hu; rcases hu with rfl | rfl <;> rfl)
        have HBl := Lib.hid ((Below.refl w1.heap.size w1).alloc (Nat.le_refl _) (.cells #[.string x.1, .slice A x.2.length c] 52))
        have HZ := Lib.hid (show w.heap.size ≤ (w1.alloc (.cells #[.string x.1, .slice A x.2.length c] 52)).heap.size by (have := H3.out.size; have := HOut.out.size; simp; omega))
        have HN := Lib.hid (news_at (w := w1) (w2 := w1.alloc (.cells #[.string x.1, .slice A x.2.length c] 52)) (cs := [Value.string x.1, .slice A x.2.length c]) (ty := 52) rfl)
        have HO2 := Lib.hid (rowO_below HO1.out HBl.out)
        go_wp2_with (at_builtin; (refine wpList_append_at6 rfl _ _ 26 rfl w.heap.size 52 i0 (.agg #[.string ⟨#[]⟩, .slice none 0 0]) 2 40 Tryz.underlying26 hi hz0 hz1 hz2 rfl (by decide) u5 k cs ?hs HO2.out ⟨w1.heap.size, 0, none⟩ 1 1 [Value.string x.1, .slice A x.2.length c] ?hx HL1.out HN.out H1c.out HM.out HB.out HZ.out ?_; (case hs => rfl); (case hx => rfl); intro v' w3 hr hg hv'; have HK := Lib.hid (LstE.next HRd.out HF.out HLen.out HOut.out H3.out H2.out HOwn.out HEnt.out HRow.out HP.out.1 HP.out.2 HBl.out hr hg hv'); clear hr hg hv'))
        go_roundw
        case rel => exact ⟨k + 1, by omega, by go_num, HK.out⟩
        case measure => simp [intOf]; omega
    · have hkn : k = n := by omega
      have k1 : ¬ (k : Int) < n := by omega
      have HKN := Lib.hid hkn
      obtain ⟨A, c, rfl⟩ := ownO_slice HOwn.out
      clear hkn hlt
      go_wp2
      go_ret
      exact RdP.mkYes (x := xs) (l' := r) (by rw [← HKN.out]; exact HRd.out) HOut.out ⟨A, c, cs, by rw [HKN.out]; rfl, by rw [← HKN.out]; exact HLen.out, RowC.of_own HOwn.out, HEnt.out.move (Nat.le_refl _) (fun b _ _ _ e => by cases e) (fun b _ _ _ => rfl)⟩ HRI.out
end Go.Proofs.YtmpieeadkkeniaaGreatDoor
