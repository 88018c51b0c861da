/- Layer 6: the reference's reader: what it reads as data, and its calls num and text. No condition. -/
import Derived.Test.YtmpieeadkkeniaaGreatDoorObjD
namespace Go.Proofs.YtmpieeadkkeniaaGreatDoor
set_option maxRecDepth 100000
open Go.RowKit
set_option linter.unusedVariables false
/-- what one reads the other reads alike -/
def RdLe {α : Type} (f g : Rd α) : Prop := ∀ l y, f l = some y → g l = some y
theorem RdLe.refl {α : Type} (f : Rd α) : RdLe f f := fun _ _ h => h
theorem RdLe.none {α : Type} (g : Rd α) : RdLe (fun _ => Option.none) g := fun _ _ h => by cases h
theorem RdLe.bind {α β : Type} {f f' : Rd α} {g g' : α → Rd β} (h : RdLe f f') (k : ∀ x, RdLe (g x) (g' x)) : RdLe (rdBind f g) (rdBind f' g') := by
  intro l y e
  obtain ⟨z, r⟩ := y
  obtain ⟨x, q, h1, h2⟩ := rdBind_some e
  rw [rdBind_at (h _ _ h1)]
  exact k x _ _ h2
theorem RdLe.list {α : Type} {f g : Rd α} (h : RdLe f g) : ∀ n, RdLe (rdL f n) (rdL g n)
  | 0 => RdLe.refl _
  | n + 1 => RdLe.bind h fun _ => RdLe.bind (RdLe.list h n) fun _ => RdLe.refl _
/-- a Sym whose marks are read as they come -/
def rdSymR : Rd SymD := rdBind rdName fun s => rdBind (rdN 1) fun m => rdBind (rdN 4) fun o => rdRet (s, decide (m % 2 = 1), o, decide (m / 2 % 2 = 1))
theorem rdSym_le : RdLe rdSym rdSymR := RdLe.bind (RdLe.refl _) fun s => RdLe.bind (RdLe.refl _) fun m => by
  intro l y h
  by_cases hm : m ≤ 3
  · rw [if_pos hm] at h; exact h
  · rw [if_neg hm] at h; cases h
/-- an object, however it begins -/
def rdObjR : Rd ObjD := rdBind (rdN 4) fun _ => rdBind (rdL (rdN 2) 5) fun cs => rdBind (rdL (rdN 4) (nth cs 0).toNat) fun t => rdBind (rdL (rdN 8) (nth cs 1).toNat) fun dd => rdBind (rdL rdSymR (nth cs 2).toNat) fun ss => rdBind (rdL rdRel (nth cs 3).toNat) fun rr => rdBind (rdL rdEnt (nth cs 4).toNat) fun ee => rdRet ⟨t, dd, ss, rr, ee⟩
theorem rdObj_le : RdLe rdObj rdObjR := by
  intro l y h
  obtain ⟨z, r⟩ := y
  unfold rdObj at h
  obtain ⟨m, q, h1, h2⟩ := rdBind_some h
  have h3 : rdN 4 l = some (wordI (l.take 4), q) := by
    unfold rdB at h1
    unfold rdN
    by_cases e : 4 ≤ l.length
    · rw [if_pos e] at h1 ⊢
      cases h1; rfl
    · rw [if_neg e] at h1; cases h1
  unfold rdObjR
  rw [rdBind_at h3]
  by_cases hm : m = magicW
  · rw [if_pos hm] at h2
    exact (RdLe.bind (RdLe.refl _) fun cs => RdLe.bind (RdLe.refl _) fun t => RdLe.bind (RdLe.refl _) fun dd => RdLe.bind (RdLe.list rdSym_le _) fun ss => RdLe.bind (RdLe.refl _) fun rr => RdLe.bind (RdLe.refl _) fun ee => RdLe.refl _) _ _ h2
  · rw [if_neg hm] at h2; cases h2
/-- it is what is read, if it is written so -/
theorem dec_final {l rest : List Int} {d : ObjD} {bad : Bool} (ha : AllB l) (hW : ObjW d) (hr : rdObjR l = if bad then none else some (d, rest)) :
    decB l = if bad || !rest.isEmpty || !mayO d || !(encB d == l) then none else some d := by
  cases h : decB l with
  | some d' =>
    obtain ⟨h1, h2, _⟩ := decB_back ha h
    have h3 := rdObj_le _ _ (decB_parts h).1
    rw [h3] at hr
    cases bad with
    | true => cases hr
    | false =>
      injection hr with hr
      injection hr with e1 e2
      subst e1 e2
      simp [h1, h2]
  | none =>
    cases bad with
    | true => rfl
    | false =>
      by_cases h1 : rest = []
      · subst h1
        cases h2 : mayO d with
        | false => rfl
        | true =>
          by_cases h3 : encB d = l
          · rw [← h3, decB_put hW h2] at h; cases h
          · simp [h3]
      · cases rest with
        | nil => exact absurd rfl h1
        | cons x r => rfl
/-! ### the reader in memory -/
/-- block p is the reference's reader that has l left; the bytes lie below B, and the reader doesn't -/
def RfV (w : World) (p B : Nat) (l : List Int) (bad : Bool) (A : Option Addr) (n c : Nat) : Prop :=
  w.heap[p]? = some (.cells #[.slice A n c, .bool bad] 74 (0, 0)) ∧ n = l.length ∧ AllB l ∧ SlO w p B A l ∧ n ≤ c ∧ c ≤ maxLen ∧ B ≤ p
def RfIs (w : World) (p B : Nat) (l : List Int) (bad : Bool) : Prop := ∃ A n c, RfV w p B l bad A n c
section
variable {w w1 w2 w' : World} {p B : Nat} {l : List Int} {bad : Bool} {A : Option Addr} {n c : Nat}
theorem RfV.cells (h : RfV w p B l bad A n c) : w.cell? ⟨p, 0, none⟩ = some (.slice A n c) ∧ w.cell? ⟨p, 1, none⟩ = some (.bool bad) ∧ ∀ o, w.frozen? ⟨p, o, none⟩ = false := row_cells2 h.1
theorem RfV.lt (h : RfV w p B l bad A n c) : p < w.heap.size := (Array.getElem?_eq_some_iff.1 h.1).1
theorem RfV.keep (h : RfV w p B l bad A n c) (hp : w'.heap[p]? = w.heap[p]?) (hk : ∀ k, k < B → w'.heap[k]? = w.heap[k]?) : RfV w' p B l bad A n c := by
  obtain ⟨h1, h2, h3, h4, h5, h6, h7⟩ := h
  exact ⟨by rw [hp]; exact h1, h2, h3, h4.keep (fun k hb _ => hk k hb), h5, h6, h7⟩
theorem RfIs.keep (h : RfIs w p B l bad) (hp : w'.heap[p]? = w.heap[p]?) (hk : ∀ k, k < B → w'.heap[k]? = w.heap[k]?) : RfIs w' p B l bad := by
  obtain ⟨A, n, c, h⟩ := h; exact ⟨A, n, c, h.keep hp hk⟩
theorem RfIs.lt (h : RfIs w p B l bad) : B ≤ p ∧ p < w.heap.size := by obtain ⟨A, n, c, h⟩ := h; exact ⟨h.2.2.2.2.2.2, h.lt⟩
theorem RfIs.all (h : RfIs w p B l bad) : AllB l := by obtain ⟨A, n, c, h⟩ := h; exact h.2.2.1
theorem RfIs.below (h : RfIs w p B l bad) (hb : Below w.heap.size w w') : RfIs w' p B l bad := h.keep (hb.block p h.lt.2) (fun k hk => hb.block k (by have := h.lt; omega))
theorem RfIs.alloc (h : RfIs w p B l bad) (o : Obj) : RfIs (w.alloc o) p B l bad := h.below ((Below.refl _ _).alloc (Nat.le_refl _) o)
theorem RfIs.grown {row : Option Nat} (h : RfIs w p B l bad) (hg : w.grownBy w' row) (hr : ∀ g, row = some g → p ≠ g ∧ B ≤ g) : RfIs w' p B l bad :=
  h.keep (hg.block p h.lt.2 (fun e => (hr p e.symm).1 rfl)) (fun k hk => hg.block k (by have := h.lt; omega) (fun e => by have := (hr k e.symm).2; omega))
theorem RfIs.setNew {b o : Nat} {v : Value} (h : RfIs w p B l bad) (hb : p ≠ b ∧ B ≤ b) : RfIs (w.setCell ⟨b, o, none⟩ v) p B l bad :=
  h.grown (grown_setO w b o v) (fun g e => by cases e; exact hb)
theorem RfV.set (h : RfV w p B l bad A n c) {l' : List Int} {A' : Option Addr} {n' c' : Nat} (hn : n' = l'.length) (ha : AllB l') (hs : SlO w p B A' l') (hc : n' ≤ c') (hm : c' ≤ maxLen) : RfIs (w.setCell ⟨p, 0, none⟩ (.slice A' n' c')) p B l' bad ∧ RdOut p w (w.setCell ⟨p, 0, none⟩ (.slice A' n' c')) := by
  have g := grown_setO w p 0 (.slice A' n' c')
  refine ⟨⟨A', n', c', ?_, hn, ha, hs.keep (fun k hk hp => g.block k (by have := h.lt; have := h.2.2.2.2.2.2; omega) (fun e => hp (by cases e; rfl))), hc, hm, h.2.2.2.2.2.2⟩, OutO.of_grown g (fun k e => by cases e; rfl)⟩
  rw [heap_setCell_same w p 0 _ _ _ h.1]; rfl
theorem RfV.setBad (h : RfV w p B l bad A n c) : RfIs (w.setCell ⟨p, 1, none⟩ (.bool true)) p B l true ∧ RdOut p w (w.setCell ⟨p, 1, none⟩ (.bool true)) := by
  have g := grown_setO w p 1 (.bool true)
  refine ⟨⟨A, n, c, ?_, h.2.1, h.2.2.1, h.2.2.2.1.keep (fun k hk hp => g.block k (by have := h.lt; have := h.2.2.2.2.2.2; omega) (fun e => hp (by cases e; rfl))), h.2.2.2.2.1, h.2.2.2.2.2.1, h.2.2.2.2.2.2⟩, OutO.of_grown g (fun k e => by cases e; rfl)⟩
  rw [heap_setCell_same w p 1 _ _ _ h.1]; rfl
end
/-- what a read comes to: it hands back what was read, or tells that something was missing -/
def RfP {α : Type} (p B : Nat) (f : Rd α) (l : List Int) (bad : Bool) (V : α → Value → World → Prop) (w : World) (e : Ending) (w' : World) : Prop :=
  RdOut p w w' ∧ ∃ x v l' bad', e = .returned v ∧ V x v w' ∧ RfIs w' p B l' bad' ∧ (if bad then none else f l) = (if bad' then none else some (x, l'))
/-- a number of n bytes -/
def NumB (n : Nat) (x : Int) (v : Value) (w : World) : Prop := v = .int .u64 x ∧ 0 ≤ x ∧ x < 256 ^ n
def StrB (s : ByteArray) (v : Value) (w : World) : Prop := v = .string s ∧ s.size ≤ 255
theorem wordI_lt {l : List Int} {n : Nat} (hn : n ≤ 8) (ha : AllB l) (h : n ≤ l.length) : 0 ≤ wordI (l.take n) ∧ wordI (l.take n) < 256 ^ n := rdN_bd hn ha (rdN_ofB_yes h).1
set_option maxHeartbeats 1000000 in
theorem rfnum_any (n : Nat) (hn : n ≤ 8) (p B : Nat) (l : List Int) (bad : Bool) (w : World) (hR : RfIs w p B l bad) :
    Calls Tryz.prog 35 #[.pointer (some ⟨p, 0, none⟩), .int .i64 n] w (RfP p B (rdN n) l bad (NumB n) w) := by
  obtain ⟨A, k, c, hV⟩ := hR
  have hk := hV.2.1
  have hc := hV.2.2.2.2.1
  have hm := hV.2.2.2.2.2.1
  unfold maxLen at hm
  have HV := Lib.hid hV
  obtain ⟨hcell, hbc, hfz⟩ := hV.cells
  clear hV
  by_cases h : n ≤ k
  · have HS := Lib.hid (fun (w1 : World) (h1 : w1 = w) => (h1 ▸ HV.out).set (l' := l.drop n) (A' := dropA A n c) (n' := k - n) (c' := c - n) (by rw [List.length_drop]; omega) (HV.out.2.2.1.drop n) ((h1 ▸ HV.out.2.2.2.1).drop n c (by omega)) (by omega) (by unfold maxLen; omega))
    have HT := Lib.hid (HV.out.2.2.2.1.take n)
    have HA := Lib.hid (HV.out.2.2.1.take n)
    have HL := Lib.hid (show (l.take n).length = n by rw [List.length_take]; omega)
    have HW := Lib.hid (rword_yes A (l.take n) n c w HT.out.sl HL.out HA.out hn)
    have HD := Lib.hid (wordI_lt hn HV.out.2.2.1 (show n ≤ l.length by omega))
    have HR := Lib.hid (rdN_ofB_yes (show n ≤ l.length by omega)).1
    have hs1 : ∀ w, (Instr.slice 31 (.slice A k c) none (some (.int .i64 n)) none).run Tryz.prog w = .ok (.slice A n c) w := fun w => by
      have he : (sizeOf (Tryz.prog.elem 31)).run Tryz.prog w = .ok 1 w := by kernel_rfl
      rw [run_slice_h w 31 A k c Tryz.underlying31 .i64 n (by omega) (by omega), he]
      simp only [Result.andThen_ok, sliced, Int.toNat_natCast]
      congr 2
      by_cases e : c = 0
      · simp [e]
      · rw [if_neg e]
        rcases A with _ | A
        · rfl
        · simp [Addr.add]
    have hs2 : ∀ w, (Instr.slice 31 (.slice A k c) (some (.int .i64 n)) none none).run Tryz.prog w = .ok (.slice (dropA A n c) (k - n) (c - n)) w := fun w => by
      have he : (sizeOf (Tryz.prog.elem 31)).run Tryz.prog w = .ok 1 w := by kernel_rfl
      rw [run_slice_l w 31 A k c Tryz.underlying31 .i64 n (by omega) (by omega), he]
      rw [Result.andThen_ok, Int.toNat_natCast, dropSl]
    have hkn : ¬ (n : Int) > k := by omega
    generalize wordI (l.take n) = x at *
    clear hk
    go_enter Tryz.func35, Tryz.ntmps35
    go_wp2_with fail
    refine HW.out.mono ?_
    rintro e w' ⟨rfl, rfl⟩
    go_wp2
    go_ret
    refine ⟨(HS.out _ rfl).2, x, _, _, bad, rfl, ⟨rfl, HD.out.1, HD.out.2⟩, (HS.out _ rfl).1, ?_⟩
    rw [HR.out]
  · have HS := Lib.hid HV.out.setBad
    have HR := Lib.hid (rdN_ofB_no (show ¬ n ≤ l.length by omega)).1
    have hkn : (n : Int) > k := by omega
    clear hk
    go_enter Tryz.func35, Tryz.ntmps35
    go_wp2
    go_ret
    refine ⟨HS.out.2, 0, _, l, true, rfl, ⟨rfl, by omega, Int.pow_pos (by decide)⟩, HS.out.1, ?_⟩
    rw [HR.out]
    cases bad <;> rfl
theorem rf_bind {α β : Type} {f : Rd α} {g : α → Rd β} {l l1 : List Int} {bad bad1 : Bool} {x : α} (h : (if bad then none else f l) = (if bad1 then none else some (x, l1))) : (if bad then none else rdBind f g l) = (if bad1 then none else g x l1) := by
  cases bad <;> cases bad1
  · exact rdBind_at h
  · exact rdBind_no h
  · cases h
  · rfl
set_option maxHeartbeats 1000000 in
theorem rftext_any (p B : Nat) (l : List Int) (bad : Bool) (w : World) (hR : RfIs w p B l bad) :
    Calls Tryz.prog 36 #[.pointer (some ⟨p, 0, none⟩)] w (RfP p B rdName l bad StrB w) := by
  have HC := Lib.hid (rfnum_any 1 (by omega) p B l bad w hR)
  clear hR
  go_enter Tryz.func36, Tryz.ntmps36
  go_wp2_with fail
  refine HC.out.mono ?_
  rintro e w1 ⟨ho, x, v, l1, bad1, rfl, ⟨rfl, x0, x1⟩, hR, hE⟩
  obtain ⟨n, rfl⟩ := Int.eq_ofNat_of_zero_le x0
  have hn : n < 256 := by
    have : (256 : Int) ^ 1 = 256 := rfl
    omega
  have HO := Lib.hid ho
  have HE := Lib.hid hE
  obtain ⟨A, k, c, hV⟩ := hR
  have hk := hV.2.1
  have hc := hV.2.2.2.2.1
  have hm := hV.2.2.2.2.2.1
  unfold maxLen at hm
  have HV := Lib.hid hV
  obtain ⟨hcell, hbc, hfz⟩ := hV.cells
  clear hV ho hE x0 x1 HC
  by_cases h : n ≤ k
  · have HS := Lib.hid (HV.out.set (l' := l1.drop n) (A' := dropA A n c) (n' := k - n) (c' := c - n) (by rw [List.length_drop]; omega) (HV.out.2.2.1.drop n) (HV.out.2.2.2.1.drop n c (by omega)) (by omega) (by unfold maxLen; omega))
    have HA := Lib.hid (HV.out.2.2.1.take n)
    have HL := Lib.hid (show (l1.take n).length = n by rw [List.length_take]; omega)
    have HR := Lib.hid (rdN_ofB_yes (show n ≤ l1.length by omega)).2
    have hst := str_sl (HV.out.2.2.2.1.take n).sl HL.out HA.out (c := c)
    have hs1 : ∀ w, (Instr.slice 31 (.slice A k c) none (some (.int .i64 n)) none).run Tryz.prog w = .ok (.slice A n c) w := fun w => by
      have he : (sizeOf (Tryz.prog.elem 31)).run Tryz.prog w = .ok 1 w := by kernel_rfl
      rw [run_slice_h w 31 A k c Tryz.underlying31 .i64 n (by omega) (by omega), he]
      simp only [Result.andThen_ok, sliced, Int.toNat_natCast]
      congr 2
      by_cases e : c = 0
      · simp [e]
      · rw [if_neg e]
        rcases A with _ | A
        · rfl
        · simp [Addr.add]
    have hs2 : ∀ w, (Instr.slice 31 (.slice A k c) (some (.int .i64 n)) none none).run Tryz.prog w = .ok (.slice (dropA A n c) (k - n) (c - n)) w := fun w => by
      have he : (sizeOf (Tryz.prog.elem 31)).run Tryz.prog w = .ok 1 w := by kernel_rfl
      rw [run_slice_l w 31 A k c Tryz.underlying31 .i64 n (by omega) (by omega), he]
      rw [Result.andThen_ok, Int.toNat_natCast, dropSl]
    have hkn : ¬ (n : Int) > k := by omega
    have hsz := toBA_size (l1.take n)
    rw [HL.out] at hsz
    have HZ := Lib.hid hsz
    generalize hq : toBA (l1.take n) = s at *
    have HQ := Lib.hid hq
    clear hk hsz hq
    go_wp2
    go_ret
    refine ⟨HO.out.trans HS.out.2, s, _, _, bad1, rfl, ⟨rfl, by rw [HZ.out]; omega⟩, HS.out.1, ?_⟩
    refine (rf_bind (g := fun k => rdBind (rdB k.toNat) fun x => rdRet (toBA x)) HE.out).trans ?_
    rw [show ((n : Int)).toNat = n from rfl, rdBind_at HR.out]
    show (if bad1 then none else some (toBA (l1.take n), l1.drop n)) = _
    rw [HQ.out]
  · have HS := Lib.hid HV.out.setBad
    have HR := Lib.hid (rdN_ofB_no (show ¬ n ≤ l1.length by omega)).2
    have hkn : (n : Int) > k := by omega
    clear hk
    go_wp2
    go_ret
    refine ⟨HO.out.trans HS.out.2, ByteArray.empty, _, l1, true, rfl, ⟨rfl, by decide⟩, HS.out.1, ?_⟩
    refine (rf_bind (g := fun k => rdBind (rdB k.toNat) fun x => rdRet (toBA x)) HE.out).trans ?_
    rw [show ((n : Int)).toNat = n from rfl, rdBind_no HR.out]
    cases bad1 <;> rfl
end Go.Proofs.YtmpieeadkkeniaaGreatDoor
