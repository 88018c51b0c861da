/- Layer 4: what Copy of package mem answers: a memory like it, of its own. -/
import Derived.Test.YtpfohbinjcdcbaaMemBlank
import Derived.Maps.RangeWalk
namespace Go.Proofs.Ytpfohbinjcdcbaa
open Go.RowKit Go.Maps
set_option linter.unusedVariables false

/-- a whole row of bytes copied onto another, as a step of a region that draws -/
theorem step_copy_bytes {ops : Array Oper} {o : Oper} {a : Act} {W : World} {K : Act → World → Prop} {Q : Exit → Act → World → Prop} {E : Prop} (hgd : o.guard = none) (d s : Operand)
    (ho : o.op = .call { callee := .builtin .copy, args := #[d, s], argTypes := #[24, 24] }) (g g' n : Nat) (l l' : List Int) (hd : a.eval d = .slice (some ⟨g, 0, none⟩) n n) (hs : a.eval s = .slice (some ⟨g', 0, none⟩) n n)
    (hr : Row W g l) (hr' : Row W g' l') (hl : l.length = n) (hl' : l'.length = n)
    (h : K (a.put o.dst (goInt n)) (W.setRow g (l'.map (Value.int .u8)).toArray)) :
    if Region.wanted o (yielded ops a.tmps) = true then Oper.wp Try.prog o a W K Q else E := by
  have hw : Region.wanted o (yielded ops a.tmps) = true := by simp [Region.wanted, hgd]
  rw [if_pos hw]
  have hsrc : ∀ j v, (l'.map (Value.int .u8))[j]? = some v → W.cell? ((⟨g', 0, none⟩ : Addr).add j) = some v := by
    have hsl : Sl W (some ⟨g', 0, none⟩) l' := by have := hr'.sl 0 l'.length (by omega); simpa using this
    exact sl_newsO hsl
  have hrun := run_copy_row (P := Try.prog) W 24 24 o.type 5 g 0 n n ⟨g', 0, none⟩ n n (l.map (Value.int .u8)).toArray 5 (l'.map (Value.int .u8)) Try.underlying24 info5s hr (by simp [hl']) hsrc (by simp [hl, hl']) (fun v hv => by obtain ⟨x, _, rfl⟩ := List.mem_map.1 hv; rfl)
  have e : ((l.map (Value.int .u8)).toArray.toList.take 0 ++ l'.map (Value.int .u8) ++ (l.map (Value.int .u8)).toArray.toList.drop (0 + (l'.map (Value.int .u8)).length)).toArray = (l'.map (Value.int .u8)).toArray := by
    simp [hl, hl']
  rw [e] at hrun
  have e2 : (l'.map (Value.int .u8)).length = n := by simp [hl']
  rw [e2] at hrun
  unfold Oper.wp
  simp [execOp, ho, resolve, invoke, builtin, hd, hs, hrun, Result.andThen]
  exact h
theorem encR_any {v : Value} {g n c : Nat} {y : DataW Unit × List MemPlace} (h : encR v = some y) (hy : y.1 = encD g n c) : v = .slice (some ⟨g, 0, none⟩) n c := by
  obtain ⟨y1, y2⟩ := y
  subst hy
  exact encR_inv h
theorem MemIs.congrB {w : World} {base m tb tc hb n : Nat} {T : List Rg} {G : Nat → Nat} {B B' : Nat → List Int} (h : MemIs w base m tb tc hb n T G B) (e : ∀ i, i < n → B i = B' i) : MemIs w base m tb tc hb n T G B' :=
  ⟨h.toH, fun i hi => by rw [← e i hi]; exact h.rows i hi, fun i hi => by rw [← e i hi]; exact h.all i hi, fun i hi => by rw [← e i hi]; exact h.lens i hi, h.apart, h.away, h.from_, h.own⟩
/-- under way: a region that has gone by is copied -/
def CopyK (w : World) (base m tb tc hb n : Nat) (T : List Rg) (G : Nat → Nat) (B : Nat → List Int) (left : Lit → Bool) : Prop :=
  ∃ B', MemIs w base m tb tc hb n T G B' ∧ ∀ i, i < n → left (rKey (nthR T i)) = false → B' i = B i
theorem isKeyEq {k l : Lit} (h : k.sameKey l = true) : k = l := WideAt.sameKey_eq h
theorem CopyK.step {w w' : World} {base m tb tc hb n i : Nat} {T : List Rg} {G : Nat → Nat} {B : Nat → List Int} {left : Lit → Bool} (h : CopyK w base m tb tc hb n T G B left) (hT : MayT T) (hi : i < n) (hg : w.grownBy w' (some (G i))) (hr : Row w' (G i) (B i)) (hl : (B i).length = lenR (nthR T i)) (ha : AllB (B i)) :
    CopyK w' base m tb tc hb n T G B (fun z => left z && !z.sameKey (rKey (nthR T i))) := by
  obtain ⟨B', hM, hB⟩ := h
  refine ⟨_, hM.poked hi hg hr (by rw [hl, hM.lens i hi]) ha, fun j hj hz => ?_⟩
  by_cases e : j = i
  · subst e; rw [setB_same]
  · rw [setB_other _ _ e]
    refine hB j hj ?_
    simp only [Bool.and_eq_false_iff, Bool.not_eq_false'] at hz
    rcases hz with hz | hz
    · exact hz
    · exfalso
      have h1 := rKey_inj (hM.toH.tabw j (by rw [hM.toH.len]; exact hj)) (hM.toH.tabw i (by rw [hM.toH.len]; exact hi)) (isKeyEq hz)
      exact e (hT.ne (by rw [hM.toH.len]; exact hj) (by rw [hM.toH.len]; exact hi) h1)
abbrev RangeM (w : World) (b r n : Nat) (D : DataW Unit) (left : Lit → Bool) (cnt : Nat) : Prop := w.ranges Try.prog 35 encR b r n D left cnt
theorem RangeM.below {w w' : World} {b r n cnt : Nat} {D : DataW Unit} {left : Lit → Bool} (h : RangeM w b r n D left cnt) (k : Below w.heap.size w w') : RangeM w' b r n D left cnt :=
  World.ranges.kept h (grown_of_below (row := none) k) (by simp) (by simp)
theorem below_of_grown {w w' : World} (h : w.grownBy w' none) : Below w.heap.size w w' := ⟨h.os, h.tape, h.output, h.size, fun k hk => h.block k hk (by simp)⟩
theorem CopyK.below {w w' : World} {base m tb tc hb n : Nat} {T : List Rg} {G : Nat → Nat} {B : Nat → List Int} {left : Lit → Bool} (h : CopyK w base m tb tc hb n T G B left) (k : Below w.heap.size w w') : CopyK w' base m tb tc hb n T G B left := by
  obtain ⟨B', hM, hB⟩ := h
  exact ⟨B', hM.below k, hB⟩
theorem CopyK.kept {w w' : World} {base m tb tc hb n g : Nat} {T : List Rg} {G : Nat → Nat} {B : Nat → List Int} {left : Lit → Bool} (h : CopyK w base m tb tc hb n T G B left) (hg : w.grownBy w' (some g)) (h0 : m < g) (h1 : tb < g) (h2 : hb < g) (h3 : ∀ i, i < n → G i < g) : CopyK w' base m tb tc hb n T G B left := by
  obtain ⟨B', hM, hB⟩ := h
  exact ⟨B', hM.kept hg (by omega) (by omega) (by omega) (fun i hi => by have := h3 i hi; omega), hB⟩
theorem CopyK.start {w : World} {base m tb tc hb n : Nat} {T : List Rg} {G : Nat → Nat} {B : Nat → List Int} {D : DataW Unit} {f : Nat → DataW Unit} (h : MemIs w base m tb tc hb n T G (zerosB T)) (hat : ∀ i, i < n → ∀ z, D.atKey (rKey (nthR T i)) z = f i) : CopyK w base m tb tc hb n T G B (has D) :=
  ⟨_, h, fun i hi hz => by have := has_true_of_atKey (hat i hi); rw [hz] at this; cases this⟩
theorem CopyK.done {w : World} {base m tb tc hb n : Nat} {T : List Rg} {G : Nat → Nat} {B : Nat → List Int} {left : Lit → Bool} (h : CopyK w base m tb tc hb n T G B left) (hl : ∀ kl, left kl = false) : MemIs w base m tb tc hb n T G B := by
  obtain ⟨B', hM, hB⟩ := h
  exact hM.congrB (fun i hi => hB i hi (hl _))
set_option maxHeartbeats 4000000 in
theorem copy_yes (base m tb tc hb n : Nat) (T : List Rg) (G : Nat → Nat) (B : Nat → List Int) (w : World) (hM : MemIs w base m tb tc hb n T G B) (hT : MayT T) :
    Calls Try.prog 13 #[.pointer (some ⟨m, 0, none⟩)] w fun e w' =>
      ∃ m2 tb2 tc2 hb2 G2, e = .returned (.pointer (some ⟨m2, 0, none⟩)) ∧ MemIs w' w.heap.size m2 tb2 tc2 hb2 n T G2 B ∧ Below w.heap.size w w' := by
  have HM := Lib.hid hM
  have HT := Lib.hid hT
  have a0 := hM.toH.c0
  clear hM hT
  go_enter Try.func13, Try.ntmps13
  go_wp2_with fail
  refine (blank_yes tb 0 n tc T HM.out.toH.len HT.out HM.out.toH.tabw _ HM.out.toH.tab).mono ?_
  rintro e w1 ⟨m2, tb2, tc2, hb2, G2, rfl, hI, hb1⟩
  have HI := Lib.hid hI
  have HM1 := Lib.hid (HM.out.below hb1)
  have HB := Lib.hid hb1
  have a1 := HM1.out.toH.c1
  obtain ⟨D, hown, hmap, hat, hkeys⟩ := HM1.out.toH.held
  have HA := Lib.hid hat
  have HK := Lib.hid hkeys
  have HL := Lib.hid (show hb < w.heap.size from HM.out.toH.held.lt)
  clear hI hb1 hmap hat hkeys a0
  go_wp2_with (at_range; refine wpList_range_own _ rfl _ 59 rfl 35 24 lawReg Try.underlying59 _ hb n D rfl hown ?_; intro w2 hrg0 hg0 hs0)
  go_frame
  have B2 := below_of_grown hg0
  have HR := Lib.hid (show m2 < w1.heap.size ∧ tb2 < w1.heap.size ∧ hb2 < w1.heap.size ∧ (∀ i, i < n → G2 i < w1.heap.size) ∧ w.heap.size ≤ w1.heap.size from
    ⟨block_lt HI.out.toH.c0, block_lt (HI.out.toH.tab 0 (by have := HT.out.1; omega)).1, HI.out.toH.held.lt, fun i hi => (HI.out.rows i hi).lt, HB.out.size⟩)
  have HF := Lib.hid HI.out.from_
  have HO := Lib.hid HI.out.own
  have HB2 := Lib.hid (HB.out.trans (B2.mono HB.out.size))
  have HC2 := Lib.hid (CopyK.start (B := B) (HI.out.below B2) HA.out)
  have HG0 := Lib.hid hrg0
  clear B2 hg0 hs0 hrg0 a1 hown HB HI HM1
  generalize w1.heap.size = r0 at *
  go_loopw [4] (fun _ wr => ∃ (left : Lit → Bool) (cnt : Nat), RangeM wr hb r0 n D left cnt ∧ (∀ kl, left kl = true → has D kl = true) ∧ CopyK wr w.heap.size m2 tb2 tc2 hb2 n T G2 B left ∧ Below w.heap.size w wr) (fun _ wr => wr.rangeLeft hb r0)
  case atStart => exact ⟨_, _, HG0.out, fun _ h => h, HC2.out, HB2.out⟩
  case round =>
    obtain ⟨left, cnt, hrg, hsub, hCK, hBw⟩ := hrel
    clear HC2 HB2 HG0
    have HSub := Lib.hid hsub
    have HCK := Lib.hid hCK
    have HBw := Lib.hid hBw
    have HRg := Lib.hid hrg
    clear hsub hCK hBw
    go_wp2_with (at_next; refine wpList_next_ranges _ rfl _ rfl 35 lawReg encR (fun x : Value => x) (fun x : Value => x) (fun key kl _ => ⟨key, rfl⟩) (fun v y _ => ⟨v, rfl⟩) hb r0 n D left cnt rfl hrg ?_ ?_)
    · intro _ hl0
      have HE := Lib.hid (HCK.out.done hl0)
      clear hrg hl0
      go_wp2
      go_ret
      exact ⟨m2, tb2, tc2, hb2, G2, rfl, HE.out, HBw.out⟩
    · intro x c kl y ps w3 cnt' hkey hlk hv hat' hrg1 hlt hg1 hs1 hen
      obtain ⟨i, hi, rfl⟩ := HK.out _ (HSub.out _ hlk)
      have hiT : i < T.length := by rw [HM.out.toH.len]; exact hi
      have hx := lawReg.inj hkey (rKey_of (HM.out.toH.tabw i hiT))
      subst hx
      have hc := encR_any hv (show y = _ from (hat' .nil).symm.trans (HA.out i hi .nil))
      subst hc
      have HB3 := Lib.hid (HBw.out.grown hg1 HBw.out.size (fun j hj => by cases hj; exact HR.out.2.2.2.2))
      have HC3 := Lib.hid (HCK.out.kept hg1 HR.out.1 HR.out.2.1 HR.out.2.2.1 HR.out.2.2.2.1)
      have HRg1 := Lib.hid hrg1
      have HLt := Lib.hid hlt
      have Hi := Lib.hid hi
      clear hkey hlk hv hat' hrg1 hrg hg1 hs1 hlt hi hiT HCK HBw
      go_wp2_with fail
      generalize hR : nthR T i = R at *
      have HRR := Lib.hid hR
      clear hR
      have B4 : Below w3.heap.size w3 (w3.alloc (.cells #[.int .u64 (rlo R), .int .u64 (rhi R), .int .i64 (rown R), .int .i64 (rout R)] 35)) := (Below.refl _ _).alloc (Nat.le_refl _) _
      have HB4 := Lib.hid (HB3.out.trans (B4.mono HB3.out.size))
      have HC4 := Lib.hid (HC3.out.below B4)
      have HRg4 := Lib.hid (RangeM.below HRg1.out B4)
      have r0' : (w3.alloc (.cells #[.int .u64 (rlo R), .int .u64 (rhi R), .int .i64 (rown R), .int .i64 (rout R)] 35)).cell? ⟨w3.heap.size, 0, none⟩ = some (.int .u64 (rlo R)) := by simp [go_sem]
      have r1' : (w3.alloc (.cells #[.int .u64 (rlo R), .int .u64 (rhi R), .int .i64 (rown R), .int .i64 (rout R)] 35)).cell? ⟨w3.heap.size, 1, none⟩ = some (.int .u64 (rhi R)) := by simp [go_sem]
      have r2' : (w3.alloc (.cells #[.int .u64 (rlo R), .int .u64 (rhi R), .int .i64 (rown R), .int .i64 (rout R)] 35)).cell? ⟨w3.heap.size, 2, none⟩ = some (.int .i64 (rown R)) := by simp [go_sem]
      have r3' : (w3.alloc (.cells #[.int .u64 (rlo R), .int .u64 (rhi R), .int .i64 (rown R), .int .i64 (rout R)] 35)).cell? ⟨w3.heap.size, 3, none⟩ = some (.int .i64 (rout R)) := by simp [go_sem]
      have hrn : w3.heap.size ≠ G2 i := by have := World.ranges.lt HRg1.out; have := HR.out.2.2.2.1 i Hi.out; omega
      clear B4 HB3 HC3 HRg1 hen
      generalize w3.alloc (.cells #[.int .u64 (rlo R), .int .u64 (rhi R), .int .i64 (rown R), .int .i64 (rout R)] 35) = W2 at *
      generalize w3.heap.size = r at *
      have hCK := HC4.out
      obtain ⟨B', hM2, hB'⟩ := hCK
      have hsrc := HM.out.below HB4.out
      have i2 := Hi.out
      have hw2 : W2.drew.grownBy (W2.drew.setRow (G2 i) ((B i).map (Value.int .u8)).toArray) (some (G2 i)) := grown_setRow _ _ _
      have q := hM2.toH.c1
      have hq2 := (hM2.away i i2).1
      have S0 := Lib.hid (show W2.drew.cell? ⟨m2, 1, none⟩ = some (.map (some hb2)) ∧ W2.drew.cell? ⟨r, 0, none⟩ = some (.int .u64 (rlo R)) ∧ W2.drew.cell? ⟨r, 1, none⟩ = some (.int .u64 (rhi R)) ∧ W2.drew.cell? ⟨r, 2, none⟩ = some (.int .i64 (rown R)) ∧ W2.drew.cell? ⟨r, 3, none⟩ = some (.int .i64 (rout R)) from ⟨q, r0', r1', r2', r3'⟩)
      have S1 := Lib.hid (And.intro (hw2.cell (a := ⟨m2, 1, none⟩) q (by simp; exact Ne.symm hq2)) (And.intro (hw2.cell (a := ⟨r, 0, none⟩) r0' (by simp; exact hrn)) (And.intro (hw2.cell (a := ⟨r, 1, none⟩) r1' (by simp; exact hrn)) (And.intro (hw2.cell (a := ⟨r, 2, none⟩) r2' (by simp; exact hrn)) (hw2.cell (a := ⟨r, 3, none⟩) r3' (by simp; exact hrn))))))
      have hlk := (hM2.toH.held.look (i := i) i2 (hM2.toH.tabw i (by rw [hM2.toH.len]; exact i2)))
      rw [HRR.out] at hlk
      have hlk2 : (Instr.lookup 59 (.map (some hb2)) (.agg #[.int .u64 (rlo R), .int .u64 (rhi R), .int .i64 (rown R), .int .i64 (rout R)]) false).run Try.prog W2.drew = .ok (.slice (some ⟨G2 i, 0, none⟩) (lenR R) (lenR R)) W2.drew := by
        have h := ((hM2.below (w' := W2.drew) (Below.drew (Below.refl _ _))).toH.held.look (i := i) i2 (hM2.toH.tabw i (by rw [hM2.toH.len]; exact i2)))
        rw [HRR.out] at h
        exact h
      have hrow : Row W2.drew (G2 i) (B' i) := hM2.rows i i2
      have hrow' : Row W2.drew (G i) (B i) := hsrc.rows i i2
      have hl : (B' i).length = lenR R := by rw [hM2.lens i i2, HRR.out]
      have hl' : (B i).length = lenR R := by rw [hsrc.lens i i2, HRR.out]
      have HX := Lib.hid (And.intro hrow (And.intro hrow' (And.intro hl hl')))
      have HW4 := Lib.hid (show Below w.heap.size w (W2.drew.setRow (G2 i) ((B i).map (Value.int .u8)).toArray) from HB4.out.drew.grown hw2 HB4.out.size (fun j hj => by cases hj; exact HF.out i i2))
      have hstep := (CopyK.below (w' := W2.drew) HC4.out (Below.drew (Below.refl _ _))).step HT.out i2 hw2 (setRow_heap W2.drew (G2 i) _ _ 5 _ hrow) (by rw [HRR.out]; exact hl') (hsrc.all i i2)
      rw [HRR.out] at hstep
      have HC5 := Lib.hid hstep
      have HRg5 := Lib.hid (show RangeM (W2.drew.setRow (G2 i) ((B i).map (Value.int .u8)).toArray) hb r0 n D _ cnt' from World.ranges.kept (RangeM.below (w' := W2.drew) HRg4.out (Below.drew (Below.refl _ _))) hw2 (by simp; have := HF.out i i2; have := HL.out; omega) (by simp; have := HR.out.2.2.2.1 i i2; omega))
      clear hM2 hB' hsrc hw2 q hq2 hlk hrow hrow' hl hl' hstep HC4 HB4 HRg4 r0' r1' r2' r3' hrn
      go_region_held3 (fun w' => w'.cell? ⟨m2, 1, none⟩ = some (.map (some hb2)) ∧ w'.cell? ⟨r, 0, none⟩ = some (.int .u64 (rlo R)) ∧ w'.cell? ⟨r, 1, none⟩ = some (.int .u64 (rhi R)) ∧ w'.cell? ⟨r, 2, none⟩ = some (.int .i64 (rown R)) ∧ w'.cell? ⟨r, 3, none⟩ = some (.int .i64 (rout R))) (first | exact S0.out | exact S1.out)
        ((refine step_copy_bytes rfl (.tmp 28) (.tmp 29) rfl (G2 i) (G i) (lenR R) (B' i) (B i) rfl rfl HX.out.1 HX.out.2.1 HX.out.2.2.1 HX.out.2.2.2 ?_))
      clear hlk2
      go_wp2
      go_roundw
      case rel => exact ⟨_, cnt', HRg5.out, fun kl h => HSub.out kl (by simp only [Bool.and_eq_true] at h; exact h.1), HC5.out, HW4.out⟩
      case measure => rw [World.ranges.left_eq HRg5.out, World.ranges.left_eq HRg.out]; exact HLt.out
end Go.Proofs.Ytpfohbinjcdcbaa
