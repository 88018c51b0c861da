/- Layer 4: what New of package mem answers: a memory whose bytes are 0, or Overlap. -/
import Derived.Test.YtpfohbinjcdcbaaMemPoke
import Derived.Laws.OwnMore
namespace Go.Proofs.Ytpfohbinjcdcbaa
open Go.RowKit Go.Maps
set_option linter.unusedVariables false

def cellsR (r : Rg) : List Value := [.int .u64 (rlo r), .int .u64 (rhi r), .int .i64 (rown r), .int .i64 (rout r)]
def cellsT : List Rg → List Value
  | [] => []
  | r :: t => cellsR r ++ cellsT t
theorem cellsT_length (T : List Rg) : (cellsT T).length = T.length * 4 := by
  induction T with
  | nil => rfl
  | cons r t ih => simp [cellsT, cellsR, ih]; omega
theorem cellsT_at : ∀ (T : List Rg) (i j : Nat), i < T.length → j < 4 → (cellsT T)[i * 4 + j]? = (cellsR (nthR T i))[j]? := by
  intro T
  induction T with
  | nil => intro i j hi; simp at hi
  | cons r t ih =>
    intro i j hi hj
    cases i with
    | zero =>
      rw [Nat.zero_mul, Nat.zero_add, nthR_zero]
      show (cellsR r ++ cellsT t)[j]? = _
      rw [List.getElem?_append_left (by simp [cellsR]; omega)]
    | succ i =>
      rw [nthR_cons, ← ih i j (by simpa using hi) hj]
      show (cellsR r ++ cellsT t)[(i + 1) * 4 + j]? = _
      rw [List.getElem?_append_right (by simp [cellsR]; omega)]
      congr 1
      simp [cellsR]; omega
theorem tab_cells {w : World} {b off : Nat} {T : List Rg} (h : TabAt w b off T) : ∀ j u, (cellsT T)[j]? = some u → w.cell? ((⟨b, off, none⟩ : Addr).add j) = some u := by
  intro j u hj
  have hlt : j < T.length * 4 := by rw [← cellsT_length]; exact (List.getElem?_eq_some_iff.1 hj).1
  obtain ⟨c0, c1, c2, c3⟩ := h (j / 4) (by omega)
  have e : j = j / 4 * 4 + j % 4 := by omega
  have hadd : (⟨b, off, none⟩ : Addr).add j = ⟨b, off + j, none⟩ := by
    unfold Addr.add
    by_cases e0 : j = 0
    · subst e0; simp
    · simp [e0]
  rw [hadd]
  rw [e, cellsT_at T (j / 4) (j % 4) (by omega) (by omega)] at hj
  have e2 : off + j = off + j / 4 * 4 + j % 4 := by omega
  rw [e2]
  have hm : j % 4 = 0 ∨ j % 4 = 1 ∨ j % 4 = 2 ∨ j % 4 = 3 := by omega
  rcases hm with hm | hm | hm | hm <;> rw [hm] at hj ⊢ <;> simp [cellsR] at hj <;> subst hj <;> assumption
theorem tab_of_owned {w : World} {base g n c : Nat} {e : TypeId} {T : List Rg} (h : w.ownsRow base e 4 (.slice (some ⟨g, 0, none⟩) n c) n (cellsT T)) (hn : T.length = n) : TabAt w g 0 T := by
  intro i hi
  have hc : ∀ j, j < 4 → w.cell? ⟨g, 0 + i * 4 + j, none⟩ = (cellsR (nthR T i))[j]? := fun j hj => by
    rw [Nat.zero_add, h.cellAt (i * 4 + j) (by omega), cellsT_at T i j hi hj]
  exact ⟨hc 0 (by omega), hc 1 (by omega), hc 2 (by omega), hc 3 (by omega)⟩
theorem cellsT_one (T : List Rg) : ∀ u ∈ cellsT T, u.oneCell' = true := by
  induction T with
  | nil => intro u hu; simp [cellsT] at hu
  | cons r t ih =>
    intro u hu
    simp only [cellsT, cellsR, List.mem_append, List.mem_cons, List.not_mem_nil, or_false] at hu
    rcases hu with (rfl | rfl | rfl | rfl) | hu
    · rfl
    · rfl
    · rfl
    · rfl
    · exact ih u hu
theorem infoReg : (Try.prog.info? 35).map (fun i => (i.zero, i.size, i.bytes)) = some (some (.agg #[.int .u64 0, .int .u64 0, .int .i64 0, .int .i64 0]), 4, 32) := by kernel_rfl
theorem eqNilR : ∀ (w : World) (a : Option Addr) (n c n' c' : Nat), (binOp .eql 22 (.slice a n c) (.slice none n' c')).run Try.prog w = .ok (.bool a.isNone) w := fun w a n c n' c' => Lib.run_eql_slice_nil w _ _ a n c n' c' Try.underlying22
set_option maxHeartbeats 400000 in
theorem cloneR_some (b off n c : Nat) (T : List Rg) (hn : T.length = n) (h1 : 1 ≤ n) (h2 : n ≤ 16) (w : World) (hT : TabAt w b off T) :
    Calls Try.prog 32 #[.slice (some ⟨b, off, none⟩) n c] w fun e w' => ∃ g c', e = .returned (.slice (some ⟨g, 0, none⟩) n c') ∧ TabAt w' g 0 T ∧ w.heap.size ≤ g ∧ g < w'.heap.size ∧ Below w.heap.size w w' := by
  obtain ⟨i0, hi, hz0, hz1, hz2⟩ := info_parts infoReg
  have HT := Lib.hid hT
  have HN := Lib.hid hn
  clear hT hn
  have q22 := eqNilR
  go_enter Try.func32, Try.ntmps32
  go_wp2_with (at_builtin; refine wpList_append_own _ rfl _ _ 22 rfl w.heap.size 35 i0 (.agg #[.int .u64 0, .int .u64 0, .int .i64 0, .int .i64 0]) 4 32 Try.underlying22 hi hz0 hz1 hz2 rfl (by decide) _ 0 [] rfl ?own ⟨b, off, none⟩ n c (cellsT T) rfl ?len ?c1 ?c2 ?c3 ?c4 ?c5 ?_)
  case own => exact empty_rowO
  case len => rw [cellsT_length, HN.out]
  case c1 => exact tab_cells (HT.out.below ((Below.refl _ _).alloc (Nat.le_refl _) _))
  case c2 => exact cellsT_one T
  case c3 => unfold maxLen; omega
  case c4 => omega
  case c5 => simp
  intro v3 w3 hown hgrow hnil
  obtain ⟨g, cap, rfl⟩ := owned_formO hown hnil
  have HO := Lib.hid (tab_of_owned hown HN.out)
  have HG := Lib.hid (hown.lt g rfl)
  have HB := Lib.hid ((((Below.refl _ w).alloc (Nat.le_refl _) _).grown hgrow (by simp) (by simp [Value.ownBlock]) : Below w.heap.size w w3))
  clear hown hgrow hnil
  go_wp2
  go_ret
  exact ⟨g, cap, rfl, HO.out, HG.out.1, HG.out.2, HB.out⟩
/-- n bytes 0, as cells -/
def zC (n : Nat) : Array Value := ((List.replicate n (0 : Int)).map (Value.int .u8)).toArray
theorem zC_made (n : Nat) : madeCells (Value.int .u8 0).cells n = zC n := by
  apply Array.toList_inj.1
  show (madeCells #[Value.int .u8 0] n).toList = _
  rw [toList_madeCells_one]
  simp [zC]
theorem make_any (x : Int) (h0 : 0 ≤ x) (h1 : x ≤ 65536) (w : World) :
    (Instr.makeSlice 24 (.int .u64 x) (.int .u64 x)).run Try.prog w = .ok (.slice (some ⟨w.heap.size, 0, none⟩) x.toNat x.toNat) (w.alloc (.cells (zC x.toNat) 5)) := by
  obtain ⟨i0, hi, hz0, hz1, hz2⟩ := info_parts info5
  have h := run_make (P := Try.prog) w 24 5 i0 (.int .u8 0) Try.underlying24 hi hz0 .u64 .u64 x x h0 (Int.le_refl _) (by rw [hz2]; omega) (by omega)
  rw [h, hz1, Nat.mul_one, zC_made]
/-- a memory under way: the first k regions have their rows -/
structure MemK (w : World) (base m tb tc hb n : Nat) (T : List Rg) (G : Nat → Nat) (k : Nat) : Prop where
  len : T.length = n
  few : n ≤ 16
  tabw : TabW T
  c0 : w.cell? ⟨m, 0, none⟩ = some (.slice (some ⟨tb, 0, none⟩) n tc)
  c1 : w.cell? ⟨m, 1, none⟩ = some (.map (some hb))
  tab : TabAt w tb 0 T
  held : HeldM w hb T G (fun i => lenR (nthR T i)) k
  rows : ∀ i, i < k → Row w (G i) (List.replicate (lenR (nthR T i)) 0)
  apart : ∀ i j, i < k → j < k → G i = G j → i = j
  away : ∀ i, i < k → G i ≠ m ∧ G i ≠ tb ∧ G i ≠ hb
  from_ : ∀ i, i < k → base ≤ G i
  own : base ≤ m ∧ base ≤ tb ∧ base ≤ hb
  sep : hb ≠ m ∧ hb ≠ tb
section
variable {w w' : World} {base m tb tc hb n k : Nat} {T : List Rg} {G : Nat → Nat}
theorem MemK.below (h : MemK w base m tb tc hb n T G k) (hw : Below w.heap.size w w') : MemK w' base m tb tc hb n T G k :=
  ⟨h.len, h.few, h.tabw, by rw [hw.cell (p := ⟨m, 0, none⟩) (block_lt h.c0)]; exact h.c0, by rw [hw.cell (p := ⟨m, 1, none⟩) (block_lt h.c1)]; exact h.c1, h.tab.below hw, h.held.below hw, fun i hi => (h.rows i hi).below hw, h.apart, h.away, h.from_, h.own, h.sep⟩
/-- all bytes are 0 -/
def zerosB (T : List Rg) (i : Nat) : List Int := List.replicate (lenR (nthR T i)) 0
theorem MemK.done (h : MemK w base m tb tc hb n T G n) : MemIs w base m tb tc hb n T G (zerosB T) :=
  ⟨⟨h.len, h.few, h.tabw, h.c0, h.c1, h.tab, h.held⟩, h.rows, fun i hi x hx => by rw [(List.mem_replicate.1 hx).2]; omega, fun i hi => by simp [zerosB], h.apart, h.away, h.from_, h.own⟩
theorem MemK.step (h : MemK w base m tb tc hb n T G k) (hk : k < n) (hT : MayT T) (hbase : base ≤ w.heap.size) :
    ∃ w1, (Instr.mapUpdate 59 (.map (some hb)) (.agg #[.int .u64 (rlo (nthR T k)), .int .u64 (rhi (nthR T k)), .int .i64 (rown (nthR T k)), .int .i64 (rout (nthR T k))]) (.slice (some ⟨w.heap.size, 0, none⟩) (lenR (nthR T k)) (lenR (nthR T k)))).run Try.prog (w.alloc (.cells (zC (lenR (nthR T k))) 5)).drew = .ok () w1 ∧
      MemK w1 base m tb tc hb n T (fun i => if i = k then w.heap.size else G i) (k + 1) ∧ (w.alloc (.cells (zC (lenR (nthR T k))) 5)).drew.grownBy w1 (some hb) := by
  have bX : Below w.heap.size w (w.alloc (.cells (zC (lenR (nthR T k))) 5)).drew := ((Below.refl _ _).alloc (Nat.le_refl _) _).drew
  have hX := h.below bX
  have hrow : Row (w.alloc (.cells (zC (lenR (nthR T k))) 5)).drew w.heap.size (List.replicate (lenR (nthR T k)) 0) := heap_alloc_new w _
  obtain ⟨w1, hr, hh, hg⟩ := hX.held.put (g := w.heap.size) (n := lenR (nthR T k)) (by have := h.few; omega) (fun i hi => h.tabw i (by rw [h.len]; omega)) (fun i hi e => by have := hT.ne (by rw [h.len]; omega) (by rw [h.len]; omega) e; omega)
  have hlt : ∀ i, i < k → G i < w.heap.size := fun i hi => (h.rows i hi).lt
  have m0 : m < w.heap.size := block_lt h.c0
  have h0 : hb < w.heap.size := h.held.lt
  obtain ⟨s0, s1⟩ := h.sep
  refine ⟨w1, hr, ⟨h.len, h.few, h.tabw, hg.cell hX.c0 (by simp; exact Ne.symm s0), hg.cell hX.c1 (by simp; exact Ne.symm s0), fun i hi => ?_, hh.congr (fun _ _ => rfl) (fun i hi => ?_), fun i hi => ?_, fun i j hi hj e => ?_, fun i hi => ?_, fun i hi => ?_, h.own, h.sep⟩, hg⟩
  · obtain ⟨c0, c1, c2, c3⟩ := hX.tab i hi
    exact ⟨hg.cell c0 (by simp; exact Ne.symm s1), hg.cell c1 (by simp; exact Ne.symm s1), hg.cell c2 (by simp; exact Ne.symm s1), hg.cell c3 (by simp; exact Ne.symm s1)⟩
  · by_cases e : i = k
    · subst e; simp
    · simp [e]
  · show Row w1 (if i = k then w.heap.size else G i) _
    by_cases e : i = k
    · subst e
      rw [if_pos rfl]
      exact hrow.kept hg (by simp; omega)
    · rw [if_neg e]
      exact (hX.rows i (by omega)).kept hg (by simp; exact (h.away i (by omega)).2.2)
  · have e' : (if i = k then w.heap.size else G i) = (if j = k then w.heap.size else G j) := e
    by_cases e1 : i = k <;> by_cases e2 : j = k
    · omega
    · rw [if_pos e1, if_neg e2] at e'; have := hlt j (by omega); omega
    · rw [if_neg e1, if_pos e2] at e'; have := hlt i (by omega); omega
    · rw [if_neg e1, if_neg e2] at e'; exact h.apart i j (by omega) (by omega) e'
  · show (if i = k then w.heap.size else G i) ≠ m ∧ (if i = k then w.heap.size else G i) ≠ tb ∧ (if i = k then w.heap.size else G i) ≠ hb
    by_cases e : i = k
    · rw [if_pos e]
      have t0 : tb < w.heap.size := block_lt (h.tab 0 (by rw [h.len]; omega)).1
      exact ⟨by omega, by omega, by omega⟩
    · rw [if_neg e]; exact h.away i (by omega)
  · show base ≤ (if i = k then w.heap.size else G i)
    by_cases e : i = k
    · rw [if_pos e]; exact hbase
    · rw [if_neg e]; exact h.from_ i (by omega)
end
end Go.Proofs.Ytpfohbinjcdcbaa
