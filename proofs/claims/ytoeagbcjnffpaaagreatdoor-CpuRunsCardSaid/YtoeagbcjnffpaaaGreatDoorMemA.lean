/- Layer 4: tables of regions, which may be, where bytes lie, who may do what: plain mathematics.
   Layer 4: what mayAccess, rights, areRights, mayStand, May and Find of package mem answer. -/
import Derived.Test.YtoeagbcjnffpaaaGreatDoorBitA
import Derived.Outline
namespace Go.Proofs.YtoeagbcjnffpaaaGreatDoor
set_option maxRecDepth 100000
open Go.RowKit
set_option linter.unusedVariables false

/-- a region: Lo, Hi, Own, Out -/
abbrev Rg := Int × Int × Int × Int
def rlo (r : Rg) : Int := r.1
def rhi (r : Rg) : Int := r.2.1
def rown (r : Rg) : Int := r.2.2.1
def rout (r : Rg) : Int := r.2.2.2
def nthR (T : List Rg) (i : Nat) : Rg := T.getD i (0, 0, 0, 0)
/-- each number fits its kind -/
def RgW (r : Rg) : Prop := IsU (rlo r) ∧ IsU (rhi r) ∧ IsI (rown r) ∧ IsI (rout r)
def TabW (T : List Rg) : Prop := ∀ i, i < T.length → RgW (nthR T i)
def okB (r : Rg) : Bool := decide (rlo r < rhi r ∧ rhi r - rlo r ≤ 65536 ∧ rlo r % 8 = 0 ∧ rhi r % 8 = 0 ∧ 0 ≤ rown r ∧ rown r ≤ 7 ∧ 0 ≤ rout r ∧ rout r ≤ 7)
theorem okB_iff {r : Rg} : okB r = true ↔ rlo r < rhi r ∧ rhi r - rlo r ≤ 65536 ∧ rlo r % 8 = 0 ∧ rhi r % 8 = 0 ∧ 0 ≤ rown r ∧ rown r ≤ 7 ∧ 0 ≤ rout r ∧ rout r ≤ 7 := by
  unfold okB; exact decide_eq_true_iff
theorem okB_no {r : Rg} : okB r = false ↔ ¬ (rlo r < rhi r ∧ rhi r - rlo r ≤ 65536 ∧ rlo r % 8 = 0 ∧ rhi r % 8 = 0 ∧ 0 ≤ rown r ∧ rown r ≤ 7 ∧ 0 ≤ rout r ∧ rout r ≤ 7) := by
  unfold okB; exact decide_eq_false_iff_not
/-- each may be, and they rise from e on -/
def chk (e : Int) : List Rg → Bool
  | [] => true
  | r :: t => decide (e ≤ rlo r) && okB r && chk (rhi r) t
def mayTB (T : List Rg) : Bool := decide (1 ≤ T.length) && decide (T.length ≤ 16) && chk 0 T
theorem drop_nthR {T : List Rg} {k : Nat} (h : k < T.length) : T.drop k = nthR T k :: T.drop (k + 1) := by
  rw [List.drop_eq_getElem_cons h]
  simp [nthR, h]
theorem chk_at {e : Int} {T : List Rg} {k : Nat} (h : k < T.length) : chk e (T.drop k) = (decide (e ≤ rlo (nthR T k)) && okB (nthR T k) && chk (rhi (nthR T k)) (T.drop (k + 1))) := by
  rw [drop_nthR h]; rfl
theorem chk_end {e : Int} {T : List Rg} : chk e (T.drop T.length) = true := by simp [chk]
theorem nthR_cons {r : Rg} {T : List Rg} {i : Nat} : nthR (r :: T) (i + 1) = nthR T i := rfl
theorem nthR_zero {r : Rg} {T : List Rg} : nthR (r :: T) 0 = r := rfl
theorem chk_all {T : List Rg} : ∀ {e : Int}, chk e T = true → ∀ i, i < T.length → okB (nthR T i) = true ∧ e ≤ rlo (nthR T i) := by
  induction T with
  | nil => intro e _ i hi; simp at hi
  | cons r t ih =>
    intro e h i hi
    simp only [chk, Bool.and_eq_true, decide_eq_true_eq] at h
    obtain ⟨⟨h1, h2⟩, h3⟩ := h
    cases i with
    | zero => exact ⟨h2, h1⟩
    | succ i =>
      have := ih h3 i (by simpa using hi)
      rw [nthR_cons]
      refine ⟨this.1, ?_⟩
      have := okB_iff.1 h2
      omega
theorem chk_rise {T : List Rg} : ∀ {e : Int}, chk e T = true → ∀ i j, i < j → j < T.length → rhi (nthR T i) ≤ rlo (nthR T j) := by
  induction T with
  | nil => intro e _ i j _ hj; simp at hj
  | cons r t ih =>
    intro e h i j hij hj
    simp only [chk, Bool.and_eq_true, decide_eq_true_eq] at h
    obtain ⟨⟨h1, h2⟩, h3⟩ := h
    obtain ⟨j, rfl⟩ : ∃ q, j = q + 1 := ⟨j - 1, by omega⟩
    rw [nthR_cons]
    cases i with
    | zero => exact (chk_all h3 j (by simpa using hj)).2
    | succ i => exact ih h3 i j (by omega) (by simpa using hj)
/-- a table that may be -/
def MayT (T : List Rg) : Prop := 1 ≤ T.length ∧ T.length ≤ 16 ∧ (∀ i, i < T.length → okB (nthR T i) = true) ∧ ∀ i j, i < j → j < T.length → rhi (nthR T i) ≤ rlo (nthR T j)
theorem mayB_to {T : List Rg} (h : mayTB T = true) : MayT T := by
  simp only [mayTB, Bool.and_eq_true, decide_eq_true_eq] at h
  exact ⟨h.1.1, h.1.2, fun i hi => (chk_all h.2 i hi).1, chk_rise h.2⟩
theorem MayT.ne {T : List Rg} (h : MayT T) {i j : Nat} (hi : i < T.length) (hj : j < T.length) (e : nthR T i = nthR T j) : i = j := by
  have go : ∀ i j, i < j → j < T.length → nthR T i = nthR T j → False := fun i j hij hj e => by
    have h1 := h.2.2.2 i j hij hj
    have h2 := okB_iff.1 (h.2.2.1 j hj)
    rw [e] at h1
    omega
  rcases Nat.lt_trichotomy i j with h1 | h1 | h1
  · exact (go i j h1 hj e).elim
  · exact h1
  · exact (go j i h1 hi e.symm).elim

/-- do n bytes from an address on lie in a region? -/
def hitB (r : Rg) (at_ n : Int) : Bool := decide (rlo r ≤ at_ ∧ at_ < rhi r ∧ n ≤ rhi r - at_)
theorem hitB_iff {r : Rg} {p n : Int} : hitB r p n = true ↔ rlo r ≤ p ∧ p < rhi r ∧ n ≤ rhi r - p := by unfold hitB; exact decide_eq_true_iff
theorem hitB_no {r : Rg} {p n : Int} : hitB r p n = false ↔ ¬ (rlo r ≤ p ∧ p < rhi r ∧ n ≤ rhi r - p) := by unfold hitB; exact decide_eq_false_iff_not
def FindYes (T : List Rg) (p n : Int) (i : Nat) : Prop := 1 ≤ n ∧ i < T.length ∧ hitB (nthR T i) p n = true ∧ ∀ j, j < i → hitB (nthR T j) p n = false
def FindNo (T : List Rg) (p n : Int) : Prop := n < 1 ∨ ∀ j, j < T.length → hitB (nthR T j) p n = false
theorem find_or (T : List Rg) (p n : Int) : FindNo T p n ∨ ∃ i, FindYes T p n i := by
  by_cases hn : n < 1
  · exact .inl (.inl hn)
  have go : ∀ k, k ≤ T.length → (∀ j, j < k → hitB (nthR T j) p n = false) ∨ ∃ i, FindYes T p n i := by
    intro k
    induction k with
    | zero => intro _; exact .inl (fun j hj => by omega)
    | succ k ih =>
      intro hk
      rcases ih (by omega) with h | h
      · cases e : hitB (nthR T k) p n with
        | true => exact .inr ⟨k, by omega, by omega, e, h⟩
        | false =>
          refine .inl (fun j hj => ?_)
          by_cases e1 : j = k
          · subst e1; exact e
          · exact h j (by omega)
      · exact .inr h
  rcases go T.length (Nat.le_refl _) with h | h
  · exact .inl (.inr h)
  · exact .inr h
theorem find_one {T : List Rg} {p n : Int} {i : Nat} (h : FindYes T p n i) (h' : FindNo T p n) : False := by
  obtain ⟨h1, h2, h3, h4⟩ := h
  rcases h' with h' | h'
  · omega
  · rw [h' i h2] at h3; cases h3
theorem find_is {T : List Rg} (hT : MayT T) {p n : Int} {i : Nat} (hn : 1 ≤ n) (hi : i < T.length) (h : hitB (nthR T i) p n = true) : FindYes T p n i := by
  refine ⟨hn, hi, h, fun j hj => ?_⟩
  have h1 := hitB_iff.1 h
  have h2 := hT.2.2.2 j i hj hi
  rw [hitB_no]
  omega
/-- what an access may have -/
def accB (p n : Int) : Bool := decide ((n = 1 ∨ n = 4 ∨ n = 8) ∧ p % n = 0)
def rightI (r : Rg) (own : Bool) : Int := if own then rown r else rout r
def hasB (x q : Int) : Bool := bits .and .i64 x q == q
/-- an access is allowed -/
def AllYes (T : List Rg) (p n : Int) (own : Bool) (q : Int) (i : Nat) : Prop := accB p n = true ∧ FindYes T p n i ∧ hasB (rightI (nthR T i) own) q = true
def AllNo (T : List Rg) (p n : Int) (own : Bool) (q : Int) : Prop := accB p n = false ∨ FindNo T p n ∨ ∃ i, FindYes T p n i ∧ hasB (rightI (nthR T i) own) q = false
theorem all_or (T : List Rg) (p n : Int) (own : Bool) (q : Int) : AllNo T p n own q ∨ ∃ i, AllYes T p n own q i := by
  cases ha : accB p n with
  | false => exact .inl (.inl ha)
  | true =>
    rcases find_or T p n with h | ⟨i, h⟩
    · exact .inl (.inr (.inl h))
    · cases hr : hasB (rightI (nthR T i) own) q with
      | false => exact .inl (.inr (.inr ⟨i, h, hr⟩))
      | true => exact .inr ⟨i, ha, h, hr⟩
theorem accB_n {p n : Int} (h : accB p n = true) : n = 1 ∨ n = 4 ∨ n = 8 := by
  unfold accB at h
  simp only [decide_eq_true_eq] at h
  exact h.1
theorem bel_drewN {B : Nat} {a w : World} (h : Below B a w) (n : Nat) : Below B a (w.drewN n) := ⟨h.os, h.tape, h.output, h.size, h.block⟩
end Go.Proofs.YtoeagbcjnffpaaaGreatDoor
namespace Go.Proofs.YtoeagbcjnffpaaaGreatDoor
set_option maxRecDepth 100000
open Go.RowKit
set_option linter.unusedVariables false

/-- the table's cells, from a place on -/
def TabAt (w : World) (b off : Nat) (T : List Rg) : Prop := ∀ i, i < T.length →
  w.cell? ⟨b, off + i * 4, none⟩ = some (.int .u64 (rlo (nthR T i))) ∧ w.cell? ⟨b, off + i * 4 + 1, none⟩ = some (.int .u64 (rhi (nthR T i))) ∧
  w.cell? ⟨b, off + i * 4 + 2, none⟩ = some (.int .i64 (rown (nthR T i))) ∧ w.cell? ⟨b, off + i * 4 + 3, none⟩ = some (.int .i64 (rout (nthR T i)))
def regV (r : Rg) : Value := .agg #[.int .u64 (rlo r), .int .u64 (rhi r), .int .i64 (rown r), .int .i64 (rout r)]
theorem TabAt.below {w w' : World} {b off : Nat} {T : List Rg} (h : TabAt w b off T) (hb : Below w.heap.size w w') : TabAt w' b off T := by
  intro i hi
  obtain ⟨h0, h1, h2, h3⟩ := h i hi
  have lt := block_lt h0
  exact ⟨by rw [hb.cell (p := ⟨b, _, none⟩) lt]; exact h0, by rw [hb.cell (p := ⟨b, _, none⟩) lt]; exact h1, by rw [hb.cell (p := ⟨b, _, none⟩) lt]; exact h2, by rw [hb.cell (p := ⟨b, _, none⟩) lt]; exact h3⟩
theorem areRights_any (x : Int) (w : World) : Calls Tryz.prog 171 #[.int .i64 x] w fun e w' => e = .returned (.bool (decide (0 ≤ x ∧ x ≤ 7))) ∧ w = w' := by
  by_cases h : 0 ≤ x
  · go_enter Tryz.func171, Tryz.ntmps171
    go_wp2
    go_ret
    exact ⟨ret_bool (by simp [h]), rfl⟩
  · go_enter Tryz.func171, Tryz.ntmps171
    go_wp2
    go_ret
    exact ⟨ret_bool (by simp; omega), rfl⟩
theorem rights_any (r : Rg) (own : Bool) (w : World) :
    Calls Tryz.prog 196 #[.agg #[.int .u64 (rlo r), .int .u64 (rhi r), .int .i64 (rown r), .int .i64 (rout r)], .bool own] w fun e w' => e = .returned (.int .i64 (rightI r own)) ∧ Below w.heap.size w w' := by
  cases own
  · go_enter Tryz.func196, Tryz.ntmps196
    go_wp2
    go_ret
    exact ⟨rfl, (Below.refl _ _).alloc (Nat.le_refl _) _⟩
  · go_enter Tryz.func196, Tryz.ntmps196
    go_wp2
    go_ret
    exact ⟨rfl, (Below.refl _ _).alloc (Nat.le_refl _) _⟩
theorem mayAccess_any (p n : Int) (hp : IsU p) (hn : IsI n) (w : World) : Calls Tryz.prog 195 #[.int .u64 p, .int .i64 n] w fun e w' => e = .returned (.bool (accB p n)) ∧ w = w' := by
  obtain ⟨p0, p1⟩ := hp
  by_cases h1 : n = 1
  · subst h1
    go_enter Tryz.func195, Tryz.ntmps195
    go_wp2
    go_ret
    exact ⟨ret_bool (by simp [accB]), rfl⟩
  by_cases h2 : n = 4
  · subst h2
    go_enter Tryz.func195, Tryz.ntmps195
    go_wp2
    go_ret
    exact ⟨ret_bool (by simp [accB]; rw [Bool.eq_iff_iff]; simp), rfl⟩
  by_cases h3 : n = 8
  · subst h3
    go_enter Tryz.func195, Tryz.ntmps195
    go_wp2
    go_ret
    exact ⟨ret_bool (by simp [accB]; rw [Bool.eq_iff_iff]; simp), rfl⟩
  have e1 : (n == 1) = false := by rw [beq_eq_false_iff_ne]; exact h1
  have e2 : (n == 4) = false := by rw [beq_eq_false_iff_ne]; exact h2
  have e3 : (n == 8) = false := by rw [beq_eq_false_iff_ne]; exact h3
  have H := Lib.hid (And.intro h1 (And.intro h2 h3))
  clear h1 h2 h3
  go_enter Tryz.func195, Tryz.ntmps195
  go_wp2
  go_ret
  exact ⟨ret_bool (by have := H.out; unfold accB; symm; rw [decide_eq_false_iff_not]; omega), rfl⟩
set_option maxHeartbeats 400000 in
theorem mayStand_any (r : Rg) (hr : RgW r) (w : World) :
    Calls Tryz.prog 119 #[.agg #[.int .u64 (rlo r), .int .u64 (rhi r), .int .i64 (rown r), .int .i64 (rout r)]] w fun e w' => e = .returned (.bool (okB r)) ∧ Below w.heap.size w w' := by
  obtain ⟨⟨l0, l1⟩, ⟨h0, h1⟩, _, _⟩ := hr
  have HI := Lib.hid (okB_iff (r := r))
  have HN := Lib.hid (okB_no (r := r))
  generalize okB r = B at HI HN ⊢
  generalize rlo r = lo at *
  generalize rhi r = hi at *
  generalize rown r = ow at *
  generalize rout r = ou at *
  go_enter Tryz.func119, Tryz.ntmps119
  go_wp2_with (go_at_call 171; refine (areRights_any _ _).mono ?_; rintro e w' ⟨rfl, rfl⟩)
  all_goals
    go_ret
    refine ⟨ret_bool ?_, (Below.refl _ _).alloc (Nat.le_refl _) _⟩
    rw [Bool.eq_iff_iff, HI.out]
    first | omega | (simp only [Bool.and_eq_true, decide_eq_true_eq, Bool.false_eq_true, false_iff]; omega) | (simp; omega)
theorem may_none (A : Option Addr) (c : Nat) (w : World) : Calls Tryz.prog 67 #[.slice A 0 c] w fun e w' => e = .returned (.bool false) ∧ w = w' := by
  go_enter Tryz.func67, Tryz.ntmps67
  go_wp2
  go_ret
  exact ⟨rfl, rfl⟩
theorem may_many (A : Option Addr) (n c : Nat) (h : 16 < n) (w : World) : Calls Tryz.prog 67 #[.slice A n c] w fun e w' => e = .returned (.bool false) ∧ w = w' := by
  have h1 : ¬ ((n : Int) < 1) := by omega
  have h2 : (16 : Int) < n := by omega
  go_enter Tryz.func67, Tryz.ntmps67
  go_wp2
  go_ret
  exact ⟨rfl, rfl⟩
theorem mayB_chk {T : List Rg} (h0 : 1 ≤ T.length) (h1 : T.length ≤ 16) : mayTB T = chk 0 T := by simp [mayTB, h0, h1]
theorem mayB_out {T : List Rg} (h : T.length < 1 ∨ 16 < T.length) : mayTB T = false := by
  unfold mayTB
  rcases h with h | h
  · rw [show decide (1 ≤ T.length) = false from by rw [decide_eq_false_iff_not]; omega]; rfl
  · rw [show decide (T.length ≤ 16) = false from by rw [decide_eq_false_iff_not]; omega]; simp
theorem not_bool {b : Bool} : (!b) = true ↔ b = false := by cases b <;> simp
set_option maxHeartbeats 1000000 in
theorem may_some (b off c : Nat) (T : List Rg) (n : Nat) (hn : T.length = n) (h0 : 1 ≤ n) (h1 : n ≤ 16) (hW : TabW T) (w : World) (hT : TabAt w b off T) :
    Calls Tryz.prog 67 #[.slice (some ⟨b, off, none⟩) n c] w fun e w' => e = .returned (.bool (mayTB T)) ∧ Below w.heap.size w w' := by
  rw [mayB_chk (by omega) (by omega)]
  have Hn := Lib.hid hn
  have HT := Lib.hid hT
  have HW := Lib.hid hW
  have q1 : ¬ ((n : Int) < 1) := by omega
  have q2 : ¬ ((16 : Int) < n) := by omega
  clear hn hT hW
  go_enter Tryz.func67, Tryz.ntmps67
  go_wp2
  go_loopw [3, 16] (fun e i wr => ∃ (k : Nat) (x : Int), k ≤ n ∧ i = .int .i64 k ∧ e = .int .u64 x ∧ IsU x ∧ chk 0 T = chk x (T.drop k) ∧ Below w.heap.size w wr) (fun _ i _ => n - (intOf i).toNat)
  case atStart => exact ⟨0, 0, by omega, rfl, rfl, ⟨by omega, by omega⟩, rfl, Below.refl _ _⟩
  case round =>
    obtain ⟨k, x, hk, rfl, rfl, hx, hc, hb⟩ := hrel
    have Hb := Lib.hid hb
    by_cases hlt : k < n
    · have hkT : k < T.length := by have := Hn.out; omega
      obtain ⟨c0, c1, c2, c3⟩ := (HT.out.below hb) k hkT
      have hr := HW.out k hkT
      have Hr := Lib.hid hr
      have Hc := Lib.hid (hc.trans (chk_at hkT))
      have Hu := Lib.hid hx
      obtain ⟨x0, x1⟩ := hx
      obtain ⟨⟨l0, l1⟩, _⟩ := hr
      have k0 : (0 : Int) ≤ k := by omega
      have k1 : (k : Int) < n := by omega
      clear hb hc q1 q2
      generalize hR : nthR T k = R at *
      have HR := Lib.hid hR
      clear hR
      by_cases hr : rlo R < x
      · have HE := Lib.hid (show chk 0 T = false from by rw [Hc.out, show decide (x ≤ rlo R) = false from by rw [decide_eq_false_iff_not]; omega]; rfl)
        clear hlt
        go_wp2
        go_ret
        exact ⟨ret_bool HE.out.symm, Hb.out.alloc Hb.out.size _⟩
      · have hr' : x ≤ rlo R := by omega
        have HE := Lib.hid (show chk 0 T = (okB R && chk (rhi R) (T.drop (k + 1))) from by rw [Hc.out, show decide (x ≤ rlo R) = true from by rw [decide_eq_true_eq]; exact hr']; rfl)
        have Hsz := Lib.hid Hb.out.size
        clear hlt
        go_wp2_with fail
        refine (mayStand_any R Hr.out _).mono ?_
        rintro e w' ⟨rfl, hb2⟩
        have d1 : w'.cell? ⟨wr.heap.size, 1, none⟩ = some (.int .u64 (rhi R)) := by rw [hb2.cell (p := ⟨_, 1, none⟩) (by simp)]; simp [go_sem]
        have Hb3 := Lib.hid ((Hb.out.alloc Hsz.out _).trans (hb2.mono (by simp; have := Hsz.out; omega)))
        clear hb2
        cases hok : okB R with
        | false =>
          rw [hok] at HE
          go_wp2
          go_ret
          exact ⟨ret_bool HE.out.symm, Hb3.out⟩
        | true =>
          rw [hok] at HE
          go_wp2
          go_roundw
          case rel => exact ⟨k + 1, rhi R, by omega, by go_num, rfl, Hr.out.2.1, HE.out, Hb3.out⟩
          case measure => simp [intOf]; omega
    · obtain rfl : k = n := by omega
      have HE := Lib.hid (hc.trans (show chk x (T.drop k) = true from by have := Hn.out; subst this; exact chk_end))
      clear hb hc hx
      go_wp2
      go_ret
      exact ⟨ret_bool HE.out.symm, Hb.out⟩
set_option maxHeartbeats 1000000 in
theorem find_no (m tb tc hb : Nat) (T : List Rg) (p q : Int) (n : Nat) (hn : T.length = n) (hm : n ≤ 1000) (hp : IsU p) (hq : IsI q) (hW : TabW T) (w : World) (h0 : w.cell? ⟨m, 0, none⟩ = some (.slice (some ⟨tb, 0, none⟩) n tc)) (hT : TabAt w tb 0 T) (hF : FindNo T p q) :
    Calls Tryz.prog 88 #[.pointer (some ⟨m, 0, none⟩), .int .u64 p, .int .i64 q] w fun e w' => e = .returned (.tuple #[.int .i64 0, .bool false]) ∧ Below w.heap.size w w' := by
  by_cases hq1 : q < 1
  · clear hF
    go_enter Tryz.func88, Tryz.ntmps88
    go_wp2
    go_ret2
    exact ⟨rfl, Below.refl _ _⟩
  · have hF' : ∀ j, j < T.length → hitB (nthR T j) p q = false := by
      rcases hF with h | h
      · omega
      · exact h
    have Hn := Lib.hid hn
    have HT := Lib.hid hT
    have HW := Lib.hid hW
    have HF := Lib.hid hF'
    clear hn hT hW hF hF'
    obtain ⟨p0, p1⟩ := hp
    obtain ⟨_, q1⟩ := hq
    go_enter Tryz.func88, Tryz.ntmps88
    go_wp2
    go_loopw [21] (fun i wr => ∃ (k : Nat), k ≤ n ∧ i = .int .i64 k ∧ Below w.heap.size w wr) (fun i _ => n - (intOf i).toNat)
    case atStart => exact ⟨0, by omega, rfl, Below.refl _ _⟩
    case round =>
      obtain ⟨k, hk, rfl, hb⟩ := hrel
      have Hb := Lib.hid hb
      by_cases hlt : k < n
      · have hkT : k < T.length := by have := Hn.out; omega
        obtain ⟨c0, c1, c2, c3⟩ := (HT.out.below hb) k hkT
        have hr := HW.out k hkT
        have HN := Lib.hid (hitB_no.1 (HF.out k hkT))
        obtain ⟨⟨l0, l1⟩, ⟨u0, u1⟩, _⟩ := hr
        have k0 : (0 : Int) ≤ k := by omega
        have k1 : (k : Int) < n := by omega
        simp only [Nat.zero_add] at c0 c1 c2 c3
        clear hb
        generalize hR : nthR T k = R at *
        have HR := Lib.hid hR
        clear hR
        go_wp2
        all_goals first
          | (exfalso; have := HN.out; omega)
          | (go_roundw
             case rel => exact ⟨k + 1, by omega, by go_num, Hb.out.alloc Hb.out.size _⟩
             case measure => simp [intOf]; omega)
      · obtain rfl : k = n := by omega
        clear hb
        go_wp2
        go_ret2
        exact ⟨rfl, Hb.out⟩
set_option maxHeartbeats 1000000 in
theorem find_yes (m tb tc : Nat) (T : List Rg) (p q : Int) (i n : Nat) (hn : T.length = n) (hm : n ≤ 1000) (hp : IsU p) (hq : IsI q) (hW : TabW T) (w : World) (h0 : w.cell? ⟨m, 0, none⟩ = some (.slice (some ⟨tb, 0, none⟩) n tc)) (hT : TabAt w tb 0 T) (hF : FindYes T p q i) :
    Calls Tryz.prog 88 #[.pointer (some ⟨m, 0, none⟩), .int .u64 p, .int .i64 q] w fun e w' => e = .returned (.tuple #[.int .i64 i, .bool true]) ∧ Below w.heap.size w w' := by
  obtain ⟨hq1, hi, hy, hno⟩ := hF
  have Hn := Lib.hid hn
  have HT := Lib.hid hT
  have HW := Lib.hid hW
  have HF := Lib.hid hno
  have HY := Lib.hid (hitB_iff.1 hy)
  have HI := Lib.hid (show i < n by omega)
  clear hn hT hW hno hy hi
  obtain ⟨p0, p1⟩ := hp
  obtain ⟨_, q1⟩ := hq
  go_enter Tryz.func88, Tryz.ntmps88
  go_wp2
  go_loopw [21] (fun x wr => ∃ (k : Nat), k ≤ i ∧ x = .int .i64 k ∧ Below w.heap.size w wr) (fun x _ => i - (intOf x).toNat)
  case atStart => exact ⟨0, by omega, rfl, Below.refl _ _⟩
  case round =>
    obtain ⟨k, hk, rfl, hb⟩ := hrel
    have hkn : k < n := by have := HI.out; omega
    have Hb := Lib.hid hb
    have hkT : k < T.length := by have := Hn.out; omega
    obtain ⟨c0, c1, c2, c3⟩ := (HT.out.below hb) k hkT
    have hr := HW.out k hkT
    obtain ⟨⟨l0, l1⟩, ⟨u0, u1⟩, _⟩ := hr
    have k0 : (0 : Int) ≤ k := by omega
    have k1 : (k : Int) < n := by omega
    simp only [Nat.zero_add] at c0 c1 c2 c3
    clear hb
    by_cases hlt : k < i
    · have HN := Lib.hid (hitB_no.1 (HF.out k hlt))
      generalize hR : nthR T k = R at *
      have HR := Lib.hid hR
      clear hR
      go_wp2
      all_goals first
        | (exfalso; have := HN.out; omega)
        | (go_roundw
           case rel => exact ⟨k + 1, by omega, by go_num, Hb.out.alloc Hb.out.size _⟩
           case measure => simp [intOf]; omega)
    · obtain rfl : k = i := by omega
      obtain ⟨y0, y1, y2⟩ := HY.out
      generalize hR : nthR T k = R at *
      have HR := Lib.hid hR
      clear hR
      go_wp2
      go_ret2
      exact ⟨rfl, Hb.out.alloc Hb.out.size _⟩
end Go.Proofs.YtoeagbcjnffpaaaGreatDoor
