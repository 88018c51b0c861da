/- Layer 4: what mayAccess, rights, areRights, mayStand, May and Find of package mem answer. -/
import Derived.Test.YtpfohbinjcdcbaaMemMath
import Derived.Outline
namespace Go.Proofs.Ytpfohbinjcdcbaa
open Go.RowKit
set_option linter.unusedVariables false

/-- the table's cells, from a place on -/
def TabAt (w : World) (b off : Nat) (T : List Rg) : Prop := ∀ i, i < T.length →
  w.cell? ⟨b, off + i * 4, none⟩ = some (.int .u64 (rlo (nthR T i))) ∧ w.cell? ⟨b, off + i * 4 + 1, none⟩ = some (.int .u64 (rhi (nthR T i))) ∧
  w.cell? ⟨b, off + i * 4 + 2, none⟩ = some (.int .i64 (rown (nthR T i))) ∧ w.cell? ⟨b, off + i * 4 + 3, none⟩ = some (.int .i64 (rout (nthR T i)))
def regV (r : Rg) : Value := .agg #[.int .u64 (rlo r), .int .u64 (rhi r), .int .i64 (rown r), .int .i64 (rout r)]
theorem TabAt.below {w w' : World} {b off : Nat} {T : List Rg} (h : TabAt w b off T) (hb : Below w.heap.size w w') : TabAt w' b off T := by
  intro i hi
  obtain ⟨h0, h1, h2, h3⟩ := h i hi
  have lt := block_lt h0
  exact ⟨by rw [hb.cell (p := ⟨b, _, none⟩) lt]; exact h0, by rw [hb.cell (p := ⟨b, _, none⟩) lt]; exact h1, by rw [hb.cell (p := ⟨b, _, none⟩) lt]; exact h2, by rw [hb.cell (p := ⟨b, _, none⟩) lt]; exact h3⟩
theorem areRights_any (x : Int) (w : World) : Calls Try.prog 34 #[.int .i64 x] w fun e w' => e = .returned (.bool (decide (0 ≤ x ∧ x ≤ 7))) ∧ w = w' := by
  by_cases h : 0 ≤ x
  · go_enter Try.func34, Try.ntmps34
    go_wp2
    go_ret
    exact ⟨ret_bool (by simp [h]), rfl⟩
  · go_enter Try.func34, Try.ntmps34
    go_wp2
    go_ret
    exact ⟨ret_bool (by simp; omega), rfl⟩
theorem rights_any (r : Rg) (own : Bool) (w : World) :
    Calls Try.prog 29 #[.agg #[.int .u64 (rlo r), .int .u64 (rhi r), .int .i64 (rown r), .int .i64 (rout r)], .bool own] w fun e w' => e = .returned (.int .i64 (rightI r own)) ∧ Below w.heap.size w w' := by
  cases own
  · go_enter Try.func29, Try.ntmps29
    go_wp2
    go_ret
    exact ⟨rfl, (Below.refl _ _).alloc (Nat.le_refl _) _⟩
  · go_enter Try.func29, Try.ntmps29
    go_wp2
    go_ret
    exact ⟨rfl, (Below.refl _ _).alloc (Nat.le_refl _) _⟩
theorem mayAccess_any (p n : Int) (hp : IsU p) (hn : IsI n) (w : World) : Calls Try.prog 28 #[.int .u64 p, .int .i64 n] w fun e w' => e = .returned (.bool (accB p n)) ∧ w = w' := by
  obtain ⟨p0, p1⟩ := hp
  by_cases h1 : n = 1
  · subst h1
    go_enter Try.func28, Try.ntmps28
    go_wp2
    go_ret
    exact ⟨ret_bool (by simp [accB]), rfl⟩
  by_cases h2 : n = 4
  · subst h2
    go_enter Try.func28, Try.ntmps28
    go_wp2
    go_ret
    exact ⟨ret_bool (by simp [accB]; rw [Bool.eq_iff_iff]; simp), rfl⟩
  by_cases h3 : n = 8
  · subst h3
    go_enter Try.func28, Try.ntmps28
    go_wp2
    go_ret
    exact ⟨ret_bool (by simp [accB]; rw [Bool.eq_iff_iff]; simp), rfl⟩
  have e1 : (n == 1) = false := by rw [beq_eq_false_iff_ne]; exact h1
  have e2 : (n == 4) = false := by rw [beq_eq_false_iff_ne]; exact h2
  have e3 : (n == 8) = false := by rw [beq_eq_false_iff_ne]; exact h3
  have H := Lib.hid (And.intro h1 (And.intro h2 h3))
  clear h1 h2 h3
  go_enter Try.func28, Try.ntmps28
  go_wp2
  go_ret
  exact ⟨ret_bool (by have := H.out; unfold accB; symm; rw [decide_eq_false_iff_not]; omega), rfl⟩
set_option maxHeartbeats 400000 in
theorem mayStand_any (r : Rg) (hr : RgW r) (w : World) :
    Calls Try.prog 31 #[.agg #[.int .u64 (rlo r), .int .u64 (rhi r), .int .i64 (rown r), .int .i64 (rout r)]] w fun e w' => e = .returned (.bool (okB r)) ∧ Below w.heap.size w w' := by
  obtain ⟨⟨l0, l1⟩, ⟨h0, h1⟩, _, _⟩ := hr
  have HI := Lib.hid (okB_iff (r := r))
  have HN := Lib.hid (okB_no (r := r))
  generalize okB r = B at HI HN ⊢
  generalize rlo r = lo at *
  generalize rhi r = hi at *
  generalize rown r = ow at *
  generalize rout r = ou at *
  go_enter Try.func31, Try.ntmps31
  go_wp2_with (go_at_call 34; refine (areRights_any _ _).mono ?_; rintro e w' ⟨rfl, rfl⟩)
  all_goals
    go_ret
    refine ⟨ret_bool ?_, (Below.refl _ _).alloc (Nat.le_refl _) _⟩
    rw [Bool.eq_iff_iff, HI.out]
    first | omega | (simp only [Bool.and_eq_true, decide_eq_true_eq, Bool.false_eq_true, false_iff]; omega) | (simp; omega)
theorem may_none (A : Option Addr) (c : Nat) (w : World) : Calls Try.prog 20 #[.slice A 0 c] w fun e w' => e = .returned (.bool false) ∧ w = w' := by
  go_enter Try.func20, Try.ntmps20
  go_wp2
  go_ret
  exact ⟨rfl, rfl⟩
theorem may_many (A : Option Addr) (n c : Nat) (h : 16 < n) (w : World) : Calls Try.prog 20 #[.slice A n c] w fun e w' => e = .returned (.bool false) ∧ w = w' := by
  have h1 : ¬ ((n : Int) < 1) := by omega
  have h2 : (16 : Int) < n := by omega
  go_enter Try.func20, Try.ntmps20
  go_wp2
  go_ret
  exact ⟨rfl, rfl⟩
theorem mayB_chk {T : List Rg} (h0 : 1 ≤ T.length) (h1 : T.length ≤ 16) : mayB T = chk 0 T := by simp [mayB, h0, h1]
theorem mayB_out {T : List Rg} (h : T.length < 1 ∨ 16 < T.length) : mayB T = false := by
  unfold mayB
  rcases h with h | h
  · rw [show decide (1 ≤ T.length) = false from by rw [decide_eq_false_iff_not]; omega]; rfl
  · rw [show decide (T.length ≤ 16) = false from by rw [decide_eq_false_iff_not]; omega]; simp
theorem not_bool {b : Bool} : (!b) = true ↔ b = false := by cases b <;> simp
set_option maxHeartbeats 1000000 in
theorem may_some (b off c : Nat) (T : List Rg) (n : Nat) (hn : T.length = n) (h0 : 1 ≤ n) (h1 : n ≤ 16) (hW : TabW T) (w : World) (hT : TabAt w b off T) :
    Calls Try.prog 20 #[.slice (some ⟨b, off, none⟩) n c] w fun e w' => e = .returned (.bool (mayB T)) ∧ Below w.heap.size w w' := by
  rw [mayB_chk (by omega) (by omega)]
  have Hn := Lib.hid hn
  have HT := Lib.hid hT
  have HW := Lib.hid hW
  have q1 : ¬ ((n : Int) < 1) := by omega
  have q2 : ¬ ((16 : Int) < n) := by omega
  clear hn hT hW
  go_enter Try.func20, Try.ntmps20
  go_wp2
  go_loopw [3, 16] (fun e i wr => ∃ (k : Nat) (x : Int), k ≤ n ∧ i = .int .i64 k ∧ e = .int .u64 x ∧ IsU x ∧ chk 0 T = chk x (T.drop k) ∧ Below w.heap.size w wr) (fun _ i _ => n - (intOf i).toNat)
  case atStart => exact ⟨0, 0, by omega, rfl, rfl, ⟨by omega, by omega⟩, rfl, Below.refl _ _⟩
  case round =>
    obtain ⟨k, x, hk, rfl, rfl, hx, hc, hb⟩ := hrel
    have Hb := Lib.hid hb
    by_cases hlt : k < n
    · have hkT : k < T.length := by have := Hn.out; omega
      obtain ⟨c0, c1, c2, c3⟩ := (HT.out.below hb) k hkT
      have hr := HW.out k hkT
      have Hr := Lib.hid hr
      have Hc := Lib.hid (hc.trans (chk_at hkT))
      have Hu := Lib.hid hx
      obtain ⟨x0, x1⟩ := hx
      obtain ⟨⟨l0, l1⟩, _⟩ := hr
      have k0 : (0 : Int) ≤ k := by omega
      have k1 : (k : Int) < n := by omega
      clear hb hc q1 q2
      generalize hR : nthR T k = R at *
      have HR := Lib.hid hR
      clear hR
      by_cases hr : rlo R < x
      · have HE := Lib.hid (show chk 0 T = false from by rw [Hc.out, show decide (x ≤ rlo R) = false from by rw [decide_eq_false_iff_not]; omega]; rfl)
        clear hlt
        go_wp2
        go_ret
        exact ⟨ret_bool HE.out.symm, Hb.out.alloc Hb.out.size _⟩
      · have hr' : x ≤ rlo R := by omega
        have HE := Lib.hid (show chk 0 T = (okB R && chk (rhi R) (T.drop (k + 1))) from by rw [Hc.out, show decide (x ≤ rlo R) = true from by rw [decide_eq_true_eq]; exact hr']; rfl)
        have Hsz := Lib.hid Hb.out.size
        clear hlt
        go_wp2_with fail
        refine (mayStand_any R Hr.out _).mono ?_
        rintro e w' ⟨rfl, hb2⟩
        have d1 : w'.cell? ⟨wr.heap.size, 1, none⟩ = some (.int .u64 (rhi R)) := by rw [hb2.cell (p := ⟨_, 1, none⟩) (by simp)]; simp [go_sem]
        have Hb3 := Lib.hid ((Hb.out.alloc Hsz.out _).trans (hb2.mono (by simp; have := Hsz.out; omega)))
        clear hb2
        cases hok : okB R with
        | false =>
          rw [hok] at HE
          go_wp2
          go_ret
          exact ⟨ret_bool HE.out.symm, Hb3.out⟩
        | true =>
          rw [hok] at HE
          go_wp2
          go_roundw
          case rel => exact ⟨k + 1, rhi R, by omega, by go_num, rfl, Hr.out.2.1, HE.out, Hb3.out⟩
          case measure => simp [intOf]; omega
    · obtain rfl : k = n := by omega
      have HE := Lib.hid (hc.trans (show chk x (T.drop k) = true from by have := Hn.out; subst this; exact chk_end))
      clear hb hc hx
      go_wp2
      go_ret
      exact ⟨ret_bool HE.out.symm, Hb.out⟩
set_option maxHeartbeats 1000000 in
theorem find_no (m tb tc hb : Nat) (T : List Rg) (p q : Int) (n : Nat) (hn : T.length = n) (hm : n ≤ 1000) (hp : IsU p) (hq : IsI q) (hW : TabW T) (w : World) (h0 : w.cell? ⟨m, 0, none⟩ = some (.slice (some ⟨tb, 0, none⟩) n tc)) (hT : TabAt w tb 0 T) (hF : FindNo T p q) :
    Calls Try.prog 23 #[.pointer (some ⟨m, 0, none⟩), .int .u64 p, .int .i64 q] w fun e w' => e = .returned (.tuple #[.int .i64 0, .bool false]) ∧ Below w.heap.size w w' := by
  by_cases hq1 : q < 1
  · clear hF
    go_enter Try.func23, Try.ntmps23
    go_wp2
    go_ret2
    exact ⟨rfl, Below.refl _ _⟩
  · have hF' : ∀ j, j < T.length → hitB (nthR T j) p q = false := by
      rcases hF with h | h
      · omega
      · exact h
    have Hn := Lib.hid hn
    have HT := Lib.hid hT
    have HW := Lib.hid hW
    have HF := Lib.hid hF'
    clear hn hT hW hF hF'
    obtain ⟨p0, p1⟩ := hp
    obtain ⟨_, q1⟩ := hq
    go_enter Try.func23, Try.ntmps23
    go_wp2
    go_loopw [21] (fun i wr => ∃ (k : Nat), k ≤ n ∧ i = .int .i64 k ∧ Below w.heap.size w wr) (fun i _ => n - (intOf i).toNat)
    case atStart => exact ⟨0, by omega, rfl, Below.refl _ _⟩
    case round =>
      obtain ⟨k, hk, rfl, hb⟩ := hrel
      have Hb := Lib.hid hb
      by_cases hlt : k < n
      · have hkT : k < T.length := by have := Hn.out; omega
        obtain ⟨c0, c1, c2, c3⟩ := (HT.out.below hb) k hkT
        have hr := HW.out k hkT
        have HN := Lib.hid (hitB_no.1 (HF.out k hkT))
        obtain ⟨⟨l0, l1⟩, ⟨u0, u1⟩, _⟩ := hr
        have k0 : (0 : Int) ≤ k := by omega
        have k1 : (k : Int) < n := by omega
        simp only [Nat.zero_add] at c0 c1 c2 c3
        clear hb
        generalize hR : nthR T k = R at *
        have HR := Lib.hid hR
        clear hR
        go_wp2
        all_goals first
          | (exfalso; have := HN.out; omega)
          | (go_roundw
             case rel => exact ⟨k + 1, by omega, by go_num, Hb.out.alloc Hb.out.size _⟩
             case measure => simp [intOf]; omega)
      · obtain rfl : k = n := by omega
        clear hb
        go_wp2
        go_ret2
        exact ⟨rfl, Hb.out⟩
set_option maxHeartbeats 1000000 in
theorem find_yes (m tb tc : Nat) (T : List Rg) (p q : Int) (i n : Nat) (hn : T.length = n) (hm : n ≤ 1000) (hp : IsU p) (hq : IsI q) (hW : TabW T) (w : World) (h0 : w.cell? ⟨m, 0, none⟩ = some (.slice (some ⟨tb, 0, none⟩) n tc)) (hT : TabAt w tb 0 T) (hF : FindYes T p q i) :
    Calls Try.prog 23 #[.pointer (some ⟨m, 0, none⟩), .int .u64 p, .int .i64 q] w fun e w' => e = .returned (.tuple #[.int .i64 i, .bool true]) ∧ Below w.heap.size w w' := by
  obtain ⟨hq1, hi, hy, hno⟩ := hF
  have Hn := Lib.hid hn
  have HT := Lib.hid hT
  have HW := Lib.hid hW
  have HF := Lib.hid hno
  have HY := Lib.hid (hitB_iff.1 hy)
  have HI := Lib.hid (show i < n by omega)
  clear hn hT hW hno hy hi
  obtain ⟨p0, p1⟩ := hp
  obtain ⟨_, q1⟩ := hq
  go_enter Try.func23, Try.ntmps23
  go_wp2
  go_loopw [21] (fun x wr => ∃ (k : Nat), k ≤ i ∧ x = .int .i64 k ∧ Below w.heap.size w wr) (fun x _ => i - (intOf x).toNat)
  case atStart => exact ⟨0, by omega, rfl, Below.refl _ _⟩
  case round =>
    obtain ⟨k, hk, rfl, hb⟩ := hrel
    have hkn : k < n := by have := HI.out; omega
    have Hb := Lib.hid hb
    have hkT : k < T.length := by have := Hn.out; omega
    obtain ⟨c0, c1, c2, c3⟩ := (HT.out.below hb) k hkT
    have hr := HW.out k hkT
    obtain ⟨⟨l0, l1⟩, ⟨u0, u1⟩, _⟩ := hr
    have k0 : (0 : Int) ≤ k := by omega
    have k1 : (k : Int) < n := by omega
    simp only [Nat.zero_add] at c0 c1 c2 c3
    clear hb
    by_cases hlt : k < i
    · have HN := Lib.hid (hitB_no.1 (HF.out k hlt))
      generalize hR : nthR T k = R at *
      have HR := Lib.hid hR
      clear hR
      go_wp2
      all_goals first
        | (exfalso; have := HN.out; omega)
        | (go_roundw
           case rel => exact ⟨k + 1, by omega, by go_num, Hb.out.alloc Hb.out.size _⟩
           case measure => simp [intOf]; omega)
    · obtain rfl : k = i := by omega
      obtain ⟨y0, y1, y2⟩ := HY.out
      generalize hR : nthR T k = R at *
      have HR := Lib.hid hR
      clear hR
      go_wp2
      go_ret2
      exact ⟨rfl, Hb.out.alloc Hb.out.size _⟩
end Go.Proofs.Ytpfohbinjcdcbaa
