/- Layer 4's reference: a memory of one row of bytes: what Find and place answer.
   Layer 4's reference: what New and Poke do.
   Layer 4's reference: what Poke does. -/
import Derived.Test.YtoeagbcjnffpaaaGreatDoorMemC
import Derived.Deep.QuietTactic
import Derived.BigQuiet
import Derived.IntWalk
import Derived.StillTailTactics
namespace Go.Proofs.YtoeagbcjnffpaaaGreatDoor
set_option maxRecDepth 100000
open Go.RowKit Go.Maps
set_option linter.unusedVariables false

theorem ret_n {a b : Int} (h : a = b) : Ending.returned (.int .i64 a) = Ending.returned (.int .i64 b) := by rw [h]
/-- how many bytes lie ahead of region i -/
def offT (T : List Rg) : Nat → Nat
  | 0 => 0
  | i + 1 => offT T i + lenR (nthR T i)
theorem lenR_le {T : List Rg} (h : MayT T) {i : Nat} (hi : i < T.length) : lenR (nthR T i) ≤ 65536 ∧ 0 < lenR (nthR T i) := by
  have := okB_iff.1 (h.2.2.1 i hi)
  unfold lenR; omega
theorem offT_le {T : List Rg} (h : MayT T) : ∀ {i : Nat}, i ≤ T.length → offT T i ≤ 65536 * i := by
  intro i
  induction i with
  | zero => intro _; simp [offT]
  | succ i ih => intro hi; have := ih (by omega); have := (lenR_le h (show i < T.length by omega)).1; simp only [offT]; omega
theorem offT_mono {T : List Rg} {i j : Nat} (h : i ≤ j) : offT T i ≤ offT T j := by
  induction h with
  | refl => exact Nat.le_refl _
  | step _ ih => exact Nat.le_trans ih (by simp [offT])
/-- block r is a memory of the reference's -/
structure RMem (w : World) (r tb to tc bb bc n : Nat) (T : List Rg) (L : List Int) : Prop where
  c0 : w.cell? ⟨r, 0, none⟩ = some (.slice (some ⟨tb, to, none⟩) n tc)
  c1 : w.cell? ⟨r, 1, none⟩ = some (.slice (some ⟨bb, 0, none⟩) L.length bc)
  tab : TabAt w tb to T
  row : Row w bb L
  len : T.length = n
  may : MayT T
  tabw : TabW T
  llen : L.length = offT T n
  all : AllB L
  apart : bb ≠ r ∧ bb ≠ tb
  cap : L.length ≤ bc
section
variable {w w' : World} {r tb to tc bb bc n : Nat} {T : List Rg} {L : List Int}
theorem RMem.below (h : RMem w r tb to tc bb bc n T L) (hb : Below w.heap.size w w') : RMem w' r tb to tc bb bc n T L :=
  ⟨by rw [hb.cell (p := ⟨r, 0, none⟩) (block_lt h.c0)]; exact h.c0, by rw [hb.cell (p := ⟨r, 1, none⟩) (block_lt h.c1)]; exact h.c1, h.tab.below hb, h.row.below hb, h.len, h.may, h.tabw, h.llen, h.all, h.apart, h.cap⟩
end
set_option maxHeartbeats 1000000 in
theorem rfind_no (r tb to tc bb bc n : Nat) (T : List Rg) (L : List Int) (p q : Int) (hp : IsU p) (hq : IsI q) (w : World) (hM : RMem w r tb to tc bb bc n T L) (hF : FindNo T p q) :
    Calls Tryz.prog 45 #[.pointer (some ⟨r, 0, none⟩), .int .u64 p, .int .i64 q] w fun e w' => e = .returned (.tuple #[.int .i64 0, .bool false]) ∧ w = w' := by
  have HM := Lib.hid hM
  have HF := Lib.hid hF
  have h0 := hM.c0
  have hn : n ≤ 16 := by have := hM.len; have := hM.may.2.1; omega
  clear hM hF
  obtain ⟨p0, p1⟩ := hp
  obtain ⟨q0, q1⟩ := hq
  go_enter Tryz.func45, Tryz.ntmps45
  go_wp2
  go_loop [8] (fun i => ∃ (k : Nat), k ≤ n ∧ i = .int .i64 k) (fun i => n - (intOf i).toNat)
  case atStart => exact ⟨0, by omega, rfl⟩
  case round =>
    obtain ⟨k, hk, rfl⟩ := hrel
    by_cases hlt : k < n
    · have hkT : k < T.length := by have := HM.out.len; omega
      obtain ⟨c0, c1, c2, c3⟩ := HM.out.tab k hkT
      obtain ⟨⟨l0, l1⟩, ⟨u0, u1⟩, _⟩ := HM.out.tabw k hkT
      have HH := Lib.hid (show 1 ≤ q → hitB (nthR T k) p q = false from fun h => by rcases HF.out with h' | h'; omega; exact h' k hkT)
      have k0 : (0 : Int) ≤ k := by omega
      have k1 : (k : Int) < n := by omega
      generalize nthR T k = R at *
      clear c2 c3
      by_cases a1 : q ≥ 1
      · have hno := hitB_no.1 (HH.out a1)
        by_cases a2 : p ≥ rlo R
        · by_cases a3 : p < rhi R
          · have a4 : ¬ rhi R - p ≥ q := by omega
            have d4 : decide (rhi R - p ≥ q) = false := by rw [decide_eq_false_iff_not]; exact a4
            clear hno
            go_wp2
            go_round
            case rel => exact ⟨k + 1, by omega, by go_num⟩
            case measure => simp [intOf]; omega
          · have d3 : decide (p < rhi R) = false := by rw [decide_eq_false_iff_not]; exact a3
            clear hno
            go_wp2
            go_round
            case rel => exact ⟨k + 1, by omega, by go_num⟩
            case measure => simp [intOf]; omega
        · have d2 : decide (p ≥ rlo R) = false := by rw [decide_eq_false_iff_not]; exact a2
          clear hno
          go_wp2
          go_round
          case rel => exact ⟨k + 1, by omega, by go_num⟩
          case measure => simp [intOf]; omega
      · have d1 : decide (q ≥ 1) = false := by rw [decide_eq_false_iff_not]; exact a1
        go_wp2
        go_round
        case rel => exact ⟨k + 1, by omega, by go_num⟩
        case measure => simp [intOf]; omega
    · obtain rfl : k = n := by omega
      go_wp2
      go_ret2
      exact ⟨rfl, rfl⟩
set_option maxHeartbeats 1000000 in
theorem rfind_yes (r tb to tc bb bc n : Nat) (T : List Rg) (L : List Int) (p q : Int) (i : Nat) (hp : IsU p) (hq : IsI q) (w : World) (hM : RMem w r tb to tc bb bc n T L) (hF : FindYes T p q i) :
    Calls Tryz.prog 45 #[.pointer (some ⟨r, 0, none⟩), .int .u64 p, .int .i64 q] w fun e w' => e = .returned (.tuple #[.int .i64 i, .bool true]) ∧ w = w' := by
  have HM := Lib.hid hM
  have h0 := hM.c0
  have hn : n ≤ 16 := by have := hM.len; have := hM.may.2.1; omega
  obtain ⟨hq1, hi, hy, hno⟩ := hF
  have HI := Lib.hid (show i < n by rw [← hM.len]; exact hi)
  have HY := Lib.hid (hitB_iff.1 hy)
  have HN := Lib.hid hno
  clear hM hi hy hno
  obtain ⟨p0, p1⟩ := hp
  obtain ⟨q0, q1⟩ := hq
  have a1 : q ≥ 1 := hq1
  go_enter Tryz.func45, Tryz.ntmps45
  go_wp2
  go_loop [8] (fun x => ∃ (k : Nat), k ≤ i ∧ x = .int .i64 k) (fun x => i - (intOf x).toNat)
  case atStart => exact ⟨0, by omega, rfl⟩
  case round =>
    obtain ⟨k, hk, rfl⟩ := hrel
    have hkn : k < n := by have := HI.out; omega
    have hkT : k < T.length := by have := HM.out.len; omega
    obtain ⟨c0, c1, c2, c3⟩ := HM.out.tab k hkT
    obtain ⟨⟨l0, l1⟩, ⟨u0, u1⟩, _⟩ := HM.out.tabw k hkT
    have k0 : (0 : Int) ≤ k := by omega
    have k1 : (k : Int) < n := by omega
    by_cases hlt : k < i
    · have hno := hitB_no.1 (HN.out k hlt)
      generalize nthR T k = R at *
      clear c2 c3 hkn hk
      by_cases a2 : p ≥ rlo R
      · by_cases a3 : p < rhi R
        · have a4 : ¬ rhi R - p ≥ q := by omega
          have d4 : decide (rhi R - p ≥ q) = false := by rw [decide_eq_false_iff_not]; exact a4
          clear hno
          go_wp2
          go_round
          case rel => exact ⟨k + 1, by omega, by go_num⟩
          case measure => simp [intOf]; omega
        · have d3 : decide (p < rhi R) = false := by rw [decide_eq_false_iff_not]; exact a3
          clear hno
          go_wp2
          go_round
          case rel => exact ⟨k + 1, by omega, by go_num⟩
          case measure => simp [intOf]; omega
      · have d2 : decide (p ≥ rlo R) = false := by rw [decide_eq_false_iff_not]; exact a2
        clear hno
        go_wp2
        go_round
        case rel => exact ⟨k + 1, by omega, by go_num⟩
        case measure => simp [intOf]; omega
    · obtain rfl : k = i := by omega
      obtain ⟨a2, a3, a4⟩ := HY.out
      have a2' : p ≥ rlo (nthR T k) := a2
      have a4' : rhi (nthR T k) - p ≥ q := a4
      generalize nthR T k = R at *
      clear c2 c3 hkn hk hlt
      go_wp2
      go_ret2
      exact ⟨rfl, rfl⟩
set_option maxHeartbeats 1000000 in
theorem rplace_yes (r tb to tc bb bc n : Nat) (T : List Rg) (L : List Int) (p : Int) (i : Nat) (hp : IsU p) (w : World) (hM : RMem w r tb to tc bb bc n T L) (hi : i < n) (hy : rlo (nthR T i) ≤ p ∧ p < rhi (nthR T i)) :
    Calls Tryz.prog 46 #[.pointer (some ⟨r, 0, none⟩), .int .u64 p] w fun e w' => e = .returned (.int .i64 (((offT T i + (p - rlo (nthR T i)).toNat : Nat) : Int))) ∧ Below w.heap.size w w' := by
  have HM := Lib.hid hM
  have h0 := hM.c0
  have hn : n ≤ 16 := by have := hM.len; have := hM.may.2.1; omega
  have HI := Lib.hid hi
  have HY := Lib.hid hy
  clear hM hi hy
  obtain ⟨p0, p1⟩ := hp
  go_enter Tryz.func46, Tryz.ntmps46
  go_wp2
  go_loopw [5, 6] (fun y x wr => ∃ (k : Nat), k ≤ i ∧ x = .int .i64 k ∧ y = .int .i64 (offT T k : Nat) ∧ Below w.heap.size w wr) (fun _ x _ => i - (intOf x).toNat)
  case atStart => exact ⟨0, by omega, rfl, rfl, Below.refl _ _⟩
  case round =>
    obtain ⟨k, hk, rfl, rfl, hb⟩ := hrel
    have Hb := Lib.hid hb
    have hkn : k < n := by have := HI.out; omega
    have hkT : k < T.length := by have := HM.out.len; omega
    have HMk := Lib.hid (HM.out.below hb)
    obtain ⟨c0, c1, c2, c3⟩ := HMk.out.tab k hkT
    have g0 := HMk.out.c0
    obtain ⟨⟨l0, l1⟩, ⟨u0, u1⟩, _⟩ := HM.out.tabw k hkT
    have hok := okB_iff.1 (HM.out.may.2.2.1 k hkT)
    have hof := offT_le HM.out.may (Nat.le_of_lt hkT)
    have o1 : ((offT T k : Nat) : Int) ≤ 1048576 := by omega
    have o0 : (0 : Int) ≤ ((offT T k : Nat) : Int) := by omega
    have HS := Lib.hid (show ((offT T (k + 1) : Nat) : Int) = (offT T k : Nat) + (rhi (nthR T k) - rlo (nthR T k)) by simp only [offT, lenR]; omega)
    have r1 : rlo (nthR T k) < rhi (nthR T k) := hok.1
    have r2 : rhi (nthR T k) - rlo (nthR T k) ≤ 65536 := hok.2.1
    have k0 : (0 : Int) ≤ k := by omega
    have k1 : (k : Int) < n := by omega
    clear hb hof hok c2 c3
    by_cases hlt : k < i
    · have a3 : ¬ p < rhi (nthR T k) := by
        have h1 := HM.out.may.2.2.2 k i hlt (by rw [HM.out.len]; exact HI.out)
        have h2 := HY.out.1
        omega
      have a2 : p ≥ rlo (nthR T k) := by omega
      generalize offT T k = O at *
      generalize hR : nthR T k = R at *
      have HR := Lib.hid hR
      clear hkn hk hR
      have d3 : decide (p < rhi R) = false := by rw [decide_eq_false_iff_not]; exact a3
      go_wp2
      have w1 : IntKind.u64.wrap (rhi R - rlo R) = rhi R - rlo R := by rw [IntKind.wrap_u64]; omega
      have w2 : IntKind.i64.wrap (rhi R - rlo R) = rhi R - rlo R := IntWalk.i64_in _ (by omega)
      have w3 : IntKind.i64.wrap ((O : Int) + (rhi R - rlo R)) = (O : Int) + (rhi R - rlo R) := IntWalk.i64_in _ (by omega)
      go_quiet (fail)
      clear w1 w2 w3
      go_wp2
      go_roundw
      case rel => exact ⟨k + 1, by omega, by go_num, by rw [HS.out], bel_drewN Hb.out _⟩
      case measure => simp [intOf]; omega
    · obtain rfl : k = i := by omega
      obtain ⟨a2, a3⟩ := HY.out
      have a2' : p ≥ rlo (nthR T k) := a2
      have HE := Lib.hid (show (((offT T k + (p - rlo (nthR T k)).toNat : Nat) : Int)) = (offT T k : Nat) + (p - rlo (nthR T k)) by omega)
      have b1 : 0 ≤ p - rlo (nthR T k) := by omega
      have b2 : p - rlo (nthR T k) ≤ 65536 := by omega
      generalize hO : offT T k = O at *
      generalize hR : nthR T k = R at *
      have HOr := Lib.hid hO
      have HRr := Lib.hid hR
      clear hkn hk hlt hO hR
      go_wp2
      go_ret
      exact ⟨ret_n (by rw [HOr.out, HRr.out]; have := HE.out; omega), Hb.out⟩
end Go.Proofs.YtoeagbcjnffpaaaGreatDoor
namespace Go.Proofs.YtoeagbcjnffpaaaGreatDoor
set_option maxRecDepth 100000
open Go.RowKit Go.Maps
set_option linter.unusedVariables false

theorem rowN_of {w : World} {base g n : Nat} {l : List Int} (h : w.ownsRow base 5 1 (.slice (some ⟨g, 0, none⟩) n n) n (l.map (Value.int .u8))) : Row w g l := by
  rcases h.2 with ⟨h1, _⟩ | ⟨g', cap, cur, h1, _, hg, _, _, hs, ht⟩
  · cases h1
  · cases h1
    have e : cur = (l.map (Value.int .u8)).toArray := by
      apply Array.ext'
      rw [← ht, List.take_of_length_le (by simp; omega)]
    unfold Row
    rw [hg, e]
theorem made_zeros (n : Nat) : (madeCells (Value.int .u8 0).cells (n * 1)).toList = (List.replicate n 0).map (Value.int .u8) := by
  unfold madeCells
  refine List.ext_getElem (by simp [Value.cells]) fun i h1 h2 => ?_
  simp [Value.cells, Nat.mod_one]
/-- what the reference's New makes -/
def RNewP (w : World) (tb to tc n : Nat) (T : List Rg) (e : Ending) (w' : World) : Prop :=
  ∃ r bb bc, e = .returned (.pointer (some ⟨r, 0, none⟩)) ∧ RMem w' r tb to tc bb bc n T (List.replicate (offT T n) 0) ∧ w.heap.size ≤ r ∧ w.heap.size ≤ bb ∧ Below w.heap.size w w'
set_option maxHeartbeats 1000000 in
theorem rnew_yes (tb to tc n : Nat) (T : List Rg) (w : World) (hn : T.length = n) (hm : MayT T) (hW : TabW T) (hT : TabAt w tb to T) :
    Calls Tryz.prog 34 #[.slice (some ⟨tb, to, none⟩) n tc] w (RNewP w tb to tc n T) := by
  have HT := Lib.hid hT
  have HN := Lib.hid hn
  have HM := Lib.hid hm
  have HW := Lib.hid hW
  have n16 : n ≤ 16 := by have := hm.2.1; omega
  obtain ⟨i0, hi, hz0, hz1, hz2⟩ := info_parts info5
  clear hn hm hW hT
  go_enter Tryz.func34, Tryz.ntmps34
  go_wp2
  go_loopw [3, 4] (fun y x wr => ∃ (k : Nat), k ≤ n ∧ x = .int .i64 k ∧ y = .int .i64 (offT T k : Nat) ∧ Below w.heap.size w wr) (fun _ x _ => n - (intOf x).toNat)
  case atStart => exact ⟨0, by omega, rfl, rfl, Below.refl _ _⟩
  case round =>
    obtain ⟨k, hk, rfl, rfl, hb⟩ := hrel
    have Hb := Lib.hid hb
    by_cases hlt : k < n
    · have hkT : k < T.length := by have := HN.out; omega
      obtain ⟨c0, c1, c2, c3⟩ := (HT.out.below hb) k hkT
      obtain ⟨⟨l0, l1⟩, ⟨u0, u1⟩, _⟩ := HW.out k hkT
      have hok := okB_iff.1 (HM.out.2.2.1 k hkT)
      have hof := offT_le HM.out (Nat.le_of_lt hkT)
      have o1 : ((offT T k : Nat) : Int) ≤ 1048576 := by omega
      have o0 : (0 : Int) ≤ ((offT T k : Nat) : Int) := by omega
      have HS := Lib.hid (show ((offT T (k + 1) : Nat) : Int) = (offT T k : Nat) + (rhi (nthR T k) - rlo (nthR T k)) by simp only [offT, lenR]; omega)
      have r1 : rlo (nthR T k) < rhi (nthR T k) := hok.1
      have r2 : rhi (nthR T k) - rlo (nthR T k) ≤ 65536 := hok.2.1
      have k0 : (0 : Int) ≤ k := by omega
      have k1 : (k : Int) < n := by omega
      clear hb hof hok c2 c3
      generalize offT T k = O at *
      generalize hR : nthR T k = R at *
      clear hk hR
      go_wp2
      have w1 : IntKind.u64.wrap (rhi R - rlo R) = rhi R - rlo R := by rw [IntKind.wrap_u64]; omega
      have w2 : IntKind.i64.wrap (rhi R - rlo R) = rhi R - rlo R := IntWalk.i64_in _ (by omega)
      have w3 : IntKind.i64.wrap ((O : Int) + (rhi R - rlo R)) = (O : Int) + (rhi R - rlo R) := IntWalk.i64_in _ (by omega)
      go_quiet (fail)
      clear w1 w2 w3
      go_wp2
      go_roundw
      case rel => exact ⟨k + 1, by omega, by go_num, by rw [HS.out], bel_drewN Hb.out _⟩
      case measure => simp [intOf]; omega
    · obtain rfl : k = n := by omega
      have hof := offT_le HM.out (show k ≤ T.length by have := HN.out; omega)
      have HO := Lib.hid (show offT T k ≤ 1048576 by omega)
      generalize hO : offT T k = O at *
      have HOr := Lib.hid hO
      have HL := Lib.hid (fun k (hk : k < T.length) => block_lt (HT.out k hk).1)
      clear hb hk hlt hof hO
      go_wp2_with (refine wpList_make_full _ rfl _ _ 52 rfl wr.heap.size 5 i0 (.int .u8 0) 1 Tryz.underlying52 hi hz0 hz1 .i64 .i64 _ _ O rfl rfl rfl rfl (by rw [hz2]; have := HO.out; omega) (by have := HO.out; unfold maxLen; omega) (Nat.le_refl _) ?_; intro w1 hown hgrow)
      have hbel := (Below.refl wr.heap.size wr).grown hgrow (Nat.le_refl _) (by simp)
      have hrow : Row w1 wr.heap.size (List.replicate O 0) := rowN_of (base := wr.heap.size) (made_zeros O ▸ hown)
      have HZ := Lib.hid (show RNewP w tb to tc k T (.returned (.pointer (some ⟨w1.heap.size, 0, none⟩))) (w1.alloc (.cells #[.slice (some ⟨tb, to, none⟩) k tc, .slice (some ⟨wr.heap.size, 0, none⟩) O O] 98)) from by
        have hl1 := hrow.lt
        have hb1 : Below w.heap.size w w1 := Hb.out.trans (hbel.mono Hb.out.size)
        have hlt := HL.out 0 (by have := HM.out.1; omega)
        refine ⟨w1.heap.size, wr.heap.size, O, rfl, ⟨by simp [go_sem], by simp [go_sem, HOr.out], (HT.out.below hb1).below ((Below.refl _ _).alloc (Nat.le_refl _) _), hrow.below ((Below.refl _ _).alloc (Nat.le_refl _) _) |> fun h => by rw [HOr.out]; exact h, HN.out, HM.out, HW.out, by simp, ?_, ⟨by omega, by have := Hb.out.size; omega⟩, by simp [HOr.out]⟩, by have := hb1.size; omega, Hb.out.size, hb1.trans (((Below.refl _ _).alloc (Nat.le_refl _) _).mono hb1.size)⟩
        intro x hx
        rw [List.eq_of_mem_replicate hx]
        omega)
      clear hown hgrow hbel hrow
      go_wp2
      go_ret
      exact HZ.out
end Go.Proofs.YtoeagbcjnffpaaaGreatDoor
namespace Go.Proofs.YtoeagbcjnffpaaaGreatDoor
set_option maxRecDepth 100000
open Go.RowKit Go.Maps
set_option linter.unusedVariables false

theorem grown_setCellR (w : World) (b o : Nat) (v : Value) : w.grownBy (w.setCell ⟨b, o, none⟩ v) (some b) :=
  ⟨rfl, rfl, rfl, by simp [World.setCell], fun k _ hne => heap_setCell_other w _ k v (fun e => hne (by rw [e]))⟩
theorem splice_nil (L : List Int) (o : Nat) : splice L o [] = L := by simp [splice]
theorem splice_snoc (L t : List Int) (o : Nat) (x : Int) (h : o + t.length < L.length) : (splice L o t).set (o + t.length) x = splice L o (t ++ [x]) := by
  unfold splice
  have h1 : (L.take o).length = o := by simp; omega
  rw [List.set_append_right _ _ (by omega), h1, show o + t.length - o = t.length by omega, List.set_append_right _ _ (Nat.le_refl _), Nat.sub_self]
  have h2 : L.drop (o + t.length) = L[o + t.length] :: L.drop (o + t.length + 1) := List.drop_eq_getElem_cons h
  rw [h2]
  simp [Nat.add_assoc]
theorem Row.set {w : World} {g : Nat} {l : List Int} (h : Row w g l) (k : Nat) (x : Int) : Row (w.setCell ⟨g, k, none⟩ (.int .u8 x)) g (l.set k x) := by
  unfold Row at *
  rw [heap_setCell_same w g k _ _ _ h, List.map_set]
  simp
/-- what the reference's Poke leaves -/
def RPokeP (w : World) (r tb to tc bb bc n : Nat) (T : List Rg) (L : List Int) (c : Int) (e : Ending) (w' : World) : Prop :=
  e = .returned (.int .i64 c) ∧ RMem w' r tb to tc bb bc n T L ∧ w.grownBy w' (some bb)
theorem rpoke_none (r tb to tc bb bc n : Nat) (T : List Rg) (L : List Int) (p : Int) (A : Option Addr) (c : Nat) (hp : IsU p) (w : World) (hM : RMem w r tb to tc bb bc n T L) :
    Calls Tryz.prog 36 #[.pointer (some ⟨r, 0, none⟩), .int .u64 p, .slice A 0 c] w (RPokeP w r tb to tc bb bc n T L 0) := by
  have HM := Lib.hid hM
  clear hM
  go_enter Tryz.func36, Tryz.ntmps36
  go_wp2_with fail
  refine (rfind_no r tb to tc bb bc n T L p 0 hp ⟨by omega, by omega⟩ _ HM.out (.inl (by omega))).mono ?_
  rintro e w' ⟨rfl, rfl⟩
  go_wp2
  go_ret
  exact ⟨rfl, HM.out, rfl, rfl, rfl, Nat.le_refl _, fun _ _ _ => rfl⟩
theorem rpoke_no (r tb to tc bb bc n : Nat) (T : List Rg) (L : List Int) (p : Int) (A : Option Addr) (q c : Nat) (hp : IsU p) (hq : q ≤ 1000000) (hq0 : q ≠ 0) (w : World) (hM : RMem w r tb to tc bb bc n T L) (hF : FindNo T p q) :
    Calls Tryz.prog 36 #[.pointer (some ⟨r, 0, none⟩), .int .u64 p, .slice A q c] w (RPokeP w r tb to tc bb bc n T L 13) := by
  have HM := Lib.hid hM
  have HF := Lib.hid hF
  have h0 : ((q : Int) == 0) = false := by rw [beq_eq_false_iff_ne]; omega
  clear hM hF hq0
  go_enter Tryz.func36, Tryz.ntmps36
  go_wp2_with fail
  refine (rfind_no r tb to tc bb bc n T L p q hp ⟨by omega, by omega⟩ _ HM.out HF.out).mono ?_
  rintro e w' ⟨rfl, rfl⟩
  go_wp2
  go_ret
  exact ⟨rfl, HM.out, rfl, rfl, rfl, Nat.le_refl _, fun _ _ _ => rfl⟩
/-- under way: the first k bytes are there -/
structure RUnder (w wr : World) (r tb to tc bb bc n : Nat) (T : List Rg) (L l : List Int) (P : Nat) (A : Addr) (k : Nat) : Prop where
  mem : RMem wr r tb to tc bb bc n T (splice L P (l.take k))
  src : Sl wr (some A) l
  grown : w.grownBy wr (some bb)
theorem RUnder.drew {w wr : World} {r tb to tc bb bc n : Nat} {T : List Rg} {L l : List Int} {P : Nat} {A : Addr} {k : Nat} (h : RUnder w wr r tb to tc bb bc n T L l P A k) : RUnder w wr.drew r tb to tc bb bc n T L l P A k :=
  ⟨h.mem.below (bel_drewN (Below.refl _ _) 1), h.src.below (bel_drewN (Below.refl _ _) 1), grown_trans h.grown (grown_of_below (bel_drewN (Below.refl _ _) 1))⟩
theorem RUnder.step {w wr : World} {r tb to tc bb bc n : Nat} {T : List Rg} {L l : List Int} {P : Nat} {A : Addr} {k : Nat} (h : RUnder w wr r tb to tc bb bc n T L l P A k) (hk : k < l.length) (hP : P + l.length ≤ L.length) (hA : A.block ≠ bb) (hal : AllB l) :
    RUnder w (wr.setCell ⟨bb, P + k, none⟩ (.int .u8 (nth l k))) r tb to tc bb bc n T L l P A (k + 1) := by
  have hM := h.mem
  have g := grown_setCellR wr bb (P + k) (.int .u8 (nth l k))
  have ht : (l.take k).length = k := by simp; omega
  have e : (splice L P (l.take k)).set (P + k) (nth l k) = splice L P (l.take (k + 1)) := by
    have := splice_snoc L (l.take k) P (nth l k) (by rw [ht]; omega)
    rw [ht] at this
    rw [this, List.take_succ_eq_append_getElem hk, nth_get hk]
  have hl1 : (splice L P (l.take k)).length = L.length := length_splice _ _ _ (by rw [ht]; omega)
  have hl2 : (splice L P (l.take (k + 1))).length = L.length := length_splice _ _ _ (by simp; omega)
  have hr := hM.row.set (P + k) (nth l k)
  rw [e] at hr
  refine ⟨⟨g.cell hM.c0 (by simp; exact Ne.symm hM.apart.1), ?_, fun i hi => ?_, hr, hM.len, hM.may, hM.tabw, by rw [hl2, ← hl1]; exact hM.llen, ?_, hM.apart, by rw [hl2, ← hl1]; exact hM.cap⟩, h.src.kept g (fun a ha => by cases ha; exact hA), grown_trans h.grown g⟩
  · rw [hl2, ← hl1]; exact g.cell hM.c1 (by simp; exact Ne.symm hM.apart.1)
  · obtain ⟨c0, c1, c2, c3⟩ := hM.tab i hi
    have hne : some tb ≠ some bb := by simp; exact Ne.symm hM.apart.2
    exact ⟨g.cell c0 hne, g.cell c1 hne, g.cell c2 hne, g.cell c3 hne⟩
  · rw [← e]
    intro y hy
    rcases List.mem_or_eq_of_mem_set hy with h1 | h1
    · exact hM.all y h1
    · subst h1; exact hal.nth hk
set_option maxHeartbeats 1000000 in
theorem rpoke_yes (r tb to tc bb bc n : Nat) (T : List Rg) (L : List Int) (p : Int) (A : Addr) (q c : Nat) (l : List Int) (i : Nat) (hp : IsU p) (hq : q ≤ 1000000) (w : World) (hM : RMem w r tb to tc bb bc n T L) (hF : FindYes T p q i)
    (hl : l.length = q) (hal : AllB l) (hs : Sl w (some A) l) (hA : A.block ≠ bb) :
    Calls Tryz.prog 36 #[.pointer (some ⟨r, 0, none⟩), .int .u64 p, .slice (some A) q c] w (RPokeP w r tb to tc bb bc n T (splice L (offT T i + (p - rlo (nthR T i)).toNat) l) 0) := by
  obtain ⟨hq1, hi, hy, _⟩ := id hF
  have hi' : i < n := by rw [← hM.len]; exact hi
  have hyy := hitB_iff.1 hy
  have hLl := hM.llen
  have hto := offT_le hM.may (show n ≤ T.length by rw [hM.len]; omega)
  have hn16 : n ≤ 16 := by have := hM.len; have := hM.may.2.1; omega
  have hoi : offT T (i + 1) ≤ offT T n := offT_mono (by omega)
  have hP : offT T i + (p - rlo (nthR T i)).toNat + l.length ≤ L.length := by
    rw [hLl, hl]
    simp only [offT, lenR] at hoi
    omega
  have HM := Lib.hid hM
  have HF := Lib.hid hF
  have HI := Lib.hid (And.intro hi' (And.intro hyy.1 hyy.2.1))
  have HP := Lib.hid hP
  have HPb := Lib.hid (show offT T i + (p - rlo (nthR T i)).toNat + q ≤ 1048576 by rw [← hl]; omega)
  have H0 := Lib.hid (show RUnder w w r tb to tc bb bc n T L l (offT T i + (p - rlo (nthR T i)).toNat) A 0 from ⟨by rw [List.take_zero, splice_nil]; exact hM, hs, rfl, rfl, rfl, Nat.le_refl _, fun _ _ _ => rfl⟩)
  have HL := Lib.hid hl
  have HAl := Lib.hid (And.intro hal hA)
  have h0 : ((q : Int) == 0) = false := by rw [beq_eq_false_iff_ne]; omega
  clear hM hF hi hy hi' hyy hLl hto hoi hP hl hal hs hA hn16
  go_enter Tryz.func36, Tryz.ntmps36
  go_wp2_with fail
  refine (rfind_yes r tb to tc bb bc n T L p q i hp ⟨by omega, by omega⟩ _ HM.out HF.out).mono ?_
  rintro e w' ⟨rfl, rfl⟩
  go_wp2_with fail
  refine (rplace_yes r tb to tc bb bc n T L p i hp _ HM.out HI.out.1 HI.out.2).mono ?_
  generalize offT T i + (p - rlo (nthR T i)).toNat = P at *
  rintro e w1 ⟨rfl, hb⟩
  have H1 := Lib.hid (show RUnder w w1 r tb to tc bb bc n T L l P A 0 from ⟨H0.out.mem.below hb, H0.out.src.below hb, grown_of_below hb⟩)
  clear hb H0
  go_wp2
  go_loopw [10] (fun x wr => ∃ (k : Nat), k ≤ q ∧ x = .int .i64 k ∧ RUnder w wr r tb to tc bb bc n T L l P A k) (fun x _ => q - (intOf x).toNat)
  case atStart => exact ⟨0, by omega, rfl, H1.out⟩
  case round =>
    clear H1
    obtain ⟨k, hk, rfl, hU⟩ := hrel
    have HU := Lib.hid hU
    by_cases hlt : k < q
    · have hkl : k < l.length := by have := HL.out; omega
      have HS := Lib.hid (hU.step hkl HP.out HAl.out.2 HAl.out.1)
      have hsz : (splice L P (l.take k)).length = L.length := length_splice _ _ _ (by have := HP.out; simp; omega)
      have c1 := hU.mem.c1
      rw [hsz] at c1
      have hdst := (hU.mem.row.cell (k := P + k) (by rw [hsz]; have := HP.out; omega))
      have hfr : wr.frozen? ⟨bb, P + k, none⟩ = false := frozen_of_row wr bb (P + k) _ _ hU.mem.row
      obtain ⟨b, o, rfl, hc⟩ : ∃ b o, A = ⟨b, o, none⟩ ∧ wr.cell? ⟨b, o + k, none⟩ = some (.int .u8 (nth l k)) := by
        rcases hU.src with h | ⟨b, o, h, h2⟩
        · rw [h] at hkl; simp at hkl
        · exact ⟨b, o, Option.some.inj h, h2 k hkl⟩
      have p1 : (P : Int) + k < L.length := by have := HP.out; omega
      have p2 : (P : Int) + q ≤ 1048576 := by have := HPb.out; omega
      have k0 : (0 : Int) ≤ k := by omega
      have k1 : (k : Int) < q := by omega
      have pp0 : (0 : Int) ≤ P := by omega
      generalize (splice L P (l.take k)) = Lk at *
      clear hU hkl hk hsz
      have s1 : IntKind.i64.wrap ((P : Int) + k) = (P : Int) + k := IntWalk.i64_in _ (by omega)
      have s2 : (0 : Int) ≤ (P : Int) + k := by omega
      have s3 : ((P : Int) + k).toNat = P + k := by omega
      go_wp2
      refine wp_region_still_tail 12 (by kernel_rfl) (by kernel_rfl) ?_
      simp only [List.take_succ_cons, List.take_zero, List.drop_succ_cons, List.drop_zero]
      change wpStill _ _ (World.drew _) (fun a' => wpList _ _ _ _ a' (World.drew _)) _ _
      repeat still_step
      refine wpStill_nil ?_
      clear s1 s2 s3
      go_wp2
      go_roundw
      case rel => exact ⟨k + 1, by omega, by go_num, HS.out.drew⟩
      case measure => simp [intOf]; omega
    · obtain rfl : k = q := by omega
      have HZ := Lib.hid (show RPokeP w r tb to tc bb bc n T (splice L P l) 0 (.returned (.int .i64 0)) wr from by
        have hm := hU.mem
        rw [List.take_of_length_le (by have := HL.out; omega)] at hm
        exact ⟨rfl, hm, hU.grown⟩)
      clear hU hk hlt
      go_wp2
      go_ret
      exact HZ.out
end Go.Proofs.YtoeagbcjnffpaaaGreatDoor
