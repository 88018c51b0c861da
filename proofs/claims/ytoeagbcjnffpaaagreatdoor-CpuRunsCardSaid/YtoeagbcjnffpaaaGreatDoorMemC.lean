/- Layer 4: what Peek, Poke and Store of package mem answer, and leave.
   Layer 4: what New of package mem answers: a memory whose bytes are 0, or Overlap.
   Layer 4: blank and New of package mem.
   What the guard of layer 4's statements asks first is true: a few fixed answers of package mem.
   Layer 4: tables of one region. -/
import Derived.Test.YtoeagbcjnffpaaaGreatDoorMemB
import Derived.WalkSpells
import Derived.Laws.OwnMore
namespace Go.Proofs.YtoeagbcjnffpaaaGreatDoor
set_option maxRecDepth 100000
open Go.RowKit Go.Maps
set_option linter.unusedVariables false

theorem sl_newsO {w : World} {ad : Addr} {l : List Int} (h : Sl w (some ad) l) : ∀ j u, (l.map (Value.int .u8))[j]? = some u → w.cell? (ad.add j) = some u := by
  intro j u hj
  rcases h with rfl | ⟨b', off, he, hc⟩
  · simp at hj
  · obtain rfl : ad = _ := Option.some.inj he
    simp only [List.getElem?_map, Option.map_eq_some_iff] at hj
    obtain ⟨x, hx, rfl⟩ := hj
    have hk : j < l.length := (List.getElem?_eq_some_iff.1 hx).1
    have h1 := hc j hk
    rw [nth_get hk, (List.getElem?_eq_some_iff.1 hx).2] at h1
    rw [← h1]
    unfold Addr.add
    by_cases e0 : j = 0
    · subst e0; simp
    · simp [e0]
theorem empty_rowO {w : World} {t : TypeId} {s : Nat} : (w.alloc (.cells #[] t)).ownsRow w.heap.size t s (.slice (some ⟨w.heap.size, 0, none⟩) 0 0) 0 [] :=
  ⟨by simp, .inr ⟨_, 0, #[], rfl, Nat.le_refl _, heap_alloc_new w _, by omega, by unfold maxLen; omega, by simp, by simp⟩⟩
theorem sl_of_owned {w : World} {base g cap n : Nat} {e : TypeId} {l : List Int} (h : w.ownsRow base e 1 (.slice (some ⟨g, 0, none⟩) n cap) n (l.map (Value.int .u8))) :
    Sl w (some ⟨g, 0, none⟩) l := by
  refine .inr ⟨g, 0, rfl, fun j hj => ?_⟩
  have hl := h.1
  rw [List.length_map] at hl
  rw [Nat.zero_add, h.cellAt j (by omega), nth_get hj, List.getElem?_map, List.getElem?_eq_getElem hj]
  rfl
theorem owned_formO {w : World} {base n s : Nat} {e : TypeId} {v : Value} {xs : List Value} (h : w.ownsRow base e s v n xs) (hn : ¬ v = .slice none 0 0) : ∃ g cap, v = .slice (some ⟨g, 0, none⟩) n cap := by
  rcases h.2 with ⟨h, _⟩ | ⟨g, cap, _, h, _⟩
  · exact absurd h hn
  · exact ⟨g, cap, h⟩
theorem eqNilB : ∀ (w : World) (a : Option Addr) (n c n' c' : Nat), (binOp .eql 52 (.slice a n c) (.slice none n' c')).run Tryz.prog w = .ok (.bool a.isNone) w := fun w a n c n' c' => Lib.run_eql_slice_nil w _ _ a n c n' c' Tryz.underlying52
theorem clone_nil (w : World) : Calls Tryz.prog 44 #[.slice none 0 0] w fun e w' => e = .returned (.slice none 0 0) ∧ w = w' := by
  have q22 := eqNilB
  go_enter Tryz.func44, Tryz.ntmps44
  go_wp2
  go_ret
  exact ⟨rfl, rfl⟩
set_option maxHeartbeats 400000 in
theorem clone_some (b o n c : Nat) (l : List Int) (hl : l.length = n) (h1 : 1 ≤ n) (hn : n ≤ 1000000) (w : World) (hs : Sl w (some ⟨b, o, none⟩) l) :
    Calls Tryz.prog 44 #[.slice (some ⟨b, o, none⟩) n c] w fun e w' => ∃ g c', e = .returned (.slice (some ⟨g, 0, none⟩) n c') ∧ Sl w' (some ⟨g, 0, none⟩) l ∧ w.heap.size ≤ g ∧ Below w.heap.size w w' := by
  obtain ⟨i0, hi, hz0, hz1, hz2⟩ := info_parts info5
  have HS := Lib.hid hs
  have HL := Lib.hid hl
  clear hs hl
  have q22 := eqNilB
  go_enter Tryz.func44, Tryz.ntmps44
  go_wp2_with (at_builtin; refine wpList_append_own _ rfl _ _ 52 rfl w.heap.size 5 i0 (.int .u8 0) 1 1 Tryz.underlying52 hi hz0 hz1 hz2 rfl (by decide) _ 0 [] rfl ?own ⟨b, o, none⟩ n c (l.map (Value.int .u8)) rfl ?len ?c1 ?c2 ?c3 ?c4 ?c5 ?_)
  case own => exact empty_rowO
  case len => rw [List.length_map, HL.out]; omega
  case c1 => exact sl_newsO (HS.out.below ((Below.refl _ _).alloc (Nat.le_refl _) _))
  case c2 =>
    intro u hu
    obtain ⟨x, _, rfl⟩ := List.mem_map.1 hu
    rfl
  case c3 => unfold maxLen; omega
  case c4 => omega
  case c5 => simp
  intro v3 w3 hown hgrow hnil
  obtain ⟨g, cap, rfl⟩ := owned_formO hown hnil
  have HO := Lib.hid (sl_of_owned hown)
  have HG := Lib.hid ((hown.lt g rfl).1)
  have HB := Lib.hid ((((Below.refl _ w).alloc (Nat.le_refl _) _).grown hgrow (by simp) (by simp [Value.ownBlock]) : Below w.heap.size w w3))
  clear hown hgrow hnil
  go_wp2
  go_ret
  exact ⟨g, cap, rfl, HO.out, HG.out, HB.out⟩
theorem peek_none (m : Nat) (p : Int) (w : World) :
    Calls Tryz.prog 18 #[.pointer (some ⟨m, 0, none⟩), .int .u64 p, .int .i64 0] w fun e w' => e = .returned (.tuple #[.slice none 0 0, .int .i64 0]) ∧ w = w' := by
  go_enter Tryz.func18, Tryz.ntmps18
  go_wp2_with fail
  refine (lying_none m p _).mono ?_
  rintro e w' ⟨rfl, rfl⟩
  go_wp2_with fail
  refine (clone_nil _).mono ?_
  rintro e w' ⟨rfl, rfl⟩
  go_wp2
  go_ret2
  exact ⟨rfl, rfl⟩
theorem peek_no (m tb tc hb n : Nat) (T : List Rg) (G : Nat → Nat) (p q : Int) (hp : IsU p) (hq : IsI q) (hq0 : q ≠ 0) (w : World) (hM : MemH w m tb tc hb n T G) (hF : FindNo T p q) :
    Calls Tryz.prog 18 #[.pointer (some ⟨m, 0, none⟩), .int .u64 p, .int .i64 q] w fun e w' => e = .returned (.tuple #[.slice none 0 0, .int .i64 13]) ∧ Below w.heap.size w w' := by
  have HM := Lib.hid hM
  have HF := Lib.hid hF
  have H0 := Lib.hid hq0
  clear hM hF hq0
  go_enter Tryz.func18, Tryz.ntmps18
  go_wp2_with fail
  refine (lying_no m tb tc hb n T G p q hp hq H0.out _ HM.out HF.out).mono ?_
  rintro e w1 ⟨rfl, hb1⟩
  have Hb := Lib.hid hb1
  clear hb1
  go_wp2_with fail
  refine (clone_nil _).mono ?_
  rintro e w' ⟨rfl, rfl⟩
  go_wp2
  go_ret2
  exact ⟨rfl, Hb.out⟩
theorem peek_yes (base m tb tc hb n : Nat) (T : List Rg) (G : Nat → Nat) (B : Nat → List Int) (p q : Int) (i : Nat) (hp : IsU p) (hq : IsI q) (w : World) (hM : MemIs w base m tb tc hb n T G B) (hF : FindYes T p q i) (hm : q ≤ 1000000) :
    Calls Tryz.prog 18 #[.pointer (some ⟨m, 0, none⟩), .int .u64 p, .int .i64 q] w fun e w' =>
      ∃ g c, e = .returned (.tuple #[.slice (some ⟨g, 0, none⟩) q.toNat c, .int .i64 0]) ∧ Sl w' (some ⟨g, 0, none⟩) (cut T B p q i) ∧ w.heap.size ≤ g ∧ Below w.heap.size w w' := by
  have HM := Lib.hid hM
  have HF := Lib.hid hF
  have HC := Lib.hid (show 1 ≤ q.toNat ∧ q.toNat ≤ 1000000 by have := hF.1; omega)
  clear hM hF hm
  go_enter Tryz.func18, Tryz.ntmps18
  go_wp2_with fail
  refine (lying_yes m tb tc hb n T G p q i hp hq _ HM.out.toH HF.out).mono ?_
  rintro e w1 ⟨rfl, hb1⟩
  have HM1 := Lib.hid (HM.out.below hb1)
  have Hb := Lib.hid hb1
  clear hb1
  go_wp2_with fail
  refine (clone_some _ _ _ _ (cut T B p q i) (cut_length HM1.out HF.out) HC.out.1 HC.out.2 _ (cut_sl HM1.out HF.out)).mono ?_
  rintro e w2 ⟨g, c', rfl, hs2, hg2, hb2⟩
  have HS := Lib.hid hs2
  have HG := Lib.hid (Nat.le_trans Hb.out.size hg2)
  have Hb2 := Lib.hid (Hb.out.trans (hb2.mono Hb.out.size))
  clear hs2 hg2 hb2
  go_wp2
  go_ret2
  exact ⟨g, c', rfl, HS.out, HG.out, Hb2.out⟩
theorem info5s : (Tryz.prog.info? 5).map (·.size) = some 1 := by kernel_rfl
theorem poke_none (m : Nat) (p : Int) (A : Option Addr) (c : Nat) (w : World) :
    Calls Tryz.prog 35 #[.pointer (some ⟨m, 0, none⟩), .int .u64 p, .slice A 0 c] w fun e w' => e = .returned (.int .i64 0) ∧ w = w' := by
  go_enter Tryz.func35, Tryz.ntmps35
  go_wp2_with fail
  refine (lying_none m p _).mono ?_
  rintro e w' ⟨rfl, rfl⟩
  go_wp2_with (with_reducible refine wpList_copy_nothing rfl _ _ 52 52 rfl 5 Tryz.underlying52 info5s _ _ _ _ _ _ rfl rfl ?hn ?_)
  case hn => rfl
  go_wp2
  go_ret
  exact ⟨rfl, rfl⟩
theorem poke_no (m tb tc hb n : Nat) (T : List Rg) (G : Nat → Nat) (p : Int) (A : Option Addr) (q c : Nat) (hp : IsU p) (hq : q ≤ 1000000) (hq0 : q ≠ 0) (w : World) (hM : MemH w m tb tc hb n T G) (hF : FindNo T p q) :
    Calls Tryz.prog 35 #[.pointer (some ⟨m, 0, none⟩), .int .u64 p, .slice A q c] w fun e w' => e = .returned (.int .i64 13) ∧ Below w.heap.size w w' := by
  have HM := Lib.hid hM
  have HF := Lib.hid hF
  have H0 := Lib.hid (show (q : Int) ≠ 0 by omega)
  clear hM hF hq0
  go_enter Tryz.func35, Tryz.ntmps35
  go_wp2_with fail
  refine (lying_no m tb tc hb n T G p q hp ⟨by omega, by omega⟩ H0.out _ HM.out HF.out).mono ?_
  rintro e w1 ⟨rfl, hb1⟩
  have Hb := Lib.hid hb1
  clear hb1
  go_wp2_with (with_reducible refine wpList_copy_nothing rfl _ _ 52 52 rfl 5 Tryz.underlying52 info5s _ _ _ _ _ _ rfl rfl ?hn ?_)
  case hn => simp
  go_wp2
  go_ret
  exact ⟨rfl, Hb.out⟩
theorem splice_map (l x : List Int) (o : Nat) : (List.take o (l.map (Value.int .u8)) ++ (x.map (Value.int .u8) ++ List.drop (o + x.length) (l.map (Value.int .u8)))).toArray = ((splice l o x).map (Value.int .u8)).toArray := by
  simp [splice]
theorem splice_all {l x : List Int} {o : Nat} (h : AllB l) (hx : AllB x) : AllB (splice l o x) := by
  intro y hy
  simp only [splice, List.mem_append] at hy
  rcases hy with hy | hy | hy
  · exact h y (List.mem_of_mem_take hy)
  · exact hx y hy
  · exact h y (List.mem_of_mem_drop hy)
set_option maxHeartbeats 400000 in
theorem poke_yes (base m tb tc hb n : Nat) (T : List Rg) (G : Nat → Nat) (B : Nat → List Int) (p : Int) (ad : Addr) (q c : Nat) (l : List Int) (i : Nat) (hp : IsU p) (hq : q ≤ 1000000) (w : World) (hM : MemIs w base m tb tc hb n T G B) (hF : FindYes T p q i)
    (hl : l.length = q) (hall : AllB l) (hs : Sl w (some ad) l) :
    Calls Tryz.prog 35 #[.pointer (some ⟨m, 0, none⟩), .int .u64 p, .slice (some ad) q c] w fun e w' =>
      e = .returned (.int .i64 0) ∧ MemIs w' base m tb tc hb n T G (setB B i (splice (B i) (p - rlo (nthR T i)).toNat l)) ∧ w.grownBy w' (some (G i)) := by
  have HM := Lib.hid hM
  have HF := Lib.hid hF
  have HS := Lib.hid hs
  have HL := Lib.hid hl
  have HA := Lib.hid hall
  clear hM hF hs hl hall
  go_enter Tryz.func35, Tryz.ntmps35
  go_wp2_with fail
  refine (lying_yes m tb tc hb n T G p q i hp ⟨by omega, by omega⟩ _ HM.out.toH HF.out).mono ?_
  rintro e w1 ⟨rfl, hb1⟩
  have HM1 := Lib.hid (HM.out.below hb1)
  have HS1 := Lib.hid (HS.out.below hb1)
  have HG := Lib.hid (grown_of_below (row := some (G i)) hb1)
  have HP := Lib.hid (HM1.out.spot HF.out)
  have HR := Lib.hid (show w1.heap[G i]? = some (.cells ((B i).map (Value.int .u8)).toArray 5 (0, 0)) from HM1.out.rows i HP.out.1)
  clear hb1
  go_wp2_with (with_reducible refine wpList_copy_own rfl _ _ 52 52 rfl 5 Tryz.underlying52 info5s _ _ _ _ _ _ _ rfl rfl _ _ HR.out (l.map (Value.int .u8)) ?hn ?hsrc ?hfit ?h1 ?_)
  case hn => have := HL.out; simp; omega
  case hsrc => exact sl_newsO HS1.out
  case hfit => have := HP.out.2.1; have := HL.out; simp at *; omega
  case h1 =>
    intro u hu
    obtain ⟨x, _, rfl⟩ := List.mem_map.1 hu
    rfl
  rw [splice_map]
  have hlen : (splice (B i) (p - rlo (nthR T i)).toNat l).length = (B i).length := length_splice _ _ _ (by have := HP.out.2.1; have := HL.out; simp at *; omega)
  have hrow : Row (w1.setRow (G i) ((splice (B i) (p - rlo (nthR T i)).toNat l).map (Value.int .u8)).toArray) (G i) (splice (B i) (p - rlo (nthR T i)).toNat l) := setRow_heap w1 (G i) _ _ 5 _ HR.out
  have HE := Lib.hid (HM1.out.poked HP.out.1 (grown_setRow w1 (G i) _) hrow hlen (splice_all (HM1.out.all i HP.out.1) HA.out))
  have HE2 := Lib.hid (grown_trans HG.out (grown_setRow w1 (G i) ((splice (B i) (p - rlo (nthR T i)).toNat l).map (Value.int .u8)).toArray))
  clear hlen hrow
  generalize w1.setRow (G i) ((splice (B i) (p - rlo (nthR T i)).toNat l).map (Value.int .u8)).toArray = W2 at *
  go_ret
  exact ⟨rfl, HE.out, HE2.out⟩
theorem cnt_int {q : Int} (h : q = 1 ∨ q = 4 ∨ q = 8) : ((cnt q : Nat) : Int) = q := by unfold cnt; rw [if_pos (by omega)]; omega
theorem store_no (base m tb tc hb n : Nat) (T : List Rg) (G : Nat → Nat) (B : Nat → List Int) (p q : Int) (own : Bool) (v : Int) (hp : IsU p) (hq : IsI q) (w : World) (hM : MemIs w base m tb tc hb n T G B) (hA : AllNo T p q own 2) :
    Calls Tryz.prog 125 #[.pointer (some ⟨m, 0, none⟩), .int .u64 p, .int .i64 q, .bool own, .int .u64 v] w fun e w' => e = .returned (.int .i64 13) ∧ Below w.heap.size w w' := by
  have HM := Lib.hid hM
  have HA := Lib.hid hA
  clear hM hA
  go_enter Tryz.func125, Tryz.ntmps125
  go_wp2_with fail
  refine (allowed_no m tb tc hb n T G p q own 2 hp hq _ HM.out.toH HA.out).mono ?_
  rintro e w1 ⟨rfl, hb1⟩
  have Hb := Lib.hid hb1
  clear hb1
  go_wp2
  go_ret
  exact ⟨rfl, Hb.out⟩
theorem sl_some {w : World} {A : Option Addr} {l : List Int} (h : Sl w A l) (hl : 0 < l.length) : ∃ ad, A = some ad := by
  rcases h with h | ⟨b, off, h, _⟩
  · subst h; simp at hl
  · exact ⟨_, h⟩
set_option maxHeartbeats 400000 in
theorem store_yes (base m tb tc hb n : Nat) (T : List Rg) (G : Nat → Nat) (B : Nat → List Int) (p q : Int) (own : Bool) (v : Int) (i : Nat) (hp : IsU p) (hq : IsI q) (hv : IsU v) (w : World) (hM : MemIs w base m tb tc hb n T G B) (hA : AllYes T p q own 2 i) :
    Calls Tryz.prog 125 #[.pointer (some ⟨m, 0, none⟩), .int .u64 p, .int .i64 q, .bool own, .int .u64 v] w fun e w' =>
      e = .returned (.int .i64 0) ∧ MemIs w' base m tb tc hb n T G (setB B i (splice (B i) (p - rlo (nthR T i)).toNat (bytesL v q.toNat))) ∧ w.grownBy w' (some (G i)) := by
  have HM := Lib.hid hM
  have HA := Lib.hid hA
  have hc := cnt_int (accB_n hA.1)
  have HC := Lib.hid hc
  have HN := Lib.hid (show cnt q = q.toNat by omega)
  have HF := Lib.hid (show FindYes T p ((cnt q : Nat) : Int) i by rw [hc]; exact hA.2.1)
  have HQ := Lib.hid (show 1 ≤ cnt q by have := accB_n hA.1; omega)
  clear hM hA hc
  go_enter Tryz.func125, Tryz.ntmps125
  go_wp2_with fail
  refine (allowed_yes m tb tc hb n T G p q own 2 i hp hq _ HM.out.toH HA.out).mono ?_
  rintro e w1 ⟨rfl, hb1⟩
  have HM1 := Lib.hid (HM.out.below hb1)
  have HG := Lib.hid (grown_of_below (row := some (G i)) hb1)
  clear hb1
  go_wp2_with fail
  refine (bytes_any v q hv _).mono ?_
  rintro e w2 ⟨A, c, rfl, hs, hb2⟩
  obtain ⟨ad, rfl⟩ := sl_some hs (by rw [bytesL_length]; exact HQ.out)
  have HM2 := Lib.hid (HM1.out.below hb2)
  have HG2 := Lib.hid (grown_trans HG.out (grown_of_below (row := some (G i)) hb2))
  have HS := Lib.hid hs
  clear hb2 hs
  go_wp2_with fail
  refine (poke_yes base m tb tc hb n T G B p ad (cnt q) c (bytesL v (cnt q)) i hp (by have := cnt_le q; omega) _ HM2.out HF.out (bytesL_length _ _) (bytesL_all _ _) HS.out).mono ?_
  rintro e w3 ⟨rfl, hM3, hg3⟩
  have HM3 := Lib.hid hM3
  have HG3 := Lib.hid (grown_trans HG2.out hg3)
  clear hM3 hg3
  go_wp2
  go_ret
  exact ⟨rfl, by rw [← HN.out]; exact HM3.out, HG3.out⟩
end Go.Proofs.YtoeagbcjnffpaaaGreatDoor
namespace Go.Proofs.YtoeagbcjnffpaaaGreatDoor
set_option maxRecDepth 100000
open Go.RowKit Go.Maps
set_option linter.unusedVariables false

def cellsR (r : Rg) : List Value := [.int .u64 (rlo r), .int .u64 (rhi r), .int .i64 (rown r), .int .i64 (rout r)]
def cellsT : List Rg → List Value
  | [] => []
  | r :: t => cellsR r ++ cellsT t
theorem cellsT_length (T : List Rg) : (cellsT T).length = T.length * 4 := by
  induction T with
  | nil => rfl
  | cons r t ih => simp [cellsT, cellsR, ih]; omega
theorem cellsT_at : ∀ (T : List Rg) (i j : Nat), i < T.length → j < 4 → (cellsT T)[i * 4 + j]? = (cellsR (nthR T i))[j]? := by
  intro T
  induction T with
  | nil => intro i j hi; simp at hi
  | cons r t ih =>
    intro i j hi hj
    cases i with
    | zero =>
      rw [Nat.zero_mul, Nat.zero_add, nthR_zero]
      show (cellsR r ++ cellsT t)[j]? = _
      rw [List.getElem?_append_left (by simp [cellsR]; omega)]
    | succ i =>
      rw [nthR_cons, ← ih i j (by simpa using hi) hj]
      show (cellsR r ++ cellsT t)[(i + 1) * 4 + j]? = _
      rw [List.getElem?_append_right (by simp [cellsR]; omega)]
      congr 1
      simp [cellsR]; omega
theorem tab_cells {w : World} {b off : Nat} {T : List Rg} (h : TabAt w b off T) : ∀ j u, (cellsT T)[j]? = some u → w.cell? ((⟨b, off, none⟩ : Addr).add j) = some u := by
  intro j u hj
  have hlt : j < T.length * 4 := by rw [← cellsT_length]; exact (List.getElem?_eq_some_iff.1 hj).1
  obtain ⟨c0, c1, c2, c3⟩ := h (j / 4) (by omega)
  have e : j = j / 4 * 4 + j % 4 := by omega
  have hadd : (⟨b, off, none⟩ : Addr).add j = ⟨b, off + j, none⟩ := by
    unfold Addr.add
    by_cases e0 : j = 0
    · subst e0; simp
    · simp [e0]
  rw [hadd]
  rw [e, cellsT_at T (j / 4) (j % 4) (by omega) (by omega)] at hj
  have e2 : off + j = off + j / 4 * 4 + j % 4 := by omega
  rw [e2]
  have hm : j % 4 = 0 ∨ j % 4 = 1 ∨ j % 4 = 2 ∨ j % 4 = 3 := by omega
  rcases hm with hm | hm | hm | hm <;> rw [hm] at hj ⊢ <;> simp [cellsR] at hj <;> subst hj <;> assumption
theorem tab_of_owned {w : World} {base g n c : Nat} {e : TypeId} {T : List Rg} (h : w.ownsRow base e 4 (.slice (some ⟨g, 0, none⟩) n c) n (cellsT T)) (hn : T.length = n) : TabAt w g 0 T := by
  intro i hi
  have hc : ∀ j, j < 4 → w.cell? ⟨g, 0 + i * 4 + j, none⟩ = (cellsR (nthR T i))[j]? := fun j hj => by
    rw [Nat.zero_add, h.cellAt (i * 4 + j) (by omega), cellsT_at T i j hi hj]
  exact ⟨hc 0 (by omega), hc 1 (by omega), hc 2 (by omega), hc 3 (by omega)⟩
theorem cellsT_one (T : List Rg) : ∀ u ∈ cellsT T, u.oneCell' = true := by
  induction T with
  | nil => intro u hu; simp [cellsT] at hu
  | cons r t ih =>
    intro u hu
    simp only [cellsT, cellsR, List.mem_append, List.mem_cons, List.not_mem_nil, or_false] at hu
    rcases hu with (rfl | rfl | rfl | rfl) | hu
    · rfl
    · rfl
    · rfl
    · rfl
    · exact ih u hu
theorem infoReg : (Tryz.prog.info? 57).map (fun i => (i.zero, i.size, i.bytes)) = some (some (.agg #[.int .u64 0, .int .u64 0, .int .i64 0, .int .i64 0]), 4, 32) := by kernel_rfl
theorem eqNilR : ∀ (w : World) (a : Option Addr) (n c n' c' : Nat), (binOp .eql 22 (.slice a n c) (.slice none n' c')).run Tryz.prog w = .ok (.bool a.isNone) w := fun w a n c n' c' => Lib.run_eql_slice_nil w _ _ a n c n' c' Tryz.underlying22
set_option maxHeartbeats 400000 in
theorem cloneR_some (b off n c : Nat) (T : List Rg) (hn : T.length = n) (h1 : 1 ≤ n) (h2 : n ≤ 16) (w : World) (hT : TabAt w b off T) :
    Calls Tryz.prog 120 #[.slice (some ⟨b, off, none⟩) n c] w fun e w' => ∃ g c', e = .returned (.slice (some ⟨g, 0, none⟩) n c') ∧ TabAt w' g 0 T ∧ w.heap.size ≤ g ∧ g < w'.heap.size ∧ Below w.heap.size w w' := by
  obtain ⟨i0, hi, hz0, hz1, hz2⟩ := info_parts infoReg
  have HT := Lib.hid hT
  have HN := Lib.hid hn
  clear hT hn
  have q22 := eqNilR
  go_enter Tryz.func120, Tryz.ntmps120
  go_wp2_with (at_builtin; refine wpList_append_own _ rfl _ _ 22 rfl w.heap.size 57 i0 (.agg #[.int .u64 0, .int .u64 0, .int .i64 0, .int .i64 0]) 4 32 Tryz.underlying22 hi hz0 hz1 hz2 rfl (by decide) _ 0 [] rfl ?own ⟨b, off, none⟩ n c (cellsT T) rfl ?len ?c1 ?c2 ?c3 ?c4 ?c5 ?_)
  case own => exact empty_rowO
  case len => rw [cellsT_length, HN.out]
  case c1 => exact tab_cells (HT.out.below ((Below.refl _ _).alloc (Nat.le_refl _) _))
  case c2 => exact cellsT_one T
  case c3 => unfold maxLen; omega
  case c4 => omega
  case c5 => simp
  intro v3 w3 hown hgrow hnil
  obtain ⟨g, cap, rfl⟩ := owned_formO hown hnil
  have HO := Lib.hid (tab_of_owned hown HN.out)
  have HG := Lib.hid (hown.lt g rfl)
  have HB := Lib.hid ((((Below.refl _ w).alloc (Nat.le_refl _) _).grown hgrow (by simp) (by simp [Value.ownBlock]) : Below w.heap.size w w3))
  clear hown hgrow hnil
  go_wp2
  go_ret
  exact ⟨g, cap, rfl, HO.out, HG.out.1, HG.out.2, HB.out⟩
/-- n bytes 0, as cells -/
def zC (n : Nat) : Array Value := ((List.replicate n (0 : Int)).map (Value.int .u8)).toArray
theorem zC_made (n : Nat) : madeCells (Value.int .u8 0).cells n = zC n := by
  apply Array.toList_inj.1
  show (madeCells #[Value.int .u8 0] n).toList = _
  rw [toList_madeCells_one]
  simp [zC]
theorem make_any (x : Int) (h0 : 0 ≤ x) (h1 : x ≤ 65536) (w : World) :
    (Instr.makeSlice 52 (.int .u64 x) (.int .u64 x)).run Tryz.prog w = .ok (.slice (some ⟨w.heap.size, 0, none⟩) x.toNat x.toNat) (w.alloc (.cells (zC x.toNat) 5)) := by
  obtain ⟨i0, hi, hz0, hz1, hz2⟩ := info_parts info5
  have h := run_make (P := Tryz.prog) w 52 5 i0 (.int .u8 0) Tryz.underlying52 hi hz0 .u64 .u64 x x h0 (Int.le_refl _) (by rw [hz2]; omega) (by omega)
  rw [h, hz1, Nat.mul_one, zC_made]
/-- a memory under way: the first k regions have their rows -/
structure MemK (w : World) (base m tb tc hb n : Nat) (T : List Rg) (G : Nat → Nat) (k : Nat) : Prop where
  len : T.length = n
  few : n ≤ 16
  tabw : TabW T
  c0 : w.cell? ⟨m, 0, none⟩ = some (.slice (some ⟨tb, 0, none⟩) n tc)
  c1 : w.cell? ⟨m, 1, none⟩ = some (.map (some hb))
  tab : TabAt w tb 0 T
  held : HeldM w hb T G (fun i => lenR (nthR T i)) k
  rows : ∀ i, i < k → Row w (G i) (List.replicate (lenR (nthR T i)) 0)
  apart : ∀ i j, i < k → j < k → G i = G j → i = j
  away : ∀ i, i < k → G i ≠ m ∧ G i ≠ tb ∧ G i ≠ hb
  from_ : ∀ i, i < k → base ≤ G i
  own : base ≤ m ∧ base ≤ tb ∧ base ≤ hb
  sep : hb ≠ m ∧ hb ≠ tb
section
variable {w w' : World} {base m tb tc hb n k : Nat} {T : List Rg} {G : Nat → Nat}
theorem MemK.below (h : MemK w base m tb tc hb n T G k) (hw : Below w.heap.size w w') : MemK w' base m tb tc hb n T G k :=
  ⟨h.len, h.few, h.tabw, by rw [hw.cell (p := ⟨m, 0, none⟩) (block_lt h.c0)]; exact h.c0, by rw [hw.cell (p := ⟨m, 1, none⟩) (block_lt h.c1)]; exact h.c1, h.tab.below hw, h.held.below hw, fun i hi => (h.rows i hi).below hw, h.apart, h.away, h.from_, h.own, h.sep⟩
/-- all bytes are 0 -/
def zerosB (T : List Rg) (i : Nat) : List Int := List.replicate (lenR (nthR T i)) 0
theorem MemK.done (h : MemK w base m tb tc hb n T G n) : MemIs w base m tb tc hb n T G (zerosB T) :=
  ⟨⟨h.len, h.few, h.tabw, h.c0, h.c1, h.tab, h.held⟩, h.rows, fun i hi x hx => by rw [(List.mem_replicate.1 hx).2]; omega, fun i hi => by simp [zerosB], h.apart, h.away, h.from_, h.own⟩
theorem MemK.step (h : MemK w base m tb tc hb n T G k) (hk : k < n) (hT : MayT T) (hbase : base ≤ w.heap.size) :
    ∃ w1, (Instr.mapUpdate 149 (.map (some hb)) (.agg #[.int .u64 (rlo (nthR T k)), .int .u64 (rhi (nthR T k)), .int .i64 (rown (nthR T k)), .int .i64 (rout (nthR T k))]) (.slice (some ⟨w.heap.size, 0, none⟩) (lenR (nthR T k)) (lenR (nthR T k)))).run Tryz.prog (w.alloc (.cells (zC (lenR (nthR T k))) 5)).drew = .ok () w1 ∧
      MemK w1 base m tb tc hb n T (fun i => if i = k then w.heap.size else G i) (k + 1) ∧ (w.alloc (.cells (zC (lenR (nthR T k))) 5)).drew.grownBy w1 (some hb) := by
  have bX : Below w.heap.size w (w.alloc (.cells (zC (lenR (nthR T k))) 5)).drew := ((Below.refl _ _).alloc (Nat.le_refl _) _).drew
  have hX := h.below bX
  have hrow : Row (w.alloc (.cells (zC (lenR (nthR T k))) 5)).drew w.heap.size (List.replicate (lenR (nthR T k)) 0) := heap_alloc_new w _
  obtain ⟨w1, hr, hh, hg⟩ := hX.held.put (g := w.heap.size) (n := lenR (nthR T k)) (by have := h.few; omega) (fun i hi => h.tabw i (by rw [h.len]; omega)) (fun i hi e => by have := hT.ne (by rw [h.len]; omega) (by rw [h.len]; omega) e; omega)
  have hlt : ∀ i, i < k → G i < w.heap.size := fun i hi => (h.rows i hi).lt
  have m0 : m < w.heap.size := block_lt h.c0
  have h0 : hb < w.heap.size := h.held.lt
  obtain ⟨s0, s1⟩ := h.sep
  refine ⟨w1, hr, ⟨h.len, h.few, h.tabw, hg.cell hX.c0 (by simp; exact Ne.symm s0), hg.cell hX.c1 (by simp; exact Ne.symm s0), fun i hi => ?_, hh.congr (fun _ _ => rfl) (fun i hi => ?_), fun i hi => ?_, fun i j hi hj e => ?_, fun i hi => ?_, fun i hi => ?_, h.own, h.sep⟩, hg⟩
  · obtain ⟨c0, c1, c2, c3⟩ := hX.tab i hi
    exact ⟨hg.cell c0 (by simp; exact Ne.symm s1), hg.cell c1 (by simp; exact Ne.symm s1), hg.cell c2 (by simp; exact Ne.symm s1), hg.cell c3 (by simp; exact Ne.symm s1)⟩
  · by_cases e : i = k
    · subst e; simp
    · simp [e]
  · show Row w1 (if i = k then w.heap.size else G i) _
    by_cases e : i = k
    · subst e
      rw [if_pos rfl]
      exact hrow.kept hg (by simp; omega)
    · rw [if_neg e]
      exact (hX.rows i (by omega)).kept hg (by simp; exact (h.away i (by omega)).2.2)
  · have e' : (if i = k then w.heap.size else G i) = (if j = k then w.heap.size else G j) := e
    by_cases e1 : i = k <;> by_cases e2 : j = k
    · omega
    · rw [if_pos e1, if_neg e2] at e'; have := hlt j (by omega); omega
    · rw [if_neg e1, if_pos e2] at e'; have := hlt i (by omega); omega
    · rw [if_neg e1, if_neg e2] at e'; exact h.apart i j (by omega) (by omega) e'
  · show (if i = k then w.heap.size else G i) ≠ m ∧ (if i = k then w.heap.size else G i) ≠ tb ∧ (if i = k then w.heap.size else G i) ≠ hb
    by_cases e : i = k
    · rw [if_pos e]
      have t0 : tb < w.heap.size := block_lt (h.tab 0 (by rw [h.len]; omega)).1
      exact ⟨by omega, by omega, by omega⟩
    · rw [if_neg e]; exact h.away i (by omega)
  · show base ≤ (if i = k then w.heap.size else G i)
    by_cases e : i = k
    · rw [if_pos e]; exact hbase
    · rw [if_neg e]; exact h.from_ i (by omega)
end
end Go.Proofs.YtoeagbcjnffpaaaGreatDoor
namespace Go.Proofs.YtoeagbcjnffpaaaGreatDoor
set_option maxRecDepth 100000
open Go.RowKit Go.Maps
set_option linter.unusedVariables false

set_option maxHeartbeats 2000000 in
theorem blank_yes (b off n c : Nat) (T : List Rg) (hn : T.length = n) (hT : MayT T) (hW : TabW T) (w : World) (hA : TabAt w b off T) :
    Calls Tryz.prog 68 #[.slice (some ⟨b, off, none⟩) n c] w fun e w' => ∃ m tb tc hb G, e = .returned (.pointer (some ⟨m, 0, none⟩)) ∧ MemIs w' w.heap.size m tb tc hb n T G (zerosB T) ∧ Below w.heap.size w w' := by
  have n1 : 1 ≤ n := by have := hT.1; omega
  have n2 : n ≤ 16 := by have := hT.2.1; omega
  have HA := Lib.hid hA
  have HN := Lib.hid hn
  have HT := Lib.hid hT
  have HW := Lib.hid hW
  have hmm := @run_makeMap Tryz.prog
  clear hA hn hT hW
  go_enter Tryz.func68, Tryz.ntmps68
  go_wp2_with fail
  refine (cloneR_some b off n c T HN.out n1 n2 _ HA.out).mono ?_
  rintro e w1 ⟨tb, tc, rfl, ht1, hg1, hg1', hb1⟩
  have HT1 := Lib.hid ht1
  have Hb := Lib.hid hb1
  have Hg := Lib.hid (And.intro hg1 hg1')
  clear ht1 hb1 hg1 hg1'
  go_wp2_with fail
  have B2 : Below w1.heap.size w1 ((w1.alloc (.map #[] 0)).alloc (.cells #[.slice (some ⟨tb, 0, none⟩) n tc, .map (some w1.heap.size)] 151)) := ((Below.refl _ _).alloc (Nat.le_refl _) _).alloc (by simp) _
  have HK := Lib.hid (show MemK ((w1.alloc (.map #[] 0)).alloc (.cells #[.slice (some ⟨tb, 0, none⟩) n tc, .map (some w1.heap.size)] 151)) w.heap.size (w1.heap.size + 1) tb tc w1.heap.size n T (fun _ => 0) 0 from
    ⟨HN.out, n2, HW.out, by simp [go_sem], by simp [go_sem], HT1.out.below B2, (HeldM.made w1 T _ _).below ((Below.refl _ _).alloc (Nat.le_refl _) _), fun i hi => by omega, fun i j hi => by omega, fun i hi => by omega, fun i hi => by omega, ⟨by have := Hb.out.size; omega, Hg.out.1, Hb.out.size⟩, ⟨by omega, by have := Hg.out.2; omega⟩⟩)
  have HB := Lib.hid (show Below w.heap.size w ((w1.alloc (.map #[] 0)).alloc (.cells #[.slice (some ⟨tb, 0, none⟩) n tc, .map (some w1.heap.size)] 151)) from Hb.out.trans (B2.mono Hb.out.size))
  clear B2 hmm
  generalize (w1.alloc (.map #[] 0)).alloc (.cells #[.slice (some ⟨tb, 0, none⟩) n tc, .map (some w1.heap.size)] 151) = W at *
  have HA2 := Lib.hid (HA.out.below HB.out)
  clear Hb Hg HT1
  generalize w1.heap.size + 1 = m at *
  generalize w1.heap.size = hb at *
  go_loopw [13] (fun x wr => ∃ (k : Nat) (G : Nat → Nat), k ≤ n ∧ x = .int .i64 k ∧ MemK wr w.heap.size m tb tc hb n T G k ∧ Below w.heap.size w wr) (fun x _ => n - (intOf x).toNat)
  case atStart => exact ⟨0, _, by omega, rfl, HK.out, HB.out⟩
  case round =>
    obtain ⟨k, G, hk, rfl, hK, hB⟩ := hrel
    clear HK HB HA2
    have HK := Lib.hid hK
    have HB := Lib.hid hB
    clear hK hB
    by_cases hlt : k < n
    · have hkT : k < T.length := by have := HN.out; omega
      obtain ⟨c0, c1, c2, c3⟩ := (HA.out.below HB.out) k hkT
      have k0 : (0 : Int) ≤ k := by omega
      have k1 : (k : Int) < n := by omega
      go_wp2_with fail
      have B3 : Below wr.heap.size wr (wr.alloc (.cells #[.int .u64 (rlo (nthR T k)), .int .u64 (rhi (nthR T k)), .int .i64 (rown (nthR T k)), .int .i64 (rout (nthR T k))] 57)) := (Below.refl _ _).alloc (Nat.le_refl _) _
      have K2 := HK.out.below B3
      have HB2 := Lib.hid (HB.out.trans (B3.mono HB.out.size))
      have r0 : (wr.alloc (.cells #[.int .u64 (rlo (nthR T k)), .int .u64 (rhi (nthR T k)), .int .i64 (rown (nthR T k)), .int .i64 (rout (nthR T k))] 57)).cell? ⟨wr.heap.size, 0, none⟩ = some (.int .u64 (rlo (nthR T k))) := by simp [go_sem]
      have r1 : (wr.alloc (.cells #[.int .u64 (rlo (nthR T k)), .int .u64 (rhi (nthR T k)), .int .i64 (rown (nthR T k)), .int .i64 (rout (nthR T k))] 57)).cell? ⟨wr.heap.size, 1, none⟩ = some (.int .u64 (rhi (nthR T k))) := by simp [go_sem]
      have r2 : (wr.alloc (.cells #[.int .u64 (rlo (nthR T k)), .int .u64 (rhi (nthR T k)), .int .i64 (rown (nthR T k)), .int .i64 (rout (nthR T k))] 57)).cell? ⟨wr.heap.size, 2, none⟩ = some (.int .i64 (rown (nthR T k))) := by simp [go_sem]
      have r3 : (wr.alloc (.cells #[.int .u64 (rlo (nthR T k)), .int .u64 (rhi (nthR T k)), .int .i64 (rown (nthR T k)), .int .i64 (rout (nthR T k))] 57)).cell? ⟨wr.heap.size, 3, none⟩ = some (.int .i64 (rout (nthR T k))) := by simp [go_sem]
      have hrb : wr.heap.size ≠ hb := by have := HK.out.held.lt; omega
      clear B3 HB c0 c1 c2 c3
      generalize wr.alloc (.cells #[.int .u64 (rlo (nthR T k)), .int .u64 (rhi (nthR T k)), .int .i64 (rown (nthR T k)), .int .i64 (rout (nthR T k))] 57) = W2 at *
      generalize wr.heap.size = r at *
      have hok := okB_iff.1 (HT.out.2.2.1 k hkT)
      obtain ⟨⟨l0, l1⟩, ⟨u0, u1⟩, _⟩ := HW.out k hkT
      obtain ⟨o0, o1, _⟩ := hok
      obtain ⟨w3, hmu, hK3, hg3⟩ := K2.step hlt HT.out HB2.out.size
      have a1 := K2.c1
      have ha := K2.own
      have B4 : Below W2.heap.size W2 (W2.alloc (.cells (zC (lenR (nthR T k))) 5)).drew := ((Below.refl _ _).alloc (Nat.le_refl _) _).drew
      have S0 := Lib.hid (show W2.drew.cell? ⟨m, 1, none⟩ = some (.map (some hb)) ∧ W2.drew.cell? ⟨r, 0, none⟩ = some (.int .u64 (rlo (nthR T k))) ∧ W2.drew.cell? ⟨r, 1, none⟩ = some (.int .u64 (rhi (nthR T k))) ∧ W2.drew.cell? ⟨r, 2, none⟩ = some (.int .i64 (rown (nthR T k))) ∧ W2.drew.cell? ⟨r, 3, none⟩ = some (.int .i64 (rout (nthR T k))) from ⟨a1, r0, r1, r2, r3⟩)
      have q0 := (B4.cell (p := ⟨m, 1, none⟩) (block_lt a1)).trans a1
      have q1 := (B4.cell (p := ⟨r, 0, none⟩) (block_lt r0)).trans r0
      have q2 := (B4.cell (p := ⟨r, 1, none⟩) (block_lt r0)).trans r1
      have q3 := (B4.cell (p := ⟨r, 2, none⟩) (block_lt r0)).trans r2
      have q4 := (B4.cell (p := ⟨r, 3, none⟩) (block_lt r0)).trans r3
      have S1 := Lib.hid (And.intro q0 (And.intro q1 (And.intro q2 (And.intro q3 q4))))
      have S2 := Lib.hid (And.intro hK3.c1 (And.intro (hg3.cell q1 (by simp; exact hrb)) (And.intro (hg3.cell q2 (by simp; exact hrb)) (And.intro (hg3.cell q3 (by simp; exact hrb)) (hg3.cell q4 (by simp; exact hrb))))))
      have hmk : ∀ w, (Instr.makeSlice 52 (.int .u64 (rhi (nthR T k) - rlo (nthR T k))) (.int .u64 (rhi (nthR T k) - rlo (nthR T k)))).run Tryz.prog w = .ok (.slice (some ⟨w.heap.size, 0, none⟩) (lenR (nthR T k)) (lenR (nthR T k))) (w.alloc (.cells (zC (lenR (nthR T k))) 5)) := make_any _ (by omega) o1
      have hmu2 : (Instr.mapUpdate 149 (.map (some hb)) (.agg #[.int .u64 (rlo (nthR T k)), .int .u64 (rhi (nthR T k)), .int .i64 (rown (nthR T k)), .int .i64 (rout (nthR T k))]) (.slice (some ⟨W2.heap.size, 0, none⟩) (lenR (nthR T k)) (lenR (nthR T k)))).run Tryz.prog (W2.drew.alloc (.cells (zC (lenR (nthR T k))) 5)) = .ok () w3 := hmu
      have hwr : IntKind.u64.wrap (rhi (nthR T k) - rlo (nthR T k)) = rhi (nthR T k) - rlo (nthR T k) := by rw [IntKind.wrap_u64]; omega
      have HK3 := Lib.hid hK3
      have HB3 := Lib.hid (show Below w.heap.size w w3 from (HB2.out.trans (B4.mono HB2.out.size)).grown hg3 (Nat.le_trans HB2.out.size B4.size) (fun j hj => by cases hj; exact ha.2.2))
      clear hK3 hg3 K2 HK B4 q0 q1 q2 q3 q4 a1 r0 r1 r2 r3 ha HB2 hrb
      go_region_held3 (fun w' => w'.cell? ⟨m, 1, none⟩ = some (.map (some hb)) ∧ w'.cell? ⟨r, 0, none⟩ = some (.int .u64 (rlo (nthR T k))) ∧ w'.cell? ⟨r, 1, none⟩ = some (.int .u64 (rhi (nthR T k))) ∧ w'.cell? ⟨r, 2, none⟩ = some (.int .i64 (rown (nthR T k))) ∧ w'.cell? ⟨r, 3, none⟩ = some (.int .i64 (rout (nthR T k)))) (first | exact S0.out | exact S1.out | exact S2.out) (fail)
      clear hmk hmu hmu2 hwr
      go_wp2
      go_roundw
      case rel => exact ⟨k + 1, _, by omega, by go_num, HK3.out, HB3.out⟩
      case measure => simp [intOf]; omega
    · obtain rfl : k = n := by omega
      go_wp2
      go_ret
      exact ⟨m, tb, tc, hb, G, rfl, HK.out.done, HB.out⟩
theorem new_none (A : Option Addr) (c : Nat) (w : World) : Calls Tryz.prog 33 #[.slice A 0 c] w fun e w' => e = .returned (.tuple #[.pointer none, .int .i64 10]) ∧ w = w' := by
  go_enter Tryz.func33, Tryz.ntmps33
  go_wp2_with fail
  refine (may_none A c _).mono ?_
  rintro e w' ⟨rfl, rfl⟩
  go_wp2
  go_ret2
  exact ⟨rfl, rfl⟩
theorem new_many (A : Option Addr) (n c : Nat) (h : 16 < n) (w : World) : Calls Tryz.prog 33 #[.slice A n c] w fun e w' => e = .returned (.tuple #[.pointer none, .int .i64 10]) ∧ w = w' := by
  go_enter Tryz.func33, Tryz.ntmps33
  go_wp2_with fail
  refine (may_many A n c h _).mono ?_
  rintro e w' ⟨rfl, rfl⟩
  go_wp2
  go_ret2
  exact ⟨rfl, rfl⟩
theorem new_no (b off c : Nat) (T : List Rg) (n : Nat) (hn : T.length = n) (h0 : 1 ≤ n) (h1 : n ≤ 16) (hW : TabW T) (hB : mayTB T = false) (w : World) (hT : TabAt w b off T) :
    Calls Tryz.prog 33 #[.slice (some ⟨b, off, none⟩) n c] w fun e w' => e = .returned (.tuple #[.pointer none, .int .i64 10]) ∧ Below w.heap.size w w' := by
  have HT := Lib.hid hT
  have HN := Lib.hid hn
  have HW := Lib.hid hW
  have HB := Lib.hid hB
  clear hT hn hW hB
  go_enter Tryz.func33, Tryz.ntmps33
  go_wp2_with fail
  refine (may_some b off c T n HN.out h0 h1 HW.out _ HT.out).mono ?_
  rw [HB.out]
  rintro e w1 ⟨rfl, hb1⟩
  have Hb := Lib.hid hb1
  clear hb1
  go_wp2
  go_ret2
  exact ⟨rfl, Hb.out⟩
theorem new_yes (b off c : Nat) (T : List Rg) (n : Nat) (hn : T.length = n) (hW : TabW T) (hB : mayTB T = true) (w : World) (hT : TabAt w b off T) :
    Calls Tryz.prog 33 #[.slice (some ⟨b, off, none⟩) n c] w fun e w' => ∃ m tb tc hb G, e = .returned (.tuple #[.pointer (some ⟨m, 0, none⟩), .int .i64 0]) ∧ MemIs w' w.heap.size m tb tc hb n T G (zerosB T) ∧ Below w.heap.size w w' := by
  have hM := mayB_to hB
  have h0 : 1 ≤ n := by have := hM.1; omega
  have h1 : n ≤ 16 := by have := hM.2.1; omega
  have HM := Lib.hid hM
  have HT := Lib.hid hT
  have HN := Lib.hid hn
  have HW := Lib.hid hW
  have HB := Lib.hid hB
  clear hT hn hW hB hM
  go_enter Tryz.func33, Tryz.ntmps33
  go_wp2_with fail
  refine (may_some b off c T n HN.out h0 h1 HW.out _ HT.out).mono ?_
  rw [HB.out]
  rintro e w1 ⟨rfl, hb1⟩
  have Hb := Lib.hid hb1
  have HT1 := Lib.hid (HT.out.below hb1)
  clear hb1
  go_wp2_with fail
  refine (blank_yes b off n c T HN.out HM.out HW.out _ HT1.out).mono ?_
  rintro e w2 ⟨m, tb, tc, hb, G, rfl, hI, hb2⟩
  have HI := Lib.hid (hI.rebase Hb.out.size)
  have Hb2 := Lib.hid (Hb.out.trans (hb2.mono Hb.out.size))
  clear hI hb2
  go_wp2
  go_ret2
  exact ⟨m, tb, tc, hb, G, rfl, HI.out, Hb2.out⟩
end Go.Proofs.YtoeagbcjnffpaaaGreatDoor
namespace Go.Proofs.YtoeagbcjnffpaaaGreatDoor
set_option maxRecDepth 100000
open Go.RowKit Go.Maps
set_option linter.unusedVariables false

def TT : List Rg := [(0, 16, 7, 1), (16, 32, 1, 3)]
theorem tt_w : TabW TT := by
  intro i hi
  have : i = 0 ∨ i = 1 := by simp [TT] at hi; omega
  rcases this with rfl | rfl
  · exact ⟨⟨by decide, by decide⟩, ⟨by decide, by decide⟩, ⟨by decide, by decide⟩, ⟨by decide, by decide⟩⟩
  · exact ⟨⟨by decide, by decide⟩, ⟨by decide, by decide⟩, ⟨by decide, by decide⟩, ⟨by decide, by decide⟩⟩
theorem tt_may : mayTB TT = true := by decide
theorem tt_two {P : Nat → Prop} (h0 : P 0) (h1 : P 1) : ∀ j, j < TT.length → P j := by
  intro j hj
  have : j = 0 ∨ j = 1 := by simp [TT] at hj; omega
  rcases this with rfl | rfl
  · exact h0
  · exact h1
theorem tt_f0 : FindNo TT 12 8 := .inr (tt_two (by decide) (by decide))
theorem tt_f (q : Int) (h : q = 1 ∨ q = 4 ∨ q = 8) : FindYes TT 8 q 0 := ⟨by omega, by decide, by rcases h with rfl | rfl | rfl <;> decide, fun j hj => by omega⟩
theorem tt_a1 : AllYes TT 8 8 true 2 0 := ⟨by decide, tt_f 8 (by simp), by decide⟩
theorem tt_a2 : AllYes TT 8 1 false 1 0 := ⟨by decide, tt_f 1 (by simp), by decide⟩
theorem tt_a3 : AllNo TT 8 8 false 2 := .inr (.inr ⟨0, tt_f 8 (by simp), by decide⟩)
theorem tt_a4 : AllYes TT 8 4 true 4 0 := ⟨by decide, tt_f 4 (by simp), by decide⟩
def BB : Nat → List Int := setB (zerosB TT) 0 (splice (zerosB TT 0) (8 - rlo (nthR TT 0)).toNat (bytesL 258 (8 : Int).toNat))
theorem bb_one : wordI (cut TT BB 8 1 0) = 2 := by decide
theorem bb_four : wordI (cut TT BB 8 4 0) = 258 := by decide
end Go.Proofs.YtoeagbcjnffpaaaGreatDoor
namespace Go.Proofs.YtoeagbcjnffpaaaGreatDoor
set_option maxRecDepth 100000
open Go.RowKit Go.Maps
set_option linter.unusedVariables false
def T1 (lo hi x y : Int) : List Rg := [(lo, hi, x, y)]
section
variable {lo hi x y : Int}
theorem t1_zero : nthR (T1 lo hi x y) 0 = (lo, hi, x, y) := rfl
theorem t1_w (h0 : 0 ≤ lo) (h1 : lo < hi) (h2 : hi < 1000) (hx : 0 ≤ x ∧ x ≤ 7) (hy : 0 ≤ y ∧ y ≤ 7) : TabW (T1 lo hi x y) := by
  intro i hi
  have : i = 0 := by simp [T1] at hi; omega
  subst this
  rw [t1_zero]
  unfold RgW IsU IsI rlo rhi rown rout
  dsimp only
  omega
theorem t1_may (h0 : 0 ≤ lo) (h1 : lo < hi) (h2 : hi < 1000) (h3 : lo % 8 = 0) (h4 : hi % 8 = 0) (hx : 0 ≤ x ∧ x ≤ 7) (hy : 0 ≤ y ∧ y ≤ 7) : mayTB (T1 lo hi x y) = true := by
  have h : okB (lo, hi, x, y) = true := okB_iff.2 (by unfold rlo rhi rown rout; dsimp only; omega)
  have h5 : decide ((0 : Int) ≤ rlo (lo, hi, x, y)) = true := by rw [decide_eq_true_eq]; exact h0
  simp [mayTB, T1, chk, h, h5]
theorem t1_f {p q : Int} (h0 : lo ≤ p) (hq : 1 ≤ q) (h1 : p + q ≤ hi) : FindYes (T1 lo hi x y) p q 0 := by
  refine ⟨hq, by simp [T1], hitB_iff.2 ?_, fun j hj => by omega⟩
  rw [t1_zero]
  unfold rlo rhi
  dsimp only
  omega
theorem t1_n {p q : Int} (h : p < lo ∨ hi < p + q) (hq : 1 ≤ q) : FindNo (T1 lo hi x y) p q := by
  refine .inr (fun j hj => hitB_no.2 ?_)
  have : j = 0 := by simp [T1] at hj; omega
  subst this
  rw [t1_zero]
  unfold rlo rhi
  dsimp only
  omega
theorem t1_right {own : Bool} : rightI (nthR (T1 lo hi x y) 0) own = if own then x else y := rfl
theorem t1_tab (w : World) : TabAt (w.alloc (.cells #[.int .u64 lo, .int .u64 hi, .int .i64 x, .int .i64 y] 57)) w.heap.size 0 (T1 lo hi x y) := by
  intro i hi
  have : i = 0 := by simp [T1] at hi; omega
  subst this
  exact ⟨by simp [go_sem]; rfl, by simp [go_sem]; rfl, by simp [go_sem]; rfl, by simp [go_sem]; rfl⟩
end
theorem has4 {x : Int} (h0 : 0 ≤ x) (h1 : x ≤ 7) : hasB x 4 = decide (x / 4 = 1) := by
  have : x = 0 ∨ x = 1 ∨ x = 2 ∨ x = 3 ∨ x = 4 ∨ x = 5 ∨ x = 6 ∨ x = 7 := by omega
  rcases this with rfl | rfl | rfl | rfl | rfl | rfl | rfl | rfl <;> decide
theorem has1 {x : Int} (h0 : 0 ≤ x) (h1 : x ≤ 7) : hasB x 1 = decide (x % 2 = 1) := by
  have : x = 0 ∨ x = 1 ∨ x = 2 ∨ x = 3 ∨ x = 4 ∨ x = 5 ∨ x = 6 ∨ x = 7 := by omega
  rcases this with rfl | rfl | rfl | rfl | rfl | rfl | rfl | rfl <;> decide
/-- a new block of bytes -/
theorem sl_new (w : World) (l : List Int) : Sl (w.alloc (.cells (l.map (Value.int .u8)).toArray 5)) (some ⟨w.heap.size, 0, none⟩) l := by
  have h : Row (w.alloc (.cells (l.map (Value.int .u8)).toArray 5)) w.heap.size l := heap_alloc_new w _
  have := h.sl 0 l.length (by omega)
  simpa using this
end Go.Proofs.YtoeagbcjnffpaaaGreatDoor
