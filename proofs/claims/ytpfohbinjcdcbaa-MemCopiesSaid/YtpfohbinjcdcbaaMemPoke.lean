/- Layer 4: what Peek, Poke and Store of package mem answer, and leave. -/
import Derived.Test.YtpfohbinjcdcbaaMemIs
import Derived.WalkSpells
namespace Go.Proofs.Ytpfohbinjcdcbaa
open Go.RowKit Go.Maps
set_option linter.unusedVariables false

theorem sl_newsO {w : World} {ad : Addr} {l : List Int} (h : Sl w (some ad) l) : ∀ j u, (l.map (Value.int .u8))[j]? = some u → w.cell? (ad.add j) = some u := by
  intro j u hj
  rcases h with rfl | ⟨b', off, he, hc⟩
  · simp at hj
  · obtain rfl : ad = _ := Option.some.inj he
    simp only [List.getElem?_map, Option.map_eq_some_iff] at hj
    obtain ⟨x, hx, rfl⟩ := hj
    have hk : j < l.length := (List.getElem?_eq_some_iff.1 hx).1
    have h1 := hc j hk
    rw [nth_get hk, (List.getElem?_eq_some_iff.1 hx).2] at h1
    rw [← h1]
    unfold Addr.add
    by_cases e0 : j = 0
    · subst e0; simp
    · simp [e0]
theorem empty_rowO {w : World} {t : TypeId} {s : Nat} : (w.alloc (.cells #[] t)).ownsRow w.heap.size t s (.slice (some ⟨w.heap.size, 0, none⟩) 0 0) 0 [] :=
  ⟨by simp, .inr ⟨_, 0, #[], rfl, Nat.le_refl _, heap_alloc_new w _, by omega, by unfold maxLen; omega, by simp, by simp⟩⟩
theorem sl_of_owned {w : World} {base g cap n : Nat} {e : TypeId} {l : List Int} (h : w.ownsRow base e 1 (.slice (some ⟨g, 0, none⟩) n cap) n (l.map (Value.int .u8))) :
    Sl w (some ⟨g, 0, none⟩) l := by
  refine .inr ⟨g, 0, rfl, fun j hj => ?_⟩
  have hl := h.1
  rw [List.length_map] at hl
  rw [Nat.zero_add, h.cellAt j (by omega), nth_get hj, List.getElem?_map, List.getElem?_eq_getElem hj]
  rfl
theorem owned_formO {w : World} {base n s : Nat} {e : TypeId} {v : Value} {xs : List Value} (h : w.ownsRow base e s v n xs) (hn : ¬ v = .slice none 0 0) : ∃ g cap, v = .slice (some ⟨g, 0, none⟩) n cap := by
  rcases h.2 with ⟨h, _⟩ | ⟨g, cap, _, h, _⟩
  · exact absurd h hn
  · exact ⟨g, cap, h⟩
theorem eqNilB : ∀ (w : World) (a : Option Addr) (n c n' c' : Nat), (binOp .eql 24 (.slice a n c) (.slice none n' c')).run Try.prog w = .ok (.bool a.isNone) w := fun w a n c n' c' => Lib.run_eql_slice_nil w _ _ a n c n' c' Try.underlying24
theorem clone_nil (w : World) : Calls Try.prog 26 #[.slice none 0 0] w fun e w' => e = .returned (.slice none 0 0) ∧ w = w' := by
  have q22 := eqNilB
  go_enter Try.func26, Try.ntmps26
  go_wp2
  go_ret
  exact ⟨rfl, rfl⟩
set_option maxHeartbeats 400000 in
theorem clone_some (b o n c : Nat) (l : List Int) (hl : l.length = n) (h1 : 1 ≤ n) (hn : n ≤ 1000000) (w : World) (hs : Sl w (some ⟨b, o, none⟩) l) :
    Calls Try.prog 26 #[.slice (some ⟨b, o, none⟩) n c] w fun e w' => ∃ g c', e = .returned (.slice (some ⟨g, 0, none⟩) n c') ∧ Sl w' (some ⟨g, 0, none⟩) l ∧ w.heap.size ≤ g ∧ Below w.heap.size w w' := by
  obtain ⟨i0, hi, hz0, hz1, hz2⟩ := info_parts info5
  have HS := Lib.hid hs
  have HL := Lib.hid hl
  clear hs hl
  have q22 := eqNilB
  go_enter Try.func26, Try.ntmps26
  go_wp2_with (at_builtin; refine wpList_append_own _ rfl _ _ 24 rfl w.heap.size 5 i0 (.int .u8 0) 1 1 Try.underlying24 hi hz0 hz1 hz2 rfl (by decide) _ 0 [] rfl ?own ⟨b, o, none⟩ n c (l.map (Value.int .u8)) rfl ?len ?c1 ?c2 ?c3 ?c4 ?c5 ?_)
  case own => exact empty_rowO
  case len => rw [List.length_map, HL.out]; omega
  case c1 => exact sl_newsO (HS.out.below ((Below.refl _ _).alloc (Nat.le_refl _) _))
  case c2 =>
    intro u hu
    obtain ⟨x, _, rfl⟩ := List.mem_map.1 hu
    rfl
  case c3 => unfold maxLen; omega
  case c4 => omega
  case c5 => simp
  intro v3 w3 hown hgrow hnil
  obtain ⟨g, cap, rfl⟩ := owned_formO hown hnil
  have HO := Lib.hid (sl_of_owned hown)
  have HG := Lib.hid ((hown.lt g rfl).1)
  have HB := Lib.hid ((((Below.refl _ w).alloc (Nat.le_refl _) _).grown hgrow (by simp) (by simp [Value.ownBlock]) : Below w.heap.size w w3))
  clear hown hgrow hnil
  go_wp2
  go_ret
  exact ⟨g, cap, rfl, HO.out, HG.out, HB.out⟩
theorem peek_none (m : Nat) (p : Int) (w : World) :
    Calls Try.prog 14 #[.pointer (some ⟨m, 0, none⟩), .int .u64 p, .int .i64 0] w fun e w' => e = .returned (.tuple #[.slice none 0 0, .int .i64 0]) ∧ w = w' := by
  go_enter Try.func14, Try.ntmps14
  go_wp2_with fail
  refine (lying_none m p _).mono ?_
  rintro e w' ⟨rfl, rfl⟩
  go_wp2_with fail
  refine (clone_nil _).mono ?_
  rintro e w' ⟨rfl, rfl⟩
  go_wp2
  go_ret2
  exact ⟨rfl, rfl⟩
theorem peek_no (m tb tc hb n : Nat) (T : List Rg) (G : Nat → Nat) (p q : Int) (hp : IsU p) (hq : IsI q) (hq0 : q ≠ 0) (w : World) (hM : MemH w m tb tc hb n T G) (hF : FindNo T p q) :
    Calls Try.prog 14 #[.pointer (some ⟨m, 0, none⟩), .int .u64 p, .int .i64 q] w fun e w' => e = .returned (.tuple #[.slice none 0 0, .int .i64 13]) ∧ Below w.heap.size w w' := by
  have HM := Lib.hid hM
  have HF := Lib.hid hF
  have H0 := Lib.hid hq0
  clear hM hF hq0
  go_enter Try.func14, Try.ntmps14
  go_wp2_with fail
  refine (lying_no m tb tc hb n T G p q hp hq H0.out _ HM.out HF.out).mono ?_
  rintro e w1 ⟨rfl, hb1⟩
  have Hb := Lib.hid hb1
  clear hb1
  go_wp2_with fail
  refine (clone_nil _).mono ?_
  rintro e w' ⟨rfl, rfl⟩
  go_wp2
  go_ret2
  exact ⟨rfl, Hb.out⟩
theorem peek_yes (base m tb tc hb n : Nat) (T : List Rg) (G : Nat → Nat) (B : Nat → List Int) (p q : Int) (i : Nat) (hp : IsU p) (hq : IsI q) (w : World) (hM : MemIs w base m tb tc hb n T G B) (hF : FindYes T p q i) (hm : q ≤ 1000000) :
    Calls Try.prog 14 #[.pointer (some ⟨m, 0, none⟩), .int .u64 p, .int .i64 q] w fun e w' =>
      ∃ g c, e = .returned (.tuple #[.slice (some ⟨g, 0, none⟩) q.toNat c, .int .i64 0]) ∧ Sl w' (some ⟨g, 0, none⟩) (cut T B p q i) ∧ w.heap.size ≤ g ∧ Below w.heap.size w w' := by
  have HM := Lib.hid hM
  have HF := Lib.hid hF
  have HC := Lib.hid (show 1 ≤ q.toNat ∧ q.toNat ≤ 1000000 by have := hF.1; omega)
  clear hM hF hm
  go_enter Try.func14, Try.ntmps14
  go_wp2_with fail
  refine (lying_yes m tb tc hb n T G p q i hp hq _ HM.out.toH HF.out).mono ?_
  rintro e w1 ⟨rfl, hb1⟩
  have HM1 := Lib.hid (HM.out.below hb1)
  have Hb := Lib.hid hb1
  clear hb1
  go_wp2_with fail
  refine (clone_some _ _ _ _ (cut T B p q i) (cut_length HM1.out HF.out) HC.out.1 HC.out.2 _ (cut_sl HM1.out HF.out)).mono ?_
  rintro e w2 ⟨g, c', rfl, hs2, hg2, hb2⟩
  have HS := Lib.hid hs2
  have HG := Lib.hid (Nat.le_trans Hb.out.size hg2)
  have Hb2 := Lib.hid (Hb.out.trans (hb2.mono Hb.out.size))
  clear hs2 hg2 hb2
  go_wp2
  go_ret2
  exact ⟨g, c', rfl, HS.out, HG.out, Hb2.out⟩
theorem info5s : (Try.prog.info? 5).map (·.size) = some 1 := by kernel_rfl
theorem poke_none (m : Nat) (p : Int) (A : Option Addr) (c : Nat) (w : World) :
    Calls Try.prog 12 #[.pointer (some ⟨m, 0, none⟩), .int .u64 p, .slice A 0 c] w fun e w' => e = .returned (.int .i64 0) ∧ w = w' := by
  go_enter Try.func12, Try.ntmps12
  go_wp2_with fail
  refine (lying_none m p _).mono ?_
  rintro e w' ⟨rfl, rfl⟩
  go_wp2_with (with_reducible refine wpList_copy_nothing rfl _ _ 24 24 rfl 5 Try.underlying24 info5s _ _ _ _ _ _ rfl rfl ?hn ?_)
  case hn => rfl
  go_wp2
  go_ret
  exact ⟨rfl, rfl⟩
theorem poke_no (m tb tc hb n : Nat) (T : List Rg) (G : Nat → Nat) (p : Int) (A : Option Addr) (q c : Nat) (hp : IsU p) (hq : q ≤ 1000000) (hq0 : q ≠ 0) (w : World) (hM : MemH w m tb tc hb n T G) (hF : FindNo T p q) :
    Calls Try.prog 12 #[.pointer (some ⟨m, 0, none⟩), .int .u64 p, .slice A q c] w fun e w' => e = .returned (.int .i64 13) ∧ Below w.heap.size w w' := by
  have HM := Lib.hid hM
  have HF := Lib.hid hF
  have H0 := Lib.hid (show (q : Int) ≠ 0 by omega)
  clear hM hF hq0
  go_enter Try.func12, Try.ntmps12
  go_wp2_with fail
  refine (lying_no m tb tc hb n T G p q hp ⟨by omega, by omega⟩ H0.out _ HM.out HF.out).mono ?_
  rintro e w1 ⟨rfl, hb1⟩
  have Hb := Lib.hid hb1
  clear hb1
  go_wp2_with (with_reducible refine wpList_copy_nothing rfl _ _ 24 24 rfl 5 Try.underlying24 info5s _ _ _ _ _ _ rfl rfl ?hn ?_)
  case hn => simp
  go_wp2
  go_ret
  exact ⟨rfl, Hb.out⟩
theorem splice_map (l x : List Int) (o : Nat) : (List.take o (l.map (Value.int .u8)) ++ (x.map (Value.int .u8) ++ List.drop (o + x.length) (l.map (Value.int .u8)))).toArray = ((splice l o x).map (Value.int .u8)).toArray := by
  simp [splice]
theorem splice_all {l x : List Int} {o : Nat} (h : AllB l) (hx : AllB x) : AllB (splice l o x) := by
  intro y hy
  simp only [splice, List.mem_append] at hy
  rcases hy with hy | hy | hy
  · exact h y (List.mem_of_mem_take hy)
  · exact hx y hy
  · exact h y (List.mem_of_mem_drop hy)
set_option maxHeartbeats 400000 in
theorem poke_yes (base m tb tc hb n : Nat) (T : List Rg) (G : Nat → Nat) (B : Nat → List Int) (p : Int) (ad : Addr) (q c : Nat) (l : List Int) (i : Nat) (hp : IsU p) (hq : q ≤ 1000000) (w : World) (hM : MemIs w base m tb tc hb n T G B) (hF : FindYes T p q i)
    (hl : l.length = q) (hall : AllB l) (hs : Sl w (some ad) l) :
    Calls Try.prog 12 #[.pointer (some ⟨m, 0, none⟩), .int .u64 p, .slice (some ad) q c] w fun e w' =>
      e = .returned (.int .i64 0) ∧ MemIs w' base m tb tc hb n T G (setB B i (splice (B i) (p - rlo (nthR T i)).toNat l)) ∧ w.grownBy w' (some (G i)) := by
  have HM := Lib.hid hM
  have HF := Lib.hid hF
  have HS := Lib.hid hs
  have HL := Lib.hid hl
  have HA := Lib.hid hall
  clear hM hF hs hl hall
  go_enter Try.func12, Try.ntmps12
  go_wp2_with fail
  refine (lying_yes m tb tc hb n T G p q i hp ⟨by omega, by omega⟩ _ HM.out.toH HF.out).mono ?_
  rintro e w1 ⟨rfl, hb1⟩
  have HM1 := Lib.hid (HM.out.below hb1)
  have HS1 := Lib.hid (HS.out.below hb1)
  have HG := Lib.hid (grown_of_below (row := some (G i)) hb1)
  have HP := Lib.hid (HM1.out.spot HF.out)
  have HR := Lib.hid (show w1.heap[G i]? = some (.cells ((B i).map (Value.int .u8)).toArray 5 (0, 0)) from HM1.out.rows i HP.out.1)
  clear hb1
  go_wp2_with (with_reducible refine wpList_copy_own rfl _ _ 24 24 rfl 5 Try.underlying24 info5s _ _ _ _ _ _ _ rfl rfl _ _ HR.out (l.map (Value.int .u8)) ?hn ?hsrc ?hfit ?h1 ?_)
  case hn => have := HL.out; simp; omega
  case hsrc => exact sl_newsO HS1.out
  case hfit => have := HP.out.2.1; have := HL.out; simp at *; omega
  case h1 =>
    intro u hu
    obtain ⟨x, _, rfl⟩ := List.mem_map.1 hu
    rfl
  rw [splice_map]
  have hlen : (splice (B i) (p - rlo (nthR T i)).toNat l).length = (B i).length := length_splice _ _ _ (by have := HP.out.2.1; have := HL.out; simp at *; omega)
  have hrow : Row (w1.setRow (G i) ((splice (B i) (p - rlo (nthR T i)).toNat l).map (Value.int .u8)).toArray) (G i) (splice (B i) (p - rlo (nthR T i)).toNat l) := setRow_heap w1 (G i) _ _ 5 _ HR.out
  have HE := Lib.hid (HM1.out.poked HP.out.1 (grown_setRow w1 (G i) _) hrow hlen (splice_all (HM1.out.all i HP.out.1) HA.out))
  have HE2 := Lib.hid (grown_trans HG.out (grown_setRow w1 (G i) ((splice (B i) (p - rlo (nthR T i)).toNat l).map (Value.int .u8)).toArray))
  clear hlen hrow
  generalize w1.setRow (G i) ((splice (B i) (p - rlo (nthR T i)).toNat l).map (Value.int .u8)).toArray = W2 at *
  go_ret
  exact ⟨rfl, HE.out, HE2.out⟩
theorem cnt_int {q : Int} (h : q = 1 ∨ q = 4 ∨ q = 8) : ((cnt q : Nat) : Int) = q := by unfold cnt; rw [if_pos (by omega)]; omega
theorem store_no (base m tb tc hb n : Nat) (T : List Rg) (G : Nat → Nat) (B : Nat → List Int) (p q : Int) (own : Bool) (v : Int) (hp : IsU p) (hq : IsI q) (w : World) (hM : MemIs w base m tb tc hb n T G B) (hA : AllNo T p q own 2) :
    Calls Try.prog 15 #[.pointer (some ⟨m, 0, none⟩), .int .u64 p, .int .i64 q, .bool own, .int .u64 v] w fun e w' => e = .returned (.int .i64 13) ∧ Below w.heap.size w w' := by
  have HM := Lib.hid hM
  have HA := Lib.hid hA
  clear hM hA
  go_enter Try.func15, Try.ntmps15
  go_wp2_with fail
  refine (allowed_no m tb tc hb n T G p q own 2 hp hq _ HM.out.toH HA.out).mono ?_
  rintro e w1 ⟨rfl, hb1⟩
  have Hb := Lib.hid hb1
  clear hb1
  go_wp2
  go_ret
  exact ⟨rfl, Hb.out⟩
theorem sl_some {w : World} {A : Option Addr} {l : List Int} (h : Sl w A l) (hl : 0 < l.length) : ∃ ad, A = some ad := by
  rcases h with h | ⟨b, off, h, _⟩
  · subst h; simp at hl
  · exact ⟨_, h⟩
set_option maxHeartbeats 400000 in
theorem store_yes (base m tb tc hb n : Nat) (T : List Rg) (G : Nat → Nat) (B : Nat → List Int) (p q : Int) (own : Bool) (v : Int) (i : Nat) (hp : IsU p) (hq : IsI q) (hv : IsU v) (w : World) (hM : MemIs w base m tb tc hb n T G B) (hA : AllYes T p q own 2 i) :
    Calls Try.prog 15 #[.pointer (some ⟨m, 0, none⟩), .int .u64 p, .int .i64 q, .bool own, .int .u64 v] w fun e w' =>
      e = .returned (.int .i64 0) ∧ MemIs w' base m tb tc hb n T G (setB B i (splice (B i) (p - rlo (nthR T i)).toNat (bytesL v q.toNat))) ∧ w.grownBy w' (some (G i)) := by
  have HM := Lib.hid hM
  have HA := Lib.hid hA
  have hc := cnt_int (accB_n hA.1)
  have HC := Lib.hid hc
  have HN := Lib.hid (show cnt q = q.toNat by omega)
  have HF := Lib.hid (show FindYes T p ((cnt q : Nat) : Int) i by rw [hc]; exact hA.2.1)
  have HQ := Lib.hid (show 1 ≤ cnt q by have := accB_n hA.1; omega)
  clear hM hA hc
  go_enter Try.func15, Try.ntmps15
  go_wp2_with fail
  refine (allowed_yes m tb tc hb n T G p q own 2 i hp hq _ HM.out.toH HA.out).mono ?_
  rintro e w1 ⟨rfl, hb1⟩
  have HM1 := Lib.hid (HM.out.below hb1)
  have HG := Lib.hid (grown_of_below (row := some (G i)) hb1)
  clear hb1
  go_wp2_with fail
  refine (bytes_any v q hv _).mono ?_
  rintro e w2 ⟨A, c, rfl, hs, hb2⟩
  obtain ⟨ad, rfl⟩ := sl_some hs (by rw [bytesL_length]; exact HQ.out)
  have HM2 := Lib.hid (HM1.out.below hb2)
  have HG2 := Lib.hid (grown_trans HG.out (grown_of_below (row := some (G i)) hb2))
  have HS := Lib.hid hs
  clear hb2 hs
  go_wp2_with fail
  refine (poke_yes base m tb tc hb n T G B p ad (cnt q) c (bytesL v (cnt q)) i hp (by have := cnt_le q; omega) _ HM2.out HF.out (bytesL_length _ _) (bytesL_all _ _) HS.out).mono ?_
  rintro e w3 ⟨rfl, hM3, hg3⟩
  have HM3 := Lib.hid hM3
  have HG3 := Lib.hid (grown_trans HG2.out hg3)
  clear hM3 hg3
  go_wp2
  go_ret
  exact ⟨rfl, by rw [← HN.out]; exact HM3.out, HG3.out⟩
end Go.Proofs.Ytpfohbinjcdcbaa
