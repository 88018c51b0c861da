/- The walk of the statement BitsRows: it returns true, and writes nothing that was there. -/
import Derived.Test.YtlknhkinhmeplaaAwake
import Derived.Test.YtlknhkinhmeplaaZeros
import Derived.Deep.RegionHeld3
namespace Go.Proofs.Ytlknhkinhmeplaa.BitsRowsWalk
open Go.RowKit
set_option linter.unusedVariables false
theorem sl_news {w : World} {b : Nat} {l : List Int} (h : Sl w (some ⟨b, 0, none⟩) l) : ∀ j u, (l.map (Value.int .u8))[j]? = some u → w.cell? ((⟨b, 0, none⟩ : Addr).add j) = some u := by
  intro j u hj
  rcases h with rfl | ⟨b', off, he, hc⟩
  · simp at hj
  · injection he with he
    injection he with h1 h2
    subst h1 h2
    simp only [List.getElem?_map, Option.map_eq_some_iff] at hj
    obtain ⟨x, hx, rfl⟩ := hj
    have hk : j < l.length := (List.getElem?_eq_some_iff.1 hx).1
    have h1 := hc j hk
    rw [nth_get hk, (List.getElem?_eq_some_iff.1 hx).2] at h1
    rw [← h1]
    unfold Addr.add
    by_cases e0 : j = 0
    · subst e0; simp
    · simp [e0]
theorem owned_form {w : World} {base n : Nat} {e : TypeId} {v : Value} {xs : List Value} (h : w.ownsRow base e 1 v n xs) (hn : ¬ v = .slice none 0 0) : ∃ g cap, v = .slice (some ⟨g, 0, none⟩) n cap := by
  rcases h.2 with ⟨h, _⟩ | ⟨g, cap, _, h, _⟩
  · exact absurd h hn
  · exact ⟨g, cap, h⟩
theorem sl_of_padded {w : World} {base g cap k n : Nat} {e : TypeId} {l : List Int} (h : w.ownsRow base e 1 (.slice (some ⟨g, 0, none⟩) n cap) n (l.map (Value.int .u8) ++ List.replicate k (.int .u8 0))) :
    Sl w (some ⟨g, 0, none⟩) (l ++ List.replicate k 0) := by
  refine .inr ⟨g, 0, rfl, fun j hj => ?_⟩
  have hl := h.1
  have e1 : l.map (Value.int .u8) ++ List.replicate k (.int .u8 0) = (l ++ List.replicate k 0).map (Value.int .u8) := by simp
  rw [e1, List.length_map] at hl
  rw [e1] at h
  rw [Nat.zero_add, h.cellAt j (by omega), nth_get hj, List.getElem?_map, List.getElem?_eq_getElem hj]
  rfl
theorem padded_all {l : List Int} (h : AllB l) (k : Nat) : AllB (l ++ List.replicate k 0) := by
  intro x hx
  rcases List.mem_append.1 hx with hx | hx
  · exact h x hx
  · rw [(List.mem_replicate.1 hx).2]; omega
theorem padded_word (l : List Int) (k : Nat) : wordI (l ++ List.replicate k 0) = wordI l := by
  induction l with
  | nil =>
    induction k with
    | zero => rfl
    | succ k ih => simp only [List.nil_append, List.replicate_succ, wordI] at ih ⊢; omega
  | cons x l ih => simp only [List.cons_append, wordI, ih]
theorem Sl.take {w : World} {A : Option Addr} {l : List Int} (h : Sl w A l) (k : Nat) : Sl w A (l.take k) := by
  rcases h with rfl | ⟨b, off, rfl, hc⟩
  · exact .inl (by simp)
  · refine .inr ⟨b, off, rfl, fun i hi => ?_⟩
    have h2 : i < k ∧ i < l.length := by simp at hi; omega
    rw [hc i h2.2, nth_get h2.2, nth_get hi, List.getElem_take]
theorem bytesL_take (v : Int) {j m : Nat} (h : j ≤ m) : (bytesL v m).take j = bytesL v j := by
  simp [bytesL, ← List.map_take, List.take_range, Nat.min_eq_left h]
theorem Sl.drop {w : World} {b : Nat} {l : List Int} (h : Sl w (some ⟨b, 0, none⟩) l) (k : Nat) : Sl w (some ⟨b, k, none⟩) (l.drop k) := by
  rcases h with rfl | ⟨b', off, he, hc⟩
  · exact .inl (by simp)
  · injection he with he
    injection he with h1 h2
    subst h1 h2
    refine .inr ⟨_, k, rfl, fun i hi => ?_⟩
    have h2 : k + i < l.length := by simp at hi; omega
    have := hc (k + i) h2
    rw [Nat.zero_add] at this
    rw [this, nth_get h2, nth_get hi, List.getElem_drop]
theorem drop_bytes {v : Int} (hv : IsU v) {j m : Nat} (h : j ≤ m) (hm : m ≤ 8) : (bytesL v m).drop j = bytesL (fld v (8 * (j : Int)) (8 * ((m : Int) - j))) (m - j) := by
  refine List.ext_getElem (by simp [bytesL_length]) fun i h1 h2 => ?_
  have h3 : i < m - j := by simpa [bytesL_length] using h2
  rw [List.getElem_drop]
  have e1 : (bytesL v m)[j + i]'(by rw [bytesL_length]; omega) = byteI v (j + i) := by simp [bytesL]
  have e2 : (bytesL (fld v (8 * (j : Int)) (8 * ((m : Int) - j))) (m - j))[i] = byteI (fld v (8 * (j : Int)) (8 * ((m : Int) - j))) i := by simp [bytesL]
  rw [e1, e2]
  unfold byteI fld
  rw [Int.toNat_natCast]
  congr 1
  have e3 : (8 * (j : Int)).toNat = 8 * j := by omega
  have e4 : (8 * ((m : Int) - j)).toNat = 8 * (m - j) := by omega
  rw [e3, e4]
  have e5 : ∀ x : Nat, x % 256 = x % 2 ^ 8 := fun x => rfl
  rw [e5, e5 (fldN v.toNat (8 * j) (8 * (m - j)) / 2 ^ (8 * i))]
  refine Nat.eq_of_testBit_eq fun b => ?_
  rw [Nat.testBit_mod_two_pow, Nat.testBit_mod_two_pow, Nat.testBit_div_two_pow, Nat.testBit_div_two_pow, testBit_fldN]
  by_cases hb : b < 8
  · have h5 : b + 8 * i < 8 * (m - j) := by omega
    have h6 : b + 8 * (j + i) = 8 * j + (b + 8 * i) := by omega
    simp [hb, h5, h6]
  · simp [hb]
theorem bytes_at (v a : Int) (n : Nat) (ha : a = (n : Int)) (hv : IsU v) (h : n ≤ 8) (w : World) :
    Calls Try.prog 22 #[.int .u64 v, .int .i64 a] w fun e w' => e = .returned (.slice (some ⟨w.heap.size, 0, none⟩) n n) ∧ Sl w' (some ⟨w.heap.size, 0, none⟩) (bytesL v n) ∧ Below w.heap.size w w' := by
  subst ha
  exact bytes_yes v n hv h w
/-- what the last statement's calls leave be: both parts of the first row, and all that was there -/
def RowsS (w : World) (A1 A2 : Option Addr) (l1 l2 : List Int) (w' : World) : Prop := Sl w' A1 l1 ∧ Sl w' A2 l2 ∧ Below w.heap.size w w'
section
variable {w w1 w2 : World} {A1 A2 : Option Addr} {l1 l2 : List Int}
theorem RowsS.one (h : RowsS w A1 A2 l1 l2 w1) : Sl w1 A1 l1 := h.1
theorem RowsS.two (h : RowsS w A1 A2 l1 l2 w1) : Sl w1 A2 l2 := h.2.1
theorem RowsS.bel (h : RowsS w A1 A2 l1 l2 w1) : Below w.heap.size w w1 := h.2.2
theorem RowsS.below (h : RowsS w A1 A2 l1 l2 w1) (hb : Below w1.heap.size w1 w2) : RowsS w A1 A2 l1 l2 w2 := ⟨h.1.below hb, h.2.1.below hb, h.2.2.trans (hb.mono h.2.2.size)⟩
theorem RowsS.below' {B : Nat} (h : RowsS w A1 A2 l1 l2 w1) (hb : Below B w1 w2) (hB : w1.heap.size ≤ B) : RowsS w A1 A2 l1 l2 w2 := h.below (hb.mono hB)
theorem RowsS.drewN (h : RowsS w A1 A2 l1 l2 w1) (n : Nat) : RowsS w A1 A2 l1 l2 (w1.drewN n) := h.below (below_drewN (Below.refl _ _) n)
theorem RowsS.drew (h : RowsS w A1 A2 l1 l2 w1) : RowsS w A1 A2 l1 l2 w1.drew := h.below (Below.drew (Below.refl _ _))
end
theorem same_true (A B : Option Addr) (l : List Int) (n m ca cb : Nat) (w : World) (ha : Sl w A l) (hb : Sl w B l) (hn : l.length = n) (hm : l.length = m) (hmax : n ≤ 9223372036854775807) :
    Calls Try.prog 25 #[.slice A n ca, .slice B m cb] w fun e w' => e = .returned (.bool true) ∧ ∃ k, w' = w.drewN k := by
  have h := same_any A B l l n m ca cb w ha hb hn hm hmax
  rwa [show (l == l) = true by simp] at h
theorem empty_row {w : World} {t : TypeId} : (w.alloc (.cells #[] t)).ownsRow w.heap.size t 1 (.slice (some ⟨w.heap.size, 0, none⟩) 0 0) 0 [] :=
  ⟨rfl, .inr ⟨_, 0, #[], rfl, Nat.le_refl _, heap_alloc_new w _, by omega, by unfold maxLen; omega, rfl, rfl⟩⟩
set_option maxHeartbeats 1000000 in
theorem walk (a0 a1 a2 : Int) (w : World) (w0 : (Lit.int .u64 a0).wf = true) (w1 : (Lit.int .u8 a1).wf = true) (w2 : (Lit.int .u8 a2).wf = true) :
    Calls Try.prog 8 #[.int .u64 a0, .int .u8 a1, .int .u8 a2] w fun e w' => e = .returned (.bool true) ∧ Below w.heap.size w w' := by
  have u0 := isU_of_wf w0
  obtain ⟨m0, m1⟩ := bounds_u8 w1
  obtain ⟨n0, n1⟩ := bounds_u8 w2
  clear w0 w1 w2
  obtain ⟨i0, hi, hz0, hz1, hz2⟩ := info_parts info5
  have q0 : 0 ≤ a2 % (a1 % 9 + 1) := Int.emod_nonneg _ (by omega)
  have q1 : a2 % (a1 % 9 + 1) < a1 % 9 + 1 := Int.emod_lt_of_pos _ (by omega)
  have r0 : 0 ≤ a1 % 9 := by omega
  have r1 : a1 % 9 ≤ 8 := by omega
  go_enter Try.func8, Try.ntmps8
  go_wp2_with fail
  refine (awake_any _).mono ?_
  rintro e w1 ⟨rfl, hb⟩
  have Hb := Lib.hid hb
  clear hb
  go_wp2_with fail
  obtain ⟨j, hj⟩ := Int.eq_ofNat_of_zero_le q0
  rw [hj] at q0 q1 ⊢
  obtain ⟨m, hm⟩ := Int.eq_ofNat_of_zero_le r0
  rw [hm] at r0 r1 q1 ⊢
  clear hj hm
  refine (bytes_yes _ _ u0 (by omega) _).mono ?_
  rintro e w2 ⟨rfl, sb, hb⟩
  have SB := Lib.hid sb
  have Hb2 := Lib.hid (Hb.out.trans (hb.mono Hb.out.size))
  have hlt := Lib.hid hb.size
  clear sb Hb
  go_wp2_with fail
  refine (field_yes _ _ _ u0 (by omega) (by omega) (by omega) _).mono ?_
  rintro e w' ⟨rfl, k1, rfl⟩
  go_wp2_with fail
  refine (word_yes _ _ _ _ _ (SB.out.drewN _) (bytesL_length _ _) (bytesL_all _ _) (by omega)).mono ?_
  rintro e w' ⟨rfl, rfl⟩
  have hsz := Lib.hid hb.size
  clear hb
  go_wp2_with (at_builtin; refine wpList_append_own _ rfl _ _ 33 rfl w2.heap.size 5 i0 (.int .u8 0) 1 1 Try.underlying33 hi hz0 hz1 hz2 rfl (by decide) _ 0 [] rfl ?own ⟨w1.heap.size, 0, none⟩ m m ((bytesL a0 m).map (Value.int .u8)) rfl ?len ?c1 ?c2 ?c3 ?c4 ?c5 ?_)
  case own => exact empty_row
  case len => rw [List.length_map, bytesL_length]; omega
  case c1 => exact sl_news ((SB.out.drewN k1).below ((Below.refl _ _).alloc (Nat.le_refl _) _))
  case c2 =>
    intro u hu
    obtain ⟨x, _, rfl⟩ := List.mem_map.1 hu
    rfl
  case c3 => unfold maxLen; omega
  case c4 => omega
  case c5 => simp
  intro v3 w3 hown hgrow hnil
  obtain ⟨g, cap, rfl⟩ := owned_form hown hnil
  have ek : (8 : Int) - (m : Int) = ((8 - m : Nat) : Int) := by omega
  have hlt3 : w2.heap.size ≤ w3.heap.size := Nat.le_trans (by simp) hgrow.size
  obtain ⟨g4, cap4, w4, hrun, hown4, hgrow4⟩ := run_append_zeros_own (P := Try.prog) w3 w2.heap.size 33 3 33 5 i0 (.int .u8 0) .i64 .i64 Try.underlying33 Try.underlying3 hi hz0 hz1 hz2 rfl rfl g m cap _ hown (8 - m) (by omega) hlt3
  have hgge := (hown.lt g rfl).1
  have hb3 : Below w2.heap.size w2 w3 := ((below_drewN (Below.refl _ w2) k1).alloc (Nat.le_refl _) _).grown hgrow (by simp) (by simp [Value.ownBlock])
  have hb4 := hb3.grown hgrow4 hlt3 (fun x hx => by injection hx with hx; omega)
  rw [← ek] at hrun
  have SY := Lib.hid (sl_of_padded hown4)
  have SB4 := Lib.hid (SB.out.below hb4)
  have Hb4 := Lib.hid (Hb2.out.trans (hb4.mono Hb2.out.size))
  have Hlt4 := Lib.hid (Nat.le_trans hsz.out hb4.size)
  have E8 := Lib.hid (show m + (8 - m) = 8 by omega)
  rw [E8.out] at hrun
  clear ek hlt3 hgge hb3 hb4 hown hown4 hgrow hgrow4 hnil
  go_wp2_with (at_builtin; refine Lib.wpList_append_run _ rfl _ _ _ _ rfl _ _ rfl rfl _ _ hrun ?_)
  clear hrun
  have SYl := Lib.hid (show (bytesL a0 m ++ List.replicate (8 - m) 0).length = 8 by rw [List.length_append, bytesL_length, List.length_replicate]; exact E8.out)
  go_wp2_with fail
  refine (word_yes _ _ _ _ _ SY.out SYl.out (padded_all (bytesL_all _ _) _) (by omega)).mono ?_
  rw [padded_word]
  rintro e w' ⟨rfl, rfl⟩
  have WX := isU_word (bytesL_all a0 m) (by rw [bytesL_length]; omega)
  generalize wordI (bytesL a0 m) = X at *
  go_wp2_with fail
  have hjm : j ≤ m := by omega
  have SJ := Lib.hid (show Sl w4 (some ⟨w1.heap.size, 0, none⟩) (bytesL a0 j) by have := Sl.take SB4.out j; rwa [bytesL_take a0 hjm] at this)
  have LJ := Lib.hid (bytesL_length a0 j)
  have uH := isU_fld a0 (8 * (j : Int)) (8 * ((m : Int) - j)) (by omega)
  have hD := drop_bytes u0 hjm (by omega)
  have hw1 : IntKind.i64.wrap ((m : Int) - (j : Int)) = (m : Int) - (j : Int) := by rw [IntKind.wrap_i64]; omega
  generalize fld a0 (8 * (j : Int)) (8 * ((m : Int) - j)) = H at *
  have SK := Lib.hid (show Sl w4 (some ⟨w1.heap.size, j, none⟩) (bytesL H (m - j)) by have := Sl.drop SB4.out j; rwa [hD] at this)
  have LK := Lib.hid (bytesL_length H (m - j))
  have hw0 : w.heap.size ≤ w4.heap.size := Hb4.out.size
  have LH := Lib.hid (show RowsS w (some ⟨w1.heap.size, 0, none⟩) (some ⟨w1.heap.size, j, none⟩) (bytesL a0 j) (bytesL H (m - j)) w4 from ⟨SJ.out, SK.out, Hb4.out⟩)
  clear hD SY SB4 SYl SB Hb2 hlt hsz Hlt4 E8 SJ SK Hb4 hw0
  have hj8 : j ≤ 8 := by omega
  have hjb : j ≤ 9223372036854775807 := by omega
  have hmj := Lib.hid (show (m : Int) - (j : Int) = ((m - j : Nat) : Int) by omega)
  have hmj8 : m - j ≤ 8 := by omega
  have hmjb : m - j ≤ 9223372036854775807 := by omega
  have hz8 : (0 : Nat) ≤ 8 := by omega
  have hzb : (0 : Nat) ≤ 9223372036854775807 := by omega
  rcases Nat.lt_or_eq_of_le hjm with hlt | heq
  · have hS := LH.out
    go_region_held3 (fun w' => RowsS w (some ⟨w1.heap.size, 0, none⟩) (some ⟨w1.heap.size, j, none⟩) (bytesL a0 j) (bytesL H (m - j)) w') (first | assumption | (with_reducible apply RowsS.drew; assumption) | (with_reducible apply RowsS.drewN; assumption) | (apply RowsS.below'; rotate_left; assumption; exact Nat.le_refl _; assumption))
      (first
      | (go_at_call_of 22 (Value.int IntKind.u64 a0); (with_reducible refine (bytes_yes a0 j u0 hj8 _).mono ?_); rintro e w5 ⟨rfl, hs5, hb5⟩)
      | (go_at_call_of 25 (Value.slice (some { block := w4.heap.size, off := 0 }) j j); (with_reducible refine (same_true _ _ (bytesL a0 j) j j _ _ _ ?ha ?hb LJ.out LJ.out hjb).mono ?_); (case ha => (apply RowsS.one; assumption)); (case hb => exact hs5); rintro e w6 ⟨rfl, k6, rfl⟩)
      | (go_at_call_of 22 (Value.int IntKind.u64 H); (with_reducible refine (bytes_at H _ (m - j) hmj.out uH hmj8 _).mono ?_); rintro e w7 ⟨rfl, hs7, hb7⟩)
      | (go_at_call 25; (with_reducible refine (same_true _ _ (bytesL H (m - j)) (m - j) (m - j) _ _ _ ?ha ?hb LK.out LK.out hmjb).mono ?_); (case ha => (apply RowsS.two; assumption)); (case hb => exact hs7); rintro e w8 ⟨rfl, k8, rfl⟩))
    go_wp2
    go_ret
    refine ⟨rfl, ?_⟩
    apply RowsS.bel
    assumption
  · subst heq
    have LH0 := Lib.hid (show RowsS w (some ⟨w1.heap.size, 0, none⟩) (some ⟨w1.heap.size, j, none⟩) (bytesL a0 j) (bytesL H 0) w4 from ⟨LH.out.1, .inl rfl, LH.out.2.2⟩)
    have LK0 := Lib.hid (bytesL_length H 0)
    have hS := LH0.out
    have hz0' := Lib.hid (show IntKind.i64.wrap 0 = ((0 : Nat) : Int) by rw [IntKind.wrap_i64]; omega)
    clear hw1
    clear LH
    go_region_held3 (fun w' => RowsS w (some ⟨w1.heap.size, 0, none⟩) (some ⟨w1.heap.size, j, none⟩) (bytesL a0 j) (bytesL H 0) w') (first | assumption | (with_reducible apply RowsS.drew; assumption) | (with_reducible apply RowsS.drewN; assumption) | (apply RowsS.below'; rotate_left; assumption; exact Nat.le_refl _; assumption))
      (first
      | (go_at_call_of 22 (Value.int IntKind.u64 a0); (with_reducible refine (bytes_yes a0 j u0 hj8 _).mono ?_); rintro e w5 ⟨rfl, hs5, hb5⟩)
      | (go_at_call_of 25 (Value.slice (some { block := w4.heap.size, off := 0 }) j j); (with_reducible refine (same_true _ _ (bytesL a0 j) j j _ _ _ ?ha ?hb LJ.out LJ.out hjb).mono ?_); (case ha => (apply RowsS.one; assumption)); (case hb => exact hs5); rintro e w6 ⟨rfl, k6, rfl⟩)
      | (go_at_call_of 22 (Value.int IntKind.u64 H); (with_reducible refine (bytes_at H _ 0 hz0'.out uH hz8 _).mono ?_); rintro e w7 ⟨rfl, hs7, hb7⟩)
      | (go_at_call 25; (with_reducible refine (same_true _ _ (bytesL H 0) 0 0 _ _ _ ?ha ?hb LK0.out LK0.out hzb).mono ?_); (case ha => exact .inl rfl); (case hb => exact hs7); rintro e w8 ⟨rfl, k8, rfl⟩))
    go_wp2
    go_ret
    refine ⟨rfl, ?_⟩
    apply RowsS.bel
    assumption
end Go.Proofs.Ytlknhkinhmeplaa.BitsRowsWalk
