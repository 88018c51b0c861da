/- Layer 8: the reference's code of a list is the program's, plainly. No condition.
   Layer 8: the reference's Sizes and Spots. No condition.
   Layer 8: Address of whatever Def, the program's and the reference's. No condition.
   Layer 8: the reference's Address of whatever Def. No condition.
   Layer 8: the reference's Relocate. No condition. -/
import Derived.Test.YtjngkifoaljmaaaGreatDoorPlaP
import Derived.Test.YtjngkifoaljmaaaGreatDoorSynR
import Derived.Deep.QuietTactic
import Derived.BigQuiet
import Derived.Test.YtjngkifoaljmaaaGreatDoorPlaF
import Derived.Test.YtjngkifoaljmaaaGreatDoorInsRDecode
namespace Go.Proofs.YtjngkifoaljmaaaGreatDoor
set_option maxRecDepth 100000
open Go.RowKit
set_option linter.unusedVariables false
def NE8 (b : ByteArray) : Prop := b.data.toList.isEmpty = false
theorem less_ne {a b : ByteArray} (h : NE8 b) : NE8 (lessR a b) := by
  unfold lessR
  by_cases h1 : a.data.toList.isEmpty = true ∨ b.data.toList < a.data.toList
  · rw [if_pos h1]; exact h
  · rw [if_neg h1]
    unfold NE8
    cases e : a.data.toList.isEmpty with
    | false => rfl
    | true => exact absurd (.inl e) h1
theorem fold_ne {α : Type} (f : α → ByteArray) (p : α → Bool) : ∀ (xs : List α), (∀ x ∈ xs, NE8 (f x)) → ∀ t : ByteArray, NE8 (xs.foldl (fun t x => if p x = true then lessR t (f x) else t) t) ↔ NE8 t ∨ ∃ x ∈ xs, p x = true
  | [], _, t => by simp
  | x :: xs, h, t => by
    rw [List.foldl_cons, fold_ne f p xs (fun y hy => h y (List.mem_cons_of_mem _ hy))]
    by_cases hp : p x = true
    · rw [if_pos hp]
      constructor
      · intro _; exact .inr ⟨x, by simp, hp⟩
      · intro _; exact .inl (less_ne (h x (by simp)))
    · rw [if_neg hp]
      constructor
      · rintro (h1 | ⟨y, h1, h2⟩)
        · exact .inl h1
        · exact .inr ⟨y, List.mem_cons_of_mem _ h1, h2⟩
      · rintro (h1 | ⟨y, h1, h2⟩)
        · exact .inl h1
        · rcases List.mem_cons.1 h1 with rfl | h1
          · exact absurd h2 hp
          · exact .inr ⟨y, h1, h2⟩
theorem fold_ne' {α : Type} (f : α → ByteArray) (p : α → Bool) : ∀ (xs : List α), (∀ x ∈ xs, NE8 (f x)) → ∀ t : ByteArray, NE8 (xs.foldl (fun t x => if p x = true then t else lessR t (f x)) t) ↔ NE8 t ∨ ∃ x ∈ xs, p x = false
  | [], _, t => by simp
  | x :: xs, h, t => by
    rw [List.foldl_cons, fold_ne' f p xs (fun y hy => h y (List.mem_cons_of_mem _ hy))]
    by_cases hp : p x = true
    · rw [if_pos hp]
      constructor
      · rintro (h1 | ⟨y, h1, h2⟩)
        · exact .inl h1
        · exact .inr ⟨y, List.mem_cons_of_mem _ h1, h2⟩
      · rintro (h1 | ⟨y, h1, h2⟩)
        · exact .inl h1
        · rcases List.mem_cons.1 h1 with rfl | h1
          · rw [hp] at h2; cases h2
          · exact .inr ⟨y, h1, h2⟩
    · rw [if_neg hp]
      constructor
      · intro _; exact .inr ⟨x, by simp, by simpa using hp⟩
      · intro _; exact .inl (less_ne (h x (by simp)))
theorem name_ne {s : ByteArray} (h : nameB (sB s) = true) : NE8 s := by
  unfold NE8
  cases e : s.data.toList.isEmpty with
  | false => rfl
  | true =>
    exfalso
    have h1 : s.data.toList = [] := List.isEmpty_iff.1 e
    have h2 : s = ⟨#[]⟩ := by
      obtain ⟨⟨l⟩⟩ := s
      simp at h1
      rw [h1]
    rw [h2] at h
    revert h
    decide
section
variable {l : List ObjD}
theorem may_at8 (h : mayLs l = true) {i : Nat} (hi : i < l.length) : mayO (nAt l i) = true := by
  unfold mayLs at h
  simp only [Bool.and_eq_true] at h
  exact List.all_eq_true.1 h.2 _ (nAt_mem hi)
theorem may_sym8 {d : ObjD} (h : mayO d = true) {j : Nat} (hj : j < d.syms.length) : symOkB d j = true := by
  unfold mayO at h
  simp only [Bool.and_eq_true] at h
  exact range_all_of h.1.1.2 hj
theorem may_rel8 {d : ObjD} (h : mayO d = true) {j : Nat} (hj : j < d.rels.length) : relOkB d j = true := by
  unfold mayO at h
  simp only [Bool.and_eq_true] at h
  exact range_all_of h.1.2 hj
theorem may_ent8 {d : ObjD} (h : mayO d = true) {j : Nat} (hj : j < d.ents.length) : entOkB d j = true := by
  unfold mayO at h
  simp only [Bool.and_eq_true] at h
  exact range_all_of h.2 hj
theorem sym_name {d : ObjD} (h : mayO d = true) {t : SymD} (ht : t ∈ d.syms) : NE8 t.1 := by
  obtain ⟨j, hj, rfl⟩ := List.mem_iff_getElem.1 ht
  have h1 := may_sym8 h hj
  unfold symOkB at h1
  simp only [Bool.and_eq_true] at h1
  have e : symAt d j = d.syms[j] := by unfold symAt; simp [hj]
  rw [e] at h1
  exact name_ne h1.1.1.1
theorem rel_name {d : ObjD} (h : mayO d = true) {t : RelD} (ht : t ∈ d.rels) : NE8 t.2.2.1 := by
  obtain ⟨j, hj, rfl⟩ := List.mem_iff_getElem.1 ht
  have h1 := may_rel8 h hj
  unfold relOkB at h1
  simp only [Bool.and_eq_true] at h1
  have e : relAt d j = d.rels[j] := by unfold relAt; simp [hj]
  rw [e] at h1
  exact name_ne h1.1.1.2
theorem twL_ne (h : mayLs l = true) : ∀ k, k ≤ l.length → (NE8 (twL l k) ↔ ∃ i, i < k ∧ ∃ s ∈ (nAt l i).syms, badS l s.1 = true)
  | 0, _ => by
    constructor
    · intro h; exact absurd h (by unfold NE8 twL; decide)
    · rintro ⟨i, hi, _⟩; omega
  | k + 1, hk => by
    show NE8 (twS l (nAt l k).syms (twL l k) (nAt l k).syms.length) ↔ _
    unfold twS
    rw [List.take_length, fold_ne (fun s : SymD => s.1) (fun s => badS l s.1) _ (fun x hx => sym_name (may_at8 h (by omega)) hx), twL_ne h k (by omega)]
    constructor
    · rintro (⟨i, hi, h1⟩ | h1)
      · exact ⟨i, by omega, h1⟩
      · exact ⟨k, by omega, h1⟩
    · rintro ⟨i, hi, h1⟩
      by_cases e : i = k
      · subst e; exact .inr h1
      · exact .inl ⟨i, by omega, h1⟩
theorem noL_ne (h : mayLs l = true) : ∀ k, k ≤ l.length → (NE8 (noL l k) ↔ ∃ i, i < k ∧ ∃ r ∈ (nAt l i).rels, (findP l i r.2.2.1).isSome = false)
  | 0, _ => by
    constructor
    · intro h; exact absurd h (by unfold NE8 noL; decide)
    · rintro ⟨i, hi, _⟩; omega
  | k + 1, hk => by
    show NE8 (noS l k (nAt l k).rels (noL l k) (nAt l k).rels.length) ↔ _
    unfold noS
    rw [List.take_length, fold_ne' (fun r : RelD => r.2.2.1) (fun r => (findP l k r.2.2.1).isSome) _ (fun x hx => rel_name (may_at8 h (by omega)) hx), noL_ne h k (by omega)]
    constructor
    · rintro (⟨i, hi, h1⟩ | h1)
      · exact ⟨i, by omega, h1⟩
      · exact ⟨k, by omega, h1⟩
    · rintro ⟨i, hi, h1⟩
      by_cases e : i = k
      · subst e; exact .inr h1
      · exact .inl ⟨i, by omega, h1⟩
theorem count_one {α : Type} {p : α → Bool} : ∀ {xs : List α}, xs.Pairwise (fun a b => ¬ (p a = true ∧ p b = true)) → xs.countP p ≤ 1
  | [], _ => by simp
  | x :: xs, h => by
    rw [List.pairwise_cons] at h
    rw [List.countP_cons]
    by_cases hp : p x = true
    · have h0 : xs.countP p = 0 := by
        rw [List.countP_eq_zero]
        intro y hy hy2
        exact h.1 y hy ⟨hp, hy2⟩
      rw [h0, if_pos hp]; omega
    · rw [if_neg hp]; exact count_one h.2
theorem sym_once {d : ObjD} (h : mayO d = true) (s : ByteArray) (o : Bool) : d.syms.countP (mtS s o) ≤ 1 := by
  refine count_one ?_
  rw [List.pairwise_iff_getElem]
  intro i j hi hj hij hc
  have h1 := may_sym8 h hj
  unfold symOkB at h1
  simp only [Bool.and_eq_true] at h1
  have h2 := List.all_eq_true.1 h1.1.1.2 i (List.mem_range.2 hij)
  simp only [Bool.not_eq_true', decide_eq_false_iff_not] at h2
  apply h2
  unfold symAt
  simp only [List.getD_eq_getElem?_getD, List.getElem?_eq_getElem hi, List.getElem?_eq_getElem hj, Option.getD_some]
  have ha := hc.1
  have hb := hc.2
  unfold mtS at ha hb
  simp only [Bool.and_eq_true, decide_eq_true_eq] at ha hb
  exact ha.1.trans hb.1.symm
theorem ent_once {d : ObjD} (h : mayO d = true) (s : ByteArray) : (d.ents.countP fun e => decide (e.1 = s)) ≤ 1 := by
  refine count_one ?_
  rw [List.pairwise_iff_getElem]
  intro i j hi hj hij hc
  have h1 := may_ent8 h hj
  unfold entOkB at h1
  simp only [Bool.and_eq_true] at h1
  have h2 := List.all_eq_true.1 h1.1.2 i (List.mem_range.2 hij)
  simp only [Bool.not_eq_true', decide_eq_false_iff_not] at h2
  apply h2
  unfold entAt
  simp only [List.getD_eq_getElem?_getD, List.getElem?_eq_getElem hi, List.getElem?_eq_getElem hj, Option.getD_some]
  have ha := hc.1
  have hb := hc.2
  simp only [decide_eq_true_eq] at ha hb
  exact ha.trans hb.symm
theorem ent_out {d : ObjD} (h : mayO d = true) {s : ByteArray} (hc : 0 < d.ents.countP fun e => decide (e.1 = s)) : outIn d s = true := by
  rw [List.countP_pos_iff] at hc
  obtain ⟨e, he, hs⟩ := hc
  obtain ⟨j, hj, rfl⟩ := List.mem_iff_getElem.1 he
  have h1 := may_ent8 h hj
  unfold entOkB at h1
  simp only [Bool.and_eq_true] at h1
  have h2 := h1.1.1
  rw [List.any_eq_true] at h2
  obtain ⟨t, ht, h3⟩ := h2
  simp only [Bool.and_eq_true, decide_eq_true_eq] at h3
  have e : entAt d j = d.ents[j] := by unfold entAt; simp [hj]
  rw [e] at h3
  unfold outIn
  rw [List.any_eq_true]
  refine ⟨t, ht, ?_⟩
  unfold mtS
  simp only [decide_eq_true_eq] at hs
  simp [h3.1.1, hs, h3.2]
theorem out_pos {d : ObjD} {s : ByteArray} : 0 < d.syms.countP (mtS s true) ↔ outIn d s = true := by
  unfold outIn
  rw [List.countP_pos_iff, List.any_eq_true]
/-- two of a row of numbers, none above 1 -/
theorem two_of {f : Nat → Nat} {S : Nat → Nat} (h0 : S 0 = 0) {n : Nat} (hS : ∀ k, k < n → S (k + 1) = S k + f k) (h1 : ∀ k, k < n → f k ≤ 1) : ∀ k, k ≤ n → ((0 < S k ↔ ∃ i, i < k ∧ 0 < f i) ∧ (1 < S k ↔ ∃ a i, a < i ∧ i < k ∧ 0 < f a ∧ 0 < f i))
  | 0, _ => by
    constructor
    · constructor
      · intro h; omega
      · rintro ⟨i, hi, _⟩; omega
    · constructor
      · intro h; omega
      · rintro ⟨a, i, _, hi, _⟩; omega
  | k + 1, hk => by
    obtain ⟨g1, g2⟩ := two_of h0 hS h1 k (by omega)
    have e := hS k (by omega)
    have e1 := h1 k (by omega)
    constructor
    · constructor
      · intro h
        by_cases hf : 0 < f k
        · exact ⟨k, by omega, hf⟩
        · obtain ⟨i, hi, hi2⟩ := g1.1 (by omega)
          exact ⟨i, by omega, hi2⟩
      · rintro ⟨i, hi, hi2⟩
        by_cases e2 : i = k
        · subst e2; omega
        · have := g1.2 ⟨i, by omega, hi2⟩; omega
    · constructor
      · intro h
        by_cases hf : 0 < f k
        · obtain ⟨i, hi, hi2⟩ := g1.1 (by omega)
          exact ⟨i, k, hi, by omega, hi2, hf⟩
        · obtain ⟨a, i, h3, h4, h5, h6⟩ := g2.1 (by omega)
          exact ⟨a, i, h3, by omega, h5, h6⟩
      · rintro ⟨a, i, h3, h4, h5, h6⟩
        by_cases e2 : i = k
        · subst e2
          have := g1.2 ⟨a, h3, h5⟩; omega
        · have := g2.2 ⟨a, i, h3, by omega, h5, h6⟩; omega
theorem bad_iff (h : mayLs l = true) (s : ByteArray) : badS l s = true ↔ clB l s = true := by
  have ho := (two_of (f := fun k => (nAt l k).syms.countP (mtS s true)) (S := outC l s) (by simp [outC]) (n := l.length) (fun k hk => by rw [outC_go hk, nAt_get hk]) (fun k hk => sym_once (may_at8 h hk) s true) l.length (Nat.le_refl _)).2
  have he := (two_of (f := fun k => (nAt l k).ents.countP fun e => decide (e.1 = s)) (S := entC7 l s) (by simp [entC7]) (n := l.length) (fun k hk => by rw [entC7_go hk, nAt_get hk]) (fun k hk => ent_once (may_at8 h hk) s) l.length (Nat.le_refl _)).2
  rw [clB_iff]
  unfold badS
  rw [Bool.or_eq_true, decide_eq_true_eq, decide_eq_true_eq, ho, he]
  constructor
  · rintro (⟨a, i, h1, h2, h3, h4⟩ | ⟨a, i, h1, h2, h3, h4⟩)
    · exact ⟨a, i, h1, h2, out_pos.1 h3, out_pos.1 h4⟩
    · exact ⟨a, i, h1, h2, ent_out (may_at8 h (by omega)) h3, ent_out (may_at8 h h2) h4⟩
  · rintro ⟨a, i, h1, h2, h3, h4⟩
    exact .inl ⟨a, i, h1, h2, out_pos.2 h3, out_pos.2 h4⟩
theorem find_no {i : Nat} (hi : i < l.length) (s : ByteArray) : (findP l i s).isSome = false ↔ ownIn (nAt l i) s = false ∧ ∀ j, j < l.length → outIn (nAt l j) s = false := by
  constructor
  · intro h
    constructor
    · cases e : ownIn (nAt l i) s with
      | false => rfl
      | true =>
        unfold ownIn at e
        rw [← idx_isSome] at e
        obtain ⟨j, hj⟩ := Option.isSome_iff_exists.1 e
        rw [own_find hj] at h; cases h
    · intro j hj
      cases e : outIn (nAt l j) s with
      | false => rfl
      | true => rw [find_out hi hj e] at h; cases h
  · rintro ⟨h1, h2⟩
    cases e : findP l i s with
    | none => rfl
    | some x =>
      exfalso
      obtain ⟨k, hk, j, hj, _, h3, h4⟩ := find_some' hi e
      rcases h4 with rfl | h4
      · unfold ownIn at h1
        rw [← Bool.not_eq_true, List.any_eq_true] at h1
        exact h1 ⟨l[k].syms[j], by rw [nAt_get hk]; exact List.getElem_mem hj, by unfold mtS; simp [h3]⟩
      · have := h2 k hk
        unfold outIn at this
        rw [← Bool.not_eq_true, List.any_eq_true] at this
        exact this ⟨l[k].syms[j], by rw [nAt_get hk]; exact List.getElem_mem hj, by unfold mtS; simp [h3, h4]⟩
theorem rchk_code : (rchkF l).2 = (chkF l).2 := by
  unfold rchkF chkF
  by_cases hm : mayLs l = false
  · rw [if_pos hm, if_pos hm]
  rw [if_neg hm, if_neg hm]
  have hm : mayLs l = true := by simpa using hm
  have ht := twL_ne hm l.length (Nat.le_refl _)
  have hn := noL_ne hm l.length (Nat.le_refl _)
  unfold NE8 at ht hn
  cases hc : clN l with
  | cons x r =>
    have hx : x ∈ clN l := by rw [hc]; simp
    unfold clN at hx
    rw [List.mem_filter] at hx
    obtain ⟨h1, h2⟩ := hx
    unfold symN at h1
    rw [List.mem_flatMap] at h1
    obtain ⟨d, hd, h1⟩ := h1
    obtain ⟨t, ht1, ht2⟩ := List.mem_map.1 h1
    obtain ⟨i, hi, rfl⟩ := List.mem_iff_getElem.1 hd
    rw [if_pos (ht.2 ⟨i, hi, t, by rw [nAt_get hi]; exact ht1, by rw [ht2]; exact (bad_iff hm x).2 h2⟩)]
  | nil =>
    rw [if_neg (by
      rw [ht]
      rintro ⟨i, hi, s, hs, hb⟩
      have : s.1 ∈ clN l := by
        unfold clN
        rw [List.mem_filter]
        refine ⟨?_, (bad_iff hm s.1).1 hb⟩
        unfold symN
        rw [List.mem_flatMap]
        exact ⟨_, nAt_mem hi, List.mem_map.2 ⟨s, hs, rfl⟩⟩
      rw [hc] at this; cases this)]
    cases hv : vdN l with
    | cons x r =>
      have hx : x ∈ vdN l := by rw [hv]; simp
      unfold vdN at hx
      rw [List.mem_filter] at hx
      obtain ⟨q, hq, h1, h2, h3⟩ := (vdB_iff l x).1 hx.2
      obtain ⟨t, ht1, ht2⟩ := rel_rel h1
      rw [if_pos (hn.2 ⟨q, hq, t, ht1, by rw [ht2]; exact (find_no hq x).2 ⟨h2, h3⟩⟩)]
    | nil =>
      rw [if_neg (by
        rw [hn]
        rintro ⟨i, hi, r, hr, hb⟩
        obtain ⟨h1, h2⟩ := (find_no hi r.2.2.1).1 hb
        have : r.2.2.1 ∈ vdN l := by
          unfold vdN
          rw [List.mem_filter]
          refine ⟨?_, (vdB_iff l _).2 ⟨i, hi, ?_, h1, h2⟩⟩
          · unfold relN
            rw [List.mem_flatMap]
            exact ⟨_, nAt_mem hi, List.mem_map.2 ⟨r, hr, rfl⟩⟩
          · unfold relIn
            rw [List.any_eq_true]
            exact ⟨r, hr, by simp⟩
        rw [hv] at this; cases this)]
end
end Go.Proofs.YtjngkifoaljmaaaGreatDoor
namespace Go.Proofs.YtjngkifoaljmaaaGreatDoor
set_option maxRecDepth 100000
open Go.RowKit
set_option linter.unusedVariables false
set_option maxHeartbeats 2000000 in
theorem rsizes_any (l : List ObjD) (A : Option Addr) (i c lo hi : Nat) (hil : i ≤ l.length) (hmx : l.length ≤ 1000000) (hT : sumT l l.length ≤ 1000000) (hD : sumD l l.length ≤ 1000000) (w : World) (hA : ObjsAt w lo hi l A) (hh : hi ≤ w.heap.size) :
    Calls Tryz.prog 11 #[.slice A i c] w fun e w' => e = .returned (.tuple #[.int .i64 (sumT l i), .int .i64 (sumD l i)]) ∧ w' = w := by
  have HI := Lib.hid hil
  have HA := Lib.hid hA
  have HSt := Lib.hid hT
  have HSd := Lib.hid hD
  have him : i ≤ 1000000 := by omega
  clear hil hA hh hT hD hmx
  go_enter Tryz.func11, Tryz.ntmps11
  go_wp2
  go_loopw [4, 5, 6] (fun x y j wr => ∃ k : Nat, k ≤ i ∧ j = .int .i64 k ∧ x = .int .i64 (sumT l k) ∧ y = .int .i64 (sumD l k) ∧ Hid (wr = w)) (fun _ _ j _ => i - (intOf j).toNat)
  case atStart => exact ⟨0, by omega, rfl, by simp [sumT], by simp [sumD], Lib.hid rfl⟩
  case round =>
    obtain ⟨k, hk, rfl, rfl, rfl, HW⟩ := hrel
    have hw := HW.out
    clear HW
    subst hw
    by_cases hlt : k < i
    · have k0 : (0 : Int) ≤ k := by omega
      have k1 : (k : Int) < i := by omega
      have hlk : k < l.length := by have := HI.out; omega
      obtain ⟨b, o, A1, n1, c1, A2, n2, c2, A3, n3, c3, A4, n4, c4, A5, n5, c5, rfl, hb, ⟨x0, x1, x2, x3, x4⟩, h1, h2, -⟩ := HA.out.td hlk
      have hg1 := sumT_go hlk
      have hg2 := sumD_go hlk
      rw [h1] at hg1
      rw [h2] at hg2
      have hl1 := sumT_le l (k + 1)
      have hl2 := sumD_le l (k + 1)
      have hs1 := HSt.out
      have hs2 := HSd.out
      have HE := Lib.hid (And.intro hg1 hg2)
      have hb1 : sumT l k + n1 ≤ 1000000 := by omega
      have hb2 : sumD l k + n2 ≤ 1000000 := by omega
      clear hg1 hg2 hl1 hl2 hs1 hs2 h1 h2 hb x2 x3 x4
      generalize sumT l k = a at *
      generalize sumD l k = b' at *
      go_wp2
      go_roundw
      case rel => exact ⟨k + 1, by omega, by go_num, by rw [HE.out.1]; go_num, by rw [HE.out.2]; go_num, Lib.hid trivial⟩
      case measure => simp [intOf]; omega
    · have hkn : k = i := by omega
      have k1 : ¬ (k : Int) < i := by omega
      subst hkn
      go_wp2
      go_ret2
      exact ⟨rfl, rfl⟩
set_option maxHeartbeats 4000000 in
theorem rspots_any (l : List ObjD) (hW : ∀ d ∈ l, ObjW d) (A : Option Addr) (n c lo hi : Nat) (hn : l.length = n) (hnc : n ≤ c) (hmx : n ≤ 1000000) (t d : Int) (ht : IsU t) (hd : IsU d) (w : World) (hA : ObjsAt w lo hi l A) (hh : hi ≤ w.heap.size) :
    Calls Tryz.prog 7 #[.slice A n c, .int .u64 t, .int .u64 d] w (SpotP l t d n w) := by
  have HN := Lib.hid hn
  have HA := Lib.hid hA
  have HH := Lib.hid hh
  have HMx := Lib.hid hmx
  have HU := Lib.hid (And.intro ht hd)
  have HC := Lib.hid (rcheck7_any l hW A n c lo hi hn (Nat.le_trans hmx (by decide)) w hA hh)
  clear hW hn hA hh hmx
  obtain ⟨ht0, ht1⟩ := ht
  obtain ⟨hd0, hd1⟩ := hd
  go_enter Tryz.func7, Tryz.ntmps7
  go_wp2_with fail
  refine HC.out.mono ?_
  rintro e w1 ⟨rfl, hb⟩
  rw [rchk_code]
  generalize (rchkF l).1 = nm
  have HB1 := Lib.hid hb
  clear hb HC
  obtain ⟨k, hk⟩ : ∃ k, (chkF l).2 = k := ⟨_, rfl⟩
  rw [hk]
  by_cases hk0 : k = 0
  case neg =>
    have HR := Lib.hid (show spC l t d = k by unfold spC; rw [if_pos (by rw [hk]; exact hk0), hk])
    have hk1 : (k != (0 : Int)) = true := by simpa using hk0
    have HK := Lib.hid hk0
    clear hk
    go_wp2
    go_ret2
    exact SpotP.no HR.out HK.out HB1.out
  subst hk0
  have hm := chkF_may (l := l) hk
  have HCk := Lib.hid hk
  have hst := may_sumTD hm
  have HL := Lib.hid (show n ≤ 16 by rw [← HN.out]; exact mayLs_len hm)
  have HSt := Lib.hid hst
  have hsz := rsizes_any l A n c lo hi (by rw [HN.out]; exact Nat.le_refl _) (by rw [HN.out]; exact HMx.out) (Nat.le_trans hst.1 (by decide)) (Nat.le_trans hst.2 (by decide)) w1 (HA.out.below HH.out HB1.out) (Nat.le_trans HH.out HB1.out.size)
  have ea : sumT l n = sumT l l.length := by rw [HN.out]
  have eb : sumD l n = sumD l l.length := by rw [HN.out]
  obtain ⟨a, ha⟩ : ∃ a, sumT l l.length = a := ⟨_, rfl⟩
  obtain ⟨b, hb⟩ : ∃ b, sumD l l.length = b := ⟨_, rfl⟩
  rw [ea, eb, ha, hb] at hsz
  have HSz := Lib.hid hsz
  have hab0 : a ≤ 65536 := by omega
  have hab1 : b ≤ 65536 := by omega
  have HR := Lib.hid (show spC l t d = if a > 4096 ∨ b > 1024 then 4 else if baseB t = true ∧ baseB d = true then 0 else 10 from by
    unfold spC; rw [if_neg (by rw [HCk.out]; omega), ha, hb])
  clear hm hk hst hsz ea eb ha hb
  go_wp2_with fail
  refine HSz.out.mono ?_
  rintro e w2 ⟨rfl, rfl⟩
  by_cases hbig : a > 4096 ∨ b > 1024
  case pos =>
    have HR2 := Lib.hid (show spC l t d = 4 by rw [HR.out, if_pos hbig])
    by_cases hA4 : (a : Int) > 4096
    · clear hbig
      go_wp2
      go_ret2
      exact SpotP.no HR2.out (by omega) HB1.out
    · have hB4 : (b : Int) > 1024 := by omega
      clear hbig
      go_wp2
      go_ret2
      exact SpotP.no HR2.out (by omega) HB1.out
  have hA4 : ¬ (a : Int) > 4096 := by omega
  have hB4 : ¬ (b : Int) > 1024 := by omega
  have HR2 := Lib.hid (show spC l t d = if baseB t = true ∧ baseB d = true then 0 else 10 by rw [HR.out, if_neg hbig])
  clear hbig
  have hno : ¬ (baseB t = true ∧ baseB d = true) → spC l t d = 10 := fun h => by rw [HR2.out, if_neg h]
  by_cases m1 : t % 8 = 0
  case neg =>
    have g : (t % 8 != 0) = true := by simpa using m1
    have HR3 := Lib.hid (hno (by unfold baseB; simp [m1]))
    clear hno
    go_wp2
    go_ret2
    exact SpotP.no HR3.out (by omega) HB1.out
  have g1 : (t % 8 != 0) = false := by simpa using m1
  by_cases m2 : d % 8 = 0
  case neg =>
    have g : (d % 8 != 0) = true := by simpa using m2
    have HR3 := Lib.hid (hno (by unfold baseB; simp [m2]))
    clear hno
    go_wp2
    go_ret2
    exact SpotP.no HR3.out (by omega) HB1.out
  have g2 : (d % 8 != 0) = false := by simpa using m2
  by_cases m3 : t > 1073741824
  case pos =>
    have HR3 := Lib.hid (hno (by unfold baseB; simp; omega))
    clear hno
    go_wp2
    go_ret2
    exact SpotP.no HR3.out (by omega) HB1.out
  by_cases m4 : d > 1073741824
  case pos =>
    have HR3 := Lib.hid (hno (by unfold baseB; simp; omega))
    clear hno
    go_wp2
    go_ret2
    exact SpotP.no HR3.out (by omega) HB1.out
  have HR3 := Lib.hid (show spC l t d = 0 by rw [HR2.out, if_pos (by unfold baseB; simp; omega)])
  have ht2 : t ≤ 1073741824 := by omega
  have hd2 : d ≤ 1073741824 := by omega
  have hn16 := HL.out
  obtain ⟨i0, hi0, hz0, hz1, hz2⟩ := info_parts info_spot
  obtain ⟨B, hB⟩ : ∃ B, w.heap.size = B := ⟨_, rfl⟩
  rw [hB] at HB1
  have HBs := Lib.hid hB
  clear hno hB
  have HS0 := Lib.hid (show SpAt w2 B (spL l t d 0) (.slice none 0 0) from ⟨none, 0, rfl, World.ownsRow_nil _ _ _ _⟩)
  have HBB := Lib.hid (show B ≤ w2.heap.size from by rw [← HBs.out]; rw [← HBs.out] at HB1; exact HB1.out.size)
  go_wp2
  go_loopw [12, 13] (fun v i wr => ∃ k : Nat, k ≤ n ∧ i = .int .i64 k ∧ Hid (SpAt wr B (spL l t d k) v) ∧ Hid (Below B w wr) ∧ Hid (B ≤ wr.heap.size)) (fun _ i _ => n - (intOf i).toNat)
  case atStart => exact ⟨0, by omega, rfl, HS0, HB1, HBB⟩
  case round =>
    clear HS0 HB1 HBB
    obtain ⟨k, hk, rfl, HS, HB, HZ⟩ := hrel
    by_cases hlt : k < n
    · have k0 : (0 : Int) ≤ k := by omega
      have k1 : (k : Int) < n := by omega
      have kc : (k : Int) ≤ c := by omega
      have hlk : k < l.length := by rw [HN.out]; exact hlt
      have hx := sumT_le l k
      have hy := sumD_le l k
      have hs1 := HSt.out
      have hrs := rsizes_any l A k c lo hi (Nat.le_of_lt hlk) (by rw [HN.out]; exact HMx.out) (Nat.le_trans hs1.1 (by decide)) (Nat.le_trans hs1.2 (by decide)) wr (HA.out.below HH.out (by rw [HBs.out]; exact HB.out)) (Nat.le_trans (by rw [← HBs.out]; exact HH.out) HZ.out)
      have HG := Lib.hid (show spL l t d (k + 1) = spL l t d k ++ [(t + 4 * (sumT l k : Int), d + 8 * (sumD l k : Int))] from by rw [spL_go]; rfl)
      obtain ⟨x, hxx⟩ : ∃ x, sumT l k = x := ⟨_, rfl⟩
      obtain ⟨y, hyy⟩ : ∃ y, sumD l k = y := ⟨_, rfl⟩
      rw [hxx, hyy] at hrs HG
      have hx2 : x ≤ 65536 := by omega
      have hy2 : y ≤ 65536 := by omega
      have HRs := Lib.hid hrs
      obtain ⟨As, cs, rfl, hown⟩ := HS.out
      rw [spL_len] at hown ⊢
      have b2 := (Below.refl wr.heap.size wr).alloc (Nat.le_refl _) (.cells #[.int .u64 (t + 4 * (x : Int)), .int .u64 (d + 8 * (y : Int))] 25)
      have HWa := Lib.hid (rowO_below hown b2)
      have HNa := Lib.hid (news_at (w := wr) (w2 := wr.alloc (.cells #[.int .u64 (t + 4 * (x : Int)), .int .u64 (d + 8 * (y : Int))] 25)) (cs := encSp (t + 4 * (x : Int), d + 8 * (y : Int))) (ty := 25) rfl)
      have H1s := Lib.hid (one_sp (t + 4 * (x : Int), d + 8 * (y : Int)))
      have HMl := Lib.hid (show k + 1 ≤ maxLen by unfold maxLen; omega)
      have HBy := Lib.hid (show (k + 1) * 16 ≤ 140737488355328 by omega)
      have HRz := Lib.hid (show B ≤ (wr.alloc (.cells #[.int .u64 (t + 4 * (x : Int)), .int .u64 (d + 8 * (y : Int))] 25)).heap.size from Nat.le_trans HZ.out b2.size)
      have HB2 := Lib.hid (show Below B w (wr.alloc (.cells #[.int .u64 (t + 4 * (x : Int)), .int .u64 (d + 8 * (y : Int))] 25)) from HB.out.trans (b2.mono HZ.out))
      clear hx hy hs1 hxx hyy hrs b2 hown HS HB HZ
      go_wp2_with fail
      refine HRs.out.mono ?_
      rintro e w5 ⟨rfl, rfl⟩
      go_wp2_with (at_builtin; (refine wpList_append_at6 rfl _ _ 30 rfl B 25 i0 (.agg #[.int .u64 0, .int .u64 0]) 2 16 Tryz.underlying30 hi0 hz0 hz1 hz2 rfl (by decide) (.slice As k cs) k ((spL l t d k).flatMap encSp) ?hs HWa.out ⟨w5.heap.size, 0, none⟩ 1 1 (encSp (t + 4 * (x : Int), d + 8 * (y : Int))) ?hx rfl HNa.out H1s.out HMl.out HBy.out HRz.out ?_; (case hs => rfl); (case hx => rfl); intro v' w7 hr hg hv'))
      have hgb := own_ge HWa.out
      have hBw := HBs.out
      have HB7 := Lib.hid (HB2.out.grown hg HRz.out (fun g e => by have := hgb g e; omega))
      have HS7 := Lib.hid (show SpAt w7 B (spL l t d (k + 1)) v' from by
        obtain ⟨A3, e3, rfl⟩ := ownO_slice hr
        refine ⟨A3, e3, by rw [spL_len], ?_⟩
        rw [spL_len, HG.out, List.flatMap_append, List.flatMap_cons, List.flatMap_nil, List.append_nil]
        exact hr)
      have HZ7 := Lib.hid (Nat.le_trans HRz.out hg.size)
      clear hr hg hv' hgb
      go_roundw
      case rel => exact ⟨k + 1, by omega, by go_num, HS7, HB7, HZ7⟩
      case measure => simp [intOf]; omega
    · have hkn : k = n := by omega
      have k1 : ¬ (k : Int) < n := by omega
      subst hkn
      obtain ⟨Av, cv, rfl, hv⟩ := id HS.out
      go_wp2
      go_ret2
      exact SpotP.yes HR3.out (by rw [HBs.out]; exact HS.out) (by rw [HBs.out]; exact HB.out)
end Go.Proofs.YtjngkifoaljmaaaGreatDoor
namespace Go.Proofs.YtjngkifoaljmaaaGreatDoor
set_option maxRecDepth 100000
open Go.RowKit
set_option linter.unusedVariables false
/-- the address of a Def, if it is there -/
def adrF (l : List ObjD) (xs : List (Int × Int)) (oo jj : Int) : Option Int :=
  if xs.length = l.length ∧ (0 ≤ oo ∧ oo < l.length) ∧ 0 ≤ jj ∧ jj < (nAt l oo.toNat).syms.length then some (adr1 (xs.getD oo.toNat (0, 0)) (symAt (nAt l oo.toNat) jj.toNat).2.1 (symAt (nAt l oo.toNat) jj.toNat).2.2.1) else none
set_option maxHeartbeats 4000000 in
theorem addr_no1 (A As : Option Addr) (n m c cs : Nat) (hnm : m ≠ n) (oo jj : Int) (w : World) : Calls Tryz.prog 8 #[.slice A n c, .slice As m cs, .agg #[.int .i64 oo, .int .i64 jj]] w (AdrP none w) := by
  have HB0 := Lib.hid ((Below.refl w.heap.size w).alloc (Nat.le_refl _) (.cells #[.int .i64 oo, .int .i64 jj] 27))
  obtain ⟨q0, q1, qf⟩ := row2 (heap_alloc_new w (.cells #[.int .i64 oo, .int .i64 jj] 27))
  have g : ((m : Int) != (n : Int)) = true := by simp; omega
  go_enter Tryz.func8, Tryz.ntmps8
  go_upto_region 1 with fail
  go_quiet (fail)
  have HB1 := Lib.hid (below_drewN HB0.out nq)
  go_wp2
  go_ret2
  exact ⟨HB1.out, rfl⟩
set_option maxHeartbeats 4000000 in
theorem addr_no2 (A As : Option Addr) (n c cs : Nat) (hn : n ≤ maxLen) (oo jj : Int) (ho : IsI oo) (hno : ¬ (0 ≤ oo ∧ oo < n)) (w : World) : Calls Tryz.prog 8 #[.slice A n c, .slice As n cs, .agg #[.int .i64 oo, .int .i64 jj]] w (AdrP none w) := by
  have HB0 := Lib.hid ((Below.refl w.heap.size w).alloc (Nat.le_refl _) (.cells #[.int .i64 oo, .int .i64 jj] 27))
  obtain ⟨q0, q1, qf⟩ := row2 (heap_alloc_new w (.cells #[.int .i64 oo, .int .i64 jj] 27))
  have HI := Lib.hid ho
  have HM := Lib.hid hn
  have HW1 := Lib.hid (show (decide ((0 : Int) ≤ oo) && decide (oo < n)) = false from by
    rw [Bool.eq_false_iff]
    intro h
    simp only [Bool.and_eq_true, decide_eq_true_eq] at h
    exact hno h)
  clear ho hn hno
  go_enter Tryz.func8, Tryz.ntmps8
  go_upto_region 1 with fail
  go_quiet ((first | (go_at_call 23; (with_reducible refine quiet_same (pwithin_at oo n false HI.out HM.out HW1.out _)))))
  have HB1 := Lib.hid (below_drewN HB0.out nq)
  go_wp2
  go_ret2
  exact ⟨HB1.out, rfl⟩
set_option maxHeartbeats 4000000 in
theorem addr_no3 (l : List ObjD) (A As : Option Addr) (n c cs lo hi : Nat) (hn : l.length = n) (hmx : n ≤ 1000000) (o : Nat) (ho : o < l.length) (hjm : l[o].syms.length ≤ 1000000) (jj : Int) (hj : IsI jj) (hno : ¬ (0 ≤ jj ∧ jj < l[o].syms.length)) (w : World) (hA : ObjsAt w lo hi l A) (hh : hi ≤ w.heap.size) : Calls Tryz.prog 8 #[.slice A n c, .slice As n cs, .agg #[.int .i64 o, .int .i64 jj]] w (AdrP none w) := by
  obtain ⟨b, p, A1, n1, c1, A2, n2, c2, A3, n3, c3, A4, n4, c4, A5, n5, c5, rfl, hb, ⟨-, -, x2, -, -⟩, -, -, h3, -⟩ := hA.td ho
  have HB0 := Lib.hid ((Below.refl w.heap.size w).alloc (Nat.le_refl _) (.cells #[.int .i64 o, .int .i64 jj] 27))
  obtain ⟨q0, q1, qf⟩ := row2 (heap_alloc_new w (.cells #[.int .i64 o, .int .i64 jj] 27))
  have x2b := (HB0.out.cell (p := ⟨b, p + o * 5 + 2, none⟩) (block_lt x2)).trans x2
  rw [h3] at hjm hno
  have HI := Lib.hid (And.intro (show IsI (o : Int) from ⟨by omega, by omega⟩) hj)
  have HM := Lib.hid (show n ≤ maxLen ∧ n3 ≤ maxLen from ⟨Nat.le_trans hmx (by decide), Nat.le_trans hjm (by decide)⟩)
  have HW1 := Lib.hid (show (decide ((0 : Int) ≤ (o : Int)) && decide ((o : Int) < n)) = true from by
    simp only [Bool.and_eq_true, decide_eq_true_eq]; omega)
  have HW2 := Lib.hid (show (decide ((0 : Int) ≤ jj) && decide (jj < n3)) = false from by
    rw [Bool.eq_false_iff]
    intro h
    simp only [Bool.and_eq_true, decide_eq_true_eq] at h
    exact hno h)
  have hon : (o : Int) < n := by omega
  have ho0 : (0 : Int) ≤ o := by omega
  clear hA hh hn hmx hjm hno hj h3 ho x2 hb
  go_enter Tryz.func8, Tryz.ntmps8
  go_upto_region 1 with fail
  go_quiet ((first | (go_at_call 23; (with_reducible refine quiet_same (pwithin_at o n true HI.out.1 HM.out.1 HW1.out _))) | (go_at_call 23; (with_reducible refine quiet_same (pwithin_at jj n3 false HI.out.2 HM.out.2 HW2.out _)))))
  have HB1 := Lib.hid (below_drewN HB0.out nq)
  go_wp2
  go_ret2
  exact ⟨HB1.out, rfl⟩
theorem addr_any (l : List ObjD) (A : Option Addr) (n c lo hi : Nat) (hn : l.length = n) (hmx : n ≤ 1000000) (hsy : ∀ i (h : i < l.length), l[i].syms.length ≤ 1000000) (xs : List (Int × Int)) (As : Option Addr) (m cs base : Nat) (w : World) (hA : ObjsAt w lo hi l A) (hh : hi ≤ w.heap.size) (hS : SpAt w base xs (.slice As m cs)) (oo jj : Int) (hoo : IsI oo) (hjj : IsI jj) :
    Calls Tryz.prog 8 #[.slice A n c, .slice As m cs, .agg #[.int .i64 oo, .int .i64 jj]] w (AdrP (adrF l xs oo jj) w) := by
  have hxm := hS.len
  by_cases h1 : m = n
  case neg =>
    rw [show adrF l xs oo jj = none from by unfold adrF; rw [if_neg (by omega)]]
    exact addr_no1 A As n m c cs h1 oo jj w
  subst h1
  by_cases h2 : 0 ≤ oo ∧ oo < m
  case neg =>
    rw [show adrF l xs oo jj = none from by unfold adrF; rw [if_neg (by rw [hn]; rintro ⟨_, h, _⟩; exact h2 h)]]
    exact addr_no2 A As m c cs (Nat.le_trans hmx (by decide)) oo jj hoo h2 w
  obtain ⟨o, rfl⟩ := Int.eq_ofNat_of_zero_le h2.1
  have ho : o < l.length := by omega
  by_cases h3 : 0 ≤ jj ∧ jj < l[o].syms.length
  case neg =>
    rw [show adrF l xs (o : Int) jj = none from by
      unfold adrF
      rw [if_neg (by
        rintro ⟨_, _, h⟩
        rw [Int.toNat_natCast, nAt_get ho] at h
        exact h3 h)]]
    exact addr_no3 l A As m c cs lo hi hn hmx o ho (hsy o ho) jj hjj h3 w hA hh
  obtain ⟨j, rfl⟩ := Int.eq_ofNat_of_zero_le h3.1
  have hj : j < l[o].syms.length := by omega
  have hx : o < xs.length := by omega
  rw [show adrF l xs (o : Int) (j : Int) = some (adr1 xs[o] l[o].syms[j].2.1 l[o].syms[j].2.2.1) from by
    unfold adrF
    rw [if_pos (by rw [Int.toNat_natCast, nAt_get ho]; omega)]
    unfold symAt
    simp only [Int.toNat_natCast, nAt_get ho, List.getD_eq_getElem?_getD, List.getElem?_eq_getElem hx, List.getElem?_eq_getElem hj, Option.getD_some]]
  exact addr_yes l A m c lo hi hn hmx xs As cs base w hA hh hS o j ho hj (hsy o ho) hx
set_option maxHeartbeats 4000000 in
/-- of a Sym that is there -/
theorem raddr_yes (l : List ObjD) (A : Option Addr) (n c lo hi : Nat) (hn : l.length = n) (hmx : n ≤ 1000000) (xs : List (Int × Int)) (As : Option Addr) (cs base : Nat) (w : World) (hA : ObjsAt w lo hi l A) (hh : hi ≤ w.heap.size) (hS : SpAt w base xs (.slice As n cs))
    (o j : Nat) (ho : o < l.length) (hj : j < l[o].syms.length) (hjm : l[o].syms.length ≤ 1000000) (hx : o < xs.length) :
    Calls Tryz.prog 9 #[.slice A n c, .slice As n cs, .agg #[.int .i64 o, .int .i64 j]] w (AdrP (some (adr1 xs[o] l[o].syms[j].2.1 l[o].syms[j].2.2.1)) w) := by
  obtain ⟨b, p, n3, c3, b3, p3, rfl, x2, hn3, y0, y1, y2, y3⟩ := hA.symAt ho hj
  obtain ⟨b4, p4, rfl, z0, z1⟩ := hS.at_ hx
  have HB0 := Lib.hid ((Below.refl w.heap.size w).alloc (Nat.le_refl _) (.cells #[.int .i64 o, .int .i64 j] 27))
  have hi1 : IsI (o : Int) := ⟨by omega, by omega⟩
  have hi2 : IsI (j : Int) := ⟨by omega, by omega⟩
  have w1 : (decide ((0 : Int) ≤ (o : Int)) && decide ((o : Int) < n)) = true := by
    simp only [Bool.and_eq_true, decide_eq_true_eq]; omega
  have w2 : (decide ((0 : Int) ≤ (j : Int)) && decide ((j : Int) < n3)) = true := by
    simp only [Bool.and_eq_true, decide_eq_true_eq]; omega
  have HI := Lib.hid (And.intro hi1 hi2)
  have HWi := Lib.hid (And.intro w1 w2)
  have HM := Lib.hid (show n ≤ maxLen ∧ n3 ≤ maxLen from ⟨Nat.le_trans hmx (by decide), by rw [← hn3]; exact Nat.le_trans hjm (by decide)⟩)
  have hon : (o : Int) < n := by omega
  have hjn : (j : Int) < n3 := by omega
  have ho0 : (0 : Int) ≤ o := by omega
  have hj0 : (0 : Int) ≤ j := by omega
  obtain ⟨s1, hs1⟩ : ∃ s, xs[o].1 = s := ⟨_, rfl⟩
  obtain ⟨s2, hs2⟩ : ∃ s, xs[o].2 = s := ⟨_, rfl⟩
  obtain ⟨nm, hnm⟩ : ∃ s, l[o].syms[j].1 = s := ⟨_, rfl⟩
  obtain ⟨iD, hiD⟩ : ∃ s, l[o].syms[j].2.1 = s := ⟨_, rfl⟩
  obtain ⟨off, hoff⟩ : ∃ s, l[o].syms[j].2.2.1 = s := ⟨_, rfl⟩
  obtain ⟨ot, hot⟩ : ∃ s, l[o].syms[j].2.2.2 = s := ⟨_, rfl⟩
  have HR := Lib.hid (show adr1 xs[o] iD off = IntKind.u64.wrap ((if iD then s2 else s1) + IntKind.u64.wrap off) from by unfold adr1; rw [hs1, hs2])
  rw [hiD, hoff]
  obtain ⟨R, hRr⟩ : ∃ R, adr1 xs[o] iD off = R := ⟨_, rfl⟩
  rw [hRr] at HR ⊢
  rw [hs1] at z0
  rw [hs2] at z1
  rw [hnm] at y0
  rw [hiD] at y1
  rw [hoff] at y2
  rw [hot] at y3
  have y0b := (HB0.out.cell (p := ⟨b3, p3 + j * 4, none⟩) (block_lt y0)).trans y0
  have y1b := (HB0.out.cell (p := ⟨b3, p3 + j * 4 + 1, none⟩) (block_lt y1)).trans y1
  have y2b := (HB0.out.cell (p := ⟨b3, p3 + j * 4 + 2, none⟩) (block_lt y2)).trans y2
  have y3b := (HB0.out.cell (p := ⟨b3, p3 + j * 4 + 3, none⟩) (block_lt y3)).trans y3
  have x2b := (HB0.out.cell (p := ⟨b, p + o * 5 + 2, none⟩) (block_lt x2)).trans x2
  have z0b := (HB0.out.cell (p := ⟨b4, p4 + o * 2, none⟩) (block_lt z0)).trans z0
  have z1b := (HB0.out.cell (p := ⟨b4, p4 + o * 2 + 1, none⟩) (block_lt z1)).trans z1
  obtain ⟨q0, q1, qf⟩ := row2 (heap_alloc_new w (.cells #[.int .i64 o, .int .i64 j] 27))
  clear hA hS hh hn3 hn hmx hs1 hs2 hnm hiD hoff hot hjm hi1 hi2 w1 w2 hRr ho hj hx
  go_enter Tryz.func9, Tryz.ntmps9
  go_upto_region 1 with fail
  have e1 : decide ((o : Int) < 0) = false := by simp
  have e2 : decide (n ≤ o) = false := by simp; omega
  have e3 : decide ((j : Int) < 0) = false := by simp
  have e4 : decide (n3 ≤ j) = false := by simp; omega
  go_quiet (fail)
  have HB1 := Lib.hid (below_drewN HB0.out nq)
  clear HI HWi HM
  go_upto_region 3 with fail
  generalize hWW : (w.alloc (.cells #[.int .i64 o, .int .i64 j] 27)).drewN nq = W at *
  have hcw : ∀ p, W.cell? p = (w.alloc (.cells #[.int .i64 o, .int .i64 j] 27)).cell? p := fun p => by rw [← hWW]; rfl
  rw [← hcw] at y0b y1b y2b y3b x2b z0b z1b q0 q1
  clear qf y0 y1 y2 y3 x2 z0 z1
  clear hWW hcw
  go_cut [8] (fun sp wx => sp = .pointer (some ⟨W.heap.size, 0, none⟩) ∧ Hid (wx.heap[W.heap.size]? = some (.cells #[.string nm, .bool iD, .int .i64 off, .bool ot] 52 (0, 0)) ∧ Below W.heap.size W wx))
  case first =>
    have HBw := Lib.hid ((Below.refl W.heap.size W).alloc (Nat.le_refl _) (.cells #[.string ⟨#[]⟩, .bool false, .int .i64 0, .bool false] 52))
    have HNw := Lib.hid (heap_alloc_new W (.cells #[.string ⟨#[]⟩, .bool false, .int .i64 0, .bool false] 52))
    have v0 := (HBw.out.cell (p := ⟨b3, p3 + j * 4, none⟩) (block_lt y0b)).trans y0b
    have v1 := (HBw.out.cell (p := ⟨b3, p3 + j * 4 + 1, none⟩) (block_lt y1b)).trans y1b
    have v2 := (HBw.out.cell (p := ⟨b3, p3 + j * 4 + 2, none⟩) (block_lt y2b)).trans y2b
    have v3 := (HBw.out.cell (p := ⟨b3, p3 + j * 4 + 3, none⟩) (block_lt y3b)).trans y3b
    have u2 := (HBw.out.cell (p := ⟨b, p + o * 5 + 2, none⟩) (block_lt x2b)).trans x2b
    have u0 := (HBw.out.cell (p := ⟨w.heap.size, 0, none⟩) (block_lt q0)).trans q0
    have u1 := (HBw.out.cell (p := ⟨w.heap.size, 1, none⟩) (block_lt q1)).trans q1
    obtain ⟨n0, n1, n2, n3', nf⟩ := row4 HNw.out
    have HEnd := Lib.hid (show (W.alloc (.cells #[.string nm, .bool iD, .int .i64 off, .bool ot] 52)).drew.heap[W.heap.size]? = some (.cells #[.string nm, .bool iD, .int .i64 off, .bool ot] 52 (0, 0)) ∧ Below W.heap.size W (W.alloc (.cells #[.string nm, .bool iD, .int .i64 off, .bool ot] 52)).drew from
      ⟨heap_alloc_new W _, ((Below.refl _ _).alloc (Nat.le_refl _) _).drew⟩)
    go_region_law (fail)
    all_goals
      go_wp2
      go_meet
      case rel => exact ⟨rfl, HEnd⟩
  case rest =>
    obtain ⟨rfl, HX⟩ := hcut
    obtain ⟨n0, n1, n2, n3', nf⟩ := row4 HX.out.1
    have u0 := (HX.out.2.cell (p := ⟨w.heap.size, 0, none⟩) (block_lt q0)).trans q0
    have u1 := (HX.out.2.cell (p := ⟨w.heap.size, 1, none⟩) (block_lt q1)).trans q1
    have t0 := (HX.out.2.cell (p := ⟨b4, p4 + o * 2, none⟩) (block_lt z0b)).trans z0b
    have t1 := (HX.out.2.cell (p := ⟨b4, p4 + o * 2 + 1, none⟩) (block_lt z1b)).trans z1b
    have HB2 := Lib.hid (HB1.out.trans (HX.out.2.mono HB1.out.size))
    cases iD
    · go_wp2
      go_ret2
      exact ⟨HB2.out, by rw [HR.out]; rfl⟩
    · go_wp2
      go_ret2
      exact ⟨HB2.out, by rw [HR.out]; rfl⟩
end Go.Proofs.YtjngkifoaljmaaaGreatDoor
namespace Go.Proofs.YtjngkifoaljmaaaGreatDoor
set_option maxRecDepth 100000
open Go.RowKit
set_option linter.unusedVariables false
set_option maxHeartbeats 4000000 in
theorem raddr_no1 (AA As : Option Addr) (n MM c cs : Nat) (hnm : MM ≠ n) (oo jj : Int) (w : World) : Calls Tryz.prog 9 #[.slice AA n c, .slice As MM cs, .agg #[.int .i64 oo, .int .i64 jj]] w (AdrP none w) := by
  have HB0 := Lib.hid ((Below.refl w.heap.size w).alloc (Nat.le_refl _) (.cells #[.int .i64 oo, .int .i64 jj] 27))
  obtain ⟨q0, q1, qf⟩ := row2 (heap_alloc_new w (.cells #[.int .i64 oo, .int .i64 jj] 27))
  have g : ((MM : Int) != (n : Int)) = true := by simp; omega
  go_enter Tryz.func9, Tryz.ntmps9
  go_upto_region 1 with fail
  go_quiet (fail)
  have HB1 := Lib.hid (below_drewN HB0.out nq)
  go_wp2
  go_ret2
  exact ⟨HB1.out, rfl⟩
set_option maxHeartbeats 4000000 in
theorem raddr_no2 (AA As : Option Addr) (MM n c cs : Nat) (hM : MM = n) (oo jj : Int) (w : World) (h : oo < 0) : Calls Tryz.prog 9 #[.slice AA n c, .slice As MM cs, .agg #[.int .i64 oo, .int .i64 jj]] w (AdrP none w) := by
  subst hM
  have HB0 := Lib.hid ((Below.refl w.heap.size w).alloc (Nat.le_refl _) (.cells #[.int .i64 oo, .int .i64 jj] 27))
  obtain ⟨q0, q1, qf⟩ := row2 (heap_alloc_new w (.cells #[.int .i64 oo, .int .i64 jj] 27))
  have e1 : decide (oo < 0) = true := by simpa using h
  go_enter Tryz.func9, Tryz.ntmps9
  go_upto_region 1 with fail
  go_quiet (fail)
  have HB1 := Lib.hid (below_drewN HB0.out nq)
  go_wp2
  go_ret2
  exact ⟨HB1.out, rfl⟩
set_option maxHeartbeats 4000000 in
theorem raddr_no3 (AA As : Option Addr) (MM n c cs : Nat) (hM : MM = n) (oo jj : Int) (w : World) (h : 0 ≤ oo) (h2 : (n : Int) ≤ oo) : Calls Tryz.prog 9 #[.slice AA n c, .slice As MM cs, .agg #[.int .i64 oo, .int .i64 jj]] w (AdrP none w) := by
  subst hM
  have HB0 := Lib.hid ((Below.refl w.heap.size w).alloc (Nat.le_refl _) (.cells #[.int .i64 oo, .int .i64 jj] 27))
  obtain ⟨q0, q1, qf⟩ := row2 (heap_alloc_new w (.cells #[.int .i64 oo, .int .i64 jj] 27))
  have h0 : ¬ oo < 0 := by omega
  have e1 : decide (oo < 0) = false := by simpa using h
  have e2 : decide ((MM : Int) ≤ oo) = true := by simpa using h2
  go_enter Tryz.func9, Tryz.ntmps9
  go_upto_region 1 with fail
  go_quiet (fail)
  have HB1 := Lib.hid (below_drewN HB0.out nq)
  go_wp2
  go_ret2
  exact ⟨HB1.out, rfl⟩
set_option maxHeartbeats 4000000 in
theorem raddr_no4 (l : List ObjD) (AA As : Option Addr) (MM n c cs lo hi : Nat) (hM : MM = n) (hn : l.length = n) (o : Nat) (ho : o < l.length) (jj : Int) (w : World) (hA : ObjsAt w lo hi l AA) (hno : jj < 0) : Calls Tryz.prog 9 #[.slice AA n c, .slice As MM cs, .agg #[.int .i64 o, .int .i64 jj]] w (AdrP none w) := by
  obtain ⟨b, p, A1, n1, c1, A2, n2, c2, A3, n3, c3, A4, n4, c4, A5, n5, c5, rfl, hb, ⟨-, -, x2, -, -⟩, -, -, h3, -⟩ := hA.td ho
  subst hM
  have HB0 := Lib.hid ((Below.refl w.heap.size w).alloc (Nat.le_refl _) (.cells #[.int .i64 o, .int .i64 jj] 27))
  obtain ⟨q0, q1, qf⟩ := row2 (heap_alloc_new w (.cells #[.int .i64 o, .int .i64 jj] 27))
  have x2b := (HB0.out.cell (p := ⟨b, p + o * 5 + 2, none⟩) (block_lt x2)).trans x2
  have hon : (o : Int) < MM := by omega
  have ho0 : (0 : Int) ≤ o := by omega
  have e1 : decide ((o : Int) < 0) = false := by simp
  have e2 : decide (MM ≤ o) = false := by simp; omega
  have e3 : decide (jj < 0) = true := by simpa using hno
  clear hA hn h3 ho x2 hb
  go_enter Tryz.func9, Tryz.ntmps9
  go_upto_region 1 with fail
  go_quiet (fail)
  have HB1 := Lib.hid (below_drewN HB0.out nq)
  go_wp2
  go_ret2
  exact ⟨HB1.out, rfl⟩
set_option maxHeartbeats 4000000 in
theorem raddr_no5 (l : List ObjD) (AA As : Option Addr) (MM n c cs lo hi : Nat) (hM : MM = n) (hn : l.length = n) (o : Nat) (ho : o < l.length) (jj : Int) (w : World) (hA : ObjsAt w lo hi l AA) (h : 0 ≤ jj) (hno : (l[o].syms.length : Int) ≤ jj) : Calls Tryz.prog 9 #[.slice AA n c, .slice As MM cs, .agg #[.int .i64 o, .int .i64 jj]] w (AdrP none w) := by
  obtain ⟨b, p, A1, n1, c1, A2, n2, c2, A3, n3, c3, A4, n4, c4, A5, n5, c5, rfl, hb, ⟨-, -, x2, -, -⟩, -, -, h3, -⟩ := hA.td ho
  subst hM
  have HB0 := Lib.hid ((Below.refl w.heap.size w).alloc (Nat.le_refl _) (.cells #[.int .i64 o, .int .i64 jj] 27))
  obtain ⟨q0, q1, qf⟩ := row2 (heap_alloc_new w (.cells #[.int .i64 o, .int .i64 jj] 27))
  have x2b := (HB0.out.cell (p := ⟨b, p + o * 5 + 2, none⟩) (block_lt x2)).trans x2
  rw [h3] at hno
  have hon : (o : Int) < MM := by omega
  have ho0 : (0 : Int) ≤ o := by omega
  have e1 : decide ((o : Int) < 0) = false := by simp
  have e2 : decide (MM ≤ o) = false := by simp; omega
  have h0 : ¬ jj < 0 := by omega
  have e3 : decide (jj < 0) = false := by simpa using h
  have e4 : decide ((n3 : Int) ≤ jj) = true := by simpa using hno
  clear hA hn h3 ho x2 hb
  go_enter Tryz.func9, Tryz.ntmps9
  go_upto_region 1 with fail
  go_quiet (fail)
  have HB1 := Lib.hid (below_drewN HB0.out nq)
  go_wp2
  go_ret2
  exact ⟨HB1.out, rfl⟩
theorem raddr_any (l : List ObjD) (A : Option Addr) (n c lo hi : Nat) (hn : l.length = n) (hmx : n ≤ 1000000) (hsy : ∀ i (h : i < l.length), l[i].syms.length ≤ 1000000) (xs : List (Int × Int)) (As : Option Addr) (m cs base : Nat) (w : World) (hA : ObjsAt w lo hi l A) (hh : hi ≤ w.heap.size) (hS : SpAt w base xs (.slice As m cs)) (oo jj : Int) :
    Calls Tryz.prog 9 #[.slice A n c, .slice As m cs, .agg #[.int .i64 oo, .int .i64 jj]] w (AdrP (adrF l xs oo jj) w) := by
  have hxm := hS.len
  by_cases h1 : m = n
  case neg =>
    rw [show adrF l xs oo jj = none from by unfold adrF; rw [if_neg (by omega)]]
    exact raddr_no1 A As n m c cs h1 oo jj w
  subst h1
  by_cases h2 : 0 ≤ oo ∧ oo < m
  case neg =>
    rw [show adrF l xs oo jj = none from by unfold adrF; rw [if_neg (by rw [hn]; rintro ⟨_, h, _⟩; exact h2 h)]]
    by_cases h4 : oo < 0
    · exact raddr_no2 A As m m c cs rfl oo jj w h4
    · exact raddr_no3 A As m m c cs rfl oo jj w (by omega) (by omega)
  obtain ⟨o, rfl⟩ := Int.eq_ofNat_of_zero_le h2.1
  have ho : o < l.length := by omega
  by_cases h3 : 0 ≤ jj ∧ jj < l[o].syms.length
  case neg =>
    rw [show adrF l xs (o : Int) jj = none from by
      unfold adrF
      rw [if_neg (by
        rintro ⟨_, _, h⟩
        rw [Int.toNat_natCast, nAt_get ho] at h
        exact h3 h)]]
    by_cases h4 : jj < 0
    · exact raddr_no4 l A As m m c cs lo hi rfl hn o ho jj w hA h4
    · exact raddr_no5 l A As m m c cs lo hi rfl hn o ho jj w hA (by omega) (by omega)
  obtain ⟨j, rfl⟩ := Int.eq_ofNat_of_zero_le h3.1
  have hj : j < l[o].syms.length := by omega
  have hx : o < xs.length := by omega
  rw [show adrF l xs (o : Int) (j : Int) = some (adr1 xs[o] l[o].syms[j].2.1 l[o].syms[j].2.2.1) from by
    unfold adrF
    rw [if_pos (by rw [Int.toNat_natCast, nAt_get ho]; omega)]
    unfold symAt
    simp only [Int.toNat_natCast, nAt_get ho, List.getD_eq_getElem?_getD, List.getElem?_eq_getElem hx, List.getElem?_eq_getElem hj, Option.getD_some]]
  exact raddr_yes l A m c lo hi hn hmx xs As cs base w hA hh hS o j ho hj (hsy o ho) hx
end Go.Proofs.YtjngkifoaljmaaaGreatDoor
namespace Go.Proofs.YtjngkifoaljmaaaGreatDoor
set_option maxRecDepth 100000
open Go.RowKit
set_option linter.unusedVariables false
def DecR (v n rd r1 r2 im : Int) : Prop := ∀ w : World, Calls Tryz.prog 53 #[.int .u32 v] w fun e w' => e = .returned (.tuple #[.agg #[.int .i64 n, .int .i64 rd, .int .i64 r1, .int .i64 r2, .int .i64 im], .int .i64 0]) ∧ Below w.heap.size w w'
def EncR (n rd r1 r2 im out f : Int) : Prop := ∀ w : World, Calls Tryz.prog 16 #[.agg #[.int .i64 n, .int .i64 rd, .int .i64 r1, .int .i64 r2, .int .i64 im]] w fun e w' => e = .returned (.tuple #[.int .u32 out, .int .i64 f]) ∧ Below w.heap.size w w'
def RRel (ok : Bool) (out : Int) (w : World) (e : Ending) (w' : World) : Prop := Below w.heap.size w w' ∧ e = .returned (.tuple #[.int .u32 (if ok then out else 0), .int .i64 (if ok then 0 else 5)])
theorem below_box {w w1 : World} {b : Nat} {u : Value} (h : Below w.heap.size w w1) (hb : w.heap.size ≤ b) : Below w.heap.size w (w1.setCell ⟨b, 4, none⟩ u) := below_setNew h hb
set_option maxHeartbeats 2000000 in
theorem rr_k0 (v rd r1 r2 im0 p x out f : Int) (ok : Bool) (hok : f = if ok then 0 else 1) (hx : IsU x) (hp : IsU p) (w : World) (HD : Hid (DecR v 38 rd r1 r2 im0)) (HE : Hid (EncR 38 rd r1 r2 (wrap64 (IntKind.u64.wrap (IntKind.u64.wrap (x + 2048) - (IntKind.u64.wrap (x + 2048)).tmod 4096))) out f)) :
    Calls Tryz.prog 29 #[.int .u32 v, .int .i64 0, .int .u64 p, .int .u64 x] w (RRel ok out w) := by
  have HU := Lib.hid (And.intro hx hp)
  obtain ⟨hx0, hx1⟩ := hx
  obtain ⟨hp0, hp1⟩ := hp
  go_enter Tryz.func29, Tryz.ntmps29
  go_wp2_with fail
  refine (HD.out _).mono ?_
  rintro e w1 ⟨rfl, hb⟩
  have HX := Lib.hid (heap_alloc_new w1 (.cells #[.int .i64 38, .int .i64 rd, .int .i64 r1, .int .i64 r2, .int .i64 im0] 49))
  have HB1 := Lib.hid (hb.alloc hb.size (.cells #[.int .i64 38, .int .i64 rd, .int .i64 r1, .int .i64 r2, .int .i64 (wrap64 (IntKind.u64.wrap (IntKind.u64.wrap (x + 2048) - (IntKind.u64.wrap (x + 2048)).tmod 4096)))] 49))
  clear hb
  obtain ⟨x0, x1, x2, x3, x4, xf⟩ := row5 HX.out
  go_wp2_with fail
  refine (HE.out _).mono ?_
  rintro e w2 ⟨rfl, hb⟩
  have HB2 := Lib.hid (HB1.out.trans (hb.mono HB1.out.size))
  clear hb
  cases ok
  · subst hok
    go_wp2
    go_ret2
    exact ⟨HB2.out, rfl⟩
  · subst hok
    go_wp2
    go_ret2
    exact ⟨HB2.out, rfl⟩
set_option maxHeartbeats 2000000 in
theorem rr_k1_16 (v rd r1 r2 im0 p x out f : Int) (ok : Bool) (hok : f = if ok then 0 else 1) (hx : IsU x) (hp : IsU p) (w : World) (HD : Hid (DecR v 16 rd r1 r2 im0)) (HE : Hid (EncR 16 rd r1 r2 (sgn (x % 4096) 12) out f)) :
    Calls Tryz.prog 29 #[.int .u32 v, .int .i64 1, .int .u64 p, .int .u64 x] w (RRel ok out w) := by
  have HU := Lib.hid (And.intro hx hp)
  obtain ⟨hx0, hx1⟩ := hx
  obtain ⟨hp0, hp1⟩ := hp
  have hm : x.tmod 4096 = x % 4096 := Int.tmod_eq_emod_of_nonneg hx0
  have HSg := Lib.hid (rsign_yes (x % 4096) 12 ⟨by omega, by omega⟩ (by omega) (by omega))
  go_enter Tryz.func29, Tryz.ntmps29
  go_wp2_with fail
  refine (HD.out _).mono ?_
  rintro e w1 ⟨rfl, hb⟩
  have HX := Lib.hid (heap_alloc_new w1 (.cells #[.int .i64 16, .int .i64 rd, .int .i64 r1, .int .i64 r2, .int .i64 im0] 49))
  have HB1 := Lib.hid (hb.alloc hb.size (.cells #[.int .i64 16, .int .i64 rd, .int .i64 r1, .int .i64 r2, .int .i64 (sgn (x % 4096) 12)] 49))
  clear hb
  obtain ⟨x0, x1, x2, x3, x4, xf⟩ := row5 HX.out
  go_wp2_with fail
  refine (HSg.out _).mono ?_
  rintro e w3 ⟨rfl, rfl⟩
  go_wp2_with fail
  refine (HE.out _).mono ?_
  rintro e w2 ⟨rfl, hb⟩
  have HB2 := Lib.hid (HB1.out.trans (hb.mono HB1.out.size))
  clear hb
  cases ok
  · subst hok
    go_wp2
    go_ret2
    exact ⟨HB2.out, rfl⟩
  · subst hok
    go_wp2
    go_ret2
    exact ⟨HB2.out, rfl⟩
set_option maxHeartbeats 2000000 in
theorem rr_k1_26 (v rd r1 r2 im0 p x out f : Int) (ok : Bool) (hok : f = if ok then 0 else 1) (hx : IsU x) (hp : IsU p) (w : World) (HD : Hid (DecR v 26 rd r1 r2 im0)) (HE : Hid (EncR 26 rd r1 r2 (sgn (x % 4096) 12) out f)) :
    Calls Tryz.prog 29 #[.int .u32 v, .int .i64 1, .int .u64 p, .int .u64 x] w (RRel ok out w) := by
  have HU := Lib.hid (And.intro hx hp)
  obtain ⟨hx0, hx1⟩ := hx
  obtain ⟨hp0, hp1⟩ := hp
  have hm : x.tmod 4096 = x % 4096 := Int.tmod_eq_emod_of_nonneg hx0
  have HSg := Lib.hid (rsign_yes (x % 4096) 12 ⟨by omega, by omega⟩ (by omega) (by omega))
  go_enter Tryz.func29, Tryz.ntmps29
  go_wp2_with fail
  refine (HD.out _).mono ?_
  rintro e w1 ⟨rfl, hb⟩
  have HX := Lib.hid (heap_alloc_new w1 (.cells #[.int .i64 26, .int .i64 rd, .int .i64 r1, .int .i64 r2, .int .i64 im0] 49))
  have HB1 := Lib.hid (hb.alloc hb.size (.cells #[.int .i64 26, .int .i64 rd, .int .i64 r1, .int .i64 r2, .int .i64 (sgn (x % 4096) 12)] 49))
  clear hb
  obtain ⟨x0, x1, x2, x3, x4, xf⟩ := row5 HX.out
  go_wp2_with fail
  refine (HSg.out _).mono ?_
  rintro e w3 ⟨rfl, rfl⟩
  go_wp2_with fail
  refine (HE.out _).mono ?_
  rintro e w2 ⟨rfl, hb⟩
  have HB2 := Lib.hid (HB1.out.trans (hb.mono HB1.out.size))
  clear hb
  cases ok
  · subst hok
    go_wp2
    go_ret2
    exact ⟨HB2.out, rfl⟩
  · subst hok
    go_wp2
    go_ret2
    exact ⟨HB2.out, rfl⟩
set_option maxHeartbeats 2000000 in
theorem rr_k1_28 (v rd r1 r2 im0 p x out f : Int) (ok : Bool) (hok : f = if ok then 0 else 1) (hx : IsU x) (hp : IsU p) (w : World) (HD : Hid (DecR v 28 rd r1 r2 im0)) (HE : Hid (EncR 28 rd r1 r2 (sgn (x % 4096) 12) out f)) :
    Calls Tryz.prog 29 #[.int .u32 v, .int .i64 1, .int .u64 p, .int .u64 x] w (RRel ok out w) := by
  have HU := Lib.hid (And.intro hx hp)
  obtain ⟨hx0, hx1⟩ := hx
  obtain ⟨hp0, hp1⟩ := hp
  have hm : x.tmod 4096 = x % 4096 := Int.tmod_eq_emod_of_nonneg hx0
  have HSg := Lib.hid (rsign_yes (x % 4096) 12 ⟨by omega, by omega⟩ (by omega) (by omega))
  go_enter Tryz.func29, Tryz.ntmps29
  go_wp2_with fail
  refine (HD.out _).mono ?_
  rintro e w1 ⟨rfl, hb⟩
  have HX := Lib.hid (heap_alloc_new w1 (.cells #[.int .i64 28, .int .i64 rd, .int .i64 r1, .int .i64 r2, .int .i64 im0] 49))
  have HB1 := Lib.hid (hb.alloc hb.size (.cells #[.int .i64 28, .int .i64 rd, .int .i64 r1, .int .i64 r2, .int .i64 (sgn (x % 4096) 12)] 49))
  clear hb
  obtain ⟨x0, x1, x2, x3, x4, xf⟩ := row5 HX.out
  go_wp2_with fail
  refine (HSg.out _).mono ?_
  rintro e w3 ⟨rfl, rfl⟩
  go_wp2_with fail
  refine (HE.out _).mono ?_
  rintro e w2 ⟨rfl, hb⟩
  have HB2 := Lib.hid (HB1.out.trans (hb.mono HB1.out.size))
  clear hb
  cases ok
  · subst hok
    go_wp2
    go_ret2
    exact ⟨HB2.out, rfl⟩
  · subst hok
    go_wp2
    go_ret2
    exact ⟨HB2.out, rfl⟩
set_option maxHeartbeats 2000000 in
theorem rr_k1_29 (v rd r1 r2 im0 p x out f : Int) (ok : Bool) (hok : f = if ok then 0 else 1) (hx : IsU x) (hp : IsU p) (w : World) (HD : Hid (DecR v 29 rd r1 r2 im0)) (HE : Hid (EncR 29 rd r1 r2 (sgn (x % 4096) 12) out f)) :
    Calls Tryz.prog 29 #[.int .u32 v, .int .i64 1, .int .u64 p, .int .u64 x] w (RRel ok out w) := by
  have HU := Lib.hid (And.intro hx hp)
  obtain ⟨hx0, hx1⟩ := hx
  obtain ⟨hp0, hp1⟩ := hp
  have hm : x.tmod 4096 = x % 4096 := Int.tmod_eq_emod_of_nonneg hx0
  have HSg := Lib.hid (rsign_yes (x % 4096) 12 ⟨by omega, by omega⟩ (by omega) (by omega))
  go_enter Tryz.func29, Tryz.ntmps29
  go_wp2_with fail
  refine (HD.out _).mono ?_
  rintro e w1 ⟨rfl, hb⟩
  have HX := Lib.hid (heap_alloc_new w1 (.cells #[.int .i64 29, .int .i64 rd, .int .i64 r1, .int .i64 r2, .int .i64 im0] 49))
  have HB1 := Lib.hid (hb.alloc hb.size (.cells #[.int .i64 29, .int .i64 rd, .int .i64 r1, .int .i64 r2, .int .i64 (sgn (x % 4096) 12)] 49))
  clear hb
  obtain ⟨x0, x1, x2, x3, x4, xf⟩ := row5 HX.out
  go_wp2_with fail
  refine (HSg.out _).mono ?_
  rintro e w3 ⟨rfl, rfl⟩
  go_wp2_with fail
  refine (HE.out _).mono ?_
  rintro e w2 ⟨rfl, hb⟩
  have HB2 := Lib.hid (HB1.out.trans (hb.mono HB1.out.size))
  clear hb
  cases ok
  · subst hok
    go_wp2
    go_ret2
    exact ⟨HB2.out, rfl⟩
  · subst hok
    go_wp2
    go_ret2
    exact ⟨HB2.out, rfl⟩
set_option maxHeartbeats 2000000 in
theorem rr_k1_31 (v rd r1 r2 im0 p x out f : Int) (ok : Bool) (hok : f = if ok then 0 else 1) (hx : IsU x) (hp : IsU p) (w : World) (HD : Hid (DecR v 31 rd r1 r2 im0)) (HE : Hid (EncR 31 rd r1 r2 (sgn (x % 4096) 12) out f)) :
    Calls Tryz.prog 29 #[.int .u32 v, .int .i64 1, .int .u64 p, .int .u64 x] w (RRel ok out w) := by
  have HU := Lib.hid (And.intro hx hp)
  obtain ⟨hx0, hx1⟩ := hx
  obtain ⟨hp0, hp1⟩ := hp
  have hm : x.tmod 4096 = x % 4096 := Int.tmod_eq_emod_of_nonneg hx0
  have HSg := Lib.hid (rsign_yes (x % 4096) 12 ⟨by omega, by omega⟩ (by omega) (by omega))
  go_enter Tryz.func29, Tryz.ntmps29
  go_wp2_with fail
  refine (HD.out _).mono ?_
  rintro e w1 ⟨rfl, hb⟩
  have HX := Lib.hid (heap_alloc_new w1 (.cells #[.int .i64 31, .int .i64 rd, .int .i64 r1, .int .i64 r2, .int .i64 im0] 49))
  have HB1 := Lib.hid (hb.alloc hb.size (.cells #[.int .i64 31, .int .i64 rd, .int .i64 r1, .int .i64 r2, .int .i64 (sgn (x % 4096) 12)] 49))
  clear hb
  obtain ⟨x0, x1, x2, x3, x4, xf⟩ := row5 HX.out
  go_wp2_with fail
  refine (HSg.out _).mono ?_
  rintro e w3 ⟨rfl, rfl⟩
  go_wp2_with fail
  refine (HE.out _).mono ?_
  rintro e w2 ⟨rfl, hb⟩
  have HB2 := Lib.hid (HB1.out.trans (hb.mono HB1.out.size))
  clear hb
  cases ok
  · subst hok
    go_wp2
    go_ret2
    exact ⟨HB2.out, rfl⟩
  · subst hok
    go_wp2
    go_ret2
    exact ⟨HB2.out, rfl⟩
set_option maxHeartbeats 2000000 in
theorem rr_k2 (v rd r1 r2 im0 p x out f : Int) (ok : Bool) (hok : f = if ok then 0 else 1) (hx : IsU x) (hp : IsU p) (w : World) (HD : Hid (DecR v 40 rd r1 r2 im0)) (HE : Hid (EncR 40 rd r1 r2 (wrap64 (IntKind.u64.wrap (x - p))) out f)) :
    Calls Tryz.prog 29 #[.int .u32 v, .int .i64 2, .int .u64 p, .int .u64 x] w (RRel ok out w) := by
  have HU := Lib.hid (And.intro hx hp)
  obtain ⟨hx0, hx1⟩ := hx
  obtain ⟨hp0, hp1⟩ := hp
  go_enter Tryz.func29, Tryz.ntmps29
  go_wp2_with fail
  refine (HD.out _).mono ?_
  rintro e w1 ⟨rfl, hb⟩
  have HX := Lib.hid (heap_alloc_new w1 (.cells #[.int .i64 40, .int .i64 rd, .int .i64 r1, .int .i64 r2, .int .i64 im0] 49))
  have HB1 := Lib.hid (hb.alloc hb.size (.cells #[.int .i64 40, .int .i64 rd, .int .i64 r1, .int .i64 r2, .int .i64 (wrap64 (IntKind.u64.wrap (x - p)))] 49))
  clear hb
  obtain ⟨x0, x1, x2, x3, x4, xf⟩ := row5 HX.out
  go_wp2_with fail
  refine (HE.out _).mono ?_
  rintro e w2 ⟨rfl, hb⟩
  have HB2 := Lib.hid (HB1.out.trans (hb.mono HB1.out.size))
  clear hb
  cases ok
  · subst hok
    go_wp2
    go_ret2
    exact ⟨HB2.out, rfl⟩
  · subst hok
    go_wp2
    go_ret2
    exact ⟨HB2.out, rfl⟩
set_option maxHeartbeats 2000000 in
theorem rr_k3 (v rd r1 r2 im0 p x out f : Int) (ok : Bool) (hok : f = if ok then 0 else 1) (hx : IsU x) (hp : IsU p) (n : Nat) (hn0 : 32 ≤ n) (hn1 : n ≤ 37) (w : World) (HD : Hid (DecR v ((n : Nat) : Int) rd r1 r2 im0)) (HE : Hid (EncR ((n : Nat) : Int) rd r1 r2 (wrap64 (IntKind.u64.wrap (x - p))) out f)) :
    Calls Tryz.prog 29 #[.int .u32 v, .int .i64 3, .int .u64 p, .int .u64 x] w (RRel ok out w) := by
  have HU := Lib.hid (And.intro hx hp)
  obtain ⟨hx0, hx1⟩ := hx
  obtain ⟨hp0, hp1⟩ := hp
  have hn2 : (n : Int) ≥ 32 := by omega
  have hn3 : (n : Int) ≤ 37 := by omega
  go_enter Tryz.func29, Tryz.ntmps29
  go_wp2_with fail
  refine (HD.out _).mono ?_
  rintro e w1 ⟨rfl, hb⟩
  have HX := Lib.hid (heap_alloc_new w1 (.cells #[.int .i64 ((n : Nat) : Int), .int .i64 rd, .int .i64 r1, .int .i64 r2, .int .i64 im0] 49))
  have HB1 := Lib.hid (hb.alloc hb.size (.cells #[.int .i64 ((n : Nat) : Int), .int .i64 rd, .int .i64 r1, .int .i64 r2, .int .i64 (wrap64 (IntKind.u64.wrap (x - p)))] 49))
  clear hb
  obtain ⟨x0, x1, x2, x3, x4, xf⟩ := row5 HX.out
  go_wp2_with fail
  refine (HE.out _).mono ?_
  rintro e w2 ⟨rfl, hb⟩
  have HB2 := Lib.hid (HB1.out.trans (hb.mono HB1.out.size))
  clear hb
  cases ok
  · subst hok
    go_wp2
    go_ret2
    exact ⟨HB2.out, rfl⟩
  · subst hok
    go_wp2
    go_ret2
    exact ⟨HB2.out, rfl⟩
theorem num_k0 {p x : Int} (hx : IsU x) : numV 0 p x = wrap64 (IntKind.u64.wrap (IntKind.u64.wrap (x + 2048) - (IntKind.u64.wrap (x + 2048)).tmod 4096)) := by
  obtain ⟨z0, z1⟩ := wrU (x + 2048)
  unfold numV
  rw [if_pos rfl]
  generalize IntKind.u64.wrap (x + 2048) = Z at *
  obtain ⟨m, rfl⟩ := Int.eq_ofNat_of_zero_le z0
  unfold put putN
  have e2 : (2 : Nat) ^ Int.toNat 0 * (2 ^ Int.toNat 12 * (((m : Int).toNat) / 2 ^ (Int.toNat 0 + Int.toNat 12)) + Int.toNat 0 % 2 ^ Int.toNat 12) + ((m : Int).toNat) % 2 ^ Int.toNat 0 = 4096 * (m / 4096) := by
    simp only [Int.toNat_natCast]
    have a : (2 : Nat) ^ Int.toNat 0 = 1 := rfl
    have b : (2 : Nat) ^ Int.toNat 12 = 4096 := rfl
    have c : (2 : Nat) ^ (Int.toNat 0 + Int.toNat 12) = 4096 := rfl
    have d : Int.toNat 0 = 0 := rfl
    rw [a, b, c, d]
    omega
  rw [e2, Int.tmod_eq_emod_of_nonneg z0, IntKind.wrap_u64]
  congr 1
  omega
theorem num_k1 {p x : Int} (hx : IsU x) : numV 1 p x = sgn (x % 4096) 12 := by
  obtain ⟨m, rfl⟩ := Int.eq_ofNat_of_zero_le hx.1
  unfold numV
  rw [if_neg (by omega), if_pos rfl]
  unfold sgn
  have b : (2 : Nat) ^ Int.toNat 12 = 4096 := rfl
  have e : (((m : Int) % 4096).toNat) % 4096 = m % 4096 := by omega
  rw [b, Int.toNat_natCast, e]
theorem num_I {kind p x : Int} (hx : IsU x) (hk : kind = 0 ∨ kind = 1 ∨ kind = 2 ∨ kind = 3) : IsI (numV kind p x) := by
  rcases hk with rfl | rfl | rfl | rfl
  · rw [num_k0 hx]; unfold wrap64; exact ⟨by omega, by omega⟩
  · obtain ⟨m, rfl⟩ := Int.eq_ofNat_of_zero_le hx.1
    unfold numV sgn
    rw [if_neg (by omega), if_pos rfl]
    have b : (2 : Nat) ^ Int.toNat 12 = 4096 := rfl
    rw [b, Int.toNat_natCast]
    unfold IsI
    split <;> omega
  · unfold numV
    rw [if_neg (by omega), if_neg (by omega)]
    unfold wrap64; exact ⟨by omega, by omega⟩
  · unfold numV
    rw [if_neg (by omega), if_neg (by omega)]
    unfold wrap64; exact ⟨by omega, by omega⟩
theorem rreloc_any (v kind p x : Int) (n : Nat) (hv : IsW v) (ho : opOf v = some n) (hs : suitB kind n = true) (hp : IsU p) (hx : IsU x) (w : World) :
    Calls Tryz.prog 29 #[.int .u32 v, .int .i64 kind, .int .u64 p, .int .u64 x] w (RRel (doneV v kind p x).isSome ((doneV v kind p x).getD 0) w) := by
  obtain ⟨hn, hM⟩ := opOf_some ho
  have hd : doneV v kind p x = insW n v (numV kind p x) := by unfold doneV; rw [ho]
  rw [hd]
  have HD : DecR v n (regI v 7 (lRd (opS n))) (regI v 15 (lR1 (opS n))) (regI v 20 (lR2 (opS n))) (numberI v (opS n)) := fun w => rdecode_yes v n w hv hn hM
  have hk4 : kind = 0 ∨ kind = 1 ∨ kind = 2 ∨ kind = 3 := by
    unfold suitB at hs
    by_cases h0 : kind = 0
    · exact .inl h0
    · by_cases h1 : kind = 1
      · exact .inr (.inl h1)
      · by_cases h2 : kind = 2
        · exact .inr (.inr (.inl h2))
        · by_cases h3 : kind = 3
          · exact .inr (.inr (.inr h3))
          · rw [if_neg h0, if_neg h1, if_neg h2, if_neg h3] at hs; cases hs
  have hI := num_I (p := p) hx hk4
  have HE : ∃ out f, (f = if (insW n v (numV kind p x)).isSome then 0 else 1) ∧ (insW n v (numV kind p x)).getD 0 = (if (insW n v (numV kind p x)).isSome then out else 0) ∧ EncR n (regI v 7 (lRd (opS n))) (regI v 15 (lR1 (opS n))) (regI v 20 (lR2 (opS n))) (numV kind p x) out f := by
    unfold insW
    cases hm : mayB n (regI v 7 (lRd (opS n))) (regI v 15 (lR1 (opS n))) (regI v 20 (lR2 (opS n))) (numV kind p x) with
    | true => exact ⟨_, 0, by simp, by simp, fun w => renc_yes n _ _ _ _ w hn hI hm⟩
    | false => exact ⟨0, 1, by simp, by simp, fun w => renc_no n _ _ _ _ w hn hI hm⟩
  obtain ⟨out, f, hf, hout, HE⟩ := HE
  generalize (insW n v (numV kind p x)).isSome = ok at *
  rw [hout]
  have hR : ∀ e w', RRel ok out w e w' → RRel ok (if ok then out else 0) w e w' := fun e w' h => by
    cases ok
    · exact h
    · exact h
  suffices h : Calls Tryz.prog 29 #[.int .u32 v, .int .i64 kind, .int .u64 p, .int .u64 x] w (RRel ok out w) from h.mono hR
  rcases hk4 with rfl | rfl | rfl | rfl
  · have hn38 : n = 38 := by simpa [suitB] using hs
    subst hn38
    rw [num_k0 hx] at HE
    exact rr_k0 v _ _ _ _ p x out f ok hf hx hp w (Lib.hid HD) (Lib.hid HE)
  · have hn5 : n = 16 ∨ n = 26 ∨ n = 28 ∨ n = 29 ∨ n = 31 := by
      have : (n == 16 || n == 26 || n == 28 || n == 29 || n == 31) = true := hs
      simp only [Bool.or_eq_true, beq_iff_eq] at this
      omega
    rw [num_k1 hx] at HE
    rcases hn5 with rfl | rfl | rfl | rfl | rfl
    · exact rr_k1_16 v _ _ _ _ p x out f ok hf hx hp w (Lib.hid HD) (Lib.hid HE)
    · exact rr_k1_26 v _ _ _ _ p x out f ok hf hx hp w (Lib.hid HD) (Lib.hid HE)
    · exact rr_k1_28 v _ _ _ _ p x out f ok hf hx hp w (Lib.hid HD) (Lib.hid HE)
    · exact rr_k1_29 v _ _ _ _ p x out f ok hf hx hp w (Lib.hid HD) (Lib.hid HE)
    · exact rr_k1_31 v _ _ _ _ p x out f ok hf hx hp w (Lib.hid HD) (Lib.hid HE)
  · have hn40 : n = 40 := by
      have : (n == 40) = true := hs
      simpa using this
    subst hn40
    have e : numV 2 p x = wrap64 (IntKind.u64.wrap (x - p)) := by unfold numV; rw [if_neg (by omega), if_neg (by omega)]
    rw [e] at HE
    exact rr_k2 v _ _ _ _ p x out f ok hf hx hp w (Lib.hid HD) (Lib.hid HE)
  · have hn4 : (decide (32 ≤ n) && decide (n ≤ 37)) = true := by
      rw [← suit_tell n hn]; exact hs
    simp only [Bool.and_eq_true, decide_eq_true_eq] at hn4
    have e : numV 3 p x = wrap64 (IntKind.u64.wrap (x - p)) := by unfold numV; rw [if_neg (by omega), if_neg (by omega)]
    rw [e] at HE
    exact rr_k3 v _ _ _ _ p x out f ok hf hx hp n hn4.1 hn4.2 w (Lib.hid HD) (Lib.hid HE)
end Go.Proofs.YtjngkifoaljmaaaGreatDoor
