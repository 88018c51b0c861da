/- Layer 8: which kinds suit which words, plainly. No condition.
   Layer 8: what PlaceSpots and PlaceMoved reckon. No condition.
   Layer 8: the objects that PlaceAlone makes, plainly. No condition. -/
import Derived.Test.YtjngkifoaljmaaaDoorPlaF
import Derived.Test.YtjngkifoaljmaaaDoorInsC
import Derived.Test.YtjngkifoaljmaaaDoorPlaI
namespace Go.Proofs.YtjngkifoaljmaaaDoor
set_option maxRecDepth 100000
open Go.RowKit
set_option linter.unusedVariables false
theorem su_yes {v kind : Int} {n : Nat} (h : opOf v = some n) (hs : suitB kind n = true) : mayO (suO v kind) = true := by
  unfold mayO suO fewB textB symsB relsB entsB relOkB relAt nth opsL
  simp [h, hs, inB, List.range_succ]
  decide +kernel
theorem su_no {v kind : Int} {n : Nat} (h : opOf v = some n) (hs : suitB kind n = false) : mayO (suO v kind) = false := by
  unfold mayO suO relsB relOkB relAt nth opsL
  simp [h, hs, List.range_succ]
theorem su_none {v kind : Int} (h : opOf v = none) : mayO (suO v kind) = false := by
  unfold mayO suO textB
  simp [h]
theorem op_of {x : Int} {n : Nat} (hn : n < 43) (h : Match x n) : opOf x = some n := by
  cases e : opOf x with
  | none => exact absurd h (opOf_none e n hn)
  | some m =>
    obtain ⟨h1, h2⟩ := opOf_some e
    rw [Match.one h1 hn h2 h]
/-- an instruction that may be, done -/
theorem rel_enc {n : Nat} {rd r1 r2 imm kind p v : Int} (hn : n < 43) (h : mayB n rd r1 r2 imm = true) (hs : suitB kind n = true) :
    relV (encI n rd r1 r2 imm) kind p v = if mayB n rd r1 r2 (numV kind p v) = true then (encI n rd r1 r2 (numV kind p v), 0) else (0, 5) := by
  obtain ⟨_, h2, h3, h4, h5, _⟩ := enc_read hn h
  have ho := op_of hn h2
  unfold relV
  rw [if_pos (su_yes ho hs)]
  unfold doneV
  rw [ho]
  simp only
  unfold insW
  rw [h3, h4, h5]
  by_cases hm : mayB n rd r1 r2 (numV kind p v) = true
  · rw [if_pos hm, if_pos hm]
  · rw [if_neg hm, if_neg hm]
theorem num_hi {p v : Int} (h0 : 0 ≤ v) (h1 : v < 2147481600) : numV 0 p v = v + 2048 - (v + 2048) % 4096 := by
  obtain ⟨m, rfl⟩ := Int.eq_ofNat_of_zero_le h0
  have e : IntKind.u64.wrap ((m : Int) + 2048) = ((m + 2048 : Nat) : Int) := by rw [IntKind.wrap_u64]; omega
  unfold numV put putN
  rw [if_pos rfl, e]
  have e2 : (2 : Nat) ^ Int.toNat 0 * (2 ^ Int.toNat 12 * ((((m + 2048 : Nat) : Int).toNat) / 2 ^ (Int.toNat 0 + Int.toNat 12)) + Int.toNat 0 % 2 ^ Int.toNat 12) + (((m + 2048 : Nat) : Int).toNat) % 2 ^ Int.toNat 0 = 4096 * ((m + 2048) / 4096) := by
    simp only [Int.toNat_natCast]
    have a : (2 : Nat) ^ Int.toNat 0 = 1 := rfl
    have b : (2 : Nat) ^ Int.toNat 12 = 4096 := rfl
    have c : (2 : Nat) ^ (Int.toNat 0 + Int.toNat 12) = 4096 := rfl
    have d : Int.toNat 0 = 0 := rfl
    rw [a, b, c, d]
    omega
  rw [e2]
  unfold wrap64
  omega
theorem num_lo {p v : Int} (h0 : 0 ≤ v) (h1 : v < 2147481600) : numV 1 p v = (v + 2048) % 4096 - 2048 := by
  obtain ⟨m, rfl⟩ := Int.eq_ofNat_of_zero_le h0
  unfold numV sgn
  rw [if_neg (by omega), if_pos rfl]
  have b : (2 : Nat) ^ Int.toNat 12 = 4096 := rfl
  rw [b, Int.toNat_natCast]
  split <;> omega
theorem may38 {r n : Int} (h1 : 0 ≤ r) (h2 : r < 32) (hn : IsI n) : mayB 38 r 0 0 n = true ↔ NumOk 5 n := by
  rw [← num_ok n hn (s := 5) (by decide)]
  unfold mayB
  rw [show opS 38 = 5 from rfl]
  have e0 : fitB r (lRd 5) = true := by show regB r = true; unfold regB; simp; omega
  have e1 : fitB 0 (lR1 5) = true := rfl
  have e2 : fitB 0 (lR2 5) = true := rfl
  rw [e0, e1, e2]
  simp
theorem may16 {r n : Int} (h1 : 0 ≤ r) (h2 : r < 32) (hn : IsI n) : mayB 16 r r 0 n = true ↔ NumOk 1 n := by
  rw [← num_ok n hn (s := 1) (by decide)]
  unfold mayB
  rw [show opS 16 = 1 from rfl]
  have e0 : fitB r (lRd 1) = true := by show regB r = true; unfold regB; simp; omega
  have e1 : fitB r (lR1 1) = true := by show regB r = true; unfold regB; simp; omega
  have e2 : fitB 0 (lR2 1) = true := rfl
  rw [e0, e1, e2]
  simp
theorem may40 {r n : Int} (h1 : 0 ≤ r) (h2 : r < 32) (hn : IsI n) : mayB 40 r 0 0 n = true ↔ NumOk 6 n := by
  rw [← num_ok n hn (s := 6) (by decide)]
  unfold mayB
  rw [show opS 40 = 6 from rfl]
  have e0 : fitB r (lRd 6) = true := by show regB r = true; unfold regB; simp; omega
  have e1 : fitB 0 (lR1 6) = true := rfl
  have e2 : fitB 0 (lR2 6) = true := rfl
  rw [e0, e1, e2]
  simp
theorem come_hi {r p v : Int} (h1 : 0 ≤ r) (h2 : r < 32) (h3 : 0 ≤ v) (h4 : v < 2147481600) : relV (encI 38 r 0 0 0) 0 p v = (encI 38 r 0 0 (v + 2048 - (v + 2048) % 4096), 0) ∧ mayB 38 r 0 0 (v + 2048 - (v + 2048) % 4096) = true := by
  have hm := (may38 (n := v + 2048 - (v + 2048) % 4096) h1 h2 ⟨by omega, by omega⟩).2 (by show _ ∧ _ ∧ _; omega)
  rw [rel_enc (by decide) ((may38 h1 h2 ⟨by omega, by omega⟩).2 (by show _ ∧ _ ∧ _; omega)) (by decide), num_hi h3 h4, if_pos hm]
  exact ⟨rfl, hm⟩
theorem come_lo {r p v : Int} (h1 : 0 ≤ r) (h2 : r < 32) (h3 : 0 ≤ v) (h4 : v < 2147481600) : relV (encI 16 r r 0 0) 1 p v = (encI 16 r r 0 ((v + 2048) % 4096 - 2048), 0) ∧ mayB 16 r r 0 ((v + 2048) % 4096 - 2048) = true := by
  have hm := (may16 (n := (v + 2048) % 4096 - 2048) h1 h2 ⟨by omega, by omega⟩).2 (by show _ ∧ _; omega)
  rw [rel_enc (by decide) ((may16 h1 h2 ⟨by omega, by omega⟩).2 (by show _ ∧ _; omega)) (by decide), num_lo h3 h4, if_pos hm]
  exact ⟨rfl, hm⟩
theorem num_jump {p v : Int} (h0 : 0 ≤ v) (h1 : v < 2147481600) (h2 : 0 ≤ p) (h3 : p < 4294967296) : numV 2 p v = v - p := by
  unfold numV
  rw [if_neg (by omega), if_neg (by omega), IntKind.wrap_u64]
  unfold wrap64
  omega
theorem come_jump {r p v : Int} (h1 : 0 ≤ r) (h2 : r < 32) (h3 : 0 ≤ v) (h4 : v < 2147481600) (h5 : 0 ≤ p) (h6 : p < 4294967296) :
    (-1048576 ≤ v - p ∧ v - p ≤ 1048574 ∧ (v - p) % 2 = 0 → relV (encI 40 r 0 0 0) 2 p v = (encI 40 r 0 0 (v - p), 0) ∧ mayB 40 r 0 0 (v - p) = true) ∧ (¬ (-1048576 ≤ v - p ∧ v - p ≤ 1048574 ∧ (v - p) % 2 = 0) → relV (encI 40 r 0 0 0) 2 p v = (0, 5)) := by
  have hk := may40 (n := v - p) h1 h2 ⟨by omega, by omega⟩
  have g : NumOk 6 (v - p) = (-1048576 ≤ v - p ∧ v - p ≤ 1048574 ∧ (v - p) % 2 = 0) := rfl
  rw [g] at hk
  rw [rel_enc (by decide) ((may40 h1 h2 ⟨by omega, by omega⟩).2 (by show _ ∧ _ ∧ _; omega)) (by decide), num_jump h3 h4 h5 h6]
  refine ⟨fun h => ?_, fun h => ?_⟩
  · rw [if_pos (hk.2 h)]; exact ⟨rfl, hk.2 h⟩
  · rw [if_neg (fun e => h (hk.1 e))]
end Go.Proofs.YtjngkifoaljmaaaDoor
namespace Go.Proofs.YtjngkifoaljmaaaDoor
set_option maxRecDepth 100000
open Go.RowKit
set_option linter.unusedVariables false
/-- a right list's Sym lies within its part, or at its end -/
theorem may_sym {l : List ObjD} (h : mayLs l = true) {i j : Nat} (hi : i < l.length) (hj : j < l[i].syms.length) :
    0 ≤ l[i].syms[j].2.2.1 ∧ l[i].syms[j].2.2.1 ≤ (if l[i].syms[j].2.1 = true then 8 * (l[i].data.length : Int) else 4 * (l[i].text.length : Int)) := by
  unfold mayLs at h
  simp only [Bool.and_eq_true] at h
  have h1 := List.all_eq_true.1 h.2 l[i] (List.getElem_mem hi)
  unfold mayO at h1
  simp only [Bool.and_eq_true] at h1
  obtain ⟨⟨⟨⟨_, _⟩, h3⟩, _⟩, _⟩ := h1
  have h4 : symOkB l[i] j = true := range_all_of h3 hj
  unfold symOkB at h4
  simp only [Bool.and_eq_true] at h4
  obtain ⟨⟨⟨_, _⟩, _⟩, h5⟩ := h4
  unfold inB at h5
  simp only [Bool.and_eq_true, decide_eq_true_eq] at h5
  have e : symAt l[i] j = l[i].syms[j] := by unfold symAt; simp [hj]
  rw [e] at h5
  obtain ⟨h5, h6⟩ := h5
  refine ⟨h5, ?_⟩
  cases hb : l[i].syms[j].2.1 with
  | false => rw [hb] at h6; simpa [unitI] using h6
  | true => rw [hb] at h6; simpa [unitI] using h6
theorem may_few {l : List ObjD} (h : mayLs l = true) {i : Nat} (hi : i < l.length) : l[i].text.length ≤ 4096 ∧ l[i].data.length ≤ 1024 ∧ l[i].syms.length ≤ 1000000 ∧ l[i].rels.length ≤ 16384 := by
  unfold mayLs at h
  simp only [Bool.and_eq_true] at h
  have h1 := List.all_eq_true.1 h.2 l[i] (List.getElem_mem hi)
  rw [mayO_eq] at h1
  simp only [Bool.and_eq_true] at h1
  have h2 := few_of h1.1.1
  exact ⟨h2.1, h2.2.1, by have := h2.2.2.1; omega, by have := h2.2.2.2.1; omega⟩
/-- where all relocations of a word come to the same, so does it -/
theorem relT_like {l : List ObjD} {xs xs' : List (Int × Int)} {i : Nat} {d : ObjD} {p : Nat} : ∀ {j : Nat} {t t' : List Int}, relT l xs i d j = some t → relT l xs' i d j = some t' → (∀ q, q < j → posR d q = p → relX l xs i d q = relX l xs' i d q) → t.getD p 0 = t'.getD p 0
  | 0, t, t', h, h', _ => by cases h; cases h'; rfl
  | j + 1, t, t', h, h', hp => by
    unfold relT at h h'
    cases e : relT l xs i d j with
    | none => rw [e] at h; cases h
    | some u =>
      cases e' : relT l xs' i d j with
      | none => rw [e'] at h'; cases h'
      | some u' =>
        rw [e] at h
        rw [e'] at h'
        cases f : relX l xs i d j with
        | none => rw [f] at h; cases h
        | some y =>
          cases f' : relX l xs' i d j with
          | none => rw [f'] at h'; cases h'
          | some y' =>
            rw [f] at h
            rw [f'] at h'
            simp only [Option.some.injEq] at h h'
            subst h
            subst h'
            have ih := relT_like e e' (fun q hq => hp q (by omega))
            simp only [List.getD_eq_getElem?_getD] at ih ⊢
            by_cases hj : posR d j = p
            · have := hp j (by omega) hj
              rw [f, f'] at this
              cases this
              rw [hj, List.getElem?_set, List.getElem?_set]
              have hl : u.length = u'.length := (relT_len e).trans (relT_len e').symm
              rw [hl, if_pos rfl, if_pos rfl]
            · rw [List.getElem?_set_ne hj, List.getElem?_set_ne hj]; exact ih
theorem sumT_mono {l : List ObjD} {i k : Nat} (h : i < k) (hk : k ≤ l.length) : sumT l i + (nAt l i).text.length ≤ sumT l k := by
  induction k with
  | zero => omega
  | succ k ih =>
    have hg := sumT_go (l := l) (k := k) (by omega)
    by_cases e : i = k
    · subst e; rw [nAt_get (by omega), hg]; omega
    · have := ih (by omega) (by omega); omega
theorem txT_like {l : List ObjD} {xs xs' : List (Int × Int)} {i j : Nat} : ∀ {k : Nat} {a a' : List Int}, k ≤ l.length → txT l xs k = some a → txT l xs' k = some a' → i < k → j < (nAt l i).text.length →
    (∀ q, q < (nAt l i).rels.length → posR (nAt l i) q = j → relX l xs i (nAt l i) q = relX l xs' i (nAt l i) q) → a.getD (sumT l i + j) 0 = a'.getD (sumT l i + j) 0
  | 0, _, _, _, _, _, hi, _, _ => by omega
  | k + 1, a, a', hk, h, h', hi, hj, hq => by
    unfold txT at h h'
    cases e : txT l xs k with
    | none => rw [e] at h; cases h
    | some u =>
      cases e' : txT l xs' k with
      | none => rw [e'] at h'; cases h'
      | some u' =>
        rw [e] at h
        rw [e'] at h'
        cases f : relT l xs k (nAt l k) (nAt l k).rels.length with
        | none => rw [f] at h; cases h
        | some t =>
          cases f' : relT l xs' k (nAt l k) (nAt l k).rels.length with
          | none => rw [f'] at h'; cases h'
          | some t' =>
            rw [f] at h
            rw [f'] at h'
            simp only [Option.some.injEq] at h h'
            subst h
            subst h'
            have l1 := txT_len (by omega) e
            have l2 := txT_len (by omega) e'
            simp only [List.getD_eq_getElem?_getD]
            by_cases ek : i = k
            · subst ek
              rw [List.getElem?_append_right (by omega), List.getElem?_append_right (by omega), l1, l2, show sumT l i + j - sumT l i = j by omega]
              have := relT_like (p := j) f f' hq
              simpa only [List.getD_eq_getElem?_getD] using this
            · have hm := sumT_mono (l := l) (i := i) (k := k) (by omega) (by omega)
              rw [List.getElem?_append_left (by omega), List.getElem?_append_left (by omega)]
              have := txT_like (i := i) (j := j) (by omega) e e' (by omega) hj hq
              simpa only [List.getD_eq_getElem?_getD] using this
theorem num_moved {kind p v p' v' : Int} (hk : ¬ kind ≤ 1) (h : IntKind.u64.wrap (v - p) = IntKind.u64.wrap (v' - p')) : numV kind p v = numV kind p' v' := by
  unfold numV
  rw [if_neg (by omega), if_neg (by omega), if_neg (by omega), if_neg (by omega), h]
theorem done_moved {x kind p v p' v' : Int} (hk : ¬ kind ≤ 1) (h : IntKind.u64.wrap (v - p) = IntKind.u64.wrap (v' - p')) : doneV x kind p v = doneV x kind p' v' := by
  unfold doneV
  rw [num_moved hk h]
theorem wrap_moved (t t' a b c e : Int) : IntKind.u64.wrap (IntKind.u64.wrap (IntKind.u64.wrap (t + a + b) + c) - IntKind.u64.wrap (t + e)) = IntKind.u64.wrap (IntKind.u64.wrap (IntKind.u64.wrap (t' + a + b) + c) - IntKind.u64.wrap (t' + e)) := by
  simp only [IntKind.wrap_u64]
  omega
theorem spL_get {l : List ObjD} {t d : Int} {k n : Nat} (h : k < n) : (spL l t d n).getD k (0, 0) = spD l t d k := by
  rw [List.getD_eq_getElem?_getD, spL_at l t d h]; rfl
/-- moved as a whole: what leads from text to text is the same -/
theorem relX_moved {l : List ObjD} {t t' d : Int} {n i q o jj : Nat} {D : ObjD} (hi : i < n) (hk : ¬ (relAt D q).2.1 ≤ 1) (hf : fndD l (i : Int) (relAt D q).2.2.1 = some ((o : Int), (jj : Int))) (ho : o < n) (hs : (symAt (nAt l o) jj).2.1 = false) :
    relX l (spL l t d n) i D q = relX l (spL l t' d n) i D q := by
  unfold relX
  refine done_moved hk ?_
  unfold tgD
  rw [hf]
  simp only
  unfold tgV adrD
  rw [spL_get hi, spL_get hi]
  simp only [Int.toNat_natCast]
  rw [spL_get ho, spL_get ho, hs]
  unfold adr1 spD
  simp only [Bool.false_eq_true, if_false]
  have h := wrap_moved t t' (4 * (sumT l o : Int)) (IntKind.u64.wrap (symAt (nAt l o) jj).2.2.1) (IntKind.u64.wrap (relAt D q).2.2.2) (4 * (sumT l i : Int) + IntKind.u64.wrap (relAt D q).1)
  rw [← Int.add_assoc, ← Int.add_assoc] at h
  exact h
theorem moved_word {l : List ObjD} (hck : (chkF l).2 = 0) {t t' d : Int} {n : Nat} {a c : List Int} (hn : l.length = n) (h1 : txT l (spL l t d n) n = some a) (h2 : txT l (spL l t' d n) n = some c) {i j : Nat} (hi : i < l.length) (hj : j < l[i].text.length)
    (hno : ∀ q (hq : q < l[i].rels.length), l[i].rels[q].1 = 4 * (j : Int) → ¬ l[i].rels[q].2.1 ≤ 1 ∧ ∀ (o jj : Nat), o < l.length → fndD l (i : Int) l[i].rels[q].2.2.1 = some ((o : Int), (jj : Int)) → (symAt (nAt l o) jj).2.1 = false) :
    a.getD (sumT l i + j) 0 = c.getD (sumT l i + j) 0 := by
  refine txT_like (k := n) (by omega) h1 h2 (by omega) (by rw [nAt_get hi]; exact hj) ?_
  intro q hq hp
  rw [nAt_get hi] at hq hp ⊢
  have hok := (may_rel (chkF_may hck) hi hq).1
  have hsp := rel_spot hok
  have er : relAt l[i] q = l[i].rels[q] := by unfold relAt; simp [hq]
  obtain ⟨o, ho, jj, hjj, hf⟩ := chk_found hck hi (List.getElem_mem hq)
  obtain ⟨g1, g2⟩ := hno q hq (by rw [← er, hsp.2.2.1, hp])
  exact relX_moved (by omega) (by rw [er]; exact g1) (by rw [er]; exact hf) (by omega) (g2 o jj ho hf)
end Go.Proofs.YtjngkifoaljmaaaDoor
namespace Go.Proofs.YtjngkifoaljmaaaDoor
set_option maxRecDepth 100000
open Go.RowKit
set_option linter.unusedVariables false
def alD8 (i : Nat) (d : List Int) : ObjD := ⟨List.replicate i 1048691, d, [], [], []⟩
def alL8 (ds : List (List Int)) (k : Nat) : List ObjD := (List.range k).map fun i => alD8 i (ds.getD i [])
theorem alL8_len (ds : List (List Int)) (k : Nat) : (alL8 ds k).length = k := by simp [alL8]
theorem alL8_get (ds : List (List Int)) {k i : Nat} (h : i < (alL8 ds k).length) : (alL8 ds k)[i] = alD8 i (ds.getD i []) := by simp [alL8]
theorem alL8_nAt (ds : List (List Int)) {k i : Nat} (h : i < k) : nAt (alL8 ds k) i = alD8 i (ds.getD i []) := by
  rw [nAt_get (by rw [alL8_len]; exact h), alL8_get]
theorem op_brk : (opOf 1048691).isSome = true := by decide +kernel
theorem alD8_may {i : Nat} {d : List Int} (hi : i ≤ 4096) (hd : d.length ≤ 1024) : mayO (alD8 i d) = true := by
  unfold mayO fewB textB symsB relsB entsB alD8
  simp only [List.length_replicate, List.length_nil, List.range_zero, List.all_nil, Bool.and_true, Bool.and_eq_true, decide_eq_true_eq]
  refine ⟨⟨⟨⟨⟨hi, hd⟩, by omega⟩, by omega⟩, by omega⟩, ?_⟩
  rw [List.all_eq_true]
  intro x hx
  rw [(List.mem_replicate.1 hx).2]
  exact op_brk
theorem alL8_mem {ds : List (List Int)} {k : Nat} {d : ObjD} (h : d ∈ alL8 ds k) : ∃ i, i < k ∧ d = alD8 i (ds.getD i []) := by
  unfold alL8 at h
  obtain ⟨i, h1, rfl⟩ := List.mem_map.1 h
  exact ⟨i, List.mem_range.1 h1, rfl⟩
theorem alL8_may {ds : List (List Int)} {k : Nat} (hk : k ≤ 16) (hd : ∀ i, i < k → (ds.getD i []).length ≤ 1024) : mayLs (alL8 ds k) = true := by
  refine mayLs_yes (by rw [alL8_len]; exact hk) (fun i hi => ?_)
  rw [alL8_len] at hi
  rw [alL8_get]
  exact alD8_may (by omega) (hd i hi)
theorem alL8_chk {ds : List (List Int)} {k : Nat} (hk : k ≤ 16) (hd : ∀ i, i < k → (ds.getD i []).length ≤ 1024) : (chkF (alL8 ds k)).2 = 0 := by
  have h1 : symN (alL8 ds k) = [] := by
    unfold symN
    rw [List.flatMap_eq_nil_iff]
    intro x hx
    obtain ⟨i, _, rfl⟩ := alL8_mem hx
    rfl
  have h2 : relN (alL8 ds k) = [] := by
    unfold relN
    rw [List.flatMap_eq_nil_iff]
    intro x hx
    obtain ⟨i, _, rfl⟩ := alL8_mem hx
    rfl
  unfold chkF clN vdN
  rw [if_neg (by rw [alL8_may hk hd]; simp), h1, h2]
  rfl
theorem alL8_w {ds : List (List Int)} {k : Nat} (hd : ∀ i, i < k → ∀ x ∈ ds.getD i [], IsU x) : ∀ d ∈ alL8 ds k, ObjW d := fun d h => by
  obtain ⟨i, hi, rfl⟩ := alL8_mem h
  exact ⟨fun x hx => by rw [(List.mem_replicate.1 hx).2]; unfold IsW; omega, hd i hi, by simp [alD8], by simp [alD8], by simp [alD8]⟩
/-- how many words of text the first k have -/
def tri (k : Nat) : Nat := ((List.range k)).sum
theorem tri_go (k : Nat) : tri (k + 1) = tri k + k := by unfold tri; rw [List.range_succ, List.sum_append]; simp
theorem tri_le : ∀ {k : Nat}, k ≤ 16 → tri k ≤ 16 * k
  | 0, _ => by simp [tri]
  | k + 1, h => by rw [tri_go]; have := tri_le (k := k) (by omega); omega
theorem alL8_sumT (ds : List (List Int)) (n : Nat) : ∀ k, k ≤ n → sumT (alL8 ds n) k = tri k
  | 0, _ => by simp [sumT, tri]
  | k + 1, h => by rw [sumT_go (by rw [alL8_len]; omega), alL8_get, alL8_sumT ds n k (by omega), tri_go]; simp [alD8]
theorem alL8_sumD {ds : List (List Int)} {n : Nat} (hd : ∀ i, i < n → (ds.getD i []).length ≤ 100) : ∀ k, k ≤ n → sumD (alL8 ds n) k ≤ 100 * k
  | 0, _ => by simp [sumD]
  | k + 1, h => by
    rw [sumD_go (by rw [alL8_len]; omega), alL8_get]
    have := alL8_sumD hd k (by omega)
    have := hd k (by omega)
    simp only [alD8]
    omega
theorem alL8_txT (ds : List (List Int)) (n : Nat) (xs : List (Int × Int)) : ∀ k, k ≤ n → ∃ a, txT (alL8 ds n) xs k = some a
  | 0, _ => ⟨[], rfl⟩
  | k + 1, h => by
    obtain ⟨a, ha⟩ := alL8_txT ds n xs k (by omega)
    refine ⟨_, txT_go ha (t := List.replicate k 1048691) ?_⟩
    rw [alL8_nAt ds (by omega)]
    rfl
theorem alL8_lk {ds : List (List Int)} {n : Nat} {t d : Int} (hn : n ≤ 10) (hd : ∀ i, i < n → (ds.getD i []).length ≤ 100) (ht : baseB t = true) (hb : baseB d = true) : lkC (alL8 ds n) t d n = 0 := by
  have hck := alL8_chk (ds := ds) (k := n) (by omega) (fun i hi => by have := hd i hi; omega)
  have hs : spC (alL8 ds n) t d = 0 := by
    unfold spC
    have h1 := alL8_sumT ds n n (Nat.le_refl _)
    have h2 := alL8_sumD hd n (Nat.le_refl _)
    have h3 := tri_le (k := n) (by omega)
    rw [if_neg (by rw [hck]; simp), alL8_len, if_neg (by omega), if_pos ⟨ht, hb⟩]
  obtain ⟨a, ha⟩ := alL8_txT ds n (spL (alL8 ds n) t d n) n (Nat.le_refl _)
  unfold lkC
  rw [if_neg (by rw [hs]; simp), ha]
  rfl
/-- all data of the first k, and one's k-th word in it -/
def posA (ds : List (List Int)) (k : Nat) : Nat := ((ds.take k).map List.length).sum
theorem posA_go {ds : List (List Int)} {k : Nat} (h : k < ds.length) : posA ds (k + 1) = posA ds k + ds[k].length := by
  unfold posA
  rw [List.take_succ_eq_append_getElem h, List.map_append, List.sum_append]
  simp
theorem alL8_daT (ds : List (List Int)) {n : Nat} (hn : n = ds.length) : ∀ k, k ≤ n → daT (alL8 ds n) k = (ds.take k).flatten
  | 0, _ => by simp [daT]
  | k + 1, h => by
    rw [daT_go (by rw [alL8_len]; omega), alL8_get, alL8_daT ds hn k (by omega), List.take_succ_eq_append_getElem (by omega), List.flatten_append]
    simp [alD8, show k < ds.length by omega]
theorem flatn_len (ds : List (List Int)) (k : Nat) : ((ds.take k).flatten).length = posA ds k := by
  unfold posA
  rw [List.length_flatten]
theorem flat_at {ds : List (List Int)} : ∀ {k j : Nat} (h : k < ds.length) (hj : j < ds[k].length), ds.flatten[posA ds k + j]? = some ds[k][j] := by
  intro k j h hj
  have e : ds.flatten = (ds.take k).flatten ++ (ds[k] ++ (ds.drop (k + 1)).flatten) := by
    conv => lhs; rw [← List.take_append_drop k ds]
    rw [List.flatten_append, List.drop_eq_getElem_cons h, List.flatten_cons]
  rw [e, List.getElem?_append_right (by rw [flatn_len]; omega), flatn_len, show posA ds k + j - posA ds k = j by omega, List.getElem?_append_left hj]
  simp [hj]
theorem enc64_at {xs : List Int} {i : Nat} (h : i < xs.length) : (xs.flatMap encU64)[i]? = some (.int .u64 xs[i]) := by
  induction xs generalizing i with
  | nil => cases h
  | cons x xs ih =>
    cases i with
    | zero => rfl
    | succ i =>
      rw [List.flatMap_cons]
      have := ih (i := i) (by simpa using h)
      simpa [encU64] using this
theorem LgAt.at_ {w : World} {base n c i : Nat} {xs : List Int} {A : Option Addr} (h : LgAt w base xs (.slice A n c)) (hi : i < xs.length) : ∃ g, A = some ⟨g, 0, none⟩ ∧ w.cell? ⟨g, i, none⟩ = some (.int .u64 xs[i]) := by
  obtain ⟨A', c', e, ho⟩ := h
  cases e
  rcases ho.2 with ⟨h1, h2⟩ | ⟨g', cap', cur, h1, h2, h3, h4, h5, h6, h7⟩
  · omega
  · cases h1
    have hx := enc64_at hi
    refine ⟨g', rfl, ?_⟩
    rw [cell_of_row w g' i _ _ _ h3]
    rw [← h7, List.getElem?_take] at hx
    split at hx
    · rw [← Array.getElem?_toList]; exact hx
    · cases hx
theorem LgAt.len {w : World} {b n c : Nat} {xs : List Int} {A : Option Addr} (h : LgAt w b xs (.slice A n c)) : xs.length = n := by
  obtain ⟨A', c', e, h⟩ := h; cases e; rfl
end Go.Proofs.YtjngkifoaljmaaaDoor
