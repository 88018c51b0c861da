/- Layer 5's statements: a world that came in: a table, rows of bytes, entries, a state. -/
import Derived.Test.YtoeagbcjnffpaaaGreatDoorMemOpen
import Derived.Test.YtoeagbcjnffpaaaGreatDoorCpuH
namespace Go.Proofs.YtoeagbcjnffpaaaGreatDoor
set_option maxRecDepth 100000
open Go.RowKit Go.ChangeShapes Go.WideShapes Go.Deep
set_option linter.unusedVariables false
/-- rows of bytes that came in -/
def IsRows (W : World) (A : Option Addr) (n : Nat) (rows : List (List Int)) : Prop :=
  rows.length = n ∧ n ≤ maxLen ∧ (0 < n → ∃ b off, A = some ⟨b, off, none⟩ ∧ ∀ i, i < n → ∃ A' c', W.cell? ⟨b, off + i, none⟩ = some (.slice A' (rowK rows i).length c') ∧ Sl W A' (rowK rows i) ∧ AllB (rowK rows i) ∧ (rowK rows i).length ≤ maxLen)
/-- entries that came in -/
def IsEnts (W : World) (A : Option Addr) (n c : Nat) (E : List Int) : Prop := E.length = n ∧ n ≤ maxLen ∧ (∀ x ∈ E, IsU x) ∧ SlU W A E ∧ (A = none → c = 0 ∧ n = 0)
/-- a state as it comes in -/
def StW (s : CS) : Prop := s.R.length = 32 ∧ (∀ x ∈ s.R, IsU x) ∧ IsU s.pc ∧ IsI s.dn
section
variable {H : Type} {enc : TypeId × Value → H} {W : World} {base b0 : Nat} {sp : Nat → Bool} {held : Bool} {v : Value} {d : DataW H} {p : List MemPlace}
theorem sl_at {a : Addr} {l : List Int} (h : ∀ i, i < l.length → W.cell? (a.add i) = some (.int .u8 (nth l i))) : Sl W (some a) l := by
  by_cases h0 : l = []
  · exact .inl h0
  · have hl : 0 < l.length := List.length_pos_iff.2 h0
    obtain ⟨b, off, spot⟩ := a
    have hs : spot = none := by
      have h00 := h 0 hl
      simpa [Addr.add] using World.cell?_spot h00
    subst hs
    refine .inr ⟨b, off, rfl, fun k hk => ?_⟩
    have := h k hk
    rw [add_off] at this
    exact this
theorem open_one_row {m : Nat} {u : Value} {x : DataW H × List MemPlace} (h : DataW.trod enc Tryz.prog W base sp held m 52 [u] = some x) :
    ∃ (A : Option Addr) (c : Nat) (l : List Int), u = .slice A l.length c ∧ Sl W A l ∧ AllB l ∧ l.length ≤ maxLen := by
  rcases open_ints Tryz.underlying52 Tryz.underlying5 (by kernel_rfl) h with ⟨hcs, _⟩ | ⟨a, len, cap, zs, hcs, _, hl, hm, hz, _, hcell, hwz⟩
  · simp at hcs
    exact ⟨none, 0, [], hcs, .inl rfl, fun x hx => by simp at hx, by simp [maxLen]⟩
  · simp at hcs
    have hzl : len ≤ zs.length := by rw [hz]; split <;> omega
    have hlen : (zs.take len).length = len := by rw [List.length_take]; omega
    refine ⟨some a, cap, zs.take len, by rw [hlen]; exact hcs, sl_at (fun i hi => ?_), fun x hx => ?_, by rw [hlen]; omega⟩
    · rw [hlen] at hi
      have := hcell i (by omega)
      rw [this]
      unfold nth
      rw [List.getD_eq_getElem?_getD, List.getD_eq_getElem?_getD, List.getElem?_take_of_lt hi]
    · have := bounds_u8 (hwz x (List.mem_of_mem_take hx))
      omega
theorem open_rowsB {m : Nat} {u : Value} {x : DataW H × List MemPlace} (h : DataW.trod enc Tryz.prog W base sp held m 23 [u] = some x) :
    ∃ (A : Option Addr) (n c : Nat) (rows : List (List Int)), u = .slice A n c ∧ IsRows W A n rows := by
  rcases open_slice1 Tryz.underlying23 (by kernel_rfl) h with ⟨hcs, _⟩ | ⟨a, len, cap, m', n', V, D, Pl, hcs, _, hl, hm, hmm, _, hi⟩
  · simp at hcs
    exact ⟨none, 0, 0, [], hcs, rfl, by simp, fun h => by omega⟩
  · simp at hcs
    have hml : len ≤ m' := by rw [hmm]; split <;> omega
    have hr : ∀ i, ∃ r : List Int, i < len → ∃ A' c', W.cell? (a.add i) = some (.slice A' r.length c') ∧ Sl W A' r ∧ AllB r ∧ r.length ≤ maxLen := by
      intro i
      by_cases hlt : i < len
      · obtain ⟨h1, h2⟩ := hi i (by omega)
        obtain ⟨A', c', l, e, q1, q2, q3⟩ := open_one_row h2
        exact ⟨l, fun _ => ⟨A', c', by rw [h1, e], q1, q2, q3⟩⟩
      · exact ⟨[], fun h => absurd h hlt⟩
    obtain ⟨f, hf⟩ := Classical.axiomOfChoice hr
    have hlen : ((List.range len).map f).length = len := by simp
    have hn : ∀ i, i < len → rowK ((List.range len).map f) i = f i := fun i hi => by simp [rowK, hi]
    refine ⟨some a, len, cap, (List.range len).map f, hcs, hlen, by omega, fun h0 => ?_⟩
    obtain ⟨b, off, spot⟩ := a
    have hs : spot = none := by
      obtain ⟨_, _, h00, _⟩ := hf 0 h0
      simpa [Addr.add] using World.cell?_spot h00
    subst hs
    refine ⟨b, off, rfl, fun i hi => ?_⟩
    obtain ⟨A', c', q0, q1, q2, q3⟩ := hf i hi
    rw [add_off] at q0
    rw [hn i hi]
    exact ⟨A', c', q0, q1, q2, q3⟩
theorem open_entsU {m : Nat} {u : Value} {x : DataW H × List MemPlace} (h : DataW.trod enc Tryz.prog W base sp held m 24 [u] = some x) :
    ∃ (A : Option Addr) (n c : Nat) (E : List Int), u = .slice A n c ∧ IsEnts W A n c E := by
  rcases open_ints Tryz.underlying24 Tryz.underlying25 (by kernel_rfl) h with ⟨hcs, _⟩ | ⟨a, len, cap, zs, hcs, _, hl, hm, hz, _, hcell, hwz⟩
  · simp at hcs
    exact ⟨none, 0, 0, [], hcs, rfl, by simp, fun x hx => by simp at hx, .inl rfl, fun _ => ⟨rfl, rfl⟩⟩
  · simp at hcs
    have hzl : len ≤ zs.length := by rw [hz]; split <;> omega
    have hlen : (zs.take len).length = len := by rw [List.length_take]; omega
    refine ⟨some a, len, cap, zs.take len, hcs, hlen, by omega, fun x hx => isU_wf (hwz x (List.mem_of_mem_take hx)), ?_, fun h => by cases h⟩
    by_cases h0 : len = 0
    · exact .inl (List.eq_nil_of_length_eq_zero (by omega))
    · obtain ⟨b, off, spot⟩ := a
      have hs : spot = none := by
        have h00 := hcell 0 (by omega)
        simpa [Addr.add] using World.cell?_spot h00
      subst hs
      refine .inr ⟨b, off, rfl, fun k hk => ?_⟩
      rw [hlen] at hk
      have := hcell k (by omega)
      rw [add_off] at this
      rw [this]
      unfold nth
      rw [List.getD_eq_getElem?_getD, List.getD_eq_getElem?_getD, List.getElem?_take_of_lt hk]
theorem open_regsR {m : Nat} {cs : List Value} {x : DataW H × List MemPlace} (hl : cs.length = 32) (h : DataW.trod enc Tryz.prog W base sp held m 26 cs = some x) :
    ∃ R : List Int, cs = R.map (Value.int .u64) ∧ R.length = 32 ∧ ∀ x ∈ R, IsU x := by
  obtain ⟨xs, m', _, hx, _, hlen, hg⟩ := DataW.trod_array Tryz.underlying26 h
  have cu : Tryz.prog.cellsOf 25 = 1 := by kernel_rfl
  have hr : ∀ i, ∃ n : Int, i < 32 → cs[i]? = some (.int .u64 n) ∧ IsU n := by
    intro i
    by_cases hlt : i < 32
    · have g := hg i hlt
      rw [cu, Nat.mul_one] at g
      have hi : i < xs.length := by omega
      rw [List.getElem?_eq_getElem hi] at g
      obtain ⟨n, e, _, w⟩ := DataW.trod_int Tryz.underlying25 g
      refine ⟨n, fun _ => ⟨?_, isU_wf w⟩⟩
      have : (List.take 1 (List.drop i cs))[0]? = some (.int .u64 n) := by rw [e]; rfl
      simpa using this
    · exact ⟨0, fun h => absurd h hlt⟩
  obtain ⟨f, hf⟩ := Classical.axiomOfChoice hr
  refine ⟨(List.range 32).map f, ?_, by simp, fun x hx => ?_⟩
  · refine List.ext_getElem? (fun i => ?_)
    by_cases hlt : i < 32
    · rw [(hf i hlt).1]; simp [hlt]
    · rw [List.getElem?_eq_none (by omega), List.getElem?_eq_none (by simp; omega)]
  · obtain ⟨i, hi, rfl⟩ := List.mem_map.1 hx
    exact (hf i (by simpa using hi)).2
theorem open_st {m : Nat} {cs : List Value} {x : DataW H × List MemPlace} (hl : cs.length = 35) (h : DataW.trod enc Tryz.prog W base sp held m 28 cs = some x) :
    ∃ s : CS, cs = stateL s ∧ StW s := by
  obtain ⟨xs, m', _, hx, _, hlen, hg⟩ := DataW.trod_struct Tryz.underlying28 h
  have ca : Tryz.prog.cellsOf 26 = 32 := by kernel_rfl
  have cu : Tryz.prog.cellsOf 25 = 1 := by kernel_rfl
  have ci : Tryz.prog.cellsOf 3 = 1 := by kernel_rfl
  have cb : Tryz.prog.cellsOf 4 = 1 := by kernel_rfl
  match xs, hlen with
  | [y0, y1, y2, y3], _ =>
    have g0 := hg 0 _ rfl
    have g1 := hg 1 _ rfl
    have g2 := hg 2 _ rfl
    have g3 := hg 3 _ rfl
    obtain ⟨R, e0, hR, hU⟩ := open_regsR (by simp [ca, hl]) g0
    obtain ⟨pc, e1, _, w1⟩ := DataW.trod_int Tryz.underlying25 g1
    obtain ⟨own, e2, _⟩ := DataW.trod_bool Tryz.underlying4 g2
    obtain ⟨dn, e3, _, w3⟩ := DataW.trod_int Tryz.underlying3 g3
    simp only [List.getElem_toArray, List.getElem_cons_zero, List.getElem_cons_succ, ca, cu, ci, cb] at e0 e1 e2 e3
    refine ⟨⟨R, pc, own, dn⟩, ?_, hR, hU, isU_wf w1, isI_wf w3⟩
    have hcut : cs = (cs.drop 0).take 32 ++ ((cs.drop 32).take 1 ++ ((cs.drop 33).take 1 ++ (cs.drop 34).take 1)) := by
      refine List.ext_getElem? (fun i => ?_)
      by_cases h1 : i < 32
      · rw [List.getElem?_append_left (by simp; omega)]; simp [h1]
      · rw [List.getElem?_append_right (by simp; omega)]
        by_cases h2 : i = 32
        · subst h2; simp [hl]
        · by_cases h3 : i = 33
          · subst h3; simp [hl]
          · by_cases h4 : i = 34
            · subst h4; simp [hl]
            · rw [List.getElem?_eq_none (by omega), List.getElem?_eq_none (by simp; omega)]
    rw [hcut, e0, e1, e2, e3]
    rfl
theorem open_world {v : Value} (hv : Value.okWide Tryz.prog W .any b0 30 v) (h : DataW.Trod enc Tryz.prog W base (fun _ => true) held 30 v d p) :
    ∃ (A0 : Option Addr) (n0 c0 : Nat) (T : List Rg) (A1 : Option Addr) (n1 c1 : Nat) (rows : List (List Int)) (A2 : Option Addr) (n2 c2 : Nat) (E : List Int) (s : CS), v = .agg (worldL (.slice A0 n0 c0) (.slice A1 n1 c1) (.slice A2 n2 c2) s).toArray ∧ IsTab W A0 n0 T ∧ n0 ≤ maxLen ∧ IsRows W A1 n1 rows ∧ IsEnts W A2 n2 c2 E ∧ StW s := by
  obtain ⟨cs, rfl, hsz⟩ := okWide_struct Tryz.underlying30 hv
  have hc : Tryz.prog.cellsOf 30 = 38 := by kernel_rfl
  have c0 : Tryz.prog.cellsOf 22 = 1 := by kernel_rfl
  have c1 : Tryz.prog.cellsOf 23 = 1 := by kernel_rfl
  have c2 : Tryz.prog.cellsOf 24 = 1 := by kernel_rfl
  have c3 : Tryz.prog.cellsOf 28 = 35 := by kernel_rfl
  have hl := hsz.trans hc
  obtain ⟨l⟩ := cs
  have hl : l.length = 38 := hl
  obtain ⟨fuel, hf⟩ := h
  obtain ⟨xs, m, _, hx, _, hlen, hg⟩ := DataW.trod_struct Tryz.underlying30 hf
  match xs, hlen with
  | [y0, y1, y2, y3], _ =>
    have g0 := hg 0 _ rfl
    have g1 := hg 1 _ rfl
    have g2 := hg 2 _ rfl
    have g3 := hg 3 _ rfl
    match l, hl with
    | u0 :: u1 :: u2 :: r, hl =>
      have hr : r.length = 35 := by simpa using hl
      have q0 : (List.take (Tryz.prog.cellsOf 22) (List.drop 0 (Value.agg ⟨u0 :: u1 :: u2 :: r⟩).cells.toList)) = [u0] := by simp [c0, Value.cells]
      have q1 : (List.take (Tryz.prog.cellsOf 23) (List.drop 1 (Value.agg ⟨u0 :: u1 :: u2 :: r⟩).cells.toList)) = [u1] := by simp [c1, Value.cells]
      have q2 : (List.take (Tryz.prog.cellsOf 24) (List.drop 2 (Value.agg ⟨u0 :: u1 :: u2 :: r⟩).cells.toList)) = [u2] := by simp [c2, Value.cells]
      have q3 : (List.take (Tryz.prog.cellsOf 28) (List.drop 3 (Value.agg ⟨u0 :: u1 :: u2 :: r⟩).cells.toList)) = r := by simp [c3, Value.cells, List.take_of_length_le (Nat.le_of_eq hr)]
      have k0 : DataW.trod enc Tryz.prog W base (fun _ => true) held m 22 [u0] = some y0 := by rw [← q0]; exact g0
      have k1 : DataW.trod enc Tryz.prog W base (fun _ => true) held m 23 [u1] = some y1 := by rw [← q1]; exact g1
      have k2 : DataW.trod enc Tryz.prog W base (fun _ => true) held m 24 [u2] = some y2 := by rw [← q2]; exact g2
      have k3 : DataW.trod enc Tryz.prog W base (fun _ => true) held m 28 r = some y3 := by rw [← q3]; exact g3
      obtain ⟨A1, n1, cc1, rows, rfl, h1⟩ := open_rowsB k1
      obtain ⟨A2, n2, cc2, E, rfl, h2⟩ := open_entsU k2
      obtain ⟨s, rfl, h3⟩ := open_st hr k3
      obtain ⟨A0, n0, cc0, rfl, hm0⟩ : ∃ A0 n0 cc0, u0 = .slice A0 n0 cc0 ∧ n0 ≤ maxLen := by
        rcases Deep.open_slice Tryz.underlying22 k0 with ⟨hcs, _⟩ | ⟨x, l', c, m', n, D, Pl, hcs, _, hl', hm', _, _⟩
        · simp at hcs; exact ⟨none, 0, 0, hcs, by simp⟩
        · simp at hcs; exact ⟨some x, l', c, hcs, by omega⟩
      obtain ⟨T, hT⟩ := open_regs (d := y0.1) (p := y0.2) ⟨m, k0⟩
      exact ⟨A0, n0, cc0, T, A1, n1, cc1, rows, A2, n2, cc2, E, s, rfl, hT, hm0, h1, h2, h3⟩
end
end Go.Proofs.YtoeagbcjnffpaaaGreatDoor
