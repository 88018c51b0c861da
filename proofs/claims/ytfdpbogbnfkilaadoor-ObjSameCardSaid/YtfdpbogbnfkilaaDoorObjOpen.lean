/- Arguments of layer 6's statements: an object that came in. No condition. -/
import Derived.Test.YtfdpbogbnfkilaaDoorObjAlike
import Derived.Lib.SmallJoins
import Derived.Deep.Slices
import Derived.WideShapes
namespace Go.Proofs.YtfdpbogbnfkilaaDoor
set_option maxRecDepth 100000
open Go.RowKit Go.ChangeShapes Go.WideShapes Go.Deep
set_option linter.unusedVariables false
section
variable {H : Type} {enc : TypeId × Value → H} {W : World} {base b0 : Nat} {sp : Nat → Bool} {held : Bool} {d : DataW H} {p : List MemPlace}
theorem addr_add_add (a : Addr) (i j : Nat) : (a.add i).add j = a.add (i + j) := by
  obtain ⟨b, o, s⟩ := a
  unfold Addr.add
  by_cases hi : i = 0 <;> by_cases hj : j = 0 <;> simp_all [Nat.add_assoc]
theorem addr_add_none (b o j : Nat) : (⟨b, o, none⟩ : Addr).add j = ⟨b, o + j, none⟩ := by
  unfold Addr.add
  by_cases e0 : j = 0
  · subst e0; simp
  · simp [e0]
theorem cell_block_lt {b o : Nat} {v : Value} (h : W.cell? ⟨b, o, none⟩ = some v) : b < W.heap.size := by
  by_cases hb : b < W.heap.size
  · exact hb
  · exfalso
    have : W.heap[b]? = none := Array.getElem?_eq_none (by omega)
    simp [World.cell?, this] at h
theorem open_list {α : Type} {t te : TypeId} {enc1 : α → List Value} {sz : Nat} (x0 : α) (Wf : α → Prop) (ht : Tryd.prog.underlying t = some (.slice te)) (hc : Tryd.prog.cellsOf te = sz) (hs : ∀ x, (enc1 x).length = sz) (hz : 0 < sz)
    (one : ∀ (n : Nat) (cs' : List Value) (y : DataW H × List MemPlace), DataW.trod enc Tryd.prog W base sp held n te cs' = some y → ∃ x, Wf x ∧ cs' = enc1 x)
    {fuel : Nat} {cs : List Value} {x : DataW H × List MemPlace} (h : DataW.trod enc Tryd.prog W base sp held fuel t cs = some x) :
    ∃ (A : Option Addr) (c : Nat) (xs : List α), cs = [.slice A xs.length c] ∧ (∀ x ∈ xs, Wf x) ∧ xs.length ≤ maxLen ∧ RowC W 0 W.heap.size A (xs.flatMap enc1) := by
  rcases open_slice ht h with ⟨rfl, _⟩ | ⟨a, len, cap, m, n, D, Pl, rfl, _, hl, hm, hmm, _, hi⟩
  · exact ⟨none, 0, [], rfl, by simp, by simp, .inl rfl⟩
  have hml : len ≤ m := by rw [hmm]; split <;> omega
  have hr : ∀ i, ∃ x : α, i < len → Wf x ∧ ∀ j v, (enc1 x)[j]? = some v → W.cell? (a.add (i * sz + j)) = some v := by
    intro i
    by_cases hlt : i < len
    · obtain ⟨cs', h1, h2⟩ := hi i (by omega)
      rw [hc] at h1
      obtain ⟨x, hw, rfl⟩ := one _ _ _ h2
      obtain ⟨_, hl', hat⟩ := World.cells?_some h1
      refine ⟨x, fun _ => ⟨hw, fun j v hj => ?_⟩⟩
      have hjl : j < sz := by
        have := (List.getElem?_eq_some_iff.1 hj).1
        rw [hs] at this; exact this
      have := hat j hjl
      rw [addr_add_add] at this
      rw [this, hj]
    · exact ⟨x0, fun h => absurd h hlt⟩
  obtain ⟨f, hf'⟩ := Classical.axiomOfChoice hr
  have hlen : ((List.range len).map f).length = len := by simp
  refine ⟨some a, cap, (List.range len).map f, by rw [hlen], fun x hx => ?_, by rw [hlen]; omega, ?_⟩
  · obtain ⟨i, hi, rfl⟩ := List.mem_map.1 hx
    exact (hf' i (List.mem_range.1 hi)).1
  · by_cases h0 : len = 0
    · subst h0; exact .inl rfl
    obtain ⟨b, off, spot⟩ := a
    have hne : 0 < (enc1 (f 0)).length := by rw [hs]; exact hz
    have h00 := (hf' 0 (by omega)).2 0 _ (List.getElem?_eq_getElem hne)
    have hsp : spot = none := by simpa [Addr.add] using World.cell?_spot h00
    subst hsp
    rw [addr_add_none] at h00
    refine .inr ⟨b, off, rfl, Nat.zero_le _, cell_block_lt h00, fun j v hj => ?_⟩
    have hjl : j < len * sz := by
      have := (List.getElem?_eq_some_iff.1 hj).1
      rw [flat_len hs, hlen] at this; exact this
    have hq : j / sz < len := Nat.div_lt_of_lt_mul (by rw [Nat.mul_comm]; exact hjl)
    have hmd : j % sz < sz := Nat.mod_lt _ hz
    have hj2 : j / sz * sz + j % sz = j := by rw [Nat.mul_comm]; exact Nat.div_add_mod j sz
    have hg := flat_get hs (xs := (List.range len).map f) (j := j / sz) (i := j % sz) (by rw [hlen]; exact hq) hmd
    rw [hj2, hj] at hg
    have he : ((List.range len).map f)[j / sz]'(by rw [hlen]; exact hq) = f (j / sz) := by simp
    rw [he] at hg
    have := (hf' (j / sz) hq).2 (j % sz) v hg.symm
    rw [addr_add_none, hj2] at this
    exact this
theorem isI_of {a : Int} (h : (Lit.int .i64 a).wf = true) : IsI a := by
  have := bounds_i64 h
  exact ⟨by omega, by omega⟩
theorem one_u32 (n : Nat) (cs' : List Value) (y : DataW H × List MemPlace) (h : DataW.trod enc Tryd.prog W base sp held n 44 cs' = some y) : ∃ x, IsW x ∧ cs' = encU32 x := by
  obtain ⟨x, rfl, _, hw⟩ := DataW.trod_int Tryd.underlying44 h
  have := bounds_u32 hw
  exact ⟨x, ⟨by omega, by omega⟩, rfl⟩
theorem one_u64 (n : Nat) (cs' : List Value) (y : DataW H × List MemPlace) (h : DataW.trod enc Tryd.prog W base sp held n 73 cs' = some y) : ∃ x, IsU x ∧ cs' = encU64 x := by
  obtain ⟨x, rfl, _, hw⟩ := DataW.trod_int Tryd.underlying73 h
  have := bounds_u64 hw
  exact ⟨x, ⟨by omega, by omega⟩, rfl⟩
theorem one_int (n : Nat) (cs' : List Value) (y : DataW H × List MemPlace) (h : DataW.trod enc Tryd.prog W base sp held n 3 cs' = some y) : ∃ x, IsI x ∧ cs' = encI64 x := by
  obtain ⟨x, rfl, _, hw⟩ := DataW.trod_int Tryd.underlying3 h
  exact ⟨x, isI_of hw, rfl⟩
theorem one_sym (n : Nat) (cs' : List Value) (y : DataW H × List MemPlace) (h : DataW.trod enc Tryd.prog W base sp held n 65 cs' = some y) : ∃ s : SymD, (s.1.size ≤ maxLen ∧ IsI s.2.2.1) ∧ cs' = encSym s := by
  have hc : Tryd.prog.cellsOf 65 = 4 := by kernel_rfl
  have ci : Tryd.prog.cellsOf 3 = 1 := by kernel_rfl
  have cb : Tryd.prog.cellsOf 4 = 1 := by kernel_rfl
  have cS : Tryd.prog.cellsOf 9 = 1 := by kernel_rfl
  obtain ⟨xs, m, _, hx, hl, hlen, hg⟩ := DataW.trod_struct Tryd.underlying65 h
  match cs', hl.trans hc with
  | [c0, c1, c2, c3], _ =>
    match xs, hlen with
    | [y0, y1, y2, y3], _ =>
      have g0 := hg 0 _ rfl
      have g1 := hg 1 _ rfl
      have g2 := hg 2 _ rfl
      have g3 := hg 3 _ rfl
      obtain ⟨n0, e0, _, w0⟩ := DataW.trod_string Tryd.underlying9 g0
      obtain ⟨n1, e1, _⟩ := DataW.trod_bool Tryd.underlying4 g1
      obtain ⟨n2, e2, _, w2⟩ := DataW.trod_int Tryd.underlying3 g2
      obtain ⟨n3, e3, _⟩ := DataW.trod_bool Tryd.underlying4 g3
      simp [ci, cb, cS] at e0 e1 e2 e3
      subst e0 e1 e2 e3
      exact ⟨(n0, n1, n2, n3), ⟨w0, isI_of w2⟩, rfl⟩
theorem one_rel (n : Nat) (cs' : List Value) (y : DataW H × List MemPlace) (h : DataW.trod enc Tryd.prog W base sp held n 49 cs' = some y) : ∃ s : RelD, (IsI s.1 ∧ IsI s.2.1 ∧ s.2.2.1.size ≤ maxLen ∧ IsI s.2.2.2) ∧ cs' = encRel s := by
  have hc : Tryd.prog.cellsOf 49 = 4 := by kernel_rfl
  have ci : Tryd.prog.cellsOf 3 = 1 := by kernel_rfl
  have cS : Tryd.prog.cellsOf 9 = 1 := by kernel_rfl
  have cL : Tryd.prog.cellsOf 2 = 1 := by kernel_rfl
  obtain ⟨xs, m, _, hx, hl, hlen, hg⟩ := DataW.trod_struct Tryd.underlying49 h
  match cs', hl.trans hc with
  | [c0, c1, c2, c3], _ =>
    match xs, hlen with
    | [y0, y1, y2, y3], _ =>
      have g0 := hg 0 _ rfl
      have g1 := hg 1 _ rfl
      have g2 := hg 2 _ rfl
      have g3 := hg 3 _ rfl
      obtain ⟨n0, e0, _, w0⟩ := DataW.trod_int Tryd.underlying3 g0
      obtain ⟨n1, e1, _, w1⟩ := DataW.trod_int Tryd.underlying3 g1
      obtain ⟨n2, e2, _, w2⟩ := DataW.trod_string Tryd.underlying9 g2
      obtain ⟨n3, e3, _, w3⟩ := DataW.trod_int Tryd.underlying2 g3
      simp [ci, cS, cL] at e0 e1 e2 e3
      subst e0 e1 e2 e3
      exact ⟨(n0, n1, n2, n3), ⟨isI_of w0, isI_of w1, w2, isI_of w3⟩, rfl⟩
abbrev EntA := EntD × (Option Addr × Nat)
def encEnt (e : EntA) : List Value := [.string e.1.1, .slice e.2.1 e.1.2.length e.2.2]
theorem one_ent (n : Nat) (cs' : List Value) (y : DataW H × List MemPlace) (h : DataW.trod enc Tryd.prog W base sp held n 70 cs' = some y) : ∃ e : EntA, ((e.1.1.size ≤ maxLen ∧ (∀ z ∈ e.1.2, IsI z) ∧ e.1.2.length ≤ maxLen) ∧ RowC W 0 W.heap.size e.2.1 (e.1.2.flatMap encI64)) ∧ cs' = encEnt e := by
  have hc : Tryd.prog.cellsOf 70 = 2 := by kernel_rfl
  have ci : Tryd.prog.cellsOf 43 = 1 := by kernel_rfl
  have cS : Tryd.prog.cellsOf 9 = 1 := by kernel_rfl
  obtain ⟨xs, m, _, hx, hl, hlen, hg⟩ := DataW.trod_struct Tryd.underlying70 h
  match cs', hl.trans hc with
  | [c0, c1], _ =>
    match xs, hlen with
    | [y0, y1], _ =>
      have g0 := hg 0 _ rfl
      have g1 := hg 1 _ rfl
      obtain ⟨n0, e0, _, w0⟩ := DataW.trod_string Tryd.underlying9 g0
      obtain ⟨A, c, zs, e1, hz, hn, hr⟩ := open_list (sz := 1) (enc1 := encI64) (0 : Int) IsI Tryd.underlying43 (by kernel_rfl) (fun _ => rfl) (by omega) one_int g1
      simp [ci, cS] at e0 e1
      subst e0 e1
      exact ⟨((n0, zs), (A, c)), ⟨⟨w0, hz, hn⟩, hr⟩, rfl⟩
theorem entC_of : ∀ (ps : List EntA), (∀ e ∈ ps, RowC W 0 W.heap.size e.2.1 (e.1.2.flatMap encI64)) → EntC W 0 W.heap.size none (ps.map (·.1)) (ps.flatMap encEnt)
  | [], _ => rfl
  | e :: ps, h => ⟨e.2.1, e.2.2, ps.flatMap encEnt, rfl, by
      rcases h e (by simp) with h1 | ⟨b, o, h1, h2, h3, h4⟩
      · exact .inl h1
      · exact .inr ⟨b, o, h1, h2, h3, by simp, h4⟩, entC_of ps fun e he => h e (by simp [he])⟩
theorem open_obj {v : Value} (hv : Value.okWide Tryd.prog W .any b0 28 v) (h : DataW.Trod enc Tryd.prog W base sp held 28 v d p) :
    ∃ D : ObjD, ObjAt W 0 W.heap.size D v ∧ ObjW D ∧ ObjL D := by
  obtain ⟨cs, rfl, hsz⟩ := okWide_struct Tryd.underlying28 hv
  obtain ⟨fuel, hf⟩ := h
  have hc : Tryd.prog.cellsOf 28 = 5 := by kernel_rfl
  have c1 : Tryd.prog.cellsOf 22 = 1 := by kernel_rfl
  have c2 : Tryd.prog.cellsOf 23 = 1 := by kernel_rfl
  have c3 : Tryd.prog.cellsOf 24 = 1 := by kernel_rfl
  have c4 : Tryd.prog.cellsOf 25 = 1 := by kernel_rfl
  have c5 : Tryd.prog.cellsOf 26 = 1 := by kernel_rfl
  obtain ⟨l⟩ := cs
  match l, hsz.trans hc with
  | [k0, k1, k2, k3, k4], _ =>
    obtain ⟨xs, m, _, hx, _, hlen, hg⟩ := DataW.trod_struct Tryd.underlying28 hf
    match xs, hlen with
    | [y0, y1, y2, y3, y4], _ =>
      have g0 := hg 0 _ rfl
      have g1 := hg 1 _ rfl
      have g2 := hg 2 _ rfl
      have g3 := hg 3 _ rfl
      have g4 := hg 4 _ rfl
      obtain ⟨A1, n1, z1, e1, w1, l1, r1⟩ := open_list (sz := 1) (enc1 := encU32) (0 : Int) IsW Tryd.underlying22 (by kernel_rfl) (fun _ => rfl) (by omega) one_u32 g0
      obtain ⟨A2, n2, z2, e2, w2, l2, r2⟩ := open_list (sz := 1) (enc1 := encU64) (0 : Int) IsU Tryd.underlying23 (by kernel_rfl) (fun _ => rfl) (by omega) one_u64 g1
      obtain ⟨A3, n3, z3, e3, w3, l3, r3⟩ := open_list (sz := 4) (enc1 := encSym) (ByteArray.empty, false, 0, false) _ Tryd.underlying24 (by kernel_rfl) (fun _ => rfl) (by omega) one_sym g2
      obtain ⟨A4, n4, z4, e4, w4, l4, r4⟩ := open_list (sz := 4) (enc1 := encRel) (0, 0, ByteArray.empty, 0) _ Tryd.underlying25 (by kernel_rfl) (fun _ => rfl) (by omega) one_rel g3
      obtain ⟨A5, n5, z5, e5, w5, l5, r5⟩ := open_list (sz := 2) (enc1 := encEnt) ((ByteArray.empty, []), (none, 0)) _ Tryd.underlying26 (by kernel_rfl) (fun _ => rfl) (by omega) one_ent g4
      simp [c1, c2, c3, c4, c5, Value.cells] at e1 e2 e3 e4 e5
      subst e1 e2 e3 e4 e5
      refine ⟨⟨z1, z2, z3, z4, z5.map (·.1)⟩, ⟨A1, n1, A2, n2, A3, n3, A4, n4, A5, n5, z5.flatMap encEnt, by simp, r1, r2, r3, r4, r5, entC_of z5 fun e he => (w5 e he).2⟩, ⟨w1, w2, w3, w4, fun s hs => ?_⟩, ⟨l1, l2, l3, l4, by simpa using l5, fun s hs => ?_⟩⟩
      · obtain ⟨e, he, rfl⟩ := List.mem_map.1 hs
        exact (w5 e he).1
      · obtain ⟨e, he, rfl⟩ := List.mem_map.1 hs
        exact (w5 e he).1.2.2
end
end Go.Proofs.YtfdpbogbnfkilaaDoor
