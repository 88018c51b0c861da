/- Layer 8: the objects that PlaceAlone makes, as they lie. No condition.
   Layer 8: rows of long words that came in. No condition. -/
import Derived.Test.YtjngkifoaljmaaaDoorPlaP
import Derived.Test.YtjngkifoaljmaaaDoorSynR
import Derived.Test.YtjngkifoaljmaaaDoorObjG
namespace Go.Proofs.YtjngkifoaljmaaaDoor
set_option maxRecDepth 100000
open Go.RowKit
set_option linter.unusedVariables false
theorem info_obj8 : (Tryd.prog.info? 45).map (fun i => (i.zero, i.size, i.bytes)) = some (some (.agg #[.slice none 0 0, .slice none 0 0, .slice none 0 0, .slice none 0 0, .slice none 0 0]), 5, 120) := by kernel_rfl
/-- one object's five cells: its text a row of the call's own, below block M -/
def AlC (w : World) (B H M i : Nat) (d : List Int) (cs : List Value) : Prop := ∃ A c Ad cd, cs = [.slice A i c, .slice Ad d.length cd, .slice none 0 0, .slice none 0 0, .slice none 0 0] ∧ w.ownsRow B 22 1 (.slice A i c) i ((List.replicate i 1048691).flatMap encU32) ∧ (∀ g, (Value.slice A i c).ownBlock = some g → g < M) ∧ RowC w 0 H Ad (d.flatMap encU64)
/-- a list of such objects -/
structure Alb (w0 : World) (B M : Nat) (ds : List (List Int)) (k : Nat) (v : Value) (w : World) : Prop where
  own : ∃ f : Nat → List Value, w.ownsRow B 45 5 v k ((List.range k).flatMap f) ∧ ∀ i, i < k → AlC w B w0.heap.size M i (ds.getD i []) (f i)
  lt : ∀ g, v.ownBlock = some g → g < M
  b : Below w0.heap.size w0 w
  nb : w0.heap.size ≤ B
  bm : B ≤ M
  m : M ≤ w.heap.size
section
variable {w0 w w' : World} {B M M' bo : Nat} {ds : List (List Int)} {k q : Nat} {v v' vt : Value} {row : Option Nat}
theorem AlC.kept {i : Nat} {d : List Int} {cs : List Value} {H : Nat} (h : AlC w B H M i d cs) (hH : H ≤ w.heap.size) (hg : w.grownBy w' row) (hr : ∀ g, row = some g → M ≤ g ∧ H ≤ g) : AlC w' B H M i d cs := by
  obtain ⟨A, c, Ad, cd, e, h1, h2, h3⟩ := h
  exact ⟨A, c, Ad, cd, e, rowO_kept h1 hg (fun g hg' e' => by have := h2 g hg'; have := (hr g e'.symm).1; omega), h2, h3.move (Nat.le_refl _) (Nat.le_refl _) (fun b _ hb => hg.block b (by omega) (fun e' => by have := (hr b e'.symm).2; omega))⟩
theorem AlC.below {i : Nat} {d : List Int} {cs : List Value} {H : Nat} (h : AlC w B H M i d cs) (hH : H ≤ w.heap.size) (hb : Below w.heap.size w w') : AlC w' B H M i d cs := by
  obtain ⟨A, c, Ad, cd, e, h1, h2, h3⟩ := h
  exact ⟨A, c, Ad, cd, e, rowO_below h1 hb, h2, h3.move (Nat.le_refl _) (Nat.le_refl _) (fun b _ hb' => hb.block b (by omega))⟩
theorem AlC.up {i : Nat} {d : List Int} {cs : List Value} {H : Nat} (h : AlC w B H M i d cs) (hm : M ≤ M') : AlC w B H M' i d cs := by
  obtain ⟨A, c, Ad, cd, e, h1, h2, h3⟩ := h
  exact ⟨A, c, Ad, cd, e, h1, fun g hg => Nat.lt_of_lt_of_le (h2 g hg) hm, h3⟩
/-- the list's own row grows: the texts are of another type -/
theorem AlC.grow {i : Nat} {d : List Int} {cs xs : List Value} {H n s : Nat} {ty : TypeId} (h : AlC w B H M i d cs) (hH : H ≤ B) (hHw : H ≤ w.heap.size) (ho : w.ownsRow B ty s v n xs) (ht : 22 ≠ ty) (hg : w.grownBy w' v.ownBlock) : AlC w' B H M i d cs := by
  obtain ⟨A, c, Ad, cd, e, h1, h2, h3⟩ := h
  exact ⟨A, c, Ad, cd, e, rowO_other h1 ho ht hg, h2, h3.move (Nat.le_refl _) (Nat.le_refl _) (fun b _ hb => hg.block b (by omega) (fun e' => by have := own_ge ho b e'.symm; omega))⟩
theorem Alb.below (h : Alb w0 B M ds k v w) (hb : Below w.heap.size w w') : Alb w0 B M ds k v w' := by
  obtain ⟨f, h1, h2⟩ := h.own
  exact ⟨⟨f, rowO_below h1 hb, fun i hi => (h2 i hi).below h.b.size hb⟩, h.lt, h.b.trans (hb.mono h.b.size), h.nb, h.bm, Nat.le_trans h.m hb.size⟩
theorem Alb.up (h : Alb w0 B M ds k v w) (hm : M ≤ M') (hw : M' ≤ w.heap.size) : Alb w0 B M' ds k v w := by
  obtain ⟨f, h1, h2⟩ := h.own
  exact ⟨⟨f, h1, fun i hi => (h2 i hi).up hm⟩, fun g hg => Nat.lt_of_lt_of_le (h.lt g hg) hm, h.b, h.nb, Nat.le_trans h.bm hm, hw⟩
theorem Alb.kept (h : Alb w0 B M ds k v w) (hg : w.grownBy w' row) (hr : ∀ g, row = some g → M ≤ g) : Alb w0 B M ds k v w' := by
  obtain ⟨f, h1, h2⟩ := h.own
  have hnb := h.nb
  have hbm := h.bm
  exact ⟨⟨f, rowO_kept h1 hg (fun g hg' e' => by have := h.lt g hg'; have := hr g e'.symm; omega), fun i hi => (h2 i hi).kept h.b.size hg (fun g e => by have := hr g e; omega)⟩, h.lt, h.b.grown hg h.b.size (fun g e => by have := hr g e; omega), h.nb, h.bm, Nat.le_trans h.m hg.size⟩
theorem flat5 {f : Nat → List Value} : ∀ {k i r : Nat}, (∀ i, i < k → (f i).length = 5) → i < k → r < 5 → ((List.range k).flatMap f)[i * 5 + r]? = (f i)[r]?
  | 0, i, r, _, hi, _ => by omega
  | k + 1, i, r, hf, hi, hr => by
    have hl : ∀ k', k' ≤ k + 1 → ((List.range k').flatMap f).length = k' * 5 := fun k' => by
      induction k' with
      | zero => intro _; rfl
      | succ k' ih => intro hk'; rw [List.range_succ, List.flatMap_append, List.length_append, ih (by omega)]; simp [hf k' (by omega)]; omega
    rw [List.range_succ, List.flatMap_append]
    by_cases e : i = k
    · subst e
      rw [List.getElem?_append_right (by rw [hl i (by omega)]; omega), hl i (by omega), show i * 5 + r - i * 5 = r by omega]
      simp
    · rw [List.getElem?_append_left (by rw [hl k (by omega)]; omega)]
      exact flat5 (fun i hi => hf i (by omega)) (by omega) hr
theorem flat5_len {f : Nat → List Value} : ∀ {k : Nat}, (∀ i, i < k → (f i).length = 5) → ((List.range k).flatMap f).length = k * 5
  | 0, _ => rfl
  | k + 1, hf => by rw [List.range_succ, List.flatMap_append, List.length_append, flat5_len (fun i hi => hf i (by omega))]; simp [hf k (by omega)]; omega
theorem flat_congr {f g : Nat → List Value} : ∀ {k : Nat}, (∀ i, i < k → f i = g i) → (List.range k).flatMap f = (List.range k).flatMap g
  | 0, _ => rfl
  | k + 1, h => by rw [List.range_succ, List.flatMap_append, List.flatMap_append, flat_congr (fun i hi => h i (by omega))]; simp [h k (by omega)]
theorem AlC.five {i : Nat} {d : List Int} {cs : List Value} {H : Nat} (h : AlC w B H M i d cs) : cs.length = 5 := by
  obtain ⟨A, c, Ad, cd, rfl, _⟩ := h; rfl
/-- .. as a list of objects -/
theorem Alb.objs {A : Option Addr} {c : Nat} (h : Alb w0 B M ds k (.slice A k c) w) : ObjsAt w 0 w.heap.size (alL8 ds k) A := by
  obtain ⟨f, h1, h2⟩ := h.own
  have h5 : ∀ i, i < k → (f i).length = 5 := fun i hi => (h2 i hi).five
  refine ⟨_, by rw [alL8_len]; exact flat5_len h5, (RowC.of_own h1).move (Nat.zero_le _) (Nat.le_refl _) (fun _ _ _ => rfl), fun i hi => ?_⟩
  rw [alL8_len] at hi
  obtain ⟨A1, c1, Ad, cd, e, g1, g2, g3⟩ := h2 i hi
  refine ⟨.slice A1 i c1, .slice Ad (ds.getD i []).length cd, .slice none 0 0, .slice none 0 0, .slice none 0 0, ?_, ?_⟩
  · have hx : ∀ r, r < 5 → ((List.range k).flatMap f)[i * 5 + r]? = [Value.slice A1 i c1, .slice Ad (ds.getD i []).length cd, .slice none 0 0, .slice none 0 0, .slice none 0 0][r]? := fun r hr => by rw [flat5 h5 hi hr, e]
    exact ⟨hx 0 (by omega), hx 1 (by omega), hx 2 (by omega), hx 3 (by omega), hx 4 (by omega)⟩
  · rw [alL8_get]
    refine ⟨A1, c1, Ad, cd, none, 0, none, 0, none, 0, [], by simp [alD8], (RowC.of_own g1).move (Nat.zero_le _) (Nat.le_refl _) (fun _ _ _ => rfl), g3.move (Nat.le_refl _) h.b.size (fun _ _ _ => rfl), .inl rfl, .inl rfl, .inl rfl, rfl⟩
theorem Alb.push {cs : List Value} {f : Nat → List Value} (h : Alb w0 B M ds k v w) (h1 : w.ownsRow B 45 5 v k ((List.range k).flatMap f)) (h2 : ∀ i, i < k → AlC w B w0.heap.size M i (ds.getD i []) (f i)) (hr' : w'.ownsRow B 45 5 v' (k + 1) ((List.range k).flatMap f ++ cs)) (hg : w.grownBy w' v.ownBlock) (hc : AlC w' B w0.heap.size w'.heap.size k (ds.getD k []) cs) : Alb w0 B w'.heap.size ds (k + 1) v' w' := by
  have hnb := h.nb
  refine ⟨⟨fun i => if i = k then cs else f i, ?_, fun i hi => ?_⟩, fun g hg' => (ownO_lt hr' hg').1, h.b.grown hg h.b.size (fun g e => by have := own_ge h1 g e; omega), hnb, Nat.le_trans h.bm (Nat.le_trans h.m hg.size), Nat.le_refl _⟩
  · rw [List.range_succ, List.flatMap_append, flat_congr (g := f) (fun i hi => by rw [if_neg (by omega)])]
    simpa using hr'
  · by_cases e : i = k
    · subst e
      simpa using hc
    · simp only [if_neg e]
      exact ((h2 i (by omega)).grow hnb h.b.size h1 (by decide) hg).up (Nat.le_trans h.m hg.size)
/-- .. and one more, in its box, under way -/
structure Alo (w0 : World) (B M : Nat) (ds : List (List Int)) (k : Nat) (v : Value) (bo : Nat) (Ad : Option Addr) (cd q : Nat) (vt : Value) (w : World) : Prop where
  a : Alb w0 B M ds k v w
  mb : M ≤ bo
  box : w.heap[bo]? = some (.cells #[vt, .slice Ad (ds.getD k []).length cd, .slice none 0 0, .slice none 0 0, .slice none 0 0] 45 (0, 0))
  ft : w.ownsRow (bo + 1) 22 1 vt q ((List.replicate q 1048691).flatMap encU32)
  fd : RowC w 0 w0.heap.size Ad ((ds.getD k []).flatMap encU64)
variable {Ad : Option Addr} {cd : Nat}
theorem Alo.below (h : Alo w0 B M ds k v bo Ad cd q vt w) (hb : Below w.heap.size w w') : Alo w0 B M ds k v bo Ad cd q vt w' :=
  ⟨h.a.below hb, h.mb, (hb.block _ (Array.getElem?_eq_some_iff.1 h.box).1).trans h.box, rowO_below h.ft hb, h.fd.move (Nat.le_refl _) (Nat.le_refl _) (fun b _ hb' => hb.block b (Nat.lt_of_lt_of_le hb' h.a.b.size))⟩
theorem Alo.boxed (h : Alo w0 B M ds k v bo Ad cd q vt w) (hg : w.grownBy w' vt.ownBlock) : w'.heap[bo]? = some (.cells #[vt, .slice Ad (ds.getD k []).length cd, .slice none 0 0, .slice none 0 0, .slice none 0 0] 45 (0, 0)) :=
  (hg.block _ (Array.getElem?_eq_some_iff.1 h.box).1 (fun e => by have := own_ge h.ft _ e.symm; omega)).trans h.box
theorem Alo.put (h : Alo w0 B M ds k v bo Ad cd q vt w) (hr : w'.ownsRow (bo + 1) 22 1 v' (q + 1) ((List.replicate q 1048691).flatMap encU32 ++ encU32 1048691)) (hg : w.grownBy w' vt.ownBlock) : Alo w0 B M ds k v bo Ad cd (q + 1) v' (w'.setCell ⟨bo, 0, none⟩ v') := by
  have hmb := h.mb
  have hge := own_ge h.ft
  have hnb := h.a.nb
  have hbm := h.a.bm
  have a1 := h.a.kept hg (fun g e => by have := hge g e; omega)
  have a2 := a1.kept (grown_setO w' bo 0 v') (fun g e => by cases e; exact hmb)
  refine ⟨a2, hmb, heap_setCell_same w' _ 0 _ _ _ (h.boxed hg), ?_, ?_⟩
  · rw [show List.replicate (q + 1) (1048691 : Int) = List.replicate q 1048691 ++ [1048691] from List.replicate_succ', List.flatMap_append, List.flatMap_cons, List.flatMap_nil, List.append_nil]
    exact own_set7 hr (by omega)
  · exact (h.fd.move (Nat.le_refl _) (Nat.le_refl _) (fun b _ hb' => hg.block b (Nat.lt_of_lt_of_le hb' h.a.b.size) (fun e => by have := hge b e.symm; omega))).move (Nat.le_refl _) (Nat.le_refl _) (fun b _ hb' => heap_setCell_other w' _ b v' (by show b ≠ bo; omega))
/-- all of its text is there: its five cells -/
theorem Alo.done (h : Alo w0 B M ds k v bo Ad cd k vt w) : AlC w B w0.heap.size w.heap.size k (ds.getD k []) [vt, .slice Ad (ds.getD k []).length cd, .slice none 0 0, .slice none 0 0, .slice none 0 0] := by
  obtain ⟨A, c, rfl⟩ := ownO_slice h.ft
  have := h.a.bm
  have := h.mb
  exact ⟨A, c, Ad, cd, rfl, kn_base h.ft (by omega), fun g hg => (ownO_lt h.ft hg).1, h.fd⟩
end
end Go.Proofs.YtjngkifoaljmaaaDoor
namespace Go.Proofs.YtjngkifoaljmaaaDoor
set_option maxRecDepth 100000
open Go.RowKit Go.ChangeShapes Go.WideShapes
set_option linter.unusedVariables false
abbrev RowA := List Int × (Option Addr × Nat)
def encRow8 (r : RowA) : List Value := [.slice r.2.1 r.1.length r.2.2]
/-- a list of rows, as it lies -/
def RwU (w : World) (H : Nat) (A : Option Addr) (ds : List (List Int)) : Prop := ds = [] ∨ ∃ b o, A = some ⟨b, o, none⟩ ∧ b < H ∧ ∀ i, i < ds.length → ∃ A' c, w.cell? ⟨b, o + i, none⟩ = some (.slice A' (ds.getD i []).length c) ∧ RowC w 0 H A' ((ds.getD i []).flatMap encU64)
theorem RwU.below {w w' : World} {H : Nat} {A : Option Addr} {ds : List (List Int)} (h : RwU w H A ds) (hH : H ≤ w.heap.size) (hb : Below w.heap.size w w') : RwU w' H A ds := by
  rcases h with h | ⟨b, o, e, hl, h⟩
  · exact .inl h
  · refine .inr ⟨b, o, e, hl, fun i hi => ?_⟩
    obtain ⟨A', c, h1, h2⟩ := h i hi
    exact ⟨A', c, (hb.cell (p := ⟨b, o + i, none⟩) (Nat.lt_of_lt_of_le hl hH)).trans h1, h2.move (Nat.le_refl _) (Nat.le_refl _) (fun b _ hb' => hb.block b (Nat.lt_of_lt_of_le hb' hH))⟩
theorem RwU.get {w : World} {H i : Nat} {A : Option Addr} {ds : List (List Int)} (h : RwU w H A ds) (hi : i < ds.length) : ∃ b o A' c, A = some ⟨b, o, none⟩ ∧ w.cell? ⟨b, o + i, none⟩ = some (.slice A' (ds.getD i []).length c) ∧ RowC w 0 H A' ((ds.getD i []).flatMap encU64) := by
  rcases h with rfl | ⟨b, o, e, _, h⟩
  · simp at hi
  · obtain ⟨A', c, h1, h2⟩ := h i hi
    exact ⟨b, o, A', c, e, h1, h2⟩
section
variable {H : Type} {enc : TypeId × Value → H} {W : World} {base b0 : Nat} {sp : Nat → Bool} {held : Bool} {d : DataW H} {p : List MemPlace}
theorem one_row8 (n : Nat) (cs' : List Value) (y : DataW H × List MemPlace) (h : DataW.trod enc Tryd.prog W base sp held n 37 cs' = some y) : ∃ e : RowA, (((∀ z ∈ e.1, IsU z) ∧ e.1.length ≤ maxLen) ∧ RowC W 0 W.heap.size e.2.1 (e.1.flatMap encU64)) ∧ cs' = encRow8 e := by
  obtain ⟨A, c, zs, e1, hz, hn, hr⟩ := open_list (sz := 1) (enc1 := encU64) (0 : Int) IsU Tryd.underlying37 (by kernel_rfl) (fun _ => rfl) (by omega) one_u64 h
  exact ⟨(zs, (A, c)), ⟨⟨hz, hn⟩, hr⟩, e1⟩
theorem row8_get : ∀ (xs : List RowA) {i : Nat} (h : i < xs.length), (xs.flatMap encRow8)[i]? = some (.slice xs[i].2.1 xs[i].1.length xs[i].2.2)
  | x :: xs, 0, _ => rfl
  | x :: xs, i + 1, h => by
    rw [List.flatMap_cons]
    have := row8_get xs (i := i) (by simpa using h)
    simpa [encRow8] using this
theorem open_rows8 {v : Value} (hv : Value.okWide Tryd.prog W .any b0 63 v) (h : DataW.Trod enc Tryd.prog W base sp held 63 v d p) :
    ∃ A c ds, v = .slice A ds.length c ∧ RwU W W.heap.size A ds ∧ (∀ d ∈ ds, ∀ x ∈ d, IsU x) ∧ (∀ d ∈ ds, d.length ≤ maxLen) ∧ ds.length ≤ maxLen := by
  obtain ⟨a, len, cap, rfl⟩ := okWide_slice Tryd.underlying63 hv
  obtain ⟨fuel, hf⟩ := h
  obtain ⟨A, c, xs, e, hw, hl, hr⟩ := open_list (sz := 1) (enc1 := encRow8) ([], (none, 0)) _ Tryd.underlying63 (by kernel_rfl) (fun _ => rfl) (by omega) one_row8 hf
  simp [Value.cells] at e
  obtain ⟨rfl, rfl, rfl⟩ := e
  have hgd : ∀ i (hi : i < xs.length), (xs.map (·.1)).getD i [] = xs[i].1 := fun i hi => by simp [hi]
  refine ⟨a, cap, xs.map (·.1), by simp, ?_, fun x hx => ?_, fun x hx => ?_, by simpa using hl⟩
  · by_cases h0 : xs = []
    · subst h0; exact .inl rfl
    · rcases hr with hr | ⟨b, o, e, _, hb, hc⟩
      · have := congrArg List.length hr
        cases xs with
        | nil => exact absurd rfl h0
        | cons x xs => simp [encRow8] at this
      · refine .inr ⟨b, o, e, hb, fun i hi => ?_⟩
        have hi' : i < xs.length := by simpa using hi
        refine ⟨xs[i].2.1, xs[i].2.2, ?_, ?_⟩
        · rw [hgd i hi']; exact hc i _ (row8_get xs hi')
        · rw [hgd i hi']; exact (hw _ (List.getElem_mem hi')).2
  · obtain ⟨y, hy, rfl⟩ := List.mem_map.1 hx
    exact (hw y hy).1.1
  · obtain ⟨y, hy, rfl⟩ := List.mem_map.1 hx
    exact (hw y hy).1.2
end
end Go.Proofs.YtjngkifoaljmaaaDoor
