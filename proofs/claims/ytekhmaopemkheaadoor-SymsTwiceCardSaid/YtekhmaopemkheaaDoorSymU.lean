/- Layer 7: objects that a caller builds, Sym by Sym, in boxes. No condition. -/
import Derived.Test.YtekhmaopemkheaaDoorSymW
namespace Go.Proofs.YtekhmaopemkheaaDoor
set_option maxRecDepth 100000
open Go.RowKit
set_option linter.unusedVariables false
theorem own_set7 {w : World} {base sz n b j : Nat} {ty : TypeId} {v u : Value} {cs : List Value} (h : w.ownsRow base ty sz v n cs) (hb : b < base) : (w.setCell ⟨b, j, none⟩ u).ownsRow base ty sz v n cs :=
  rowO_kept h (grown_setO w b j u) (fun g hg e => by cases e; have := (ownO_lt h hg).2.1; omega)
theorem size_set7 (w : World) (a : Addr) (v : Value) : (w.setCell a v).heap.size = w.heap.size := by simp
section
variable {w w' : World} {hi t b : Nat} {x : Int} {L : List SymD} {v v' : Value}
/-- box b: an object of one word (block t) whose Syms are a row of the call's own -/
structure Bx (w : World) (hi t b : Nat) (x : Int) (L : List SymD) (v : Value) : Prop where
  ft : w.heap[t]? = some (.cells #[.int .u32 x] 48 (0, 0))
  fo : w.heap[b]? = some (.cells #[.slice (some ⟨t, 0, none⟩) 1 1, .slice none 0 0, v, .slice none 0 0, .slice none 0 0] 31 (0, 0))
  fr : w.ownsRow hi 47 4 v L.length (L.flatMap encSym)
  th : t < hi
  bh : b < hi
  tb : t ≠ b
theorem Bx.keep {row : Option Nat} (h : Bx w hi t b x L v) (hg : w.grownBy w' row) (hr : ∀ g, row = some g → hi ≤ g) (hne : ∀ g, v.ownBlock = some g → some g ≠ row) : Bx w' hi t b x L v :=
  ⟨(hg.block _ (Array.getElem?_eq_some_iff.1 h.ft).1 (fun e => by have := hr _ e.symm; have := h.th; omega)).trans h.ft,
   (hg.block _ (Array.getElem?_eq_some_iff.1 h.fo).1 (fun e => by have := hr _ e.symm; have := h.bh; omega)).trans h.fo, rowO_kept h.fr hg hne, h.th, h.bh, h.tb⟩
theorem Bx.set {b' j : Nat} {u : Value} (h : Bx w hi t b x L v) (h1 : b' < hi) (h2 : b' ≠ t) (h3 : b' ≠ b) : Bx (w.setCell ⟨b', j, none⟩ u) hi t b x L v :=
  ⟨(heap_setCell_other w _ t u (by show t ≠ b'; omega)).trans h.ft, (heap_setCell_other w _ b u (by show b ≠ b'; omega)).trans h.fo, own_set7 h.fr h1, h.th, h.bh, h.tb⟩
theorem Bx.put {s : SymD} (h : Bx w hi t b x L v) (hg : w.grownBy w' v.ownBlock) (hr : w'.ownsRow hi 47 4 v' (L.length + 1) (L.flatMap encSym ++ encSym s)) : Bx (w'.setCell ⟨b, 2, none⟩ v') hi t b x (L ++ [s]) v' := by
  have ho := own_ge h.fr
  have th := h.th
  have bh := h.bh
  have tb := h.tb
  have h1 := (hg.block _ (Array.getElem?_eq_some_iff.1 h.ft).1 (fun e => by have := ho _ e.symm; omega)).trans h.ft
  have h2 := (hg.block _ (Array.getElem?_eq_some_iff.1 h.fo).1 (fun e => by have := ho _ e.symm; omega)).trans h.fo
  refine ⟨(heap_setCell_other w' _ t v' (by show t ≠ b; omega)).trans h1, heap_setCell_same w' _ 2 _ _ _ h2, ?_, th, bh, tb⟩
  rw [List.length_append, List.flatMap_append, List.flatMap_cons, List.flatMap_nil, List.append_nil]
  exact own_set7 hr bh
theorem Bx.box (h : Bx w hi t b x L v) (hg : w.grownBy w' v.ownBlock) : w'.heap[b]? = some (.cells #[.slice (some ⟨t, 0, none⟩) 1 1, .slice none 0 0, v, .slice none 0 0, .slice none 0 0] 31 (0, 0)) :=
  (hg.block _ (Array.getElem?_eq_some_iff.1 h.fo).1 (fun e => by have := own_ge h.fr _ e.symm; have := h.bh; omega)).trans h.fo
theorem Bx.at (h : Bx w hi t b x L v) (hh : hi ≤ w.heap.size) : ObjAt w 0 w.heap.size ⟨[x], [], L, [], []⟩ (.agg #[.slice (some ⟨t, 0, none⟩) 1 1, .slice none 0 0, v, .slice none 0 0, .slice none 0 0]) := by
  obtain ⟨A, c, rfl⟩ := ownO_slice h.fr
  exact ⟨_, 1, none, 0, A, c, none, 0, none, 0, [], rfl, rowC_one h.ft (Array.getElem?_eq_some_iff.1 h.ft).1, .inl rfl, (RowC.of_own h.fr).move (Nat.zero_le _) (Nat.le_refl _) (fun _ _ _ => rfl), .inl rfl, .inl rfl, rfl⟩
end
theorem one_sym7 (s : SymD) : ∀ u ∈ encSym s, u.oneCell' = true := fun u hu => by
  unfold encSym at hu
  simp only [List.mem_cons, List.not_mem_nil, or_false] at hu
  rcases hu with rfl | rfl | rfl | rfl <;> rfl
def nmK (c : Nat) : ByteArray := ⟨#[UInt8.ofNat (97 + c)]⟩
/-- three such boxes, and ten names -/
structure Tw (w0 : World) (n0 : Nat) (Lo Lp Lq : List SymD) (vo vp vq : Value) (w : World) : Prop where
  nm : w.heap[n0]? = some (.cells #[.string ⟨#[97]⟩, .string ⟨#[98]⟩, .string ⟨#[99]⟩, .string ⟨#[100]⟩, .string ⟨#[101]⟩, .string ⟨#[102]⟩, .string ⟨#[103]⟩, .string ⟨#[104]⟩, .string ⟨#[105]⟩, .string ⟨#[106]⟩] 9 (0, 0))
  o : Bx w (n0 + 7) (n0 + 1) (n0 + 1 + 1) 1048691 Lo vo
  p : Bx w (n0 + 7) (n0 + 1 + 1 + 1) (n0 + 1 + 1 + 1 + 1) 1048691 Lp vp
  q : Bx w (n0 + 7) (n0 + 1 + 1 + 1 + 1 + 1) (n0 + 1 + 1 + 1 + 1 + 1 + 1) 1048691 Lq vq
  op : ∀ g, vo.ownBlock = some g → vp.ownBlock ≠ some g
  oq : ∀ g, vo.ownBlock = some g → vq.ownBlock ≠ some g
  pq : ∀ g, vp.ownBlock = some g → vq.ownBlock ≠ some g
  b : Below w0.heap.size w0 w
  nb : w0.heap.size ≤ n0
  z : n0 + 7 ≤ w.heap.size
section
variable {w0 w w' : World} {n0 : Nat} {Lo Lp Lq : List SymD} {vo vp vq v' : Value} {s : SymD}
theorem Tw.below (h : Tw w0 n0 Lo Lp Lq vo vp vq w) (hb : Below w.heap.size w w') : Tw w0 n0 Lo Lp Lq vo vp vq w' :=
  ⟨(hb.block _ (Array.getElem?_eq_some_iff.1 h.nm).1).trans h.nm, h.o.keep (grown_below' hb) (fun _ e => by cases e) (fun _ _ e => by cases e), h.p.keep (grown_below' hb) (fun _ e => by cases e) (fun _ _ e => by cases e), h.q.keep (grown_below' hb) (fun _ e => by cases e) (fun _ _ e => by cases e),
   h.op, h.oq, h.pq, h.b.trans (hb.mono h.b.size), h.nb, Nat.le_trans h.z hb.size⟩
theorem Tw.cell (h : Tw w0 n0 Lo Lp Lq vo vp vq w) {c : Nat} (hc : c < 10) : w.cell? ⟨n0, c, none⟩ = some (.string (nmK c)) := by
  have := cell_of_row w n0 c _ _ _ h.nm
  rw [this]
  rcases (by omega : c = 0 ∨ c = 1 ∨ c = 2 ∨ c = 3 ∨ c = 4 ∨ c = 5 ∨ c = 6 ∨ c = 7 ∨ c = 8 ∨ c = 9) with rfl | rfl | rfl | rfl | rfl | rfl | rfl | rfl | rfl | rfl <;> rfl
theorem Tw.rest (h : Tw w0 n0 Lo Lp Lq vo vp vq w) {row : Option Nat} {b j : Nat} {u : Value} (hg : w.grownBy w' row) (hr : ∀ g, row = some g → n0 + 7 ≤ g) (hb : n0 < b) : (w'.setCell ⟨b, j, none⟩ u).heap[n0]? = w.heap[n0]? ∧ Below w0.heap.size w0 (w'.setCell ⟨b, j, none⟩ u) ∧ n0 + 7 ≤ (w'.setCell ⟨b, j, none⟩ u).heap.size := by
  have h1 := h.b.grown hg h.b.size (fun g e => by have := hr g e; have := h.nb; omega)
  refine ⟨(heap_setCell_other w' _ n0 u (by show n0 ≠ b; omega)).trans (hg.block _ (Array.getElem?_eq_some_iff.1 h.nm).1 (fun e => by have := hr _ e.symm; omega)), h1.grown (grown_setO w' b j u) h1.size (fun g e => by cases e; have := h.nb; omega), ?_⟩
  rw [size_set7]
  exact Nat.le_trans h.z hg.size
theorem ne_new {base : Nat} {L : List SymD} {v : Value} (hr : w.ownsRow base 47 4 v L.length (L.flatMap encSym)) {u : Value} (h : ∀ g, u.ownBlock = some g → v.ownBlock ≠ some g) (hv : v'.ownBlock = u.ownBlock ∨ v'.ownBlock = some w.heap.size) : ∀ g, v'.ownBlock = some g → v.ownBlock ≠ some g := fun g hg e => by
  rcases hv with hv | hv
  · exact h g (by rw [← hv, hg]) e
  · rw [hv] at hg; cases hg
    have := (ownO_lt hr e).1
    omega
theorem Tw.setNew {w4 : World} {b j : Nat} {u : Value} (h : Tw w0 n0 Lo Lp Lq vo vp vq w) (h4 : Tw w0 n0 Lo Lp Lq vo vp vq w4) (hb : w4.heap.size ≤ b) : Tw w0 n0 Lo Lp Lq vo vp vq (w.setCell ⟨b, j, none⟩ u) := by
  have hg := grown_setO w b j u
  have hz := h4.z
  have hr : ∀ g, some b = some g → n0 + 7 ≤ g := fun g e => by cases e; omega
  have hn := h.nb
  refine ⟨(heap_setCell_other w _ n0 u (by show n0 ≠ b; omega)).trans h.nm, h.o.keep hg hr (fun g e e' => ?_), h.p.keep hg hr (fun g e e' => ?_), h.q.keep hg hr (fun g e e' => ?_), h.op, h.oq, h.pq, h.b.grown hg h.b.size (fun g e => by cases e; omega), h.nb, by rw [size_set7]; exact h.z⟩
  · cases e'; have := (ownO_lt h4.o.fr e).1; omega
  · cases e'; have := (ownO_lt h4.p.fr e).1; omega
  · cases e'; have := (ownO_lt h4.q.fr e).1; omega
theorem Tw.box2 {w4 : World} {b : Nat} {x y x' y' : Value} {T : TypeId} (h : Tw w0 n0 Lo Lp Lq vo vp vq w) (h4 : Tw w0 n0 Lo Lp Lq vo vp vq w4) (hb : w4.heap.size ≤ b) (hd : w.heap[b]? = some (.cells #[x, y] T (0, 0))) : ((w.setCell ⟨b, 0, none⟩ x').setCell ⟨b, 1, none⟩ y').heap[b]? = some (.cells #[x', y'] T (0, 0)) ∧ Tw w0 n0 Lo Lp Lq vo vp vq ((w.setCell ⟨b, 0, none⟩ x').setCell ⟨b, 1, none⟩ y') := by
  refine ⟨?_, (h.setNew h4 hb).setNew h4 hb⟩
  have h1 : (w.setCell ⟨b, 0, none⟩ x').heap[b]? = some (.cells #[x', y] T (0, 0)) := heap_setCell_same w _ 0 _ _ _ hd
  exact heap_setCell_same _ _ 1 _ _ _ h1
theorem Tw.stepO (h : Tw w0 n0 Lo Lp Lq vo vp vq w) (hr : w'.ownsRow (n0 + 7) 47 4 v' (Lo.length + 1) (Lo.flatMap encSym ++ encSym s)) (hg : w.grownBy w' vo.ownBlock) (hv : v'.ownBlock = vo.ownBlock ∨ v'.ownBlock = some w.heap.size) : Tw w0 n0 (Lo ++ [s]) Lp Lq v' vp vq (w'.setCell ⟨n0 + 1 + 1, 2, none⟩ v') := by
  have ho := own_ge h.o.fr
  obtain ⟨h1, h2, h3⟩ := h.rest (b := n0 + 1 + 1) (j := 2) (u := v') hg ho (by omega)
  exact ⟨h1.trans h.nm, h.o.put hg hr, (h.p.keep hg ho (fun g e e' => h.op g e'.symm e)).set (by omega) (by omega) (by omega), (h.q.keep hg ho (fun g e e' => h.oq g e'.symm e)).set (by omega) (by omega) (by omega),
    ne_new h.p.fr h.op hv, ne_new h.q.fr h.oq hv, h.pq, h2, h.nb, h3⟩
theorem Tw.stepP (h : Tw w0 n0 Lo Lp Lq vo vp vq w) (hr : w'.ownsRow (n0 + 7) 47 4 v' (Lp.length + 1) (Lp.flatMap encSym ++ encSym s)) (hg : w.grownBy w' vp.ownBlock) (hv : v'.ownBlock = vp.ownBlock ∨ v'.ownBlock = some w.heap.size) : Tw w0 n0 Lo (Lp ++ [s]) Lq vo v' vq (w'.setCell ⟨n0 + 1 + 1 + 1 + 1, 2, none⟩ v') := by
  have ho := own_ge h.p.fr
  obtain ⟨h1, h2, h3⟩ := h.rest (b := n0 + 1 + 1 + 1 + 1) (j := 2) (u := v') hg ho (by omega)
  exact ⟨h1.trans h.nm, (h.o.keep hg ho (fun g e e' => h.op g e e'.symm)).set (by omega) (by omega) (by omega), h.p.put hg hr, (h.q.keep hg ho (fun g e e' => h.pq g e'.symm e)).set (by omega) (by omega) (by omega),
    fun g e e' => ne_new h.o.fr (fun g e e' => h.op g e' e) hv g e' e, h.oq, ne_new h.q.fr h.pq hv, h2, h.nb, h3⟩
theorem Tw.stepQ (h : Tw w0 n0 Lo Lp Lq vo vp vq w) (hr : w'.ownsRow (n0 + 7) 47 4 v' (Lq.length + 1) (Lq.flatMap encSym ++ encSym s)) (hg : w.grownBy w' vq.ownBlock) (hv : v'.ownBlock = vq.ownBlock ∨ v'.ownBlock = some w.heap.size) : Tw w0 n0 Lo Lp (Lq ++ [s]) vo vp v' (w'.setCell ⟨n0 + 1 + 1 + 1 + 1 + 1 + 1, 2, none⟩ v') := by
  have ho := own_ge h.q.fr
  obtain ⟨h1, h2, h3⟩ := h.rest (b := n0 + 1 + 1 + 1 + 1 + 1 + 1) (j := 2) (u := v') hg ho (by omega)
  exact ⟨h1.trans h.nm, (h.o.keep hg ho (fun g e e' => h.oq g e e'.symm)).set (by omega) (by omega) (by omega), (h.p.keep hg ho (fun g e e' => h.pq g e e'.symm)).set (by omega) (by omega) (by omega), h.q.put hg hr,
    h.op, fun g e e' => ne_new h.o.fr (fun g e e' => h.oq g e' e) hv g e' e, fun g e e' => ne_new h.p.fr (fun g e e' => h.pq g e' e) hv g e' e, h2, h.nb, h3⟩
end
def syL (f : Nat → Bool) (c : Nat) : List SymD := ((List.range 10).drop c).reverse.map fun i => (nmK i, false, 0, f i)
theorem syL_go (f : Nat → Bool) {c : Nat} (hc : c < 10) : syL f c = syL f (c + 1) ++ [(nmK c, false, 0, f c)] := by
  unfold syL
  rcases (by omega : c = 0 ∨ c = 1 ∨ c = 2 ∨ c = 3 ∨ c = 4 ∨ c = 5 ∨ c = 6 ∨ c = 7 ∨ c = 8 ∨ c = 9) with rfl | rfl | rfl | rfl | rfl | rfl | rfl | rfl | rfl | rfl <;> rfl
def syD (f : Nat → Bool) : ObjD := ⟨[1048691], [], syL f 0, [], []⟩
theorem syD_w (f : Nat → Bool) : ObjW (syD f) where
  text := fun x hx => by simp only [syD, List.mem_singleton] at hx; subst hx; unfold IsW; omega
  data := by simp [syD]
  syms := fun x hx => by
    simp only [syD, syL, List.mem_map] at hx
    obtain ⟨i, _, rfl⟩ := hx
    exact ⟨show 1 ≤ maxLen from by unfold maxLen; omega, by unfold IsI; simp⟩
  rels := by simp [syD]
  ents := by simp [syD]
theorem syD_w2 (f g : Nat → Bool) : ∀ d ∈ [syD f, syD g], ObjW d := fun d hd => by
  simp only [List.mem_cons, List.not_mem_nil, or_false] at hd
  rcases hd with rfl | rfl <;> exact syD_w _
theorem chk_op : ∀ k, k < 11 → chkF [syD fun _ => true, syD fun i => decide (k ≤ i)] = if k = 10 then (⟨#[]⟩, 0) else (nmK k, 6) := by decide +kernel
theorem chk_oq : chkF [syD fun _ => true, syD fun _ => false] = (⟨#[]⟩, 0) := by decide +kernel
theorem find_oq : ∀ m : Nat, m < 10 → fndD [syD fun _ => true, syD fun _ => false] 1 (nmK m) = some (1, 9 - (m : Int)) := by decide +kernel
end Go.Proofs.YtekhmaopemkheaaDoor
