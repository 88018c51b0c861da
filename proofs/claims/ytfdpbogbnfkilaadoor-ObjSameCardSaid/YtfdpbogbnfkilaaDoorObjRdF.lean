/- Layer 6: the reader of package obj: lists of Entries. -/
import Derived.Test.YtfdpbogbnfkilaaDoorObjRdE
namespace Go.Proofs.YtfdpbogbnfkilaaDoor
set_option maxRecDepth 100000
open Go.RowKit
set_option linter.unusedVariables false
/-- cells in a block from lo on, below hi, which isn't ob -/
def RowO (w : World) (lo hi : Nat) (ob : Option Nat) (A : Option Addr) (cs : List Value) : Prop := cs = [] ∨ ∃ b o, A = some ⟨b, o, none⟩ ∧ lo ≤ b ∧ b < hi ∧ some b ≠ ob ∧ ∀ j v, cs[j]? = some v → w.cell? ⟨b, o + j, none⟩ = some v
/-- the cells of entries, each with the row of its parameters -/
def EntC (w : World) (lo hi : Nat) (ob : Option Nat) : List EntD → List Value → Prop
  | [], cs => cs = []
  | e :: es, cs => ∃ A c rest, cs = .string e.1 :: .slice A e.2.length c :: rest ∧ RowO w lo hi ob A (e.2.flatMap encI64) ∧ EntC w lo hi ob es rest
theorem RowO.move {w w' : World} {lo hi hi' : Nat} {ob ob' : Option Nat} {A : Option Addr} {cs : List Value} (h : RowO w lo hi ob A cs) (hh : hi ≤ hi') (ho : ∀ b, lo ≤ b → b < hi → some b ≠ ob → some b ≠ ob') (hk : ∀ b, lo ≤ b → b < hi → some b ≠ ob → w'.heap[b]? = w.heap[b]?) : RowO w' lo hi' ob' A cs := by
  rcases h with h | ⟨b, o, e, h1, h2, h3, h4⟩
  · exact .inl h
  · exact .inr ⟨b, o, e, h1, by omega, ho b h1 h2 h3, fun j v hj => by rw [World.cell?_of_block (hk b h1 h2 h3)]; exact h4 j v hj⟩
theorem EntC.move {w w' : World} {lo hi hi' : Nat} {ob ob' : Option Nat} (hh : hi ≤ hi') (ho : ∀ b, lo ≤ b → b < hi → some b ≠ ob → some b ≠ ob') (hk : ∀ b, lo ≤ b → b < hi → some b ≠ ob → w'.heap[b]? = w.heap[b]?) : ∀ {es : List EntD} {cs : List Value}, EntC w lo hi ob es cs → EntC w' lo hi' ob' es cs
  | [], cs, h => h
  | e :: es, cs, ⟨A, c, rest, h1, h2, h3⟩ => ⟨A, c, rest, h1, h2.move hh ho hk, EntC.move hh ho hk h3⟩
theorem EntC.snoc {w : World} {lo hi : Nat} {ob : Option Nat} {e : EntD} {A : Option Addr} {c : Nat} (hr : RowO w lo hi ob A (e.2.flatMap encI64)) : ∀ {es : List EntD} {cs : List Value}, EntC w lo hi ob es cs → EntC w lo hi ob (es ++ [e]) (cs ++ [.string e.1, .slice A e.2.length c])
  | [], cs, h => by cases h; exact ⟨A, c, [], rfl, hr, rfl⟩
  | f :: es, cs, ⟨A1, c1, rest, h1, h2, h3⟩ => by subst h1; exact ⟨A1, c1, rest ++ [.string e.1, .slice A e.2.length c], rfl, h2, EntC.snoc hr h3⟩
theorem EntC.len {w : World} {lo hi : Nat} {ob : Option Nat} : ∀ {es : List EntD} {cs : List Value}, EntC w lo hi ob es cs → cs.length = es.length * 2
  | [], cs, h => by cases h; rfl
  | e :: es, cs, ⟨A, c, rest, h1, h2, h3⟩ => by subst h1; simp only [List.length_cons]; rw [EntC.len h3]; omega
/-- what a list of entries is read as -/
def EntsV (w : World) (n : Nat) (es : List EntD) (v : Value) (w' : World) : Prop := ∃ A c cs, v = .slice A n c ∧ es.length = n ∧ RowC w' w.heap.size w'.heap.size A cs ∧ EntC w' w.heap.size w'.heap.size none es cs
def LstE (w : World) (p B : Nat) (l0 : List Int) (k : Nat) (v : Value) (wr : World) : Prop :=
  ∃ es l cs, rdL rdEnt k l0 = some (es, l) ∧ RdIs wr p B l ∧ RdOut p w wr ∧ wr.ownsRow w.heap.size 70 2 v k cs ∧ es.length = k ∧ EntC wr w.heap.size wr.heap.size v.ownBlock es cs
theorem info_ent : (Tryd.prog.info? 70).map (fun i => (i.zero, i.size, i.bytes)) = some (some (.agg #[.string ⟨#[]⟩, .slice none 0 0]), 2, 40) := by kernel_rfl
theorem LstE.next {w wr w1 w2 w3 : World} {p B : Nat} {l0 : List Int} {k : Nat} {v v' : Value} {es : List EntD} {cs : List Value} {r r' : List Int} {x : EntD} {A : Option Addr} {c : Nat}
    (h1 : rdL rdEnt k l0 = some (es, r)) (hf : rdEnt r = some (x, r')) (hl : es.length = k) (hw : RdOut p w wr) (ho : RdOut p wr w1) (hR : RdIs w1 p B r')
    (hown : wr.ownsRow w.heap.size 70 2 v k cs) (hE : EntC wr w.heap.size wr.heap.size v.ownBlock es cs) (hx : RowC w1 wr.heap.size w1.heap.size A (x.2.flatMap encI64)) (hp : p < B) (hB : B ≤ w.heap.size)
    (hb : Below w1.heap.size w1 w2) (hr : w3.ownsRow w.heap.size 70 2 v' (k + 1) (cs ++ [.string x.1, .slice A x.2.length c])) (hg : w2.grownBy w3 v.ownBlock) (hv : v'.ownBlock = v.ownBlock ∨ v'.ownBlock = some w2.heap.size) : LstE w p B l0 (k + 1) v' w3 := by
  have hge := own_ge hown
  have s1 := hw.size
  have s2 := ho.size
  have s3 := hb.size
  have s4 := hg.size
  have hlt : ∀ g, v.ownBlock = some g → g < wr.heap.size := fun g hg => (ownO_lt hown hg).1
  refine ⟨es ++ [x], r', cs ++ [.string x.1, .slice A x.2.length c], rdL_go h1 hf, (hR.below hb).grown hg (fun g e => Nat.le_trans hB (hge g e)), ((hw.trans ho).trans (RdOut.below hb)).grown hg hge, hr, by simp [hl], ?_⟩
  have hE1 : EntC w1 w.heap.size w1.heap.size v.ownBlock es cs := hE.move s2 (fun b _ _ h => h) (fun b h1 h2 _ => ho.block b h2 (by omega))
  have hx1 : RowO w1 w.heap.size w1.heap.size v.ownBlock A (x.2.flatMap encI64) := by
    rcases hx with h | ⟨b, o, e, h1, h2, h3⟩
    · exact .inl h
    · exact .inr ⟨b, o, e, by omega, h2, fun e => by have := hlt b e.symm; omega, h3⟩
  refine (EntC.snoc hx1 hE1).move (by omega) (fun b h1 h2 h3 e => ?_) (fun b h1 h2 h3 => (hg.block b (by omega) h3).trans (hb.block b h2))
  rcases hv with hv | hv
  · exact h3 (e.trans hv)
  · rw [hv] at e; cases e; omega
set_option maxHeartbeats 1000000 in
theorem list_ent (n : Nat) (hn : n ≤ 1000000) (p B : Nat) (l : List Int) (w : World) (hR : RdIs w p B l) :
    Calls Tryd.prog 108 #[.int .i64 n, .func (Fn.func 109) #[.pointer (some ⟨p, 0, none⟩)] #[]] w (RdP p B (rdL rdEnt n l) (EntsV w n) w) := by
  have HR := Lib.hid hR
  have HP := Lib.hid hR.lt
  clear hR
  obtain ⟨i0, hi, hz0, hz1, hz2⟩ := info_parts info_ent
  go_enter Tryd.func108, Tryd.ntmps108
  go_wp2
  have hat : LstE w p B l 0 (.slice none 0 0) w := ⟨[], l, [], rfl, HR.out, RdOut.refl _ _, World.ownsRow_nil w _ _ _, rfl, rfl⟩
  go_loopw [5, 7] (fun v i wr => ∃ k : Nat, k ≤ n ∧ i = .int .i64 k ∧ LstE w p B l k v wr) (fun _ i _ => n - (intOf i).toNat)
  case atStart => exact ⟨0, by omega, rfl, hat⟩
  case round =>
    obtain ⟨k, hk, rfl, he⟩ := hrel
    clear hat
    obtain ⟨xs, r, cs, hrd, hRI, hout, hown, hlen, hent⟩ := he
    have HRd := Lib.hid hrd
    have HRI := Lib.hid hRI
    have HOut := Lib.hid hout
    have HOwn := Lib.hid hown
    have HLen := Lib.hid hlen
    have HEnt := Lib.hid hent
    clear hrd hRI hout hown hlen hent
    by_cases hlt : k < n
    · have k0 : (0 : Int) ≤ k := by omega
      have k1 : (k : Int) < n := by omega
      cases hf : rdEnt r with
      | none =>
        have HF := Lib.hid hf
        have HN := Lib.hid (rdL_stop HRd.out hf hlt)
        clear hf
        go_wp2_with fail
        refine (rdent_any p B r _ HRI.out).mono ?_
        intro e w1 h1
        obtain ⟨rfl, h3⟩ := h1.no HF.out
        exact ⟨rfl, RdP.mkNo HN.out (HOut.out.trans h3)⟩
      | some xr =>
        obtain ⟨x, r'⟩ := xr
        have HF := Lib.hid hf
        clear hf
        go_wp2_with fail
        refine (rdent_any p B r _ HRI.out).mono ?_
        intro e w1 h1
        obtain ⟨v, rfl, ⟨A, c, rfl, hrow⟩, h2, h3⟩ := h1.yes HF.out
        have H2 := Lib.hid h2
        have H3 := Lib.hid h3
        have HRow := Lib.hid hrow
        have HO1 := Lib.hid (OutO.rowKept HOwn.out h3 (by have := HP.out; omega))
        clear h1 h2 h3 hrow
        have HM := Lib.hid (show k + 1 ≤ maxLen by unfold maxLen; omega)
        have HB := Lib.hid (show (k + 1) * 40 ≤ 140737488355328 by omega)
        have HL1 := Lib.hid (show ([Value.string x.1, .slice A x.2.length c]).length = 1 * 2 from rfl)
        have H1c := Lib.hid (show ∀ u ∈ [Value.string x.1, .slice A x.2.length c], u.oneCell' = true from fun u hu => by simp only [List.mem_cons, List.not_mem_nil, or_false] at hu; rcases hu with rfl | rfl <;> rfl)
        have HBl := Lib.hid ((Below.refl w1.heap.size w1).alloc (Nat.le_refl _) (.cells #[.string x.1, .slice A x.2.length c] 70))
        have HZ := Lib.hid (show w.heap.size ≤ (w1.alloc (.cells #[.string x.1, .slice A x.2.length c] 70)).heap.size by (have := H3.out.size; have := HOut.out.size; simp; omega))
        have HN := Lib.hid (news_at (w := w1) (w2 := w1.alloc (.cells #[.string x.1, .slice A x.2.length c] 70)) (cs := [Value.string x.1, .slice A x.2.length c]) (ty := 70) rfl)
        have HO2 := Lib.hid (rowO_below HO1.out HBl.out)
        go_wp2_with (at_builtin; (refine wpList_append_at6 rfl _ _ 26 rfl w.heap.size 70 i0 (.agg #[.string ⟨#[]⟩, .slice none 0 0]) 2 40 Tryd.underlying26 hi hz0 hz1 hz2 rfl (by decide) u5 k cs ?hs HO2.out ⟨w1.heap.size, 0, none⟩ 1 1 [Value.string x.1, .slice A x.2.length c] ?hx HL1.out HN.out H1c.out HM.out HB.out HZ.out ?_; (case hs => rfl); (case hx => rfl); intro v' w3 hr hg hv'; have HK := Lib.hid (LstE.next HRd.out HF.out HLen.out HOut.out H3.out H2.out HOwn.out HEnt.out HRow.out HP.out.1 HP.out.2 HBl.out hr hg hv'); clear hr hg hv'))
        go_roundw
        case rel => exact ⟨k + 1, by omega, by go_num, HK.out⟩
        case measure => simp [intOf]; omega
    · have hkn : k = n := by omega
      have k1 : ¬ (k : Int) < n := by omega
      have HKN := Lib.hid hkn
      obtain ⟨A, c, rfl⟩ := ownO_slice HOwn.out
      clear hkn hlt
      go_wp2
      go_ret
      exact RdP.mkYes (x := xs) (l' := r) (by rw [← HKN.out]; exact HRd.out) HOut.out ⟨A, c, cs, by rw [HKN.out]; rfl, by rw [← HKN.out]; exact HLen.out, RowC.of_own HOwn.out, HEnt.out.move (Nat.le_refl _) (fun b _ _ _ e => by cases e) (fun b _ _ _ => rfl)⟩ HRI.out
end Go.Proofs.YtfdpbogbnfkilaaDoor
