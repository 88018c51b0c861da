/- Layer 7: Find. No condition. -/
import Derived.Test.YthoehbmbmjmpbaaDoorSymD
import Derived.Deep.DeepCutAuto
namespace Go.Proofs.YthoehbmbmjmpbaaDoor
set_option maxRecDepth 100000
open Go.RowKit
set_option linter.unusedVariables false
theorem calls_write (args : Array Value) (w : World) : (callFunc 30 args).run Tryd.prog w = .ok (.enter 30 args) w := by kernel_rfl
theorem calls_meaning (args : Array Value) (w : World) : (callFunc 39 args).run Tryd.prog w = .ok (.enter 39 args) w := by kernel_rfl
/-- what a name means in an object of a list -/
def fndD (l : List ObjD) (i : Int) (nm : ByteArray) : Option (Int × Int) := if 0 ≤ i ∧ i < l.length then meanM (wrL (fun s => decide (s = nm)) l l.length) l.length i nm else none
theorem fndD_far {l : List ObjD} {i : Int} {nm : ByteArray} (h : ¬ (0 ≤ i ∧ i < l.length)) : fndD l i nm = none := by unfold fndD; rw [if_neg h]
theorem defV_form (r : Option (Int × Int)) : ∃ a j, defV r = .agg #[.int .i64 a, .int .i64 j] := by
  rcases r with _ | ⟨o, j⟩
  · exact ⟨0, 0, rfl⟩
  · exact ⟨o, j, rfl⟩
theorem res_find {T : Array Value} {b : Nat} {c : Bool} {W : World} {v0 v1 : Value} {ty : TypeId} (h2 : T[6]? = some (.pointer (some ⟨b, 0, none⟩))) (h3 : T[7]? = some (.bool c)) (hr : W.heap[b]? = some (.cells #[v0, v1] ty (0, 0))) :
    (results Tryd.f15 T).run Tryd.prog W = .ok (.tuple #[.agg #[v0, v1], .bool c]) W := by
  have y0 := cell_of_row W b 0 _ _ _ hr
  have y1 := cell_of_row W b 1 _ _ _ hr
  simp only [List.getElem?_toArray, List.getElem?_cons_zero, List.getElem?_cons_succ] at y0 y1
  simp [results, Tryd.results15, go_sem, h2, h3, y0, y1]
theorem find_start (w : World) (nm : ByteArray) : ∃ W, W = ((w.alloc (.cells #[.string nm] 9)).alloc (.cells #[.int .i64 0, .int .i64 0] 39)) ∧ W.cell? ⟨w.heap.size, 0, none⟩ = some (.string nm) ∧ W.heap[w.heap.size + 1]? = some (.cells #[.int .i64 0, .int .i64 0] 39 (0, 0)) ∧ Below w.heap.size w W := by
  have hb : Below w.heap.size w ((w.alloc (.cells #[.string nm] 9)).alloc (.cells #[.int .i64 0, .int .i64 0] 39)) := ((Below.refl _ _).alloc (Nat.le_refl _) _).alloc (by simp) _
  have h := heap_alloc_new (w.alloc (.cells #[.string nm] 9)) (.cells #[.int .i64 0, .int .i64 0] 39)
  have hr : ((w.alloc (.cells #[.string nm] 9)).alloc (.cells #[.int .i64 0, .int .i64 0] 39)).heap[w.heap.size]? = some (.cells #[.string nm] 9 (0, 0)) := (heap_alloc_old _ _ (by simp)).trans (heap_alloc_new w _)
  refine ⟨_, rfl, ?_, by simpa using h, hb⟩
  have y := cell_of_row _ w.heap.size 0 _ _ _ hr
  rw [y]; rfl
set_option maxHeartbeats 4000000 in
theorem find_any (l : List ObjD) (hW : ∀ d ∈ l, ObjW d) (A : Option Addr) (n c lo hi : Nat) (hn : l.length = n) (hmx : n ≤ 1000000) (hsum : 2 * sumS l l.length < 1000000) (i : Int) (hi_ : IsI i) (nm : ByteArray) (hs : nm.size ≤ maxLen) (w : World) (hA : ObjsAt w lo hi l A) (hh : hi ≤ w.heap.size) :
    Calls Tryd.prog 15 #[.slice A n c, .int .i64 i, .string nm] w fun e w' => e = .returned (.tuple #[defV (fndD l i nm), .bool (fndD l i nm).isSome]) ∧ Below w.heap.size w w' := by
  obtain ⟨W, hWe, hWn, hWd, hWb⟩ := find_start w nm
  have HWe := Lib.hid hWe
  have HWb := Lib.hid hWb
  have HWd := Lib.hid hWd
  have HCw := Lib.hid (write_name l hW A n c lo hi hn hmx hsum w.heap.size nm W.drew ((hA.below hh hWb).below (Nat.le_trans hh hWb.size) (Below.drew (Below.refl _ _))) (Nat.le_trans hh hWb.size) hWn)
  have HIi := Lib.hid hi_
  have HSz := Lib.hid hs
  have HMx := Lib.hid hmx
  have HN := Lib.hid hn
  by_cases hin : 0 ≤ i ∧ i < (n : Int)
  · obtain ⟨h0, h1⟩ := hin
    have HF := Lib.hid (show fndD l i nm = meanM (wrL (fun s => decide (s = nm)) l n) n i nm by unfold fndD; rw [hn, if_pos ⟨h0, h1⟩])
    obtain ⟨da, dj, hd⟩ := defV_form (meanM (wrL (fun s => decide (s = nm)) l n) n i nm)
    obtain ⟨dc, hdc⟩ : ∃ dc, (meanM (wrL (fun s => decide (s = nm)) l n) n i nm).isSome = dc := ⟨_, rfl⟩
    have HD := Lib.hid (And.intro hd hdc)
    have h0' : ¬ i < 0 := by omega
    have h1' : ¬ i ≥ (n : Int) := by omega
    have hmf : ∀ (fn : Fn) (first cap : Array Value) (w : World), (Instr.makeFunc fn first cap).run Tryd.prog w = .ok (.func fn first cap) w := fun _ _ _ _ => rfl
    have hcn := hWn
    obtain ⟨z0, z1, zf⟩ := row2 hWd
    clear hW hn hsum hA hh hd hdc hmx hi_ hs hWb hWd
    go_enter Tryd.func15, Tryd.ntmps15
    go_upto_region 3 with fail
    rw [← hWe]
    clear hWe HWe
    go_region_law (first
      | (refine step_call6 rfl 30 _ _ rfl #[.slice A n c, .func (Fn.func 38) #[] #[.pointer (some ⟨w.heap.size, 0, none⟩)]] ?hv calls_write HCw.out ?_; (case hv => simp [go_sem]); rintro e w2 ⟨b, N, rfl, hb, hk, hN, hbl⟩; refine ⟨_, rfl, ?_⟩; have HB2 := Lib.hid (HWb.out.trans (((Below.refl W.heap.size W).drew.trans hbl).mono HWb.out.size)); have HD2 := Lib.hid (((((Below.refl W.heap.size W).drew.trans hbl)).block _ (Array.getElem?_eq_some_iff.1 HWd.out).1).trans HWd.out); have hcn2 := (((Below.refl W.heap.size W).drew.trans hbl).cell (p := ⟨w.heap.size, 0, none⟩) (block_lt hcn)).trans hcn; have HCm := Lib.hid (meaning_any b N n HMx.out _ i HIi.out nm HSz.out w2 hk); obtain ⟨p0, p1, pf⟩ := row2 HD2.out; clear hb hk hN hbl)
      | (refine step_call6 rfl 39 _ _ rfl #[.agg #[.int .i64 n, .map (some b)], .int .i64 i, .string nm] ?hv calls_meaning HCm.out ?_; (case hv => simp [go_sem]); rintro e w3 ⟨rfl, hb3⟩; rw [HD.out.1, HD.out.2]; refine ⟨_, rfl, ?_⟩; have HB3 := Lib.hid (HB2.out.trans (hb3.mono HB2.out.size)); have HD3 := Lib.hid ((hb3.block _ (Array.getElem?_eq_some_iff.1 HD2.out).1).trans HD2.out); obtain ⟨r0, r1, rf⟩ := row2 HD3.out; clear hb3))
    all_goals
      go_wp2
      rw [HF.out, HD.out.1, HD.out.2]
      exact bodyPost_ret (v := .tuple #[.agg #[.int .i64 da, .int .i64 dj], .bool dc]) (res_find (b := w.heap.size + 1) rfl rfl (sfill2 HD3.out _ _)) rfl ⟨rfl, below_setNew (below_setNew HB3.out (by omega)) (by omega)⟩
  · have HF := Lib.hid (fndD_far (l := l) (i := i) (nm := nm) (by rw [hn]; exact hin))
    have HDr := Lib.hid (show ((w.alloc (.cells #[.string nm] 9)).alloc (.cells #[.int .i64 0, .int .i64 0] 39)).heap[w.heap.size + 1]? = some (.cells #[.int .i64 0, .int .i64 0] 39 (0, 0)) from hWe ▸ hWd)
    have HBr := Lib.hid (show Below w.heap.size w ((w.alloc (.cells #[.string nm] 9)).alloc (.cells #[.int .i64 0, .int .i64 0] 39)) from hWe ▸ hWb)
    clear hW hn hsum hA hh hmx hi_ hs hWb hWd hWe hWn HWe HWb HWd HCw
    by_cases h0 : i < 0
    · clear hin
      go_enter Tryd.func15, Tryd.ntmps15
      go_wp2
      rw [HF.out]
      exact bodyPost_ret (v := .tuple #[.agg #[.int .i64 0, .int .i64 0], .bool false]) (res_find (b := w.heap.size + 1) rfl rfl HDr.out) rfl ⟨rfl, HBr.out⟩
    · have h1 : i ≥ (n : Int) := by omega
      clear hin
      go_enter Tryd.func15, Tryd.ntmps15
      go_wp2
      rw [HF.out]
      exact bodyPost_ret (v := .tuple #[.agg #[.int .i64 0, .int .i64 0], .bool false]) (res_find (b := w.heap.size + 1) rfl rfl HDr.out) rfl ⟨rfl, HBr.out⟩
end Go.Proofs.YthoehbmbmjmpbaaDoor
