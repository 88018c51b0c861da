/- Fields of words, with the count of draws told: one each.
   Layer 2: what readTold, alike and operation of package ins answer. Conditions: the two tables read as they should.
   Layer 2: the map of operations that are alike: keys that are structs, what such a map holds.
   Layer 2: what alike and operation of package ins answer. Conditions: the two tables read as they should. -/
import Derived.Test.YtjngkifoaljmaaaGreatDoorInsA
import Derived.Deep.RegionWith
import Derived.Outline
import Derived.Maps.OwnSet
import Derived.Maps.OwnOps
import Derived.Maps.Views
import Derived.DeepKeys4
namespace Go.Proofs.YtjngkifoaljmaaaGreatDoor
set_option maxRecDepth 100000
open Go.RowKit
set_option linter.unusedVariables false
theorem field_drew (v f n : Int) (hv : IsU v) (hf : 0 ≤ f) (hn : 0 ≤ n) (h : f + n ≤ 64) (w : World) :
    Calls Tryz.prog 95 #[.int .u64 v, .int .i64 f, .int .i64 n] w fun e w' => e = .returned (.tuple #[.int .u64 (fld v f n), .bool true]) ∧ w' = w.drew := by
  have hn64 : n ≤ 64 := by omega
  go_enter Tryz.func95, Tryz.ntmps95
  go_wp2_with (go_at_call 90; refine (within_yes _ _ _ hf hn h).mono ?_; rintro e w' ⟨rfl, rfl⟩)
  go_region_with ((go_at_call 91; refine (low_any _ hn hn64 _).mono ?_; rintro e w' ⟨rfl, rfl⟩))
  all_goals
    go_wp2
    go_ret2
    exact ⟨ret_u64_tup (field_eq hv hn (by omega)), rfl⟩
theorem wfield_drew (v f n : Int) (hv : IsW v) (hf : 0 ≤ f) (hn : 0 ≤ n) (h : f + n ≤ 64) (w : World) :
    Calls Tryz.prog 88 #[.int .u32 v, .int .i64 f, .int .i64 n] w fun e w' => e = .returned (.int .u32 (fld v f n)) ∧ w' = w.drew := by
  have hu := hv.u
  have hw := Lib.hid (wrap_u32 (isW_fld f n hv))
  have h0 := hv.1
  have h1 := hv.2
  go_enter Tryz.func88, Tryz.ntmps88
  go_wp2_with (go_at_call 95; refine (field_drew _ _ _ hu hf hn h _).mono ?_; rintro e w' ⟨rfl, rfl⟩)
  go_ret
  exact ⟨ret_u32 hw.out, rfl⟩
end Go.Proofs.YtjngkifoaljmaaaGreatDoor
namespace Go.Proofs.YtjngkifoaljmaaaGreatDoor
set_option maxRecDepth 100000
open Go.RowKit
set_option linter.unusedVariables false

/-- what is read of a word at shape s -/
def tK (v : Int) (s : Nat) : Int := if lKd s then fld v 12 3 else 0
def tR (v : Int) (s : Nat) : Int := fld v (lRest s) (32 - (lRest s : Int))
theorem lRest_bd {s : Nat} (hs : s < 8) : 7 ≤ lRest s ∧ lRest s ≤ 32 := all8 (p := fun s => 7 ≤ lRest s ∧ lRest s ≤ 32) (by decide +kernel) hs
attribute [local go_sem ↓] loadAt_lay
abbrev RowS (w : World) (c s : Nat) : Prop := HeldL w c s ∧ LayAt w c 0 s
theorem rowS_below {w w' : World} {c s : Nat} (h : RowS w c s) (hb : Below w.heap.size w w') : RowS w' c s := ⟨heldL_of (h.2.below hb), h.2.below hb⟩
theorem rowS_drew {w : World} {c s : Nat} (h : RowS w c s) : RowS w.drew c s := rowS_below h (Below.drew (Below.refl _ _))
theorem rowS_drewN {w : World} {c s : Nat} (h : RowS w c s) (n : Nat) : RowS (w.drewN n) c s := rowS_below h (below_drewN (Below.refl _ _) n)
theorem rowS_alloc {w : World} {c s : Nat} (h : RowS w c s) (o : Obj) : RowS (w.alloc o) c s := rowS_below h ((Below.refl _ _).alloc (Nat.le_refl _) o)
/-- a block of the call's own, n cells: they are there, and may be written -/
abbrev Mine4 (w : World) (b : Nat) : Prop := (∃ v, w.cell? ⟨b, 0, none⟩ = some v) ∧ (∃ v, w.cell? ⟨b, 1, none⟩ = some v) ∧ (∃ v, w.cell? ⟨b, 2, none⟩ = some v) ∧ (∃ v, w.cell? ⟨b, 3, none⟩ = some v) ∧
  w.frozen? ⟨b, 0, none⟩ = false ∧ w.frozen? ⟨b, 1, none⟩ = false ∧ w.frozen? ⟨b, 2, none⟩ = false ∧ w.frozen? ⟨b, 3, none⟩ = false
theorem told_start {w : World} {s : Nat} {t u : TypeId} {x0 x1 x2 x3 : Value} :
    RowS ((w.alloc (.cells #[x0, x1, x2, x3] t)).alloc (.cells (layA s) u)) (w.heap.size + 1) s ∧ Mine4 ((w.alloc (.cells #[x0, x1, x2, x3] t)).alloc (.cells (layA s) u)) w.heap.size ∧ w.heap.size + 1 < ((w.alloc (.cells #[x0, x1, x2, x3] t)).alloc (.cells (layA s) u)).heap.size ∧ Below w.heap.size w ((w.alloc (.cells #[x0, x1, x2, x3] t)).alloc (.cells (layA s) u)) := by
  have e : w.heap.size + 1 = (w.alloc (.cells #[x0, x1, x2, x3] t)).heap.size := by simp
  have hl : LayAt ((w.alloc (.cells #[x0, x1, x2, x3] t)).alloc (.cells (layA s) u)) (w.heap.size + 1) 0 s := by
    rw [e]; exact layC_iff.1 layC_new
  refine ⟨⟨heldL_of hl, hl⟩, ⟨⟨x0, ?_⟩, ⟨x1, ?_⟩, ⟨x2, ?_⟩, ⟨x3, ?_⟩, ?_, ?_, ?_, ?_⟩, by simp, ((Below.refl _ _).alloc (Nat.le_refl _) _).alloc (by simp) _⟩ <;> simp [go_sem]
theorem below_set4 {w W : World} (h : Below w.heap.size w W) {v0 v1 v2 v3 : Value} : Below w.heap.size w ((((W.setCell ⟨w.heap.size, 0, none⟩ v0).setCell ⟨w.heap.size, 1, none⟩ v1).setCell ⟨w.heap.size, 2, none⟩ v2).setCell ⟨w.heap.size, 3, none⟩ v3) :=
  (((h.setCell (Nat.le_refl _) _).setCell (Nat.le_refl _) _).setCell (Nat.le_refl _) _).setCell (Nat.le_refl _) _
theorem below_drew3 {B : Nat} {a w : World} (h : Below B a w) : Below B a w.drew.drew.drew := h.drew.drew.drew
theorem below_drew4 {B : Nat} {a w : World} (h : Below B a w) : Below B a w.drew.drew.drew.drew := h.drew.drew.drew.drew
set_option maxHeartbeats 1000000 in
theorem readTold_any (v : Int) (s : Nat) (w : World) (hv : IsW v) (hs : s < 8) (hT : Tabs w) :
    Calls Tryz.prog 89 #[.int .u32 v, .int .i64 s] w fun e w' => e = .returned (.agg #[.int .i64 s, .int .u32 (fld v 0 7), .int .u32 (tK v s), .int .u32 (tR v s)]) ∧ Below w.heap.size w w' := by
  obtain ⟨l0, l1⟩ := lRest_bd hs
  have h3 : (0 : Int) ≤ s := by omega
  have h4 : (s : Int) < 8 := by omega
  have z1 : 1 < w.heap.size := hT.size
  have L := Lib.hid ((hT.alloc (.cells #[.int .i64 0, .int .u32 0, .int .u32 0, .int .u32 0] 129)).layAt hs)
  clear hT
  go_enter Tryz.func89, Tryz.ntmps89
  go_wp2_with (first | (refine wpList_load_lay rfl _ rfl _ _ s rfl L.out ?_) | (refine wpList_store_new rfl 126 _ _ rfl _ _ _ _ rfl rfl ?hi ?hs ?h1 rfl ?hg ?_; (case hi => exact layInfo); (case hs => exact rfl); (case h1 => simp [Value.oneCell']); (case hg => simp)))
  have hS := told_start (w := w) (s := s) (x0 := .int .i64 0) (x1 := .int .u32 0) (x2 := .int .u32 0) (x3 := .int .u32 0) (t := 129) (u := 126)
  unfold layA at hS
  generalize (w.alloc (.cells #[.int .i64 0, .int .u32 0, .int .u32 0, .int .u32 0] 129)).alloc _ = W at hS ⊢
  clear L
  obtain ⟨hS, ⟨⟨r0, q0⟩, ⟨r1, q1⟩, ⟨r2, q2⟩, ⟨r3, q3⟩, f0, f1, f2, f3⟩, hz, HB⟩ := hS
  have HBel := Lib.hid HB
  have hz0 : w.heap.size < W.heap.size := by omega
  clear HB
  have y4 := hS.1.2.2.2.1
  have e1 : IntKind.i64.wrap (32 - (lRest s : Int)) = 32 - (lRest s : Int) := by rw [IntKind.wrap_i64]; omega
  have b1 : (0 : Int) ≤ lRest s := by omega
  have b2 : (0 : Int) ≤ 32 - (lRest s : Int) := by omega
  have b3 : (lRest s : Int) + (32 - (lRest s : Int)) ≤ 64 := by omega
  go_region_held3 (fun w' => HeldL w' (w.heap.size + 1) s ∧ LayAt w' (w.heap.size + 1) 0 s) ((repeat (first | (with_reducible exact hS) | (with_reducible apply rowS_drew) | (with_reducible apply rowS_alloc))))
    (first
    | (go_at_call 88; (with_reducible refine (wfield_drew v 0 7 hv (by omega) (by omega) (by omega) _).mono ?_); rintro e w' ⟨rfl, rfl⟩)
    | (go_at_call 88; (with_reducible refine (wfield_drew v (lRest s) (32 - (lRest s : Int)) hv b1 b2 b3 _).mono ?_); rintro e w' ⟨rfl, rfl⟩))
  all_goals
    rename_i hh
    clear hh hS
    cases hk : lKd s with
    | false =>
      have HK := Lib.hid (show (0 : Int) = tK v s by unfold tK; rw [hk]; rfl)
      rw [hk] at y4
      clear hk
      go_wp2
      refine bodyPost_ret (v := .agg #[.int .i64 s, .int .u32 (fld v 0 7), .int .u32 0, .int .u32 (fld v (lRest s) (32 - (lRest s : Int)))]) (by simp [results, Tryz.results89, go_sem, hz0, q0, q1, q2, q3]) rfl ⟨by rw [← HK.out]; rfl, ?_⟩
      exact below_drew3 ((below_set4 HBel.out).alloc (Nat.le_trans HBel.out.size (by simp [World.setCell])) _)
    | true =>
      have HK := Lib.hid (show fld v 12 3 = tK v s by unfold tK; rw [hk]; rfl)
      rw [hk] at y4
      clear hk
      go_wp2_with (go_at_call 88; (with_reducible refine (wfield_drew v 12 3 hv (by omega) (by omega) (by omega) _).mono ?_); rintro e w' ⟨rfl, rfl⟩)
      refine bodyPost_ret (v := .agg #[.int .i64 s, .int .u32 (fld v 0 7), .int .u32 (fld v 12 3), .int .u32 (fld v (lRest s) (32 - (lRest s : Int)))]) (by simp [results, Tryz.results89, go_sem, hz0, q0, q1, q2, q3]) rfl ⟨by rw [← HK.out]; rfl, ?_⟩
      exact below_drew4 ((below_set4 HBel.out).alloc (Nat.le_trans HBel.out.size (by simp [World.setCell])) _)
end Go.Proofs.YtjngkifoaljmaaaGreatDoor
namespace Go.Proofs.YtjngkifoaljmaaaGreatDoor
set_option maxRecDepth 100000
open Go.RowKit Go.Maps
set_option linter.unusedVariables false

theorem laidAll : laidOutB Tryz.prog = true := by kernel_rfl
theorem rowTold : (129 : TypeId) < Tryz.prog.types.size := of_decide_eq_true (by kernel_rfl)
theorem wideTold : (match Tryz.prog.underlying 129 with | some (.array _ _) | some (.struct _) => true | _ => false) = true := by rw [Tryz.underlying129]
theorem lawTold : Keyed Tryz.prog 129 := Keyed.of_law (deep_law_laid laidAll (m := 3) (by omega) rowTold (by kernel_rfl) wideTold)
theorem zeroInt (w : World) : (zeroValue 3).run Tryz.prog w = .ok (.int .i64 0) w := by kernel_rfl
def IsT (x : Int) : Prop := 0 ≤ x ∧ x < 4294967296
/-- a told as a key -/
def tKey (s f k r : Int) : Lit := .string (keyBytes [.int .i64 s, .int .u32 f, .int .u32 k, .int .u32 r])
theorem tKey_of (s f k r : Int) (hs : IsI s) (hf : IsT f) (hk : IsT k) (hr : IsT r) : keyOf Tryz.prog 129 (.agg #[.int .i64 s, .int .u32 f, .int .u32 k, .int .u32 r]) = some (tKey s f k r) := by
  have ws : (Lit.int .i64 s).wf = true := WalkArith.wf_i64 ⟨by have := hs.1; omega, by have := hs.2; omega⟩
  have wu : ∀ x, IsT x → (Lit.int .u32 x).wf = true := fun x hx => by
    obtain ⟨h0, h1⟩ := hx
    simp only [Lit.wf, Bool.and_eq_true, decide_eq_true_eq]
    exact ⟨h0, by show x ≤ 4294967295; omega⟩
  have h1 : Tryz.prog.keyType 129 = true := by kernel_rfl
  have h2 : (Value.agg #[.int .i64 s, .int .u32 f, .int .u32 k, .int .u32 r]).formed Tryz.prog 129 = true := by
    have hc : Tryz.prog.cellsOf 129 = 4 := by kernel_rfl
    simp [Value.formed, Tryz.underlying129, hc]
  have hc : Tryz.prog.cellsOf 129 = 4 := by kernel_rfl
  have hci : Tryz.prog.cellsOf 3 = 1 := by kernel_rfl
  have hcu : Tryz.prog.cellsOf 45 = 1 := by kernel_rfl
  have ht : 129 < Tryz.prog.types.size := rowTold
  have e : Tryz.prog.types.size + 1 = (Tryz.prog.types.size - 1) + 1 + 1 := by generalize Tryz.prog.types.size = q at ht; omega
  have h3 : ∀ d, Tryz.prog.keyLits (d + 1 + 1) 129 [.int .i64 s, .int .u32 f, .int .u32 k, .int .u32 r] = some [.int .i64 s, .int .u32 f, .int .u32 k, .int .u32 r] := fun d => by
    simp [Program.keyLits, Tryz.underlying129, Tryz.underlying45, Tryz.underlying3, hc, hci, hcu, ws, wu f hf, wu k hk, wu r hr]
  unfold keyOf
  rw [Tryz.underlying129]
  simp only [h1, h2, Bool.and_self, if_true]
  show Option.map _ (Tryz.prog.keyLits (Tryz.prog.types.size + 1) 129 [.int .i64 s, .int .u32 f, .int .u32 k, .int .u32 r]) = _
  rw [e, h3]
  rfl
def rowKey (n : Nat) : Lit := tKey (opS n) (opF n) (opK n) (opR n)
theorem op_bd {n : Nat} (hn : n < 43) : opS n < 8 ∧ opF n < 128 ∧ opK n < 8 ∧ opR n < 16384 := all43 (p := fun n => opS n < 8 ∧ opF n < 128 ∧ opK n < 8 ∧ opR n < 16384) (by decide +kernel) hn
theorem rowKey_of {n : Nat} (hn : n < 43) : keyOf Tryz.prog 129 (.agg #[.int .i64 (opS n), .int .u32 (opF n), .int .u32 (opK n), .int .u32 (opR n)]) = some (rowKey n) := by
  obtain ⟨h0, h1, h2, h3⟩ := op_bd hn
  exact tKey_of _ _ _ _ ⟨by omega, by omega⟩ ⟨by omega, by omega⟩ ⟨by omega, by omega⟩ ⟨by omega, by omega⟩
theorem tKey_inj {s f k r s' f' k' r' : Int} (hs : IsI s) (hf : IsT f) (hk : IsT k) (hr : IsT r) (hs' : IsI s') (hf' : IsT f') (hk' : IsT k') (hr' : IsT r') (h : tKey s f k r = tKey s' f' k' r') : s = s' ∧ f = f' ∧ k = k' ∧ r = r' := by
  have a := tKey_of s f k r hs hf hk hr
  have b := tKey_of s' f' k' r' hs' hf' hk' hr'
  rw [h] at a
  have := lawTold.inj a b
  simpa using this
theorem isKey_tKey (s f k r : Int) : WideAt.IsKeyLit (tKey s f k r) := trivial
theorem row_inj {m n : Nat} (hm : m < 43) (hn : n < 43) (h : opS m = opS n ∧ opF m = opF n ∧ opK m = opK n ∧ opR m = opR n) : m = n :=
  all43 (p := fun m => ∀ n, n < 43 → (opS m = opS n ∧ opF m = opF n ∧ opK m = opK n ∧ opR m = opR n) → m = n) (by decide +kernel) hm n hn h
theorem rowKey_inj {m n : Nat} (hm : m < 43) (hn : n < 43) (h : rowKey m = rowKey n) : m = n := by
  obtain ⟨a0, a1, a2, a3⟩ := op_bd hm
  obtain ⟨b0, b1, b2, b3⟩ := op_bd hn
  have := tKey_inj ⟨by omega, by omega⟩ ⟨by omega, by omega⟩ ⟨by omega, by omega⟩ ⟨by omega, by omega⟩ ⟨by omega, by omega⟩ ⟨by omega, by omega⟩ ⟨by omega, by omega⟩ ⟨by omega, by omega⟩ h
  exact row_inj hm hn (by omega)

/-- the map of the first k operations whose first field is f -/
def mapD (f : Int) : Nat → DataW Unit
  | 0 => .map []
  | k + 1 => if (opF k : Int) = f then (mapD f k).put (rowKey k) (.lit (.int .i64 k)) else mapD f k
theorem isKey_row (n : Nat) : WideAt.IsKeyLit (rowKey n) := trivial
theorem mapD_is (f : Int) : ∀ k, IsMap (mapD f k)
  | 0 => isMap_empty
  | k + 1 => by
    unfold mapD
    split
    · exact (mapD_is f k).put _ _
    · exact mapD_is f k
theorem mapD_has (f : Int) (kl : Lit) : ∀ k, Maps.has (mapD f k) kl = true ↔ ∃ n, n < k ∧ (opF n : Int) = f ∧ rowKey n = kl
  | 0 => ⟨fun h => by simp [mapD, Maps.has_eq] at h, fun ⟨n, h, _⟩ => by omega⟩
  | k + 1 => by
    have ih := mapD_has f kl k
    unfold mapD
    by_cases hf : (opF k : Int) = f
    · rw [if_pos hf]
      by_cases he : kl = rowKey k
      · subst he
        rw [has_put_same (mapD_is f k) (isKey_row _)]
        exact ⟨fun _ => ⟨k, by omega, hf, rfl⟩, fun _ => rfl⟩
      · rw [has_put_other he, ih]
        constructor
        · rintro ⟨n, h1, h2, h3⟩; exact ⟨n, by omega, h2, h3⟩
        · rintro ⟨n, h1, h2, h3⟩
          refine ⟨n, ?_, h2, h3⟩
          rcases Nat.lt_or_ge n k with h | h
          · exact h
          · exact absurd (by rw [← h3, show n = k by omega]) he
    · rw [if_neg hf, ih]
      constructor
      · rintro ⟨n, h1, h2, h3⟩; exact ⟨n, by omega, h2, h3⟩
      · rintro ⟨n, h1, h2, h3⟩
        refine ⟨n, ?_, h2, h3⟩
        rcases Nat.lt_or_ge n k with h | h
        · exact h
        · exact absurd h2 (by rw [show n = k by omega]; exact hf)
theorem mapD_at (f : Int) (z : DataW Unit) {n : Nat} (hn : n < 43) (hf : (opF n : Int) = f) : ∀ k, n < k → k ≤ 43 → (mapD f k).atKey (rowKey n) z = .lit (.int .i64 n)
  | k + 1, h, hk => by
    unfold mapD
    by_cases e : n = k
    · subst e
      rw [if_pos hf, atKey_put_same (mapD_is f n) (isKey_row _)]
    · have ih := mapD_at f z hn hf k (by omega) (by omega)
      split
      · rw [atKey_put_other (fun h => e (rowKey_inj hn (by omega) h)), ih]
      · exact ih
end Go.Proofs.YtjngkifoaljmaaaGreatDoor
namespace Go.Proofs.YtjngkifoaljmaaaGreatDoor
set_option maxRecDepth 100000
open Go.RowKit Go.Maps
set_option linter.unusedVariables false

theorem mapD_yes {f : Int} {k : Nat} (h : (opF k : Int) = f) : mapD f (k + 1) = (mapD f k).put (rowKey k) (.lit (.int .i64 k)) := by rw [mapD, if_pos h]
theorem mapD_no {f : Int} {k : Nat} (h : ¬ (opF k : Int) = f) : mapD f (k + 1) = mapD f k := by rw [mapD, if_neg h]
abbrev OwnD (w : World) (b k : Nat) (D : DataW Unit) : Prop := w.ownsMap Tryz.prog 129 (plainElem Tryz.prog 3) b k D
set_option maxHeartbeats 1000000 in
theorem alike_any (f : Int) (w : World) (hT : Tabs w) :
    Calls Tryz.prog 87 #[.int .u32 f] w fun e w' => e = .returned (.map (some w.heap.size)) ∧ OwnD w' w.heap.size 43 (mapD f 43) ∧ Below w.heap.size w w' := by
  have HT := Lib.hid hT
  have hmm := @run_makeMap Tryz.prog
  clear hT
  go_enter Tryz.func87, Tryz.ntmps87
  go_wp2
  go_loopw [6] (fun i wr => ∃ k : Nat, k ≤ 43 ∧ i = .int .i64 k ∧ OwnD wr w.heap.size k (mapD f k) ∧ Below w.heap.size w wr) (fun i _ => 43 - (intOf i).toNat)
  case atStart => exact ⟨0, by omega, rfl, World.ownsMap_made _ _ _ _, (Below.refl _ _).alloc (Nat.le_refl _) _⟩
  case round =>
    obtain ⟨k, hk, rfl, hown, hb⟩ := hrel
    have T := HT.out.below hb
    have Hb := Lib.hid hb
    clear hb hmm
    by_cases hlt : k < 43
    · have h0 : (0 : Int) ≤ k := by omega
      have h1 : (k : Int) < 43 := by omega
      have c0 := T.1 k hlt 0 (by omega)
      have c1 := T.1 k hlt 1 (by omega)
      have c2 := T.1 k hlt 2 (by omega)
      have c3 := T.1 k hlt 3 (by omega)
      simp only [nthV, opCells, Nat.add_zero, List.getD_cons_zero, List.getD_cons_succ] at c0 c1 c2 c3
      have hkey := rowKey_of hlt
      clear T
      by_cases hf : (opF k : Int) = f
      · have ht : ((opF k : Int) == f) = true := by rw [beq_iff_eq]; exact hf
        have HD := Lib.hid (mapD_yes hf)
        have wf : (Lit.int .i64 (k : Int)).wf = true := WalkArith.wf_i64 ⟨by omega, by omega⟩
        clear hf
        go_wp2_with (at_mapUpdate; refine wpList_mapUpdate_own _ rfl _ _ _ 140 rfl 129 3 lawTold Tryz.underlying140 _ w.heap.size k _ rfl hown (by unfold maxLen; omega) _ _ _ rfl rfl hkey _ [] (plainElem_int Tryz.underlying3 wf) ?_; intro w1 hown1 hgrow1)
        go_roundw
        case rel => exact ⟨k + 1, by omega, by go_num, by rw [HD.out]; exact hown1, Hb.out.grown hgrow1 Hb.out.size (fun j hj => by cases hj; exact Nat.le_refl _)⟩
        case measure => simp [intOf]; omega
      · have ht : ((opF k : Int) == f) = false := by rw [beq_eq_false_iff_ne]; exact hf
        have HD := Lib.hid (mapD_no hf)
        have hown2 := Lib.hid (hown.mono (show k ≤ k + 1 by omega))
        clear hf hown
        go_wp2
        go_roundw
        case rel => exact ⟨k + 1, by omega, by go_num, by rw [HD.out]; exact hown2.out, Hb.out⟩
        case measure => simp [intOf]; omega
    · obtain rfl : k = 43 := by omega
      have HO := Lib.hid hown
      clear hown T
      go_wp2
      go_ret
      exact ⟨rfl, HO.out, Hb.out⟩

/-- operation n is the word's -/
def Match (v : Int) (n : Nat) : Prop := (opF n : Int) = fld v 0 7 ∧ (opK n : Int) = tK v (opS n) ∧ (opR n : Int) = tR v (opS n)
theorem apart {m n : Nat} (hm : m < 43) (hn : n < 43) : m = n ∨ opF m ≠ opF n ∨ (lKd (opS m) = true ∧ lKd (opS n) = true ∧ opK m ≠ opK n) ∨ (opS m = opS n ∧ opR m ≠ opR n) :=
  all43 (p := fun m => ∀ n, n < 43 → m = n ∨ opF m ≠ opF n ∨ (lKd (opS m) = true ∧ lKd (opS n) = true ∧ opK m ≠ opK n) ∨ (opS m = opS n ∧ opR m ≠ opR n)) (by decide +kernel) hm n hn
theorem Match.one {v : Int} {m n : Nat} (hm : m < 43) (hn : n < 43) (h : Match v m) (h' : Match v n) : m = n := by
  rcases apart hm hn with e | e | ⟨e1, e2, e3⟩ | ⟨e1, e2⟩
  · exact e
  · have := h.1; have := h'.1; omega
  · have a := h.2.1
    have b := h'.2.1
    unfold tK at a b
    rw [e1] at a
    rw [e2] at b
    simp at a b
    omega
  · have a := h.2.2
    have b := h'.2.2
    rw [e1] at a
    omega
theorem isT_fld {v : Int} (f n : Int) (hv : IsW v) : IsT (fld v f n) := isW_fld f n hv
theorem isT_tK {v : Int} (s : Nat) (hv : IsW v) : IsT (tK v s) := by
  unfold tK
  split
  · exact isT_fld _ _ hv
  · exact ⟨by omega, by omega⟩
theorem isT_tR {v : Int} (s : Nat) (hv : IsW v) : IsT (tR v s) := isT_fld _ _ hv
/-- what the look-up at shape s finds -/
theorem found_iff {v : Int} (hv : IsW v) {s : Nat} (hs : s < 8) : Maps.has (mapD (fld v 0 7) 43) (tKey s (fld v 0 7) (tK v s) (tR v s)) = true ↔ ∃ n, n < 43 ∧ opS n = s ∧ Match v n := by
  rw [mapD_has]
  constructor
  · rintro ⟨n, hn, hf, hk⟩
    obtain ⟨b0, b1, b2, b3⟩ := op_bd hn
    have := tKey_inj ⟨by omega, by omega⟩ ⟨by omega, by omega⟩ ⟨by omega, by omega⟩ ⟨by omega, by omega⟩ ⟨by omega, by omega⟩ (isT_fld _ _ hv) (isT_tK s hv) (isT_tR s hv) hk
    obtain ⟨e0, e1, e2, e3⟩ := this
    have e : opS n = s := by omega
    exact ⟨n, hn, e, e1, by rw [e]; exact e2, by rw [e]; exact e3⟩
  · rintro ⟨n, hn, hs, h⟩
    refine ⟨n, hn, h.1, ?_⟩
    unfold rowKey
    rw [hs, h.1, h.2.1, h.2.2, hs]
theorem found_not {v : Int} (hv : IsW v) {s : Nat} (hs : s < 8) (h : ∀ n, n < 43 → opS n = s → ¬ Match v n) : Maps.has (mapD (fld v 0 7) 43) (tKey s (fld v 0 7) (tK v s) (tR v s)) = false := by
  cases e : Maps.has (mapD (fld v 0 7) 43) (tKey s (fld v 0 7) (tK v s) (tR v s)) with
  | false => rfl
  | true =>
    obtain ⟨n, hn, h1, h2⟩ := (found_iff hv hs).1 e
    exact absurd h2 (h n hn h1)
theorem found_at {v : Int} {n : Nat} (hn : n < 43) (h : Match v n) (z : DataW Unit) : (mapD (fld v 0 7) 43).atKey (tKey (opS n) (fld v 0 7) (tK v (opS n)) (tR v (opS n))) z = .lit (.int .i64 n) := by
  have := mapD_at (fld v 0 7) z hn h.1 43 hn (Nat.le_refl _)
  rw [← this]
  unfold rowKey
  rw [h.1, h.2.1, h.2.2]
/-- a map that the call owns, behind whatever leaves all that was there -/
theorem OwnD.below {w w' : World} {b k : Nat} {D : DataW Unit} (h : OwnD w b k D) (hb : Below w.heap.size w w') : OwnD w' b k D := by
  obtain ⟨es, clock, h1, h2⟩ := h
  have lt : b < w.heap.size := (Array.getElem?_eq_some_iff.1 h1).1
  exact ⟨es, clock, by rw [hb.block b lt]; exact h1, h2⟩
theorem lit_int {a b : Int} (h : (DataW.lit (.int .i64 a) : DataW Unit) = .lit (.int .i64 b)) : a = b := by simpa using h
theorem ret_ib {a b : Int} {c : Bool} (h : a = b) : Ending.returned (.tuple #[.int .i64 a, .bool c]) = Ending.returned (.tuple #[.int .i64 b, .bool c]) := by rw [h]
def OpS (w w' : World) (b : Nat) (f : Int) : Prop := Tabs w' ∧ OwnD w' b 43 (mapD f 43) ∧ Below w.heap.size w w'
theorem OpS.below {w w1 w2 : World} {b : Nat} {f : Int} (h : OpS w w1 b f) (hb : Below w1.heap.size w1 w2) : OpS w w2 b f := ⟨h.1.below hb, h.2.1.below hb, h.2.2.trans (hb.mono h.2.2.size)⟩
theorem OpS.tabs {w w1 : World} {b : Nat} {f : Int} (h : OpS w w1 b f) : Tabs w1 := h.1
theorem OpS.own {w w1 : World} {b : Nat} {f : Int} (h : OpS w w1 b f) : OwnD w1 b 43 (mapD f 43) := h.2.1
theorem OpS.bel {w w1 : World} {b : Nat} {f : Int} (h : OpS w w1 b f) : Below w.heap.size w w1 := h.2.2
/-- a round in which nothing is found -/
theorem look_no {v : Int} (hv : IsW v) {s : Nat} (hs : s < 8) : keyOf Tryz.prog 129 (.agg #[.int .i64 s, .int .u32 (fld v 0 7), .int .u32 (tK v s), .int .u32 (tR v s)]) = some (tKey s (fld v 0 7) (tK v s) (tR v s)) :=
  tKey_of _ _ _ _ ⟨by omega, by omega⟩ (isT_fld _ _ hv) (isT_tK s hv) (isT_tR s hv)
set_option maxHeartbeats 1000000 in
theorem operation_no (v : Int) (w : World) (hv : IsW v) (hT : Tabs w) (hn : ∀ n, n < 43 → ¬ Match v n) :
    Calls Tryz.prog 72 #[.int .u32 v] w fun e w' => e = .returned (.tuple #[.int .i64 0, .bool false]) ∧ Below w.heap.size w w' := by
  have HT := Lib.hid hT
  have HN := Lib.hid hn
  clear hT hn
  go_enter Tryz.func72, Tryz.ntmps72
  go_wp2_with fail
  refine (wfield_drew v 0 7 hv (by omega) (by omega) (by omega) _).mono ?_
  rintro e w' ⟨rfl, rfl⟩
  go_wp2_with fail
  refine (alike_any (fld v 0 7) _ (HT.out.drewN 1)).mono ?_
  rintro e w1 ⟨rfl, hown, hb⟩
  have HS := Lib.hid (show OpS w w1 w.heap.size (fld v 0 7) from ⟨(HT.out.drewN 1).below hb, hown, (Below.drew (Below.refl _ _)).trans hb⟩)
  clear hown hb HT
  go_wp2_with fail
  go_loopw [11] (fun i wr => ∃ s : Nat, s ≤ 8 ∧ i = .int .i64 s ∧ OpS w wr w.heap.size (fld v 0 7)) (fun i _ => 8 - (intOf i).toNat)
  case atStart => exact ⟨0, by omega, rfl, HS.out⟩
  case round =>
    obtain ⟨s, hk, rfl, hS⟩ := hrel
    have HS1 := Lib.hid hS
    clear hS
    by_cases hlt : s < 8
    · have h0 : (0 : Int) ≤ s := by omega
      have h1 : (s : Int) < 8 := by omega
      have hh := found_not hv hlt (fun n hn _ => HN.out n hn)
      have hkey := look_no hv hlt
      go_wp2_with (first | (go_at_call 89; (with_reducible refine (readTold_any v s _ hv hlt HS1.out.tabs).mono ?_); rintro e w2 ⟨rfl, hb2⟩; have HS2 := Lib.hid (HS1.out.below hb2); clear hb2) | (at_lookup; refine wpList_lookup_own_ok_int _ rfl _ _ 140 rfl 129 3 .i64 lawTold Tryz.underlying140 Tryz.underlying3 (zeroInt _) w.heap.size 43 (mapD (fld v 0 7) 43) rfl HS2.out.own _ _ rfl hkey ?_; intro c hat hwc; clear hat hwc))
      go_roundw
      case rel => exact ⟨s + 1, by omega, by go_num, HS2.out⟩
      case measure => simp [intOf]; omega
    · obtain rfl : s = 8 := by omega
      go_wp2
      go_ret2
      exact ⟨rfl, HS1.out.bel⟩
set_option maxHeartbeats 1000000 in
theorem operation_yes (v : Int) (n : Nat) (w : World) (hv : IsW v) (hT : Tabs w) (hn : n < 43) (hM : Match v n) :
    Calls Tryz.prog 72 #[.int .u32 v] w fun e w' => e = .returned (.tuple #[.int .i64 n, .bool true]) ∧ Below w.heap.size w w' := by
  have HT := Lib.hid hT
  have HM := Lib.hid hM
  have hsn := opS_lt hn
  clear hT hM
  go_enter Tryz.func72, Tryz.ntmps72
  go_wp2_with fail
  refine (wfield_drew v 0 7 hv (by omega) (by omega) (by omega) _).mono ?_
  rintro e w' ⟨rfl, rfl⟩
  go_wp2_with fail
  refine (alike_any (fld v 0 7) _ (HT.out.drewN 1)).mono ?_
  rintro e w1 ⟨rfl, hown, hb⟩
  have HS := Lib.hid (show OpS w w1 w.heap.size (fld v 0 7) from ⟨(HT.out.drewN 1).below hb, hown, (Below.drew (Below.refl _ _)).trans hb⟩)
  clear hown hb HT
  go_wp2_with fail
  go_loopw [11] (fun i wr => ∃ s : Nat, s ≤ opS n ∧ i = .int .i64 s ∧ OpS w wr w.heap.size (fld v 0 7)) (fun i _ => 8 - (intOf i).toNat)
  case atStart => exact ⟨0, by omega, rfl, HS.out⟩
  case round =>
    obtain ⟨s, hk, rfl, hS⟩ := hrel
    have HS1 := Lib.hid hS
    clear hS
    have hlt : s < 8 := by omega
    have h0 : (0 : Int) ≤ s := by omega
    have h1 : (s : Int) < 8 := by omega
    have hkey := look_no hv hlt
    by_cases hs : s < opS n
    · have hh := found_not hv hlt (fun m hm he h => by
        have := Match.one hm hn h HM.out
        subst this
        omega)
      go_wp2_with (first | (go_at_call 89; (with_reducible refine (readTold_any v s _ hv hlt HS1.out.tabs).mono ?_); rintro e w2 ⟨rfl, hb2⟩; have HS2 := Lib.hid (HS1.out.below hb2); clear hb2) | (at_lookup; refine wpList_lookup_own_ok_int _ rfl _ _ 140 rfl 129 3 .i64 lawTold Tryz.underlying140 Tryz.underlying3 (zeroInt _) w.heap.size 43 (mapD (fld v 0 7) 43) rfl HS2.out.own _ _ rfl hkey ?_; intro c hat hwc; clear hat hwc))
      go_roundw
      case rel => exact ⟨s + 1, by omega, by go_num, HS2.out⟩
      case measure => simp [intOf]; omega
    · have he : opS n = s := by omega
      have hh : Maps.has (mapD (fld v 0 7) 43) (tKey s (fld v 0 7) (tK v s) (tR v s)) = true := (found_iff hv hlt).2 ⟨n, hn, he, HM.out⟩
      have Hat := Lib.hid (found_at (z := .lit (.int .i64 0)) hn HM.out)
      rw [he] at Hat
      clear he hk hs
      go_wp2_with (first | (go_at_call 89; (with_reducible refine (readTold_any v s _ hv hlt HS1.out.tabs).mono ?_); rintro e w2 ⟨rfl, hb2⟩; have HS2 := Lib.hid (HS1.out.below hb2); clear hb2) | (at_lookup; refine wpList_lookup_own_ok_int _ rfl _ _ 140 rfl 129 3 .i64 lawTold Tryz.underlying140 Tryz.underlying3 (zeroInt _) w.heap.size 43 (mapD (fld v 0 7) 43) rfl HS2.out.own _ _ rfl hkey ?_; intro c hat hwc; have Hc := Lib.hid (lit_int (hat.symm.trans Hat.out)); clear hat hwc))
      go_ret2
      exact ⟨ret_ib Hc.out, HS2.out.bel⟩
end Go.Proofs.YtjngkifoaljmaaaGreatDoor
