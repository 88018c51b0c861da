/- Layer 4: the map of a memory: keys that are regions, values that are rows of bytes of the memory's own.
   Layer 4: a memory as it lies; what lying, Allowed and number of package mem answer of it.
   Layer 4: a memory with its bytes; what number, Load, Fetch, Peek, Poke and Store of package mem answer, and leave. -/
import Derived.Test.YtoeagbcjnffpaaaGreatDoorMemA
import Derived.Maps.OwnSet
import Derived.Maps.OwnOps
import Derived.Maps.Views
import Derived.DeepKeys4
import Derived.Deep.RegionHeld3
import Derived.Laws.CopyOwn
namespace Go.Proofs.YtoeagbcjnffpaaaGreatDoor
set_option maxRecDepth 100000
open Go.RowKit Go.Maps
set_option linter.unusedVariables false

theorem laidAllM : laidOutB Tryz.prog = true := by kernel_rfl
theorem rowReg : (57 : TypeId) < Tryz.prog.types.size := of_decide_eq_true (by kernel_rfl)
theorem wideReg : (match Tryz.prog.underlying 57 with | some (.array _ _) | some (.struct _) => true | _ => false) = true := by rw [Tryz.underlying57]
theorem lawReg : Keyed Tryz.prog 57 := Keyed.of_law (deep_law_laid laidAllM (m := 3) (by omega) rowReg (by kernel_rfl) wideReg)
theorem zeroRow (w : World) : (zeroValue 52).run Tryz.prog w = .ok (.slice none 0 0) w := by kernel_rfl
/-- a region as a key -/
def rKey (r : Rg) : Lit := .string (keyBytes [.int .u64 (rlo r), .int .u64 (rhi r), .int .i64 (rown r), .int .i64 (rout r)])
theorem rKey_of {r : Rg} (h : RgW r) : keyOf Tryz.prog 57 (.agg #[.int .u64 (rlo r), .int .u64 (rhi r), .int .i64 (rown r), .int .i64 (rout r)]) = some (rKey r) := by
  obtain ⟨⟨l0, l1⟩, ⟨u0, u1⟩, ⟨o0, o1⟩, ⟨p0, p1⟩⟩ := h
  have wo : (Lit.int .i64 (rown r)).wf = true := WalkArith.wf_i64 ⟨by omega, by omega⟩
  have wp : (Lit.int .i64 (rout r)).wf = true := WalkArith.wf_i64 ⟨by omega, by omega⟩
  have wu : ∀ x : Int, 0 ≤ x → x < 18446744073709551616 → (Lit.int .u64 x).wf = true := fun x h0 h1 => by
    simp only [Lit.wf, Bool.and_eq_true, decide_eq_true_eq]
    exact ⟨h0, by show x ≤ 18446744073709551615; omega⟩
  have wl := wu _ l0 l1
  have wh := wu _ u0 u1
  have h1 : Tryz.prog.keyType 57 = true := by kernel_rfl
  have hc : Tryz.prog.cellsOf 57 = 4 := by kernel_rfl
  have h2 : (Value.agg #[.int .u64 (rlo r), .int .u64 (rhi r), .int .i64 (rown r), .int .i64 (rout r)]).formed Tryz.prog 57 = true := by
    simp [Value.formed, Tryz.underlying57, hc]
  have hci : Tryz.prog.cellsOf 3 = 1 := by kernel_rfl
  have hcu : Tryz.prog.cellsOf 25 = 1 := by kernel_rfl
  have ht : 57 < Tryz.prog.types.size := rowReg
  have e : Tryz.prog.types.size + 1 = (Tryz.prog.types.size - 1) + 1 + 1 := by generalize Tryz.prog.types.size = q at ht; omega
  have h3 : ∀ d, Tryz.prog.keyLits (d + 1 + 1) 57 [.int .u64 (rlo r), .int .u64 (rhi r), .int .i64 (rown r), .int .i64 (rout r)] = some [.int .u64 (rlo r), .int .u64 (rhi r), .int .i64 (rown r), .int .i64 (rout r)] := fun d => by
    simp [Program.keyLits, Tryz.underlying57, Tryz.underlying25, Tryz.underlying3, hc, hci, hcu, wo, wp, wl, wh]
  unfold keyOf
  rw [Tryz.underlying57]
  simp only [h1, h2, Bool.and_self, if_true]
  show Option.map _ (Tryz.prog.keyLits (Tryz.prog.types.size + 1) 57 [.int .u64 (rlo r), .int .u64 (rhi r), .int .i64 (rown r), .int .i64 (rout r)]) = _
  rw [e, h3]
  rfl
theorem rKey_inj {r s : Rg} (hr : RgW r) (hs : RgW s) (h : rKey r = rKey s) : r = s := by
  have a := rKey_of hr
  have b := rKey_of hs
  rw [h] at a
  have := lawReg.inj a b
  simp only [Value.agg.injEq, Array.mk.injEq, List.cons.injEq, Value.int.injEq, true_and, and_true] at this
  obtain ⟨h0, h1, h2, h3⟩ := this
  exact Prod.ext h0 (Prod.ext h1 (Prod.ext h2 h3))
theorem isKey_r (r : Rg) : WideAt.IsKeyLit (rKey r) := trivial

/-- a row of bytes, told by its block -/
def encD (g n c : Nat) : DataW Unit := .agg [.lit (.int .i64 g), .lit (.int .i64 n), .lit (.int .i64 c)]
def encR (v : Value) : Option (DataW Unit × List MemPlace) := match v with
  | .slice (some ⟨g, 0, none⟩) n c => some (encD g n c, [])
  | .slice none 0 0 => some (.nil, [])
  | _ => none
theorem encR_row (g n c : Nat) : encR (.slice (some ⟨g, 0, none⟩) n c) = some (encD g n c, []) := rfl
theorem encR_nil : encR (.slice none 0 0) = some (.nil, []) := rfl
theorem encR_inv {v : Value} {g n c : Nat} {ps : List MemPlace} (h : encR v = some (encD g n c, ps)) : v = .slice (some ⟨g, 0, none⟩) n c := by
  unfold encR at h
  split at h
  · simp only [Option.some.injEq, Prod.mk.injEq, encD, DataW.agg.injEq, List.cons.injEq, DataW.lit.injEq, Lit.int.injEq, true_and, and_true] at h
    obtain ⟨⟨h0, h1, h2⟩, _⟩ := h
    have e0 : _ = g := Int.ofNat.inj h0
    have e1 : _ = n := Int.ofNat.inj h1
    have e2 : _ = c := Int.ofNat.inj h2
    rw [e0, e1, e2]
  · simp [encD] at h
  · cases h
/-- the map that block b is: the first k regions' rows -/
abbrev OwnM (w : World) (b n : Nat) (D : DataW Unit) : Prop := w.ownsMap Tryz.prog 57 encR b n D
def HeldM (w : World) (b : Nat) (T : List Rg) (G : Nat → Nat) (L : Nat → Nat) (k : Nat) : Prop :=
  ∃ D, OwnM w b k D ∧ IsMap D ∧ (∀ i, i < k → ∀ z, D.atKey (rKey (nthR T i)) z = encD (G i) (L i) (L i)) ∧ ∀ kl, has D kl = true → ∃ i, i < k ∧ kl = rKey (nthR T i)
theorem HeldM.below {w w' : World} {b k : Nat} {T : List Rg} {G L : Nat → Nat} (h : HeldM w b T G L k) (hb : Below w.heap.size w w') : HeldM w' b T G L k := by
  obtain ⟨D, ⟨es, clock, h1, h2⟩, h3⟩ := h
  have lt : b < w.heap.size := (Array.getElem?_eq_some_iff.1 h1).1
  exact ⟨D, ⟨es, clock, by rw [hb.block b lt]; exact h1, h2⟩, h3⟩
theorem HeldM.lt {w : World} {b k : Nat} {T : List Rg} {G L : Nat → Nat} (h : HeldM w b T G L k) : b < w.heap.size := by
  obtain ⟨D, h1, _⟩ := h
  exact h1.lt
theorem HeldM.kept {w w' : World} {b k : Nat} {T : List Rg} {G L : Nat → Nat} {row : Option Nat} (h : HeldM w b T G L k) (hg : w.grownBy w' row) (hne : some b ≠ row) : HeldM w' b T G L k := by
  obtain ⟨D, h1, h2⟩ := h
  exact ⟨D, h1.kept hg hne, h2⟩
theorem HeldM.congr {w : World} {b k : Nat} {T : List Rg} {G G' L L' : Nat → Nat} (h : HeldM w b T G L k) (e : ∀ i, i < k → G i = G' i) (e' : ∀ i, i < k → L i = L' i) : HeldM w b T G' L' k := by
  obtain ⟨D, h1, h2, h3, h4⟩ := h
  exact ⟨D, h1, h2, fun i hi z => by rw [← e i hi, ← e' i hi]; exact h3 i hi z, h4⟩
theorem HeldM.made (w : World) (T : List Rg) (G L : Nat → Nat) : HeldM (w.alloc (.map #[] 0)) w.heap.size T G L 0 :=
  ⟨.map [], World.ownsMap_made _ _ _ _, isMap_empty, fun i hi => by omega, fun kl h => by simp [Maps.has_eq] at h⟩
/-- a look-up finds a region's row -/
theorem HeldM.look {w : World} {b k i : Nat} {T : List Rg} {G L : Nat → Nat} (h : HeldM w b T G L k) (hi : i < k) (hW : RgW (nthR T i)) :
    (Instr.lookup 149 (.map (some b)) (.agg #[.int .u64 (rlo (nthR T i)), .int .u64 (rhi (nthR T i)), .int .i64 (rown (nthR T i)), .int .i64 (rout (nthR T i))]) false).run Tryz.prog w = .ok (.slice (some ⟨G i, 0, none⟩) (L i) (L i)) w := by
  obtain ⟨D, h1, _, h3, _⟩ := h
  obtain ⟨v, ps, hr, hv⟩ := h1.lookup lawReg Tryz.underlying149 (zeroRow w) encR_nil (rKey_of hW)
  rw [h3 i hi] at hv
  rw [hr, encR_inv hv]
/-- a row more -/
theorem HeldM.put {w : World} {b k g n : Nat} {T : List Rg} {G L : Nat → Nat} (h : HeldM w b T G L k) (hk : k < 1000) (hW : ∀ i, i ≤ k → RgW (nthR T i)) (hne : ∀ i, i < k → nthR T i ≠ nthR T k) :
    ∃ w', (Instr.mapUpdate 149 (.map (some b)) (.agg #[.int .u64 (rlo (nthR T k)), .int .u64 (rhi (nthR T k)), .int .i64 (rown (nthR T k)), .int .i64 (rout (nthR T k))]) (.slice (some ⟨g, 0, none⟩) n n)).run Tryz.prog w = .ok () w' ∧
      HeldM w' b T (fun i => if i = k then g else G i) (fun i => if i = k then n else L i) (k + 1) ∧ w.grownBy w' (some b) := by
  obtain ⟨D, h1, h2, h3, h4⟩ := h
  obtain ⟨w', hr, hown, hg⟩ := h1.update lawReg Tryz.underlying149 (by unfold maxLen; omega) (rKey_of (hW k (Nat.le_refl _))) (encR_row g n n)
  refine ⟨w', hr, ⟨_, hown, h2.put _ _, fun i hi z => ?_, fun kl hkl => ?_⟩, hg⟩
  · by_cases e : i = k
    · subst e
      show _ = encD (if i = i then g else G i) (if i = i then n else L i) (if i = i then n else L i)
      rw [if_pos rfl, if_pos rfl, atKey_put_same h2 (isKey_r _)]
    · have hlt : i < k := by omega
      show _ = encD (if i = k then g else G i) (if i = k then n else L i) (if i = k then n else L i)
      rw [if_neg e, if_neg e, atKey_put_other (fun h => hne i hlt (rKey_inj (hW i (by omega)) (hW k (Nat.le_refl _)) h)), h3 i hlt]
  · by_cases e : kl = rKey (nthR T k)
    · exact ⟨k, by omega, e⟩
    · rw [has_put_other e] at hkl
      obtain ⟨i, hi, h⟩ := h4 kl hkl
      exact ⟨i, by omega, h⟩
end Go.Proofs.YtoeagbcjnffpaaaGreatDoor
namespace Go.Proofs.YtoeagbcjnffpaaaGreatDoor
set_option maxRecDepth 100000
open Go.RowKit Go.Maps
set_option linter.unusedVariables false

def lenR (r : Rg) : Nat := (rhi r - rlo r).toNat
/-- a block of bytes, known whole -/
def Row (w : World) (g : Nat) (l : List Int) : Prop := w.heap[g]? = some (.cells (l.map (Value.int .u8)).toArray 5 (0, 0))
theorem Row.lt {w : World} {g : Nat} {l : List Int} (h : Row w g l) : g < w.heap.size := (Array.getElem?_eq_some_iff.1 h).1
theorem Row.below {w w' : World} {g : Nat} {l : List Int} (h : Row w g l) (hb : Below w.heap.size w w') : Row w' g l := by
  unfold Row; rw [hb.block g h.lt]; exact h
theorem Row.cell {w : World} {g : Nat} {l : List Int} (h : Row w g l) {k : Nat} (hk : k < l.length) : w.cell? ⟨g, k, none⟩ = some (.int .u8 (nth l k)) := by
  unfold Row at h
  rw [cell_of_row w g k _ _ _ h]
  simp [nth, hk]
theorem Row.sl {w : World} {g : Nat} {l : List Int} (h : Row w g l) (o n : Nat) (hn : o + n ≤ l.length) : Sl w (some ⟨g, o, none⟩) ((l.drop o).take n) := by
  refine .inr ⟨g, o, rfl, fun k hk => ?_⟩
  have hk' : k < n ∧ o + k < l.length := by simp at hk; omega
  rw [h.cell hk'.2]
  congr 2
  simp [nth, hk'.1]
/-- the memory's own cells, its table and its map -/
structure MemH (w : World) (m tb tc hb n : Nat) (T : List Rg) (G : Nat → Nat) : Prop where
  len : T.length = n
  few : n ≤ 16
  tabw : TabW T
  c0 : w.cell? ⟨m, 0, none⟩ = some (.slice (some ⟨tb, 0, none⟩) n tc)
  c1 : w.cell? ⟨m, 1, none⟩ = some (.map (some hb))
  tab : TabAt w tb 0 T
  held : HeldM w hb T G (fun i => lenR (nthR T i)) n
theorem MemH.below {w w' : World} {m tb tc hb n : Nat} {T : List Rg} {G : Nat → Nat} (h : MemH w m tb tc hb n T G) (hb' : Below w.heap.size w w') : MemH w' m tb tc hb n T G :=
  ⟨h.len, h.few, h.tabw, by rw [hb'.cell (p := ⟨m, 0, none⟩) (block_lt h.c0)]; exact h.c0, by rw [hb'.cell (p := ⟨m, 1, none⟩) (block_lt h.c1)]; exact h.c1, h.tab.below hb', h.held.below hb'⟩
theorem lying_none (m : Nat) (p : Int) (w : World) :
    Calls Tryz.prog 43 #[.pointer (some ⟨m, 0, none⟩), .int .u64 p, .int .i64 0] w fun e w' => e = .returned (.tuple #[.slice none 0 0, .int .i64 0]) ∧ w = w' := by
  go_enter Tryz.func43, Tryz.ntmps43
  go_wp2
  go_ret2
  exact ⟨rfl, rfl⟩
theorem lying_no (m tb tc hb n : Nat) (T : List Rg) (G : Nat → Nat) (p q : Int) (hp : IsU p) (hq : IsI q) (hq0 : q ≠ 0) (w : World) (hM : MemH w m tb tc hb n T G) (hF : FindNo T p q) :
    Calls Tryz.prog 43 #[.pointer (some ⟨m, 0, none⟩), .int .u64 p, .int .i64 q] w fun e w' => e = .returned (.tuple #[.slice none 0 0, .int .i64 13]) ∧ Below w.heap.size w w' := by
  have e0 : (q == 0) = false := by rw [beq_eq_false_iff_ne]; exact hq0
  have HM := Lib.hid hM
  have HF := Lib.hid hF
  clear hM hF hq0
  go_enter Tryz.func43, Tryz.ntmps43
  go_wp2_with fail
  refine (find_no m tb tc hb T p q n HM.out.len (by have := HM.out.few; omega) hp hq HM.out.tabw _ HM.out.c0 HM.out.tab HF.out).mono ?_
  rintro e w' ⟨rfl, hb⟩
  have Hb := Lib.hid hb
  clear hb
  go_wp2
  go_ret2
  exact ⟨rfl, Hb.out⟩
set_option maxHeartbeats 1000000 in
theorem lying_yes (m tb tc hb n : Nat) (T : List Rg) (G : Nat → Nat) (p q : Int) (i : Nat) (hp : IsU p) (hq : IsI q) (w : World) (hM : MemH w m tb tc hb n T G) (hF : FindYes T p q i) :
    Calls Tryz.prog 43 #[.pointer (some ⟨m, 0, none⟩), .int .u64 p, .int .i64 q] w fun e w' =>
      e = .returned (.tuple #[.slice (some ⟨G i, (p - rlo (nthR T i)).toNat, none⟩) q.toNat (lenR (nthR T i) - (p - rlo (nthR T i)).toNat), .int .i64 0]) ∧ Below w.heap.size w w' := by
  have e0 : (q == 0) = false := by rw [beq_eq_false_iff_ne]; have := hF.1; omega
  have HM := Lib.hid hM
  have HF := Lib.hid hF
  have HP := Lib.hid hp
  have HQ := Lib.hid hq
  have hiT : i < T.length := hF.2.1
  have hin : i < n := by rw [← hM.len]; exact hiT
  obtain ⟨y0, y1, y2⟩ := hitB_iff.1 hF.2.2.1
  have y3 := hF.1
  obtain ⟨⟨l0, l1⟩, ⟨u0, u1⟩, _⟩ := hM.tabw i hiT
  have hlen : lenR (nthR T i) = (rhi (nthR T i) - rlo (nthR T i)).toNat := rfl
  have HL := Lib.hid hlen
  have i0 : (0 : Int) ≤ i := by omega
  have i1 : (i : Int) < n := by omega
  clear hM hF hp hq hlen hiT hin
  go_enter Tryz.func43, Tryz.ntmps43
  go_wp2_with fail
  refine (find_yes m tb tc T p q i n HM.out.len (by have := HM.out.few; omega) HP.out HQ.out HM.out.tabw _ HM.out.c0 HM.out.tab HF.out).mono ?_
  rintro e w1 ⟨rfl, hb1⟩
  have HM1 := Lib.hid (HM.out.below hb1)
  have Hb := Lib.hid hb1
  have a0 := HM1.out.c0
  have a1 := HM1.out.c1
  obtain ⟨c0, c1, c2, c3⟩ := HM1.out.tab i (by have := HM1.out.len; have := i1; omega)
  simp only [Nat.zero_add] at c0 c1 c2 c3
  clear hb1
  go_wp2_with fail
  have hin : i < n := by have := i1; omega
  have B1 : Below w1.heap.size w1 (w1.alloc (.cells #[.int .u64 (rlo (nthR T i)), .int .u64 (rhi (nthR T i)), .int .i64 (rown (nthR T i)), .int .i64 (rout (nthR T i))] 57)) := (Below.refl _ _).alloc (Nat.le_refl _) _
  have M2 := HM1.out.below B1
  have Hb2 := Lib.hid (Hb.out.trans (B1.mono Hb.out.size))
  have r0 : (w1.alloc (.cells #[.int .u64 (rlo (nthR T i)), .int .u64 (rhi (nthR T i)), .int .i64 (rown (nthR T i)), .int .i64 (rout (nthR T i))] 57)).cell? ⟨w1.heap.size, 0, none⟩ = some (.int .u64 (rlo (nthR T i))) := by simp [go_sem]
  have r1 : (w1.alloc (.cells #[.int .u64 (rlo (nthR T i)), .int .u64 (rhi (nthR T i)), .int .i64 (rown (nthR T i)), .int .i64 (rout (nthR T i))] 57)).cell? ⟨w1.heap.size, 1, none⟩ = some (.int .u64 (rhi (nthR T i))) := by simp [go_sem]
  have r2 : (w1.alloc (.cells #[.int .u64 (rlo (nthR T i)), .int .u64 (rhi (nthR T i)), .int .i64 (rown (nthR T i)), .int .i64 (rout (nthR T i))] 57)).cell? ⟨w1.heap.size, 2, none⟩ = some (.int .i64 (rown (nthR T i))) := by simp [go_sem]
  have r3 : (w1.alloc (.cells #[.int .u64 (rlo (nthR T i)), .int .u64 (rhi (nthR T i)), .int .i64 (rown (nthR T i)), .int .i64 (rout (nthR T i))] 57)).cell? ⟨w1.heap.size, 3, none⟩ = some (.int .i64 (rout (nthR T i))) := by simp [go_sem]
  clear HM HM1 B1 Hb a0 a1 c0 c1 c2 c3
  generalize w1.alloc (.cells #[.int .u64 (rlo (nthR T i)), .int .u64 (rhi (nthR T i)), .int .i64 (rown (nthR T i)), .int .i64 (rout (nthR T i))] 57) = W at *
  have a1 := M2.c1
  have hk : ∀ k, (Instr.lookup 149 (.map (some hb)) (.agg #[.int .u64 (rlo (nthR T i)), .int .u64 (rhi (nthR T i)), .int .i64 (rown (nthR T i)), .int .i64 (rout (nthR T i))]) false).run Tryz.prog (W.drewN k) = .ok (.slice (some ⟨G i, 0, none⟩) (lenR (nthR T i)) (lenR (nthR T i))) (W.drewN k) :=
    fun k => (M2.held.below (bel_drewN (Below.refl _ _) k)).look (i := i) hin (M2.tabw i (by rw [M2.len]; exact hin))
  clear M2
  have z0 : (0 : Int) ≤ p - rlo (nthR T i) := by omega
  have z1 : p - rlo (nthR T i) < (lenR (nthR T i) : Nat) := by have := HL.out; omega
  have z2 : q ≤ (lenR (nthR T i) : Nat) - (p - rlo (nthR T i)) := by have := HL.out; omega
  have z3 : ((lenR (nthR T i) : Nat) : Int) ≤ 18446744073709551616 := by have := HL.out; omega
  go_quiet (fail)
  go_wp2
  go_ret2
  exact ⟨rfl, bel_drewN Hb2.out _⟩
theorem allowed_no (m tb tc hb n : Nat) (T : List Rg) (G : Nat → Nat) (p q : Int) (own : Bool) (x : Int) (hp : IsU p) (hq : IsI q) (w : World) (hM : MemH w m tb tc hb n T G) (hA : AllNo T p q own x) :
    Calls Tryz.prog 175 #[.pointer (some ⟨m, 0, none⟩), .int .u64 p, .int .i64 q, .bool own, .int .i64 x] w fun e w' => e = .returned (.bool false) ∧ Below w.heap.size w w' := by
  have HM := Lib.hid hM
  have HP := Lib.hid hp
  have HQ := Lib.hid hq
  clear hM hp hq
  cases ha : accB p q with
  | false =>
    have HA := Lib.hid ha
    clear ha hA
    go_enter Tryz.func175, Tryz.ntmps175
    go_wp2_with fail
    refine (mayAccess_any p q HP.out HQ.out _).mono ?_
    rw [HA.out]
    rintro e w' ⟨rfl, rfl⟩
    go_wp2
    go_ret
    exact ⟨rfl, Below.refl _ _⟩
  | true =>
    have HA := Lib.hid ha
    rcases hA with hA | hA | ⟨i, hA, hr⟩
    · rw [hA] at ha; cases ha
    · have HF := Lib.hid hA
      clear ha hA
      go_enter Tryz.func175, Tryz.ntmps175
      go_wp2_with fail
      refine (mayAccess_any p q HP.out HQ.out _).mono ?_
      rw [HA.out]
      rintro e w' ⟨rfl, rfl⟩
      go_wp2_with fail
      refine (find_no m tb tc hb T p q n HM.out.len (by have := HM.out.few; omega) HP.out HQ.out HM.out.tabw _ HM.out.c0 HM.out.tab HF.out).mono ?_
      rintro e w1 ⟨rfl, hb1⟩
      have Hb := Lib.hid hb1
      clear hb1
      go_wp2
      go_ret
      exact ⟨rfl, Hb.out⟩
    · have HF := Lib.hid hA
      have HR := Lib.hid hr
      have i0 : (0 : Int) ≤ i := by omega
      have i1 : (i : Int) < n := by have := hA.2.1; rw [HM.out.len] at this; omega
      clear ha hA hr
      go_enter Tryz.func175, Tryz.ntmps175
      go_wp2_with fail
      refine (mayAccess_any p q HP.out HQ.out _).mono ?_
      rw [HA.out]
      rintro e w' ⟨rfl, rfl⟩
      go_wp2_with fail
      refine (find_yes m tb tc T p q i n HM.out.len (by have := HM.out.few; omega) HP.out HQ.out HM.out.tabw _ HM.out.c0 HM.out.tab HF.out).mono ?_
      rintro e w1 ⟨rfl, hb1⟩
      have HM1 := Lib.hid (HM.out.below hb1)
      have Hb := Lib.hid hb1
      have a0 := HM1.out.c0
      obtain ⟨c0, c1, c2, c3⟩ := HM1.out.tab i (by have := HM1.out.len; have := i1; omega)
      simp only [Nat.zero_add] at c0 c1 c2 c3
      clear hb1
      go_wp2_with fail
      refine (rights_any (nthR T i) own _).mono ?_
      rintro e w2 ⟨rfl, hb2⟩
      have Hb2 := Lib.hid (Hb.out.trans (hb2.mono Hb.out.size))
      clear hb2
      go_wp2
      go_ret
      exact ⟨ret_bool HR.out, Hb2.out⟩
theorem allowed_yes (m tb tc hb n : Nat) (T : List Rg) (G : Nat → Nat) (p q : Int) (own : Bool) (x : Int) (i : Nat) (hp : IsU p) (hq : IsI q) (w : World) (hM : MemH w m tb tc hb n T G) (hA : AllYes T p q own x i) :
    Calls Tryz.prog 175 #[.pointer (some ⟨m, 0, none⟩), .int .u64 p, .int .i64 q, .bool own, .int .i64 x] w fun e w' => e = .returned (.bool true) ∧ Below w.heap.size w w' := by
  have HM := Lib.hid hM
  have HP := Lib.hid hp
  have HQ := Lib.hid hq
  obtain ⟨ha, hF, hr⟩ := hA
  have HA := Lib.hid ha
  have HF := Lib.hid hF
  have HR := Lib.hid hr
  have i0 : (0 : Int) ≤ i := by omega
  have i1 : (i : Int) < n := by have := hF.2.1; rw [HM.out.len] at this; omega
  clear ha hF hr hM hp hq
  go_enter Tryz.func175, Tryz.ntmps175
  go_wp2_with fail
  refine (mayAccess_any p q HP.out HQ.out _).mono ?_
  rw [HA.out]
  rintro e w' ⟨rfl, rfl⟩
  go_wp2_with fail
  refine (find_yes m tb tc T p q i n HM.out.len (by have := HM.out.few; omega) HP.out HQ.out HM.out.tabw _ HM.out.c0 HM.out.tab HF.out).mono ?_
  rintro e w1 ⟨rfl, hb1⟩
  have HM1 := Lib.hid (HM.out.below hb1)
  have Hb := Lib.hid hb1
  have a0 := HM1.out.c0
  obtain ⟨c0, c1, c2, c3⟩ := HM1.out.tab i (by have := HM1.out.len; have := i1; omega)
  simp only [Nat.zero_add] at c0 c1 c2 c3
  clear hb1
  go_wp2_with fail
  refine (rights_any (nthR T i) own _).mono ?_
  rintro e w2 ⟨rfl, hb2⟩
  have Hb2 := Lib.hid (Hb.out.trans (hb2.mono Hb.out.size))
  clear hb2
  go_wp2
  go_ret
  exact ⟨ret_bool HR.out, Hb2.out⟩
end Go.Proofs.YtoeagbcjnffpaaaGreatDoor
namespace Go.Proofs.YtoeagbcjnffpaaaGreatDoor
set_option maxRecDepth 100000
open Go.RowKit Go.Maps
set_option linter.unusedVariables false

theorem grown_of_below {w w' : World} {row : Option Nat} (hb : Below w.heap.size w w') : w.grownBy w' row := ⟨hb.os, hb.tape, hb.output, hb.size, fun k hk _ => hb.block k hk⟩
theorem grown_trans {w w1 w2 : World} {row : Option Nat} (h : w.grownBy w1 row) (k : w1.grownBy w2 row) : w.grownBy w2 row :=
  ⟨k.os.trans h.os, k.tape.trans h.tape, k.output.trans h.output, Nat.le_trans h.size k.size, fun i hi hne => (k.block i (Nat.lt_of_lt_of_le hi h.size) hne).trans (h.block i hi hne)⟩
theorem grown_setRow (w : World) (g : Nat) (cs : Array Value) : w.grownBy (w.setRow g cs) (some g) :=
  ⟨rfl, rfl, rfl, by simp [World.setRow], fun k hk hne => setRow_other w g k cs (fun e => hne (by rw [e]))⟩
theorem Row.kept {w w' : World} {g : Nat} {l : List Int} {row : Option Nat} (h : Row w g l) (hg : w.grownBy w' row) (hne : some g ≠ row) : Row w' g l := by
  unfold Row; rw [hg.block g h.lt hne]; exact h
theorem Sl.kept {w w' : World} {A : Option Addr} {l : List Int} {g : Nat} (h : Sl w A l) (hg : w.grownBy w' (some g)) (hne : ∀ a, A = some a → a.block ≠ g) : Sl w' A l := by
  rcases h with h | ⟨b, off, rfl, hc⟩
  · exact .inl h
  · exact .inr ⟨b, off, rfl, fun k hk => hg.cell (hc k hk) (by have := hne _ rfl; simpa using this)⟩
/-- a memory with its bytes, all of its own blocks from base on -/
structure MemIs (w : World) (base m tb tc hb n : Nat) (T : List Rg) (G : Nat → Nat) (B : Nat → List Int) : Prop where
  toH : MemH w m tb tc hb n T G
  rows : ∀ i, i < n → Row w (G i) (B i)
  all : ∀ i, i < n → AllB (B i)
  lens : ∀ i, i < n → (B i).length = lenR (nthR T i)
  apart : ∀ i j, i < n → j < n → G i = G j → i = j
  away : ∀ i, i < n → G i ≠ m ∧ G i ≠ tb ∧ G i ≠ hb
  from_ : ∀ i, i < n → base ≤ G i
  own : base ≤ m ∧ base ≤ tb ∧ base ≤ hb
section
variable {w w' : World} {base m tb tc hb n : Nat} {T : List Rg} {G : Nat → Nat} {B : Nat → List Int}
theorem MemIs.below (h : MemIs w base m tb tc hb n T G B) (k : Below w.heap.size w w') : MemIs w' base m tb tc hb n T G B :=
  ⟨h.toH.below k, fun i hi => (h.rows i hi).below k, h.all, h.lens, h.apart, h.away, h.from_, h.own⟩
theorem MemH.kept {g : Nat} (h : MemH w m tb tc hb n T G) (hg : w.grownBy w' (some g)) (h0 : g ≠ m) (h1 : g ≠ tb) (h2 : g ≠ hb) : MemH w' m tb tc hb n T G := by
  refine ⟨h.len, h.few, h.tabw, hg.cell h.c0 (by simp; exact Ne.symm h0), hg.cell h.c1 (by simp; exact Ne.symm h0), fun i hi => ?_, h.held.kept hg (by simp; exact Ne.symm h2)⟩
  obtain ⟨c0, c1, c2, c3⟩ := h.tab i hi
  exact ⟨hg.cell c0 (by simp; exact Ne.symm h1), hg.cell c1 (by simp; exact Ne.symm h1), hg.cell c2 (by simp; exact Ne.symm h1), hg.cell c3 (by simp; exact Ne.symm h1)⟩
theorem MemIs.rebase {b' : Nat} (h : MemIs w base m tb tc hb n T G B) (k : b' ≤ base) : MemIs w b' m tb tc hb n T G B :=
  ⟨h.toH, h.rows, h.all, h.lens, h.apart, h.away, fun i hi => Nat.le_trans k (h.from_ i hi), ⟨Nat.le_trans k h.own.1, Nat.le_trans k h.own.2.1, Nat.le_trans k h.own.2.2⟩⟩
/-- another block is written -/
theorem MemIs.kept {g : Nat} (h : MemIs w base m tb tc hb n T G B) (hg : w.grownBy w' (some g)) (h0 : g ≠ m) (h1 : g ≠ tb) (h2 : g ≠ hb) (h3 : ∀ i, i < n → G i ≠ g) : MemIs w' base m tb tc hb n T G B :=
  ⟨h.toH.kept hg h0 h1 h2, fun i hi => (h.rows i hi).kept hg (by simp; exact h3 i hi), h.all, h.lens, h.apart, h.away, h.from_, h.own⟩
/-- bytes of region i are written -/
def setB (B : Nat → List Int) (i : Nat) (l : List Int) : Nat → List Int := fun j => if j = i then l else B j
theorem setB_same (B : Nat → List Int) (i : Nat) (l : List Int) : setB B i l i = l := by simp [setB]
theorem setB_other (B : Nat → List Int) {i j : Nat} (l : List Int) (h : j ≠ i) : setB B i l j = B j := by simp [setB, h]
theorem MemIs.poked {i : Nat} {l : List Int} (h : MemIs w base m tb tc hb n T G B) (hi : i < n) (hg : w.grownBy w' (some (G i))) (hr : Row w' (G i) l) (hl : l.length = (B i).length) (ha : AllB l) : MemIs w' base m tb tc hb n T G (setB B i l) := by
  obtain ⟨a0, a1, a2⟩ := h.away i hi
  refine ⟨h.toH.kept hg a0 a1 a2, fun j hj => ?_, fun j hj => ?_, fun j hj => ?_, h.apart, h.away, h.from_, h.own⟩
  all_goals by_cases e : j = i
  · subst e; rw [setB_same]; exact hr
  · rw [setB_other _ _ e]; exact (h.rows j hj).kept hg (by simp; exact fun e' => e (h.apart j i hj hi e'))
  · subst e; rw [setB_same]; exact ha
  · rw [setB_other _ _ e]; exact h.all j hj
  · subst e; rw [setB_same, hl]; exact h.lens j hj
  · rw [setB_other _ _ e]; exact h.lens j hj
/-- where bytes that are found lie -/
theorem MemIs.spot {p q : Int} {i : Nat} (h : MemIs w base m tb tc hb n T G B) (hF : FindYes T p q i) : i < n ∧ (p - rlo (nthR T i)).toNat + q.toNat ≤ (B i).length ∧ 0 < q.toNat ∧ ((q.toNat : Nat) : Int) = q := by
  obtain ⟨h1, h2, h3, _⟩ := hF
  obtain ⟨y0, y1, y2⟩ := hitB_iff.1 h3
  have hi : i < n := by rw [← h.toH.len]; exact h2
  refine ⟨hi, ?_, by omega, by omega⟩
  rw [h.lens i hi]
  unfold lenR
  omega
end
/-- q bytes from p on, in region i -/
def cut (T : List Rg) (B : Nat → List Int) (p q : Int) (i : Nat) : List Int := ((B i).drop (p - rlo (nthR T i)).toNat).take q.toNat
section
variable {w w' : World} {base m tb tc hb n : Nat} {T : List Rg} {G : Nat → Nat} {B : Nat → List Int}
theorem cut_length {p q : Int} {i : Nat} (h : MemIs w base m tb tc hb n T G B) (hF : FindYes T p q i) : (cut T B p q i).length = q.toNat := by
  have := (h.spot hF).2.1
  unfold cut
  simp
  omega
theorem cut_all {p q : Int} {i : Nat} (h : MemIs w base m tb tc hb n T G B) (hF : FindYes T p q i) : AllB (cut T B p q i) := ((h.all i (h.spot hF).1).drop _).take _
theorem cut_sl {p q : Int} {i : Nat} (h : MemIs w base m tb tc hb n T G B) (hF : FindYes T p q i) : Sl w (some ⟨G i, (p - rlo (nthR T i)).toNat, none⟩) (cut T B p q i) :=
  (h.rows i (h.spot hF).1).sl _ _ (h.spot hF).2.1
end
theorem number_no (base m tb tc hb n : Nat) (T : List Rg) (G : Nat → Nat) (B : Nat → List Int) (p q : Int) (own : Bool) (x : Int) (hp : IsU p) (hq : IsI q) (w : World) (hM : MemIs w base m tb tc hb n T G B) (hA : AllNo T p q own x) :
    Calls Tryz.prog 172 #[.pointer (some ⟨m, 0, none⟩), .int .u64 p, .int .i64 q, .bool own, .int .i64 x] w fun e w' => e = .returned (.tuple #[.int .u64 0, .int .i64 13]) ∧ Below w.heap.size w w' := by
  have HM := Lib.hid hM
  have HP := Lib.hid hp
  have HQ := Lib.hid hq
  have HA := Lib.hid hA
  clear hM hp hq hA
  go_enter Tryz.func172, Tryz.ntmps172
  go_wp2_with fail
  refine (allowed_no m tb tc hb n T G p q own x HP.out HQ.out _ HM.out.toH HA.out).mono ?_
  rintro e w1 ⟨rfl, hb1⟩
  have Hb := Lib.hid hb1
  clear hb1
  go_wp2
  go_ret2
  exact ⟨rfl, Hb.out⟩
theorem number_yes (base m tb tc hb n : Nat) (T : List Rg) (G : Nat → Nat) (B : Nat → List Int) (p q : Int) (own : Bool) (x : Int) (i : Nat) (hp : IsU p) (hq : IsI q) (w : World) (hM : MemIs w base m tb tc hb n T G B) (hA : AllYes T p q own x i) :
    Calls Tryz.prog 172 #[.pointer (some ⟨m, 0, none⟩), .int .u64 p, .int .i64 q, .bool own, .int .i64 x] w fun e w' => e = .returned (.tuple #[.int .u64 (wordI (cut T B p q i)), .int .i64 0]) ∧ Below w.heap.size w w' := by
  have HM := Lib.hid hM
  have HP := Lib.hid hp
  have HQ := Lib.hid hq
  have HA := Lib.hid hA
  have HF := Lib.hid hA.2.1
  have HC := Lib.hid (show q.toNat ≤ 8 by have := accB_n hA.1; omega)
  clear hM hp hq hA
  go_enter Tryz.func172, Tryz.ntmps172
  go_wp2_with fail
  refine (allowed_yes m tb tc hb n T G p q own x i HP.out HQ.out _ HM.out.toH HA.out).mono ?_
  rintro e w1 ⟨rfl, hb1⟩
  have HM1 := Lib.hid (HM.out.below hb1)
  have Hb := Lib.hid hb1
  clear hb1
  go_wp2_with fail
  refine (lying_yes m tb tc hb n T G p q i HP.out HQ.out _ HM1.out.toH HF.out).mono ?_
  rintro e w2 ⟨rfl, hb2⟩
  have HM2 := Lib.hid (HM1.out.below hb2)
  have Hb2 := Lib.hid (Hb.out.trans (hb2.mono Hb.out.size))
  clear hb2
  go_wp2_with fail
  refine (word_yes _ (cut T B p q i) _ _ _ (cut_sl HM2.out HF.out) (cut_length HM2.out HF.out) (cut_all HM2.out HF.out) HC.out).mono ?_
  rintro e w' ⟨rfl, rfl⟩
  go_wp2
  go_ret2
  exact ⟨rfl, Hb2.out⟩
theorem load_no (base m tb tc hb n : Nat) (T : List Rg) (G : Nat → Nat) (B : Nat → List Int) (p q : Int) (own : Bool) (hp : IsU p) (hq : IsI q) (w : World) (hM : MemIs w base m tb tc hb n T G B) (hA : AllNo T p q own 1) :
    Calls Tryz.prog 122 #[.pointer (some ⟨m, 0, none⟩), .int .u64 p, .int .i64 q, .bool own] w fun e w' => e = .returned (.tuple #[.int .u64 0, .int .i64 13]) ∧ Below w.heap.size w w' := by
  have HM := Lib.hid hM
  have HA := Lib.hid hA
  clear hM hA
  go_enter Tryz.func122, Tryz.ntmps122
  go_wp2_with fail
  refine (number_no base m tb tc hb n T G B p q own 1 hp hq _ HM.out HA.out).mono ?_
  rintro e w1 ⟨rfl, hb1⟩
  have Hb := Lib.hid hb1
  clear hb1
  go_wp2
  go_ret2
  exact ⟨rfl, Hb.out⟩
theorem load_yes (base m tb tc hb n : Nat) (T : List Rg) (G : Nat → Nat) (B : Nat → List Int) (p q : Int) (own : Bool) (i : Nat) (hp : IsU p) (hq : IsI q) (w : World) (hM : MemIs w base m tb tc hb n T G B) (hA : AllYes T p q own 1 i) :
    Calls Tryz.prog 122 #[.pointer (some ⟨m, 0, none⟩), .int .u64 p, .int .i64 q, .bool own] w fun e w' => e = .returned (.tuple #[.int .u64 (wordI (cut T B p q i)), .int .i64 0]) ∧ Below w.heap.size w w' := by
  have HM := Lib.hid hM
  have HA := Lib.hid hA
  clear hM hA
  go_enter Tryz.func122, Tryz.ntmps122
  go_wp2_with fail
  refine (number_yes base m tb tc hb n T G B p q own 1 i hp hq _ HM.out HA.out).mono ?_
  rintro e w1 ⟨rfl, hb1⟩
  have Hb := Lib.hid hb1
  clear hb1
  go_wp2
  go_ret2
  exact ⟨rfl, Hb.out⟩
theorem fetch_no (base m tb tc hb n : Nat) (T : List Rg) (G : Nat → Nat) (B : Nat → List Int) (p : Int) (own : Bool) (hp : IsU p) (w : World) (hM : MemIs w base m tb tc hb n T G B) (hA : AllNo T p 4 own 4) :
    Calls Tryz.prog 178 #[.pointer (some ⟨m, 0, none⟩), .int .u64 p, .bool own] w fun e w' => e = .returned (.tuple #[.int .u32 0, .int .i64 13]) ∧ Below w.heap.size w w' := by
  have HM := Lib.hid hM
  have HA := Lib.hid hA
  clear hM hA
  go_enter Tryz.func178, Tryz.ntmps178
  go_wp2_with fail
  refine (number_no base m tb tc hb n T G B p 4 own 4 hp ⟨by omega, by omega⟩ _ HM.out HA.out).mono ?_
  rintro e w1 ⟨rfl, hb1⟩
  have Hb := Lib.hid hb1
  clear hb1
  go_wp2
  go_ret2
  exact ⟨rfl, Hb.out⟩
theorem word4_bd {l : List Int} (h : AllB l) (hl : l.length = 4) : 0 ≤ wordI l ∧ wordI l < 4294967296 := by
  have := wordI_bd h
  rw [hl] at this
  exact this
theorem ret_w32 {a b c : Int} (h : a = b) : Ending.returned (.tuple #[.int .u32 a, .int .i64 c]) = Ending.returned (.tuple #[.int .u32 b, .int .i64 c]) := by rw [h]
theorem fetch_yes (base m tb tc hb n : Nat) (T : List Rg) (G : Nat → Nat) (B : Nat → List Int) (p : Int) (own : Bool) (i : Nat) (hp : IsU p) (w : World) (hM : MemIs w base m tb tc hb n T G B) (hA : AllYes T p 4 own 4 i) :
    Calls Tryz.prog 178 #[.pointer (some ⟨m, 0, none⟩), .int .u64 p, .bool own] w fun e w' => e = .returned (.tuple #[.int .u32 (wordI (cut T B p 4 i)), .int .i64 0]) ∧ Below w.heap.size w w' := by
  have HM := Lib.hid hM
  have HA := Lib.hid hA
  obtain ⟨b0, b1⟩ := word4_bd (cut_all hM hA.2.1) (cut_length hM hA.2.1)
  clear hM hA
  go_enter Tryz.func178, Tryz.ntmps178
  go_wp2_with fail
  refine (number_yes base m tb tc hb n T G B p 4 own 4 i hp ⟨by omega, by omega⟩ _ HM.out HA.out).mono ?_
  rintro e w1 ⟨rfl, hb1⟩
  have Hb := Lib.hid hb1
  generalize hX : wordI (cut T B p 4 i) = X at *
  have HX := Lib.hid hX
  clear hb1 hX
  go_wp2
  go_ret2
  exact ⟨ret_w32 HX.out.symm, Hb.out⟩
end Go.Proofs.YtoeagbcjnffpaaaGreatDoor
