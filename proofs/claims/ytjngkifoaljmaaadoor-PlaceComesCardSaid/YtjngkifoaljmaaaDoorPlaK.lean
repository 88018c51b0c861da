/- Layer 8: all data. Condition: the tables of package ins read as they should. -/
import Derived.Test.YtjngkifoaljmaaaDoorPlaJ
namespace Go.Proofs.YtjngkifoaljmaaaDoor
set_option maxRecDepth 100000
open Go.RowKit
set_option linter.unusedVariables false
/-- all data of the first objects -/
def daT (l : List ObjD) (k : Nat) : List Int := (l.take k).flatMap fun d => d.data
theorem daT_go {l : List ObjD} {k : Nat} (h : k < l.length) : daT l (k + 1) = daT l k ++ l[k].data := by
  unfold daT
  rw [List.take_succ_eq_append_getElem h, List.flatMap_append]
  simp
theorem daT_len (l : List ObjD) : ∀ k, k ≤ l.length → (daT l k).length = sumD l k
  | 0, _ => by simp [daT, sumD]
  | k + 1, h => by rw [daT_go (by omega), List.length_append, daT_len l k (by omega), sumD_go (by omega)]
/-- a row of long words of the call's own -/
def LgAt (w : World) (base : Nat) (xs : List Int) (v : Value) : Prop := ∃ A c, v = .slice A xs.length c ∧ w.ownsRow base 24 1 v xs.length (xs.flatMap encU64)
theorem LgAt.below {w w' : World} {b : Nat} {xs : List Int} {v : Value} (h : LgAt w b xs v) (hb : Below w.heap.size w w') : LgAt w' b xs v := by
  obtain ⟨A, c, e, h⟩ := h; exact ⟨A, c, e, rowO_below h hb⟩
theorem enc64_len (xs : List Int) : (xs.flatMap encU64).length = xs.length := by
  induction xs with
  | nil => rfl
  | cons x xs ih => rw [List.flatMap_cons, List.length_append, ih]; simp [encU64]; omega
theorem info_u64k : (Tryd.prog.info? 24).map (fun i => (i.zero, i.size, i.bytes)) = some (some (.int .u64 0), 1, 8) := by kernel_rfl
theorem one_l8 (xs : List Int) : ∀ u ∈ xs.flatMap encU64, u.oneCell' = true := fun u hu => by
  obtain ⟨x, _, hx⟩ := List.mem_flatMap.1 hu
  unfold encU64 at hx
  simp only [List.mem_cons, List.not_mem_nil, or_false] at hx
  subst hx; rfl
set_option maxHeartbeats 4000000 in
theorem data_any (l : List ObjD) (A : Option Addr) (n c lo hi : Nat) (hn : l.length = n) (hm : mayLs l = true) (w : World) (hA : ObjsAt w lo hi l A) (hh : hi ≤ w.heap.size) :
    Calls Tryd.prog 33 #[.slice A n c] w fun e w' => ∃ v, e = .returned v ∧ LgAt w' w.heap.size (daT l n) v ∧ Below w.heap.size w w' := by
  have hL := mayLs_len hm
  obtain ⟨i0, hi0, hz0, hz1, hz2⟩ := info_parts info_u64k
  have HN := Lib.hid hn
  have HA := Lib.hid hA
  have HH := Lib.hid hh
  have HM := Lib.hid hm
  have hmx : n ≤ 16 := by omega
  clear hn hA hh hm hL
  go_enter Tryd.func33, Tryd.ntmps33
  go_wp2
  go_loopw [8, 3] (fun i v wr => ∃ (k : Nat), k ≤ n ∧ i = .int .i64 k ∧ Hid (LgAt wr w.heap.size (daT l k) v) ∧ Hid (Below w.heap.size w wr)) (fun i _ _ => n - (intOf i).toNat)
  case atStart => exact ⟨0, by omega, rfl, Lib.hid ⟨none, 0, rfl, World.ownsRow_nil _ _ _ _⟩, Lib.hid (Below.refl _ _)⟩
  case round =>
    obtain ⟨k, hk, rfl, HR, HB⟩ := hrel
    by_cases hlt : k < n
    · have k0 : (0 : Int) ≤ k := by omega
      have k1 : (k : Int) < n := by omega
      have hlk : k < l.length := by rw [HN.out]; exact hlt
      obtain ⟨b, o, A1, n1, c1, A2, n2, c2, A3, n3, c3, A4, n4, c4, A5, n5, c5, rfl, hb, ⟨v0, v1, v2, xw, v4⟩, h1, h2, h3, h4, hr0, hr1⟩ := HA.out.td hlk
      have x0 := (HB.out.cell (p := ⟨b, o + k * 5, none⟩) (block_lt v0)).trans v0
      have x1 := (HB.out.cell (p := ⟨b, o + k * 5 + 1, none⟩) (block_lt v1)).trans v1
      have x2 := (HB.out.cell (p := ⟨b, o + k * 5 + 2, none⟩) (block_lt v2)).trans v2
      have x3 := (HB.out.cell (p := ⟨b, o + k * 5 + 3, none⟩) (block_lt xw)).trans xw
      have x4 := (HB.out.cell (p := ⟨b, o + k * 5 + 4, none⟩) (block_lt v4)).trans v4
      have hsg := sumD_go hlk
      obtain ⟨D, hD⟩ : ∃ D, l[k] = D := ⟨_, rfl⟩
      rw [hD] at h1 h2 h3 h4 hr1 hsg
      have hdg := daT_go hlk
      rw [hD] at hdg
      have HD := Lib.hid hdg
      have hal := daT_len l k (Nat.le_of_lt hlk)
      obtain ⟨a, ha⟩ : ∃ a, daT l k = a := ⟨_, rfl⟩
      rw [ha] at HR hal hdg HD
      clear hD
      have b1 := (Below.refl wr.heap.size wr).alloc (Nat.le_refl _) (.cells #[.slice A1 n1 c1, .slice A2 n2 c2, .slice A3 n3 c3, .slice A4 n4 c4, .slice A5 n5 c5] 45)
      have HB1 := Lib.hid (HB.out.trans (b1.mono HB.out.size))
      have HO1 := Lib.hid (heap_alloc_new wr (.cells #[.slice A1 n1 c1, .slice A2 n2 c2, .slice A3 n3 c3, .slice A4 n4 c4, .slice A5 n5 c5] 45))
      have HR1 := Lib.hid (HR.out.below b1)
      obtain ⟨Av, cv, rfl, hown⟩ := HR1.out
      have HOw := Lib.hid hown
      have HRc := Lib.hid ((hr1.move (lo' := lo) (hi' := hi) (w' := wr) (Nat.le_refl _) (Nat.le_refl _) (fun b' _ hb' => HB.out.block b' (Nat.lt_of_lt_of_le hb' HH.out))).move (lo' := lo) (hi' := hi) (w' := wr.alloc (.cells #[.slice A1 n1 c1, .slice A2 n2 c2, .slice A3 n3 c3, .slice A4 n4 c4, .slice A5 n5 c5] 45)) (Nat.le_refl _) (Nat.le_refl _) (fun b' _ hb' => b1.block b' (Nat.lt_of_lt_of_le hb' (Nat.le_trans HH.out HB.out.size))))
      have HLn := Lib.hid (show (D.data.flatMap encU64).length = n2 by rw [enc64_len]; exact h2)
      have hts := may_sumTD HM.out
      have hsl := sumD_le l (k + 1)
      rw [h2] at hsg
      have ham : a.length + n2 ≤ 65536 := by omega
      have HAm := Lib.hid ham
      have H1c := Lib.hid (one_l8 D.data)
      have HMl := Lib.hid (show a.length + n2 ≤ maxLen by unfold maxLen; omega)
      have HBy := Lib.hid (show (a.length + n2) * 8 ≤ 140737488355328 by omega)
      have HSz1 := Lib.hid HB1.out.size
      clear hr0 hdg b1 hts hal hsl hsg h1 h2 h3 h4 hr1 hown hb HR HB v0 v1 v2 xw v4
      obtain ⟨y0, y1, y2, y3, y4, yf⟩ := row5 HO1.out
      go_upto_region 5 with fail
      generalize (wr.alloc (.cells #[.slice A1 n1 c1, .slice A2 n2 c2, .slice A3 n3 c3, .slice A4 n4 c4, .slice A5 n5 c5] 45)) = W at *
      generalize wr.heap.size = ko at *
      clear x0 x1 x2 x3 x4
      go_wp2_with (at_builtin; (refine wpList_append_any8 rfl _ _ 37 rfl w.heap.size 24 i0 (.int .u64 0) 8 Tryd.underlying37 hi0 hz0 hz1 hz2 rfl (.slice Av a.length cv) a.length (a.flatMap encU64) ?hs HOw.out A2 n2 c2 lo hi (D.data.flatMap encU64) ?hx HLn.out HRc.out H1c.out HMl.out HBy.out HSz1.out ?_; (case hs => rfl); (case hx => rfl); intro v' w7 hr hg; obtain ⟨A3', e3', rfl⟩ := ownO_slice hr; have HO7 := Lib.hid (blk_other HOw.out HO1.out (by decide) hg); obtain ⟨r0, r1, r2, r3, r4, rf⟩ := row5 HO7.out))
      have hTn : D.data.length = n2 := by rw [← enc64_len]; exact HLn.out
      have HT7 := Lib.hid (show LgAt w7 w.heap.size (a ++ D.data) (.slice A3' (a.length + n2) e3') from ⟨A3', e3', by rw [List.length_append, hTn], by
        rw [List.length_append, List.flatMap_append, hTn]; exact hr⟩)
      have HB7 := Lib.hid (HB1.out.grown hg HB1.out.size (fun g e => by have := own_ge HOw.out g e; omega))
      clear hr hg y0 y1 y2 y3 y4 yf HO1 HOw HR1 HRc
      go_wp2
      go_roundw
      case rel => exact ⟨k + 1, by omega, by go_num, by rw [HD.out]; exact HT7, HB7⟩
      case measure => simp [intOf]; omega
    · have hkn : k = n := by omega
      have k1 : ¬ (k : Int) < n := by omega
      subst hkn
      have HV := Lib.hid HR.out
      obtain ⟨A7, c7, rfl, -⟩ := HR.out
      go_wp2
      go_ret
      exact ⟨_, rfl, HV.out, HB.out⟩
end Go.Proofs.YtjngkifoaljmaaaDoor
