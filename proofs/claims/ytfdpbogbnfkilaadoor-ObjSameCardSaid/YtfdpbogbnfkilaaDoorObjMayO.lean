/- Layer 6: operations, and May of package obj. Condition: the tables of package ins read as they should. -/
import Derived.Test.YtfdpbogbnfkilaaDoorObjRight
import Derived.Test.YtfdpbogbnfkilaaDoorInsDec
namespace Go.Proofs.YtfdpbogbnfkilaaDoor
set_option maxRecDepth 100000
open Go.RowKit Go.Maps
set_option linter.unusedVariables false
theorem opsL_take {l : List Int} {k n : Nat} (hk : k < l.length) (h : opOf l[k] = some n) : opsL (l.take (k + 1)) = opsL (l.take k) ++ [(n : Int)] := by
  unfold opsL
  rw [List.take_succ_eq_append_getElem hk, List.map_append]
  simp [h]
theorem textB_bad {l : List Int} {k : Nat} (hk : k < l.length) (h : opOf l[k] = none) : textB l = false := by
  unfold textB
  rw [List.all_eq_false]
  exact ⟨l[k], List.getElem_mem hk, by rw [h]; exact Bool.false_ne_true⟩
theorem textB_all {l : List Int} (h : ∀ k (hk : k < l.length), (opOf l[k]).isSome = true) : textB l = true := by
  unfold textB
  rw [List.all_eq_true]
  intro x hx
  obtain ⟨k, hk, rfl⟩ := List.mem_iff_getElem.1 hx
  exact h k hk
theorem opsL_mem {l : List Int} (h : textB l = true) : ∀ x ∈ opsL l, ∃ o : Nat, x = o ∧ o < 43 := by
  intro x hx
  unfold opsL at hx
  obtain ⟨v, hv, rfl⟩ := List.mem_map.1 hx
  unfold textB at h
  have := List.all_eq_true.1 h v hv
  obtain ⟨n, hn⟩ := Option.isSome_iff_exists.1 this
  exact ⟨n, by rw [hn]; rfl, (opOf_some hn).1⟩
def OpsR (w : World) (l : List Int) (k : Nat) (v : Value) (wr : World) : Prop := Below w.heap.size w wr ∧ wr.ownsRow w.heap.size 3 1 v k ((opsL (l.take k)).flatMap encI64) ∧ ∀ j (hj : j < l.length), j < k → (opOf l[j]).isSome = true
theorem OpsR.next {w wr w2 w3 : World} {l : List Int} {k n : Nat} {v v' : Value} (h : OpsR w l k v wr) (hk : k < l.length) (hn : opOf l[k] = some n) (hb : Below wr.heap.size wr w2)
    (hr : w3.ownsRow w.heap.size 3 1 v' (k + 1) ((opsL (l.take k)).flatMap encI64 ++ encI64 n)) (hg : w2.grownBy w3 v.ownBlock) : OpsR w l (k + 1) v' w3 := by
  obtain ⟨h1, h2, h3⟩ := h
  have hge := own_ge h2
  have hb2 := h1.trans (hb.mono h1.size)
  refine ⟨⟨hg.os.trans hb2.os, hg.tape.trans hb2.tape, hg.output.trans hb2.output, Nat.le_trans hb2.size hg.size, fun j hj => (hg.block j (Nat.lt_of_lt_of_le hj hb2.size) (fun e => by have := hge j e.symm; omega)).trans (hb2.block j hj)⟩, ?_, fun j hj hjk => ?_⟩
  · rw [opsL_take hk hn, List.flatMap_append]; simpa using hr
  · by_cases e : j = k
    · subst e; rw [hn]; rfl
    · exact h3 j hj (by omega)
def OpsP (l : List Int) (n : Nat) (w : World) (e : Ending) (w' : World) : Prop := Below w.heap.size w w' ∧ (textB l = false → e = .returned (.tuple #[.slice none 0 0, .bool false])) ∧ (textB l = true → ∃ A6 c6, e = .returned (.tuple #[.slice A6 n c6, .bool true]) ∧ RowC w' w.heap.size w'.heap.size A6 ((opsL l).flatMap encI64))
set_option maxHeartbeats 2000000 in
theorem operations_any (A : Option Addr) (l : List Int) (n c lo hi : Nat) (hn : l.length = n) (hmax : n ≤ 4096) (hl : ∀ x ∈ l, IsW x) (w : World) (hT : Tabs w) (hrow : RowC w lo hi A (l.flatMap encU32)) (hhi : hi ≤ w.heap.size) :
    Calls Tryd.prog 47 #[.slice A n c] w (OpsP l n w) := by
  obtain ⟨i0, hi', hz0, hz1, hz2⟩ := info_parts info_small
  have HT := Lib.hid hT
  have HRow := Lib.hid hrow
  have HHi := Lib.hid hhi
  have HLn := Lib.hid hn
  have HW := Lib.hid hl
  clear hT hrow hhi hn hl
  go_enter Tryd.func47, Tryd.ntmps47
  go_wp2
  have hat : OpsR w l 0 (.slice none 0 0) w := ⟨Below.refl _ _, World.ownsRow_nil w _ _ _, fun j _ h => by omega⟩
  go_loopw [4, 6, 11] (fun v _ i wr => ∃ k : Nat, k ≤ n ∧ i = .int .i64 k ∧ OpsR w l k v wr) (fun _ _ i _ => n - (intOf i).toNat)
  case atStart => exact ⟨0, by omega, rfl, hat⟩
  case round =>
    obtain ⟨k, hk, rfl, he⟩ := hrel
    clear hat
    have HE := Lib.hid he
    have HB := Lib.hid he.1
    have HTr := Lib.hid (HT.out.below he.1)
    clear he
    by_cases hlt : k < n
    · have k0 : (0 : Int) ≤ k := by omega
      have k1 : (k : Int) < n := by omega
      have hlz : k < l.length := by rw [HLn.out]; exact hlt
      obtain ⟨b, o, rfl, _, hb2, hcell⟩ := HRow.out.at_ (sz := 1) (fun x => rfl) (by omega) (by omega)
      have hx := (HB.out.cell (p := ⟨b, o + (k * 1 + 0), none⟩) (by have := HHi.out; show b < _; omega)).trans (hcell k hlz 0 (.int .u32 l[k]) rfl)
      rw [show o + (k * 1 + 0) = o + k by omega] at hx
      have hw := HW.out l[k] (List.getElem_mem hlz)
      obtain ⟨v, hv⟩ : ∃ v, l[k] = v := ⟨_, rfl⟩
      have HV := Lib.hid hv
      rw [hv] at hx hw
      have HWv := Lib.hid hw
      clear hb2 hcell hv hw
      cases hop : opOf v with
      | none =>
        have HN := Lib.hid (opOf_none hop)
        have HTx := Lib.hid (show textB l = false from textB_bad hlz (by rw [HV.out]; exact hop))
        clear hop
        go_wp2_with fail
        refine (decode_no v wr HWv.out HTr.out HN.out).mono ?_
        rintro e w1 ⟨rfl, hb⟩
        have HB1 := Lib.hid (HB.out.trans (hb.mono HB.out.size))
        clear hb
        go_wp2
        go_ret2
        exact ⟨HB1.out.trans (((Below.refl _ _).alloc (Nat.le_refl _) _).mono HB1.out.size), fun _ => rfl, (fun h => by rw [HTx.out] at h; cases h)⟩
      | some q =>
        have HQ := Lib.hid (show opOf l[k] = some q by rw [HV.out]; exact hop)
        have HQ2 := Lib.hid (opOf_some hop)
        have HLz := Lib.hid hlz
        clear hop
        go_wp2_with fail
        refine (decode_yes v q wr HWv.out HTr.out HQ2.out.1 HQ2.out.2).mono ?_
        rintro e w1 ⟨rfl, hb⟩
        have HBd := Lib.hid hb
        have HBx := Lib.hid (hb.trans (((Below.refl w1.heap.size w1).alloc (Nat.le_refl _) (.cells #[.int .i64 q, .int .i64 (regI v 7 (lRd (opS q))), .int .i64 (regI v 15 (lR1 (opS q))), .int .i64 (regI v 20 (lR2 (opS q))), .int .i64 (numberI v (opS q))] 47)).mono hb.size))
        have HOw := Lib.hid (rowO_below HE.out.2.1 HBx.out)
        have HBy := Lib.hid (HBx.out.trans (((Below.refl _ _).alloc (Nat.le_refl _) (.cells #[.int .i64 q] 3)).mono HBx.out.size))
        have HOy := Lib.hid (rowO_below HE.out.2.1 HBy.out)
        have HM := Lib.hid (show k + 1 ≤ maxLen by unfold maxLen; omega)
        have HB8 := Lib.hid (show (k + 1) * 8 ≤ 140737488355328 by omega)
        have HL1 := Lib.hid (show (encI64 q).length = 1 * 1 from rfl)
        have H1c := Lib.hid (show ∀ u ∈ encI64 q, u.oneCell' = true from fun u hu => by unfold encI64 at hu; simp only [List.mem_singleton] at hu; subst hu; rfl)
        have HZ := Lib.hid (show w.heap.size ≤ ((w1.alloc (.cells #[.int .i64 q, .int .i64 (regI v 7 (lRd (opS q))), .int .i64 (regI v 15 (lR1 (opS q))), .int .i64 (regI v 20 (lR2 (opS q))), .int .i64 (numberI v (opS q))] 47)).alloc (.cells #[.int .i64 q] 3)).heap.size by (have := HB.out.size; have := HBy.out.size; omega))
        have HN := Lib.hid (news_at (w := w1.alloc (.cells #[.int .i64 q, .int .i64 (regI v 7 (lRd (opS q))), .int .i64 (regI v 15 (lR1 (opS q))), .int .i64 (regI v 20 (lR2 (opS q))), .int .i64 (numberI v (opS q))] 47)) (w2 := (w1.alloc (.cells #[.int .i64 q, .int .i64 (regI v 7 (lRd (opS q))), .int .i64 (regI v 15 (lR1 (opS q))), .int .i64 (regI v 20 (lR2 (opS q))), .int .i64 (numberI v (opS q))] 47)).alloc (.cells #[.int .i64 q] 3)) (cs := encI64 q) (ty := 3) rfl)
        have hsz : (w1.alloc (.cells #[.int .i64 q, .int .i64 (regI v 7 (lRd (opS q))), .int .i64 (regI v 15 (lR1 (opS q))), .int .i64 (regI v 20 (lR2 (opS q))), .int .i64 (numberI v (opS q))] 47)).heap.size = w1.heap.size + 1 := by simp
        rw [hsz] at HN
        clear hb hsz hx
        go_wp2_with (at_builtin; (refine wpList_append_at6 rfl _ _ 43 rfl w.heap.size 3 i0 (.int .i64 0) 1 8 Tryd.underlying43 hi' hz0 hz1 hz2 rfl (by decide) u4 k ((opsL (l.take k)).flatMap encI64) ?hs HOy.out ⟨w1.heap.size + 1, 0, none⟩ 1 1 (encI64 q) ?hx HL1.out HN.out H1c.out HM.out HB8.out HZ.out ?_; (case hs => rfl); (case hx => rfl); intro v' w3 hr hg hv'; have HK := Lib.hid (OpsR.next HE.out HLz.out HQ.out HBy.out hr hg); clear hr hg hv'))
        go_roundw
        case rel => exact ⟨k + 1, by omega, by go_num, HK.out⟩
        case measure => simp [intOf]; omega
    · obtain rfl : k = n := by omega
      have HTx := Lib.hid (show textB l = true from textB_all (fun j hj => HE.out.2.2 j hj (by rw [HLn.out] at hj; exact hj)))
      have HOw := Lib.hid (show wr.ownsRow w.heap.size 3 1 u4 k ((opsL l).flatMap encI64) by (have h := HE.out.2.1; rw [← HLn.out, List.take_length, HLn.out] at h; exact h))
      obtain ⟨A6, c6, rfl⟩ := ownO_slice HOw.out
      clear hlt
      go_wp2
      go_ret2
      exact ⟨HB.out, (fun h => by rw [HTx.out] at h; cases h), fun _ => ⟨A6, c6, rfl, RowC.of_own HOw.out⟩⟩
end Go.Proofs.YtfdpbogbnfkilaaDoor
