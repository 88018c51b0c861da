/- Layer 6: the reader of package obj: lists of Syms and of Rels. -/
import Derived.Test.YtfdpbogbnfkilaaDoorObjRdR
namespace Go.Proofs.YtfdpbogbnfkilaaDoor
set_option maxRecDepth 100000
open Go.RowKit
set_option linter.unusedVariables false
def encSym (s : SymD) : List Value := [.string s.1, .bool s.2.1, .int .i64 s.2.2.1, .bool s.2.2.2]
def encRel (s : RelD) : List Value := [.int .i64 s.1, .int .i64 s.2.1, .string s.2.2.1, .int .i64 s.2.2.2]

theorem info_sym : (Tryd.prog.info? 65).map (fun i => (i.zero, i.size, i.bytes)) = some (some (.agg #[.string ⟨#[]⟩, .bool false, .int .i64 0, .bool false]), 4, 40) := by kernel_rfl
set_option maxHeartbeats 1000000 in
theorem list_sym (n : Nat) (hn : n ≤ 1000000) (p B : Nat) (l : List Int) (w : World) (hR : RdIs w p B l) :
    Calls Tryd.prog 104 #[.int .i64 n, .func (Fn.func 105) #[.pointer (some ⟨p, 0, none⟩)] #[]] w (RdP p B (rdL rdSym n l) (LisV encSym w n) w) := by
  have HR := Lib.hid hR
  have HP := Lib.hid hR.lt
  clear hR
  obtain ⟨i0, hi, hz0, hz1, hz2⟩ := info_parts info_sym
  go_enter Tryd.func104, Tryd.ntmps104
  go_wp2
  have hat : LstR w p B l rdSym 65 encSym 4 0 (.slice none 0 0) w := LstR.start HR.out
  go_loopw [5, 7] (fun v i wr => ∃ k : Nat, k ≤ n ∧ i = .int .i64 k ∧ LstR w p B l rdSym 65 encSym 4 k v wr) (fun _ i _ => n - (intOf i).toNat)
  case atStart => exact ⟨0, by omega, rfl, hat⟩
  case round =>
    obtain ⟨k, hk, rfl, he⟩ := hrel
    clear hat
    obtain ⟨xs, r, hrd, hRI, hout, hown, hlen⟩ := he
    have HRd := Lib.hid hrd
    have HRI := Lib.hid hRI
    have HOut := Lib.hid hout
    have HOwn := Lib.hid hown
    have HLen := Lib.hid hlen
    clear hrd hRI hout hown hlen
    by_cases hlt : k < n
    · have k0 : (0 : Int) ≤ k := by omega
      have k1 : (k : Int) < n := by omega
      cases hf : rdSym r with
      | none =>
        have HF := Lib.hid hf
        have HN := Lib.hid (rdL_stop HRd.out hf hlt)
        clear hf
        go_wp2_with fail
        refine (rdsym_any p B r _ HRI.out).mono ?_
        intro e w1 h1
        obtain ⟨rfl, h3⟩ := h1.no HF.out
        exact ⟨rfl, RdP.mkNo HN.out (HOut.out.trans h3)⟩
      | some xr =>
        obtain ⟨x, r'⟩ := xr
        have HF := Lib.hid hf
        clear hf
        go_wp2_with fail
        refine (rdsym_any p B r _ HRI.out).mono ?_
        intro e w1 h1
        obtain ⟨v, rfl, rfl, h2, h3⟩ := h1.yes HF.out
        unfold symA
        have H2 := Lib.hid h2
        have H3 := Lib.hid (HOut.out.trans h3)
        have HO1 := Lib.hid (OutO.rowKept HOwn.out h3 (by have := HP.out; omega))
        clear h1 h2 h3
        have HM := Lib.hid (show k + 1 ≤ maxLen by unfold maxLen; omega)
        have HB := Lib.hid (show (k + 1) * 40 ≤ 140737488355328 by omega)
        have HL1 := Lib.hid (show (encSym x).length = 1 * 4 from rfl)
        have H1c := Lib.hid (show ∀ u ∈ encSym x, u.oneCell' = true from fun u hu => by unfold encSym at hu; simp only [List.mem_cons, List.not_mem_nil, or_false] at hu; rcases hu with rfl | rfl | rfl | rfl <;> rfl)
        have HBl := Lib.hid ((Below.refl w1.heap.size w1).alloc (Nat.le_refl _) (.cells #[.string x.1, .bool x.2.1, .int .i64 x.2.2.1, .bool x.2.2.2] 65))
        have HZ := Lib.hid (show w.heap.size ≤ (w1.alloc (.cells #[.string x.1, .bool x.2.1, .int .i64 x.2.2.1, .bool x.2.2.2] 65)).heap.size by (have := H3.out.size; simp; omega))
        have HN := Lib.hid (news_at (w := w1) (w2 := w1.alloc (.cells #[.string x.1, .bool x.2.1, .int .i64 x.2.2.1, .bool x.2.2.2] 65)) (cs := encSym x) (ty := 65) rfl)
        have HO2 := Lib.hid (rowO_below HO1.out HBl.out)
        go_wp2_with (at_builtin; (refine wpList_append_at6 rfl _ _ 24 rfl w.heap.size 65 i0 (.agg #[.string ⟨#[]⟩, .bool false, .int .i64 0, .bool false]) 4 40 Tryd.underlying24 hi hz0 hz1 hz2 rfl (by decide) u5 k (xs.flatMap encSym) ?hs HO2.out ⟨w1.heap.size, 0, none⟩ 1 1 (encSym x) ?hx HL1.out HN.out H1c.out HM.out HB.out HZ.out ?_; (case hs => rfl); (case hx => rfl); intro v' w3 hr hg hv'; have HK := Lib.hid (LstR.next HRd.out HF.out HLen.out H3.out H2.out HO1.out HP.out.1 HP.out.2 HBl.out hr hg); clear hr hg hv'))
        go_roundw
        case rel => exact ⟨k + 1, by omega, by go_num, HK.out⟩
        case measure => simp [intOf]; omega
    · have hkn : k = n := by omega
      have k1 : ¬ (k : Int) < n := by omega
      have HKN := Lib.hid hkn
      obtain ⟨A, c, rfl⟩ := ownO_slice HOwn.out
      clear hkn hlt
      go_wp2
      go_ret
      exact RdP.mkYes (x := xs) (l' := r) (by rw [← HKN.out]; exact HRd.out) HOut.out ⟨A, c, by rw [HKN.out]; rfl, by rw [← HKN.out]; exact HLen.out, RowC.of_own HOwn.out⟩ HRI.out

theorem info_rel : (Tryd.prog.info? 49).map (fun i => (i.zero, i.size, i.bytes)) = some (some (.agg #[.int .i64 0, .int .i64 0, .string ⟨#[]⟩, .int .i64 0]), 4, 40) := by kernel_rfl
set_option maxHeartbeats 1000000 in
theorem list_rel (n : Nat) (hn : n ≤ 1000000) (p B : Nat) (l : List Int) (w : World) (hR : RdIs w p B l) :
    Calls Tryd.prog 106 #[.int .i64 n, .func (Fn.func 107) #[.pointer (some ⟨p, 0, none⟩)] #[]] w (RdP p B (rdL rdRel n l) (LisV encRel w n) w) := by
  have HR := Lib.hid hR
  have HP := Lib.hid hR.lt
  clear hR
  obtain ⟨i0, hi, hz0, hz1, hz2⟩ := info_parts info_rel
  go_enter Tryd.func106, Tryd.ntmps106
  go_wp2
  have hat : LstR w p B l rdRel 49 encRel 4 0 (.slice none 0 0) w := LstR.start HR.out
  go_loopw [5, 7] (fun v i wr => ∃ k : Nat, k ≤ n ∧ i = .int .i64 k ∧ LstR w p B l rdRel 49 encRel 4 k v wr) (fun _ i _ => n - (intOf i).toNat)
  case atStart => exact ⟨0, by omega, rfl, hat⟩
  case round =>
    obtain ⟨k, hk, rfl, he⟩ := hrel
    clear hat
    obtain ⟨xs, r, hrd, hRI, hout, hown, hlen⟩ := he
    have HRd := Lib.hid hrd
    have HRI := Lib.hid hRI
    have HOut := Lib.hid hout
    have HOwn := Lib.hid hown
    have HLen := Lib.hid hlen
    clear hrd hRI hout hown hlen
    by_cases hlt : k < n
    · have k0 : (0 : Int) ≤ k := by omega
      have k1 : (k : Int) < n := by omega
      cases hf : rdRel r with
      | none =>
        have HF := Lib.hid hf
        have HN := Lib.hid (rdL_stop HRd.out hf hlt)
        clear hf
        go_wp2_with fail
        refine (rdrel_any p B r _ HRI.out).mono ?_
        intro e w1 h1
        obtain ⟨rfl, h3⟩ := h1.no HF.out
        exact ⟨rfl, RdP.mkNo HN.out (HOut.out.trans h3)⟩
      | some xr =>
        obtain ⟨x, r'⟩ := xr
        have HF := Lib.hid hf
        clear hf
        go_wp2_with fail
        refine (rdrel_any p B r _ HRI.out).mono ?_
        intro e w1 h1
        obtain ⟨v, rfl, rfl, h2, h3⟩ := h1.yes HF.out
        unfold relA
        have H2 := Lib.hid h2
        have H3 := Lib.hid (HOut.out.trans h3)
        have HO1 := Lib.hid (OutO.rowKept HOwn.out h3 (by have := HP.out; omega))
        clear h1 h2 h3
        have HM := Lib.hid (show k + 1 ≤ maxLen by unfold maxLen; omega)
        have HB := Lib.hid (show (k + 1) * 40 ≤ 140737488355328 by omega)
        have HL1 := Lib.hid (show (encRel x).length = 1 * 4 from rfl)
        have H1c := Lib.hid (show ∀ u ∈ encRel x, u.oneCell' = true from fun u hu => by unfold encRel at hu; simp only [List.mem_cons, List.not_mem_nil, or_false] at hu; rcases hu with rfl | rfl | rfl | rfl <;> rfl)
        have HBl := Lib.hid ((Below.refl w1.heap.size w1).alloc (Nat.le_refl _) (.cells #[.int .i64 x.1, .int .i64 x.2.1, .string x.2.2.1, .int .i64 x.2.2.2] 49))
        have HZ := Lib.hid (show w.heap.size ≤ (w1.alloc (.cells #[.int .i64 x.1, .int .i64 x.2.1, .string x.2.2.1, .int .i64 x.2.2.2] 49)).heap.size by (have := H3.out.size; simp; omega))
        have HN := Lib.hid (news_at (w := w1) (w2 := w1.alloc (.cells #[.int .i64 x.1, .int .i64 x.2.1, .string x.2.2.1, .int .i64 x.2.2.2] 49)) (cs := encRel x) (ty := 49) rfl)
        have HO2 := Lib.hid (rowO_below HO1.out HBl.out)
        go_wp2_with (at_builtin; (refine wpList_append_at6 rfl _ _ 25 rfl w.heap.size 49 i0 (.agg #[.int .i64 0, .int .i64 0, .string ⟨#[]⟩, .int .i64 0]) 4 40 Tryd.underlying25 hi hz0 hz1 hz2 rfl (by decide) u5 k (xs.flatMap encRel) ?hs HO2.out ⟨w1.heap.size, 0, none⟩ 1 1 (encRel x) ?hx HL1.out HN.out H1c.out HM.out HB.out HZ.out ?_; (case hs => rfl); (case hx => rfl); intro v' w3 hr hg hv'; have HK := Lib.hid (LstR.next HRd.out HF.out HLen.out H3.out H2.out HO1.out HP.out.1 HP.out.2 HBl.out hr hg); clear hr hg hv'))
        go_roundw
        case rel => exact ⟨k + 1, by omega, by go_num, HK.out⟩
        case measure => simp [intOf]; omega
    · have hkn : k = n := by omega
      have k1 : ¬ (k : Int) < n := by omega
      have HKN := Lib.hid hkn
      obtain ⟨A, c, rfl⟩ := ownO_slice HOwn.out
      clear hkn hlt
      go_wp2
      go_ret
      exact RdP.mkYes (x := xs) (l' := r) (by rw [← HKN.out]; exact HRd.out) HOut.out ⟨A, c, by rw [HKN.out]; rfl, by rw [← HKN.out]; exact HLen.out, RowC.of_own HOwn.out⟩ HRI.out
end Go.Proofs.YtfdpbogbnfkilaaDoor
