/- The walk of the statement TreeNames: it returns true, and writes nothing that was there. -/
import Derived.Test.YtbhdbglhejibbaaGreatDoorTuV
namespace Go.Proofs.YtbhdbglhejibbaaGreatDoor.TreeNamesWalk
set_option maxRecDepth 100000
open Go.RowKit
set_option linter.unusedVariables false
theorem nm_row (q : ByteArray) (w : World) (i : Nat) (hi : i < 7) : (w.alloc (.cells #[.string (⟨#[40, 115, 101, 99, 114, 101, 116, 32]⟩ ++ q ++ ⟨#[32, 49, 41]⟩), .string (⟨#[40, 102, 117, 110, 32]⟩ ++ q ++ ⟨#[32, 40, 41, 32, 40, 114, 101, 116, 32, 48, 41, 41]⟩), .string (⟨#[40, 102, 117, 110, 32, 102, 32, 40]⟩ ++ q ++ ⟨#[41, 32, 40, 114, 101, 116, 32, 48, 41, 41]⟩), .string (⟨#[40, 102, 117, 110, 32, 102, 32, 40, 41, 32, 40, 115, 101, 116, 32]⟩ ++ q ++ ⟨#[32, 49, 41, 32, 40, 114, 101, 116, 32, 48, 41, 41]⟩), .string (⟨#[40, 102, 117, 110, 32, 102, 32, 40, 41, 32, 40, 102, 111, 114, 32]⟩ ++ q ++ ⟨#[32, 50, 41, 32, 40, 114, 101, 116, 32, 48, 41, 41]⟩), .string (⟨#[40, 102, 117, 110, 32, 102, 32, 40, 41, 32, 40, 114, 101, 116, 32, 40, 103, 101, 116, 32]⟩ ++ q ++ ⟨#[32, 48, 41, 41, 41]⟩), .string (⟨#[40, 102, 117, 110, 32, 102, 32, 40, 41, 32, 40, 114, 101, 116, 32, 40, 99, 97, 108, 108, 32]⟩ ++ q ++ ⟨#[41, 41, 41]⟩)] 9)).cell? ⟨w.heap.size, i, none⟩ = some (.string (nmS i q)) := by
  rw [cell_of_row _ _ i _ _ _ (heap_alloc_new w _)]
  match i, hi with
  | 0, _ => rfl
  | 1, _ => rfl
  | 2, _ => rfl
  | 3, _ => rfl
  | 4, _ => rfl
  | 5, _ => rfl
  | 6, _ => rfl
theorem nm_size (i : Nat) (hi : i < 7) (q : ByteArray) (h : q.size ≤ 100) : (nmS i q).size ≤ 200 := by
  match i, hi with
  | 0, _ => show (⟨#[40, 115, 101, 99, 114, 101, 116, 32]⟩ ++ q ++ ⟨#[32, 49, 41]⟩ : ByteArray).size ≤ 200; rw [ByteArray.size_append, ByteArray.size_append]; show 8 + q.size + 3 ≤ 200; omega
  | 1, _ => show (⟨#[40, 102, 117, 110, 32]⟩ ++ q ++ ⟨#[32, 40, 41, 32, 40, 114, 101, 116, 32, 48, 41, 41]⟩ : ByteArray).size ≤ 200; rw [ByteArray.size_append, ByteArray.size_append]; show 5 + q.size + 12 ≤ 200; omega
  | 2, _ => show (⟨#[40, 102, 117, 110, 32, 102, 32, 40]⟩ ++ q ++ ⟨#[41, 32, 40, 114, 101, 116, 32, 48, 41, 41]⟩ : ByteArray).size ≤ 200; rw [ByteArray.size_append, ByteArray.size_append]; show 8 + q.size + 10 ≤ 200; omega
  | 3, _ => show (⟨#[40, 102, 117, 110, 32, 102, 32, 40, 41, 32, 40, 115, 101, 116, 32]⟩ ++ q ++ ⟨#[32, 49, 41, 32, 40, 114, 101, 116, 32, 48, 41, 41]⟩ : ByteArray).size ≤ 200; rw [ByteArray.size_append, ByteArray.size_append]; show 15 + q.size + 12 ≤ 200; omega
  | 4, _ => show (⟨#[40, 102, 117, 110, 32, 102, 32, 40, 41, 32, 40, 102, 111, 114, 32]⟩ ++ q ++ ⟨#[32, 50, 41, 32, 40, 114, 101, 116, 32, 48, 41, 41]⟩ : ByteArray).size ≤ 200; rw [ByteArray.size_append, ByteArray.size_append]; show 15 + q.size + 12 ≤ 200; omega
  | 5, _ => show (⟨#[40, 102, 117, 110, 32, 102, 32, 40, 41, 32, 40, 114, 101, 116, 32, 40, 103, 101, 116, 32]⟩ ++ q ++ ⟨#[32, 48, 41, 41, 41]⟩ : ByteArray).size ≤ 200; rw [ByteArray.size_append, ByteArray.size_append]; show 20 + q.size + 5 ≤ 200; omega
  | 6, _ => show (⟨#[40, 102, 117, 110, 32, 102, 32, 40, 41, 32, 40, 114, 101, 116, 32, 40, 99, 97, 108, 108, 32]⟩ ++ q ++ ⟨#[41, 41, 41]⟩ : ByteArray).size ≤ 200; rw [ByteArray.size_append, ByteArray.size_append]; show 21 + q.size + 3 ≤ 200; omega
theorem lsA_proW {w w' : World} {p : ProD} {v1 v2 : Value} (h1 : LsA w.heap.size w' p.1 v1) (h2 : LsF w.heap.size w' p.2 v2) : ProW p := by
  obtain ⟨A1, c1, e1, g1, g2, g3, g4⟩ := h1
  obtain ⟨A2, c2, e2, k1, k2, k3, k4⟩ := h2
  exact ⟨⟨Nat.le_trans g1 g2, g4⟩, Nat.le_trans k1 k2, k4⟩
def okC (c : Int) : Prop := 32 < c ∧ c ≠ 40 ∧ c ≠ 41 ∧ c ≠ 59
theorem ok_kind {c : UInt8} (h : okC (c.toNat : Int)) : kindP c.toNat = 0 ∨ kindP c.toNat = 1 := by
  obtain ⟨h1, h2, h3, h4⟩ := h
  unfold kindP
  rw [if_neg (by omega), if_neg (by omega), if_neg (by omega)]
  split
  · exact .inr rfl
  · exact .inl rfl
theorem chr_kind {c : Int} (h : chrB c = true) : kindP c = 1 := by
  unfold chrB digB letB at h
  simp only [Bool.or_eq_true, Bool.and_eq_true, decide_eq_true_eq, beq_iff_eq] at h
  unfold kindP
  rw [if_neg (by omega), if_neg (by omega), if_neg (by omega), if_pos (by omega)]
/-- what Parse hands back, whatever the word is -/
theorem parse_nm (i : Nat) (hi : i < 7) (d : List UInt8) (hd : d ≠ []) (hok : ∀ c ∈ d, okC (c.toNat : Int)) (hs : (nmS i ⟨d.toArray⟩).size ≤ 200) (w : World) (hT : TrT w) (hL : LxT w) :
    Calls Tryz.prog 13 #[.string (nmS i ⟨d.toArray⟩)] w (LackQP (if nameB (sB ⟨d.toArray⟩) = true then some (nmP i ⟨d.toArray⟩) else none) 3 w) := by
  by_cases hw : ∀ c ∈ d, kindP c.toNat = 1
  · have h := parse_known (s := nmS i ⟨d.toArray⟩) (ts := nmT i ⟨d.toArray⟩) (by omega) (nm_ok i hi d ⟨hd, hw⟩) (nm_words i hi d ⟨hd, hw⟩) w hT hL
    rw [nm_src i hi] at h
    exact h
  · have hx : ∃ c ∈ d, kindP c.toNat = 0 := by
      by_cases h : ∃ c ∈ d, kindP c.toNat = 0
      · exact h
      · refine absurd (fun c hc => ?_) hw
        rcases ok_kind (hok c hc) with h0 | h1
        · exact absurd ⟨c, hc, h0⟩ h
        · exact h1
    have hn : nameB (sB ⟨d.toArray⟩) = false := by
      cases hb : nameB (sB ⟨d.toArray⟩) with
      | false => rfl
      | true =>
        obtain ⟨c, hc, h0⟩ := hx
        obtain ⟨_, _, h3⟩ := name_parts hb
        have := chr_kind (h3 (c.toNat : Int) (by unfold sB; exact List.mem_map.2 ⟨c, by simpa using hc, rfl⟩))
        omega
    rw [hn]
    have hwr := nm_wrong i hi d (fun c hc => ok_kind (hok c hc)) hx (fun c hc => by
      rintro rfl
      have := (hok 10 hc).1
      revert this; decide)
    refine (tparse10 (nmS i ⟨d.toArray⟩) w hT hL).mono fun e w' h => ?_
    unfold ParseE at h
    rw [if_neg (by omega)] at h
    obtain ⟨r, h1, h2⟩ := h
    rcases h1 with ⟨_, rfl⟩ | ⟨ts, _, h3, _⟩
    · exact h2
    · rw [hwr] at h3; cases h3
theorem prt_empty : prtE ([], []) = (⟨#[]⟩, 0) := by kernel_rfl
set_option maxHeartbeats 8000000 in
theorem walk (a0 : ByteArray) (a1 : Int) (w : World) (w0 : a0.size ≤ maxLen) (w1 : (Lit.int .u8 a1).wf = true) (hL : LxT w) (hT : TrT w) :
    Calls Tryz.prog 8 #[.string a0, .int .u8 a1] w fun e w' => e = .returned (.bool true) ∧ Below w.heap.size w w' := by
  have hb1 := bounds_u8 w1
  obtain ⟨i, hi⟩ : ∃ i : Nat, a1 % 7 = (i : Int) := ⟨(a1 % 7).toNat, by omega⟩
  have hi7 : i < 7 := by omega
  have h0 : 0 ≤ a1 := by omega
  have h1 : a1 ≤ 255 := by omega
  have i0 : (0 : Int) ≤ (i : Int) := by omega
  have i1 : (i : Int) < 7 := by omega
  have HT := Lib.hid hT
  have HL := Lib.hid hL
  have HAw := Lib.hid (awake10_yes w hT hL)
  have HI := Lib.hid hi7
  clear hT hL hb1 w1
  by_cases hbig : (a0.size : Int) > 100
  · clear w0
    go_enter Tryz.func8, Tryz.ntmps8
    go_wp2_with fail
    refine HAw.out.mono ?_
    rintro e w2 ⟨rfl, hb2⟩
    have HB := Lib.hid hb2
    clear hb2 HAw
    go_wp2
    go_ret
    exact ⟨rfl, HB.out⟩
  have hsz : a0.size ≤ 100 := by omega
  have hix := Lib.hid (fun (w : World) (i : Int) (h0 : 0 ≤ i) (h1 : i < a0.size) => run_ix (P := Tryz.prog) w 9 a0 i Tryz.underlying9 h0 h1)
  have HD := Lib.hid (show ∃ d : List UInt8, a0 = ⟨d.toArray⟩ from ⟨a0.data.toList, by simp⟩)
  have HSl := Lib.hid (sB_len a0)
  clear w0
  go_enter Tryz.func8, Tryz.ntmps8
  go_wp2_with fail
  refine HAw.out.mono ?_
  rintro e w2 ⟨rfl, hb2⟩
  have x0 := nm_row a0 w2 i HI.out
  have hbr := (Below.refl w2.heap.size w2).alloc (Nat.le_refl _) (.cells #[.string (⟨#[40, 115, 101, 99, 114, 101, 116, 32]⟩ ++ a0 ++ ⟨#[32, 49, 41]⟩), .string (⟨#[40, 102, 117, 110, 32]⟩ ++ a0 ++ ⟨#[32, 40, 41, 32, 40, 114, 101, 116, 32, 48, 41, 41]⟩), .string (⟨#[40, 102, 117, 110, 32, 102, 32, 40]⟩ ++ a0 ++ ⟨#[41, 32, 40, 114, 101, 116, 32, 48, 41, 41]⟩), .string (⟨#[40, 102, 117, 110, 32, 102, 32, 40, 41, 32, 40, 115, 101, 116, 32]⟩ ++ a0 ++ ⟨#[32, 49, 41, 32, 40, 114, 101, 116, 32, 48, 41, 41]⟩), .string (⟨#[40, 102, 117, 110, 32, 102, 32, 40, 41, 32, 40, 102, 111, 114, 32]⟩ ++ a0 ++ ⟨#[32, 50, 41, 32, 40, 114, 101, 116, 32, 48, 41, 41]⟩), .string (⟨#[40, 102, 117, 110, 32, 102, 32, 40, 41, 32, 40, 114, 101, 116, 32, 40, 103, 101, 116, 32]⟩ ++ a0 ++ ⟨#[32, 48, 41, 41, 41]⟩), .string (⟨#[40, 102, 117, 110, 32, 102, 32, 40, 41, 32, 40, 114, 101, 116, 32, 40, 99, 97, 108, 108, 32]⟩ ++ a0 ++ ⟨#[41, 41, 41]⟩)] 9)
  have HB := Lib.hid (hb2.trans (hbr.mono hb2.size))
  have HS := Lib.hid (nm_size i HI.out a0 hsz)
  obtain ⟨n, hn⟩ : ∃ n : Nat, a0.size = n := ⟨_, rfl⟩
  have HN := Lib.hid hn
  clear hb2 hbr HAw
  go_wp2
  generalize hW : w2.alloc (.cells #[.string (⟨#[40, 115, 101, 99, 114, 101, 116, 32]⟩ ++ a0 ++ ⟨#[32, 49, 41]⟩), .string (⟨#[40, 102, 117, 110, 32]⟩ ++ a0 ++ ⟨#[32, 40, 41, 32, 40, 114, 101, 116, 32, 48, 41, 41]⟩), .string (⟨#[40, 102, 117, 110, 32, 102, 32, 40]⟩ ++ a0 ++ ⟨#[41, 32, 40, 114, 101, 116, 32, 48, 41, 41]⟩), .string (⟨#[40, 102, 117, 110, 32, 102, 32, 40, 41, 32, 40, 115, 101, 116, 32]⟩ ++ a0 ++ ⟨#[32, 49, 41, 32, 40, 114, 101, 116, 32, 48, 41, 41]⟩), .string (⟨#[40, 102, 117, 110, 32, 102, 32, 40, 41, 32, 40, 102, 111, 114, 32]⟩ ++ a0 ++ ⟨#[32, 50, 41, 32, 40, 114, 101, 116, 32, 48, 41, 41]⟩), .string (⟨#[40, 102, 117, 110, 32, 102, 32, 40, 41, 32, 40, 114, 101, 116, 32, 40, 103, 101, 116, 32]⟩ ++ a0 ++ ⟨#[32, 48, 41, 41, 41]⟩), .string (⟨#[40, 102, 117, 110, 32, 102, 32, 40, 41, 32, 40, 114, 101, 116, 32, 40, 99, 97, 108, 108, 32]⟩ ++ a0 ++ ⟨#[41, 41, 41]⟩)] 9) = W at *
  clear hW x0
  go_loopw [6] (fun x wr => ∃ k : Nat, k ≤ n ∧ x = .int .i64 k ∧ wr = W ∧ Hid (∀ j, j < k → okC (nth (sB a0) j))) (fun x _ => n - (intOf x).toNat)
  case atStart => exact ⟨0, by omega, rfl, rfl, Lib.hid (fun j hj => by omega)⟩
  case round =>
    obtain ⟨k, hk, rfl, rfl, HK⟩ := hrel
    by_cases hlt : k < n
    · have k0 : (0 : Int) ≤ k := by omega
      have k1 : (k : Int) < n := by omega
      have hx := fun w => hix.out w k k0 (by omega)
      rw [show ((k : Int)).toNat = k by omega] at hx
      have HKn := Lib.hid (fun (h : okC (nth (sB a0) k)) j (hj : j < k + 1) => show okC (nth (sB a0) j) from by
        by_cases e : j = k
        · subst e; exact h
        · exact HK.out j (by omega))
      generalize nth (sB a0) k = c at *
      have HLt := Lib.hid hlt
      clear HK
      by_cases c1 : c ≤ 32
      · have t1 : decide (c ≤ 32) = true := decide_eq_true c1
        clear HKn
        go_wp2
        go_ret
        exact ⟨rfl, HB.out⟩
      have t1 : decide (c ≤ 32) = false := decide_eq_false c1
      by_cases c2 : c = 40
      · subst c2
        clear HKn
        go_wp2
        go_ret
        exact ⟨rfl, HB.out⟩
      have t2 : (c == 40) = false := by rw [beq_eq_false_iff_ne]; exact c2
      by_cases c3 : c = 41
      · subst c3
        clear HKn
        go_wp2
        go_ret
        exact ⟨rfl, HB.out⟩
      have t3 : (c == 41) = false := by rw [beq_eq_false_iff_ne]; exact c3
      by_cases c4 : c = 59
      · subst c4
        clear HKn
        go_wp2
        go_ret
        exact ⟨rfl, HB.out⟩
      have t4 : (c == 59) = false := by rw [beq_eq_false_iff_ne]; exact c4
      have HNx := Lib.hid (HKn.out ⟨by omega, c2, c3, c4⟩)
      have hn100 : n ≤ 100 := by omega
      clear HKn c1 c2 c3 c4
      go_wp2
      go_roundw
      case rel => exact ⟨k + 1, by have := HLt.out; omega, by go_num, by first | rfl | trivial, HNx⟩
      case measure => have := HLt.out; simp [intOf]; omega
    · obtain rfl : k = n := by omega
      clear hlt hk
      obtain ⟨d, hd⟩ := HD.out
      have HOk := Lib.hid (show ∀ c ∈ d, okC (c.toNat : Int) from fun c hc => by
        obtain ⟨j, hj, rfl⟩ := List.mem_iff_getElem.1 hc
        have hjk : j < k := by rw [← HN.out, hd]; simpa [ByteArray.size] using hj
        have := HK.out j hjk
        rw [hd] at this
        unfold nth sB at this
        simpa [hj] using this)
      clear HK
      by_cases hd0 : d = []
      · have he : a0.toList.isEmpty = true := by rw [hd, hd0, ByteArray.toList_eq]; rfl
        clear hd hd0 HOk
        go_wp2
        go_ret
        exact ⟨rfl, HB.out⟩
      · have he : a0.toList.isEmpty = false := by
          rw [hd, ByteArray.toList_eq]
          cases d with
          | nil => exact absurd rfl hd0
          | cons c l => rfl
        have HPa := Lib.hid (parse_nm i HI.out d hd0 HOk.out (by rw [← hd]; exact HS.out) wr (HT.out.below HB.out) (HL.out.below HB.out))
        rw [← hd] at HPa
        have HNm := Lib.hid (fun w => rname_any a0 w)
        clear hd hd0 HOk
        go_wp2_with fail
        refine HPa.out.mono ?_
        rintro e w4 ⟨hb4, h4⟩
        have hs := HS.out
        have HPt := Lib.hid (nm_prt i HI.out a0)
        have HNd := Lib.hid (show ∀ (w : World), Calls Tryz.prog 19 #[.string a0] w fun e w' => e = .returned (.bool (nameB (sB a0))) ∧ w = w' from HNm.out)
        clear HNm
        cases hb : nameB (sB a0) with
        | true =>
          rw [hb] at h4 HNd
          have hpt := HPt.out hb
          generalize nmP i a0 = p at *
          simp only [if_true] at h4
          obtain ⟨v1, v2, rfl, hv1, hv2⟩ := h4
          have hW := lsA_proW hv1 hv2
          obtain ⟨A1, c1, A2, c2, rfl, rfl, hV, _, _⟩ := LsA.proV (W := w4) hv1 hv2
          have hb5 := (Below.refl w4.heap.size w4).alloc (Nat.le_refl _) (.cells #[.slice A1 p.1.length c1, .slice A2 p.2.length c2] 25)
          have h5 := heap_alloc_new w4 (.cells #[.slice A1 p.1.length c1, .slice A2 p.2.length c2] 25)
          obtain ⟨hV2, hS2⟩ := hV.below (fun b h => h.2) hb5
          have HB5 := Lib.hid (HB.out.trans ((hb4.trans (hb5.mono hb4.size)).mono HB.out.size))
          have HPr := Lib.hid (print_any p hW _ A1 A2 c1 c2 _ (HT.out.below HB5.out) (HL.out.below HB5.out) hS2 hV2)
          have q0 := cell_of_row _ _ 0 _ _ _ h5
          have q1 := cell_of_row _ _ 1 _ _ _ h5
          simp only [List.getElem?_toArray, List.getElem?_cons_zero, List.getElem?_cons_succ] at q0 q1
          have HQ := Lib.hid hpt
          clear hv1 hv2 hW hV hb4 hb5 h5 hV2 hS2 hpt hb HPt HS
          generalize p.1.length = n1 at *
          generalize p.2.length = n2 at *
          generalize nmS i a0 = s at *
          go_wp2_with fail
          refine HPr.out.mono ?_
          rintro e w6 ⟨hb6, he6⟩
          rw [HQ.out] at he6
          simp only at he6
          subst he6
          have HB6 := Lib.hid (HB5.out.trans (hb6.mono HB5.out.size))
          clear hb6 HPr q0 q1
          go_wp2_with fail
          refine (HNd.out w6).mono ?_
          rintro e w7 ⟨rfl, rfl⟩
          go_wp2
          go_ret
          exact ⟨rfl, HB6.out⟩
        | false =>
          rw [hb] at h4 HNd
          simp only [Bool.false_eq_true, if_false] at h4
          subst h4
          have hb5 := (Below.refl w4.heap.size w4).alloc (Nat.le_refl _) (.cells #[.slice none 0 0, .slice none 0 0] 25)
          have h5 := heap_alloc_new w4 (.cells #[.slice none 0 0, .slice none 0 0] 25)
          have HB5 := Lib.hid (HB.out.trans ((hb4.trans (hb5.mono hb4.size)).mono HB.out.size))
          have HPr := Lib.hid (print_any ([], []) ⟨⟨Nat.zero_le _, fun x hx => by cases hx⟩, Nat.zero_le _, fun x hx => by cases hx⟩ (fun _ => False) none none 0 0 _ (HT.out.below HB5.out) (HL.out.below HB5.out) (fun b h => h.elim) ⟨Nat.le_refl _, Nat.le_refl _, .inl rfl, .inl rfl⟩)
          have q0 := cell_of_row _ _ 0 _ _ _ h5
          have q1 := cell_of_row _ _ 1 _ _ _ h5
          simp only [List.getElem?_toArray, List.getElem?_cons_zero, List.getElem?_cons_succ] at q0 q1
          clear hb4 hb5 h5 hb HPt HS
          go_wp2_with fail
          refine HPr.out.mono ?_
          rintro e w6 ⟨hb6, he6⟩
          rw [prt_empty] at he6
          simp only at he6
          subst he6
          have HB6 := Lib.hid (HB5.out.trans (hb6.mono HB5.out.size))
          clear hb6 HPr q0 q1
          go_wp2_with fail
          refine (HNd.out w6).mono ?_
          rintro e w7 ⟨rfl, rfl⟩
          go_wp2
          go_ret
          exact ⟨rfl, HB6.out⟩
end Go.Proofs.YtbhdbglhejibbaaGreatDoor.TreeNamesWalk
