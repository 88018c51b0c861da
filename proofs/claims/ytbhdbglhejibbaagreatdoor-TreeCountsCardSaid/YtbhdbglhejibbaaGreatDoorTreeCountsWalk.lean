/- The walk of the statement TreeCounts: it returns true, and writes nothing that was there. -/
import Derived.Test.YtbhdbglhejibbaaGreatDoorTuaP
import Derived.Test.YtbhdbglhejibbaaGreatDoorTuR
import Derived.Test.YtbhdbglhejibbaaGreatDoorLexG
namespace Go.Proofs.YtbhdbglhejibbaaGreatDoor.TreeCountsWalk
set_option maxRecDepth 100000
open Go.RowKit
set_option linter.unusedVariables false
def cntS (i : Nat) (q : ByteArray) : ByteArray := match i with
  | 0 => ⟨#[40, 115, 101, 99, 114, 101, 116, 32, 107, 32]⟩ ++ q ++ ⟨#[41]⟩
  | 1 => ⟨#[40, 102, 117, 110, 32, 102, 32, 40, 40, 112, 116, 114, 32, 112, 32]⟩ ++ q ++ ⟨#[41, 41, 32, 40, 114, 101, 116, 32, 48, 41, 41]⟩
  | _ => ⟨#[40, 102, 117, 110, 32, 102, 32, 40, 41, 32, 40, 102, 111, 114, 32, 105, 32]⟩ ++ q ++ ⟨#[41, 32, 40, 114, 101, 116, 32, 48, 41, 41]⟩
def cntT (i : Nat) (q : ByteArray) : List TokD := match i with
  | 0 => [.l [.w ⟨#[115, 101, 99, 114, 101, 116]⟩, .w ⟨#[107]⟩, .w q]]
  | 1 => [.l [.w ⟨#[102, 117, 110]⟩, .w ⟨#[102]⟩, .l [.l [.w ⟨#[112, 116, 114]⟩, .w ⟨#[112]⟩, .w q]], .l [.w ⟨#[114, 101, 116]⟩, .w ⟨#[48]⟩]]]
  | _ => [.l [.w ⟨#[102, 117, 110]⟩, .w ⟨#[102]⟩, .l [], .l [.w ⟨#[102, 111, 114]⟩, .w ⟨#[105]⟩, .w q], .l [.w ⟨#[114, 101, 116]⟩, .w ⟨#[48]⟩]]]
theorem dec_wrd (u : Nat) : ∀ c ∈ Lib.decDigits u, 48 ≤ c.toNat ∧ c.toNat ≤ 57 := by
  induction u using Nat.strongRecOn with
  | _ u ih =>
    intro c hc
    by_cases h : u < 10
    · rw [Lib.decDigits_one h, List.mem_singleton] at hc
      subst hc
      have : (UInt8.ofNat (48 + u)).toNat = 48 + u := by simp; omega
      omega
    · rw [decDigits_big h, List.mem_append] at hc
      rcases hc with hc | hc
      · exact ih (u / 10) (by omega) c hc
      · rw [List.mem_singleton] at hc
        subst hc
        have : (UInt8.ofNat (48 + u % 10)).toNat = 48 + u % 10 := by simp; omega
        omega
theorem lineP_close (l cur : List UInt8) (ws : List ByteArray) : lineP (41 :: l) cur ws = lineP l [] (putW ws cur ++ [⟨#[41]⟩]) := by
  conv => lhs; unfold lineP
  rw [if_neg (by decide), if_neg (by decide), if_neg (by decide), if_pos (by decide)]
theorem dec_word (u : Nat) : WrdD (Lib.decDigits u) := ⟨dec_ne_nil u, fun c hc => by
  have := dec_wrd u c hc
  unfold kindP
  rw [if_neg (by omega), if_neg (by omega), if_neg (by omega), if_pos (by omega)]⟩
theorem dec_num {u : Nat} (h : u < 18446744073709551616) : numV ⟨(Lib.decDigits u).toArray⟩ = u ∧ numB ⟨(Lib.decDigits u).toArray⟩ = true := by
  unfold numV numB
  rw [show (⟨(Lib.decDigits u).toArray⟩ : ByteArray).data.toList = Lib.decDigits u by simp, numP_dec h]
  exact ⟨rfl, rfl⟩
theorem dat_three (a b c : List UInt8) : ((⟨a.toArray⟩ : ByteArray) ++ ⟨b.toArray⟩ ++ ⟨c.toArray⟩).data.toList = a ++ (b ++ c) := by
  simp [ByteArray.data_append]
theorem cnt_words0 (d : List UInt8) (h : WrdD d) : wordsV (cntS 0 ⟨d.toArray⟩) = some (flats (cntT 0 ⟨d.toArray⟩)) := by
  have hd : (cntS 0 ⟨d.toArray⟩).data.toList = [40, 115, 101, 99, 114, 101, 116, 32, 107, 32] ++ (d ++ [41]) := dat_three [40, 115, 101, 99, 114, 101, 116, 32, 107, 32] d [41]
  refine wordsV_of ?_ ?_ ?_ ?_
  · rw [hd]
    intro c hc
    rcases List.mem_append.1 hc with hc | hc
    · exact (show ∀ c ∈ ([40, 115, 101, 99, 114, 101, 116, 32, 107, 32] : List UInt8), c ≠ 10 by decide) c hc
    rcases List.mem_append.1 hc with hc | hc
    · exact h.line c hc
    · exact (show ∀ c ∈ ([41] : List UInt8), c ≠ 10 by decide) c hc
  · rw [hd]
    have e1 : lineP ([40, 115, 101, 99, 114, 101, 116, 32, 107, 32] ++ (d ++ [41])) [] [] = lineP (d ++ [41]) [] [⟨#[40]⟩, ⟨#[115, 101, 99, 114, 101, 116]⟩, ⟨#[107]⟩] := by simp [lineP, kindP, putW]
    rw [e1, lineP_word d _ _ _ h.word, List.nil_append]
    have e2 : lineP [41] d [⟨#[40]⟩, ⟨#[115, 101, 99, 114, 101, 116]⟩, ⟨#[107]⟩] = lineP [] [] (putW [⟨#[40]⟩, ⟨#[115, 101, 99, 114, 101, 116]⟩, ⟨#[107]⟩] d ++ [⟨#[41]⟩]) := lineP_close _ _ _
    rw [e2, h.put]
    simp [lineP, putW, cntT, flats, flat, opnB, clsB]
  · have ho := h.opn
    generalize (⟨d.toArray⟩ : ByteArray) = q at *
    unfold cntT
    simp only [ToksOk, TokOk, ho, and_true]
    decide
  · have : tdeps (cntT 0 ⟨d.toArray⟩) ≤ 24 := by
      unfold cntT
      simp only [tdeps, tdep]
      decide
    exact this
theorem cnt_words1 (d : List UInt8) (h : WrdD d) : wordsV (cntS 1 ⟨d.toArray⟩) = some (flats (cntT 1 ⟨d.toArray⟩)) := by
  have hd : (cntS 1 ⟨d.toArray⟩).data.toList = [40, 102, 117, 110, 32, 102, 32, 40, 40, 112, 116, 114, 32, 112, 32] ++ (d ++ [41, 41, 32, 40, 114, 101, 116, 32, 48, 41, 41]) := dat_three [40, 102, 117, 110, 32, 102, 32, 40, 40, 112, 116, 114, 32, 112, 32] d [41, 41, 32, 40, 114, 101, 116, 32, 48, 41, 41]
  refine wordsV_of ?_ ?_ ?_ ?_
  · rw [hd]
    intro c hc
    rcases List.mem_append.1 hc with hc | hc
    · exact (show ∀ c ∈ ([40, 102, 117, 110, 32, 102, 32, 40, 40, 112, 116, 114, 32, 112, 32] : List UInt8), c ≠ 10 by decide) c hc
    rcases List.mem_append.1 hc with hc | hc
    · exact h.line c hc
    · exact (show ∀ c ∈ ([41, 41, 32, 40, 114, 101, 116, 32, 48, 41, 41] : List UInt8), c ≠ 10 by decide) c hc
  · rw [hd]
    have e1 : lineP ([40, 102, 117, 110, 32, 102, 32, 40, 40, 112, 116, 114, 32, 112, 32] ++ (d ++ [41, 41, 32, 40, 114, 101, 116, 32, 48, 41, 41])) [] [] = lineP (d ++ [41, 41, 32, 40, 114, 101, 116, 32, 48, 41, 41]) [] [⟨#[40]⟩, ⟨#[102, 117, 110]⟩, ⟨#[102]⟩, ⟨#[40]⟩, ⟨#[40]⟩, ⟨#[112, 116, 114]⟩, ⟨#[112]⟩] := by simp [lineP, kindP, putW]
    rw [e1, lineP_word d _ _ _ h.word, List.nil_append]
    have e2 : lineP [41, 41, 32, 40, 114, 101, 116, 32, 48, 41, 41] d [⟨#[40]⟩, ⟨#[102, 117, 110]⟩, ⟨#[102]⟩, ⟨#[40]⟩, ⟨#[40]⟩, ⟨#[112, 116, 114]⟩, ⟨#[112]⟩] = lineP [41, 32, 40, 114, 101, 116, 32, 48, 41, 41] [] (putW [⟨#[40]⟩, ⟨#[102, 117, 110]⟩, ⟨#[102]⟩, ⟨#[40]⟩, ⟨#[40]⟩, ⟨#[112, 116, 114]⟩, ⟨#[112]⟩] d ++ [⟨#[41]⟩]) := lineP_close _ _ _
    rw [e2, h.put]
    simp [lineP, kindP, putW, cntT, flats, flat, opnB, clsB]
  · have ho := h.opn
    generalize (⟨d.toArray⟩ : ByteArray) = q at *
    unfold cntT
    simp only [ToksOk, TokOk, ho, and_true]
    decide
  · have : tdeps (cntT 1 ⟨d.toArray⟩) ≤ 24 := by
      unfold cntT
      simp only [tdeps, tdep]
      decide
    exact this
theorem cnt_words2 (d : List UInt8) (h : WrdD d) : wordsV (cntS 2 ⟨d.toArray⟩) = some (flats (cntT 2 ⟨d.toArray⟩)) := by
  have hd : (cntS 2 ⟨d.toArray⟩).data.toList = [40, 102, 117, 110, 32, 102, 32, 40, 41, 32, 40, 102, 111, 114, 32, 105, 32] ++ (d ++ [41, 32, 40, 114, 101, 116, 32, 48, 41, 41]) := dat_three [40, 102, 117, 110, 32, 102, 32, 40, 41, 32, 40, 102, 111, 114, 32, 105, 32] d [41, 32, 40, 114, 101, 116, 32, 48, 41, 41]
  refine wordsV_of ?_ ?_ ?_ ?_
  · rw [hd]
    intro c hc
    rcases List.mem_append.1 hc with hc | hc
    · exact (show ∀ c ∈ ([40, 102, 117, 110, 32, 102, 32, 40, 41, 32, 40, 102, 111, 114, 32, 105, 32] : List UInt8), c ≠ 10 by decide) c hc
    rcases List.mem_append.1 hc with hc | hc
    · exact h.line c hc
    · exact (show ∀ c ∈ ([41, 32, 40, 114, 101, 116, 32, 48, 41, 41] : List UInt8), c ≠ 10 by decide) c hc
  · rw [hd]
    have e1 : lineP ([40, 102, 117, 110, 32, 102, 32, 40, 41, 32, 40, 102, 111, 114, 32, 105, 32] ++ (d ++ [41, 32, 40, 114, 101, 116, 32, 48, 41, 41])) [] [] = lineP (d ++ [41, 32, 40, 114, 101, 116, 32, 48, 41, 41]) [] [⟨#[40]⟩, ⟨#[102, 117, 110]⟩, ⟨#[102]⟩, ⟨#[40]⟩, ⟨#[41]⟩, ⟨#[40]⟩, ⟨#[102, 111, 114]⟩, ⟨#[105]⟩] := by simp [lineP, kindP, putW]
    rw [e1, lineP_word d _ _ _ h.word, List.nil_append]
    have e2 : lineP [41, 32, 40, 114, 101, 116, 32, 48, 41, 41] d [⟨#[40]⟩, ⟨#[102, 117, 110]⟩, ⟨#[102]⟩, ⟨#[40]⟩, ⟨#[41]⟩, ⟨#[40]⟩, ⟨#[102, 111, 114]⟩, ⟨#[105]⟩] = lineP [32, 40, 114, 101, 116, 32, 48, 41, 41] [] (putW [⟨#[40]⟩, ⟨#[102, 117, 110]⟩, ⟨#[102]⟩, ⟨#[40]⟩, ⟨#[41]⟩, ⟨#[40]⟩, ⟨#[102, 111, 114]⟩, ⟨#[105]⟩] d ++ [⟨#[41]⟩]) := lineP_close _ _ _
    rw [e2, h.put]
    simp [lineP, kindP, putW, cntT, flats, flat, opnB, clsB]
  · have ho := h.opn
    generalize (⟨d.toArray⟩ : ByteArray) = q at *
    unfold cntT
    simp only [ToksOk, TokOk, ho, and_true, true_and]
    decide
  · have : tdeps (cntT 2 ⟨d.toArray⟩) ≤ 24 := by
      unfold cntT
      simp only [tdeps, tdep]
      decide
    exact this
theorem cnt_words (i : Nat) (d : List UInt8) (h : WrdD d) : wordsV (cntS i ⟨d.toArray⟩) = some (flats (cntT i ⟨d.toArray⟩)) := by
  match i with
  | 0 => exact cnt_words0 d h
  | 1 => exact cnt_words1 d h
  | i + 2 => exact cnt_words2 d h
theorem cnt_ok (i : Nat) (d : List UInt8) (h : WrdD d) : ToksOk (cntT i ⟨d.toArray⟩) := by
  have ho := h.opn
  generalize (⟨d.toArray⟩ : ByteArray) = q at *
  match i with
  | 0 => unfold cntT; simp only [ToksOk, TokOk, ho, and_true]; decide
  | 1 => unfold cntT; simp only [ToksOk, TokOk, ho, and_true]; decide
  | i + 2 => unfold cntT; simp only [ToksOk, TokOk, ho, and_true, true_and]; decide
/-- a count that is one is read, and printed as it was -/
theorem cnt_yes : ∀ u, u < 65 → 1 ≤ u → ∀ i, i < 3 → (srcP (cntT i ⟨(Lib.decDigits u).toArray⟩)).map prtE = some (cntS i ⟨(Lib.decDigits u).toArray⟩ ++ ⟨#[10]⟩, 0) := by decide +kernel
theorem cnt_zero : ∀ i, i < 3 → (srcP (cntT i ⟨(Lib.decDigits 0).toArray⟩)).isNone = true := by decide +kernel
theorem srcP_none {t : TokD} (h : becQ t = none) : srcP [t] = none := by
  unfold srcP srcF
  rw [List.foldl_cons, List.foldl_nil]
  unfold srcS
  rw [h]
/-- a count that is too great isn't read -/
theorem cnt_no (i : Nat) (hi : i < 3) (q : ByteArray) (h : ∀ r, cnF (.w q :: r) = none) : srcP (cntT i q) = none := by
  match i, hi with
  | 0, _ =>
    refine srcP_none ?_
    rw [becQ_l]
    simp only [wdF]
    rw [show kinQ ⟨#[115, 101, 99, 114, 101, 116]⟩ = some none from rfl]
    simp only [rdItm, rdA, wdF, h]
  | 1, _ =>
    refine srcP_none ?_
    rw [becQ_l]
    simp only [wdF]
    rw [show kinQ ⟨#[102, 117, 110]⟩ = some (some false) from rfl]
    simp only [rdItm, rdF, wdF, List.map_cons, List.map_nil]
    have e : pP (.l [.w ⟨#[112, 116, 114]⟩, .w ⟨#[112]⟩, .w q]) = none := by
      unfold pP becP
      simp only [wdF]
      rw [show kinP ⟨#[112, 116, 114]⟩ = some true from rfl]
      simp only [rdP, wdF, h, if_true]
      rfl
    rw [e]
    rfl
  | 2, _ =>
    refine srcP_none ?_
    rw [becQ_l]
    simp only [wdF]
    rw [show kinQ ⟨#[102, 117, 110]⟩ = some (some false) from rfl]
    simp only [rdItm, rdF, wdF, List.map_cons, List.map_nil]
    have e : pSt (.l [.w ⟨#[102, 111, 114]⟩, .w ⟨#[105]⟩, .w q]) = none := by
      unfold pSt
      rw [pS_l, becS_l]
      simp only [wdF]
      rw [show kinS ⟨#[102, 111, 114]⟩ = some 3 from rfl]
      simp only [rdS]
      rw [show (stmR 3).2.1 = true from rfl, show (stmR 3).2.2.1 = true from rfl]
      simp only [rdName, rdCount, wdF, if_true, h]
      rfl
    rw [e]
    rfl
theorem cnt_row (q : ByteArray) (w : World) (i : Nat) (hi : i < 3) : (w.alloc (.cells #[.string (⟨#[40, 115, 101, 99, 114, 101, 116, 32, 107, 32]⟩ ++ q ++ ⟨#[41]⟩), .string (⟨#[40, 102, 117, 110, 32, 102, 32, 40, 40, 112, 116, 114, 32, 112, 32]⟩ ++ q ++ ⟨#[41, 41, 32, 40, 114, 101, 116, 32, 48, 41, 41]⟩), .string (⟨#[40, 102, 117, 110, 32, 102, 32, 40, 41, 32, 40, 102, 111, 114, 32, 105, 32]⟩ ++ q ++ ⟨#[41, 32, 40, 114, 101, 116, 32, 48, 41, 41]⟩)] 9)).cell? ⟨w.heap.size, i, none⟩ = some (.string (cntS i q)) := by
  rw [cell_of_row _ _ i _ _ _ (heap_alloc_new w _)]
  match i, hi with
  | 0, _ => rfl
  | 1, _ => rfl
  | 2, _ => rfl
theorem cnt_size (i : Nat) (q : ByteArray) (h : q.size ≤ 20) : (cntS i q).size ≤ 100 := by
  match i with
  | 0 => show (⟨#[40, 115, 101, 99, 114, 101, 116, 32, 107, 32]⟩ ++ q ++ ⟨#[41]⟩ : ByteArray).size ≤ 100; rw [ByteArray.size_append, ByteArray.size_append]; show 10 + q.size + 1 ≤ 100; omega
  | 1 => show (⟨#[40, 102, 117, 110, 32, 102, 32, 40, 40, 112, 116, 114, 32, 112, 32]⟩ ++ q ++ ⟨#[41, 41, 32, 40, 114, 101, 116, 32, 48, 41, 41]⟩ : ByteArray).size ≤ 100; rw [ByteArray.size_append, ByteArray.size_append]; show 15 + q.size + 11 ≤ 100; omega
  | i + 2 => show (⟨#[40, 102, 117, 110, 32, 102, 32, 40, 41, 32, 40, 102, 111, 114, 32, 105, 32]⟩ ++ q ++ ⟨#[41, 32, 40, 114, 101, 116, 32, 48, 41, 41]⟩ : ByteArray).size ≤ 100; rw [ByteArray.size_append, ByteArray.size_append]; show 17 + q.size + 10 ≤ 100; omega
theorem lsA_proW {w w' : World} {p : ProD} {v1 v2 : Value} (h1 : LsA w.heap.size w' p.1 v1) (h2 : LsF w.heap.size w' p.2 v2) : ProW p := by
  obtain ⟨A1, c1, e1, g1, g2, g3, g4⟩ := h1
  obtain ⟨A2, c2, e2, k1, k2, k3, k4⟩ := h2
  exact ⟨⟨Nat.le_trans g1 g2, g4⟩, Nat.le_trans k1 k2, k4⟩
theorem digits10 (u : Nat) (hu : u < 18446744073709551616) (w : World) : Calls Tryz.prog 18 #[.int .u64 u] w fun e w' => e = .returned (.string ⟨(Lib.decDigits u).toArray⟩) ∧ Below w.heap.size w w' := by
  have HD := Lib.hid (rdigits_any u hu w)
  go_enter Tryz.func18, Tryz.ntmps18
  go_wp2_with fail
  refine HD.out.mono ?_
  rintro e w2 ⟨rfl, hb⟩
  have HB := Lib.hid hb
  clear hb
  go_wp2
  go_ret
  exact ⟨rfl, HB.out⟩
set_option maxHeartbeats 8000000 in
theorem walk (a0 : Int) (a1 : Int) (w : World) (w0 : (Lit.int .u64 a0).wf = true) (w1 : (Lit.int .u8 a1).wf = true) (hL : LxT w) (hT : TrT w) :
    Calls Tryz.prog 7 #[.int .u64 a0, .int .u8 a1] w fun e w' => e = .returned (.bool true) ∧ Below w.heap.size w w' := by
  have hb0 := bounds_u64 w0
  have hb1 := bounds_u8 w1
  obtain ⟨u, rfl⟩ : ∃ u : Nat, a0 = (u : Int) := ⟨a0.toNat, by omega⟩
  have hu : u < 18446744073709551616 := by omega
  obtain ⟨i, hi⟩ : ∃ i : Nat, a1 % 3 = (i : Int) := ⟨(a1 % 3).toNat, by omega⟩
  have hi3 : i < 3 := by omega
  have h0 : 0 ≤ a1 := by omega
  have h1 : a1 ≤ 255 := by omega
  have i0 : (0 : Int) ≤ (i : Int) := by omega
  have i1 : (i : Int) < 3 := by omega
  have HT := Lib.hid hT
  have HL := Lib.hid hL
  have HAw := Lib.hid (awake10_yes w hT hL)
  have HW := Lib.hid (dec_word u)
  have HN := Lib.hid (dec_num hu)
  have hsz : (⟨(Lib.decDigits u).toArray⟩ : ByteArray).size ≤ 20 := by
    have := (dec_len64 hu).2
    simpa [ByteArray.size] using this
  have HWd := Lib.hid (cnt_words i (Lib.decDigits u) HW.out)
  have HOk := Lib.hid (cnt_ok i (Lib.decDigits u) HW.out)
  have HYes := Lib.hid (fun (h1 : 1 ≤ u) (h2 : u < 65) => cnt_yes u h2 h1 i hi3)
  have HNo := Lib.hid (show ¬ (1 ≤ u ∧ u < 65) → srcP (cntT i ⟨(Lib.decDigits u).toArray⟩) = none from fun h => by
    by_cases hz : u = 0
    · subst hz
      have := cnt_zero i hi3
      simpa using this
    · refine cnt_no i hi3 _ fun r => ?_
      unfold cnF
      simp only [wdF]
      rw [if_neg]
      rw [HN.out.1]
      omega)
  have HDg := Lib.hid (fun (w : World) => digits10 u hu w)
  have HI := Lib.hid hi3
  clear hT hL hb0 hb1 w0 w1
  generalize (⟨(Lib.decDigits u).toArray⟩ : ByteArray) = q at *
  go_enter Tryz.func7, Tryz.ntmps7
  go_wp2_with fail
  refine HAw.out.mono ?_
  rintro e w2 ⟨rfl, hb1⟩
  have HB1 := Lib.hid hb1
  clear hb1 HAw
  go_wp2_with fail
  refine (HDg.out w2).mono ?_
  rintro e w3 ⟨rfl, hb3⟩
  have x0 := cnt_row q w3 i hi3
  have hbr := (Below.refl w3.heap.size w3).alloc (Nat.le_refl _) (.cells #[.string (⟨#[40, 115, 101, 99, 114, 101, 116, 32, 107, 32]⟩ ++ q ++ ⟨#[41]⟩), .string (⟨#[40, 102, 117, 110, 32, 102, 32, 40, 40, 112, 116, 114, 32, 112, 32]⟩ ++ q ++ ⟨#[41, 41, 32, 40, 114, 101, 116, 32, 48, 41, 41]⟩), .string (⟨#[40, 102, 117, 110, 32, 102, 32, 40, 41, 32, 40, 102, 111, 114, 32, 105, 32]⟩ ++ q ++ ⟨#[41, 32, 40, 114, 101, 116, 32, 48, 41, 41]⟩)] 9)
  have HB3 := Lib.hid (HB1.out.trans ((hb3.trans (hbr.mono hb3.size)).mono HB1.out.size))
  have hs100 := cnt_size i q hsz
  have HPa := Lib.hid (parse_known (s := cntS i q) (ts := cntT i q) (by omega) HOk.out HWd.out _ (HT.out.below HB3.out) (HL.out.below HB3.out))
  clear hb3 hbr HDg
  generalize cntS i q = s at *
  generalize cntT i q = ts at *
  go_wp2_with fail
  refine HPa.out.mono ?_
  rintro e w4 ⟨hb4, h4⟩
  by_cases hy : 1 ≤ u ∧ u < 65
  · have hp := HYes.out hy.1 hy.2
    cases hsr : srcP ts with
    | none => rw [hsr] at hp; cases hp
    | some p =>
      rw [hsr] at hp h4
      simp only [Option.map_some, Option.some.injEq] at hp
      obtain ⟨v1, v2, rfl, hv1, hv2⟩ := h4
      have hW := lsA_proW hv1 hv2
      obtain ⟨A1, c1, A2, c2, rfl, rfl, hV, _, _⟩ := LsA.proV (W := w4) hv1 hv2
      have hb5 := (Below.refl w4.heap.size w4).alloc (Nat.le_refl _) (.cells #[.slice A1 p.1.length c1, .slice A2 p.2.length c2] 25)
      have h5 := heap_alloc_new w4 (.cells #[.slice A1 p.1.length c1, .slice A2 p.2.length c2] 25)
      obtain ⟨hV2, hS2⟩ := hV.below (fun b h => h.2) hb5
      have HB5 := Lib.hid (HB3.out.trans ((hb4.trans (hb5.mono hb4.size)).mono HB3.out.size))
      have HPr := Lib.hid (print_any p hW _ A1 A2 c1 c2 _ (HT.out.below HB5.out) (HL.out.below HB5.out) hS2 hV2)
      have q0 := cell_of_row _ _ 0 _ _ _ h5
      have q1 := cell_of_row _ _ 1 _ _ _ h5
      simp only [List.getElem?_toArray, List.getElem?_cons_zero, List.getElem?_cons_succ] at q0 q1
      have HQ := Lib.hid hp
      have u1 : (1 : Int) ≤ (u : Int) := by omega
      have u2 : (u : Int) ≤ 64 := by omega
      clear hv1 hv2 hW hV hb4 hb5 h5 hV2 hS2 hp hy
      generalize p.1.length = n1 at *
      generalize p.2.length = n2 at *
      go_wp2_with fail
      refine HPr.out.mono ?_
      rintro e w6 ⟨hb6, he⟩
      rw [HQ.out] at he
      simp only at he
      subst he
      have HB6 := Lib.hid (HB5.out.trans (hb6.mono HB5.out.size))
      clear hb6 HPr q0 q1
      go_wp2
      go_ret
      exact ⟨rfl, HB6.out⟩
  · have hn := HNo.out hy
    rw [hn] at h4
    simp only at h4
    subst h4
    have HB4 := Lib.hid (HB3.out.trans ((hb4.trans (((Below.refl w4.heap.size w4).alloc (Nat.le_refl _) (.cells #[.slice none 0 0, .slice none 0 0] 25)).mono hb4.size)).mono HB3.out.size))
    clear hb4 hn
    by_cases hz : u = 0
    · subst hz
      go_wp2
      go_ret
      exact ⟨rfl, HB4.out⟩
    · have u1 : (1 : Int) ≤ (u : Int) := by omega
      have u2 : (64 : Int) < (u : Int) := by omega
      clear hy hz
      go_wp2
      go_ret
      exact ⟨rfl, HB4.out⟩
end Go.Proofs.YtbhdbglhejibbaaGreatDoor.TreeCountsWalk
