/- Sources with a name in them that is open: printed whole; their words. No condition. -/
import Derived.Test.YtbhdbglhejibbaaGreatDoorTuT
namespace Go.Proofs.YtbhdbglhejibbaaGreatDoor
set_option maxRecDepth 100000
open Go.RowKit
set_option linter.unusedVariables false
theorem set_K (q : ByteArray) : stK (.mk 0 q 0 [.mk 0 1 ⟨#[]⟩ []] [] []) 1 = (stB 0 q 0 1 0 0 && true) := by kernel_rfl
theorem for_K (q : ByteArray) : stK (.mk 3 q 2 [] [] []) 1 = (stB 3 q 2 0 0 0 && true) := by kernel_rfl
theorem ret_K : stK (.mk 4 ⟨#[]⟩ 0 [.mk 0 0 ⟨#[]⟩ []] [] []) 1 = true := by kernel_rfl
theorem get_K (q : ByteArray) : stK (.mk 4 ⟨#[]⟩ 0 [.mk 2 0 q [.mk 0 0 ⟨#[]⟩ []]] [] []) 1 = (((exB 2 0 q 1 && true) && true) && true) := by kernel_rfl
theorem call_K (q : ByteArray) : stK (.mk 4 ⟨#[]⟩ 0 [.mk 5 0 q []] [] []) 1 = (((exB 5 0 q 0 && true) && true) && true) := by kernel_rfl
theorem set_B (q : ByteArray) : stB 0 q 0 1 0 0 = nameB (sB q) := by show (true && nameB (sB q) && true && true && true) = _; simp
theorem for_B (q : ByteArray) : stB 3 q 2 0 0 0 = nameB (sB q) := by show (true && nameB (sB q) && true && true && true) = _; simp
theorem get_B (q : ByteArray) : exB 2 0 q 1 = nameB (sB q) := by show (true && nameB (sB q) && true && true) = _; simp
theorem call_B (q : ByteArray) : exB 5 0 q 0 = nameB (sB q) := by show (true && nameB (sB q) && true && true) = _; simp
theorem nm_K (i : Nat) (hi : i < 7) (q : ByteArray) (h : nameB (sB q) = true) : proK (nmP i q) = true := by
  have a1 : arrB (q, 1) = nameB (sB q) := by show (nameB (sB q) && true) = _; simp
  have a2 : funB q 0 = nameB (sB q) := by show (nameB (sB q) && true) = _; simp
  have a3 : mparB (q, 0, 0) = nameB (sB q) := by show (true && nameB (sB q) && true) = _; simp
  have a4 : ∀ n, n ≤ 1 → funB ⟨#[102]⟩ n = true := fun n hn => by show (true && decide (n ≤ 6)) = _; simp; omega
  match i, hi with
  | 0, _ => show (true && ((arrB (q, 1) && true) && true)) = true; rw [a1, h]; rfl
  | 1, _ => show (true && (true && ((funB q 0 && (true && (stK (.mk 4 ⟨#[]⟩ 0 [.mk 0 0 ⟨#[]⟩ []] [] []) 1 && true))) && true))) = true; rw [a2, h, ret_K]; rfl
  | 2, _ => show (true && (true && ((funB ⟨#[102]⟩ 1 && ((mparB (q, 0, 0) && true) && (stK (.mk 4 ⟨#[]⟩ 0 [.mk 0 0 ⟨#[]⟩ []] [] []) 1 && true))) && true))) = true; rw [a3, h, a4 1 (by omega), ret_K]; rfl
  | 3, _ => show (true && (true && ((funB ⟨#[102]⟩ 0 && (true && (stK (.mk 0 q 0 [.mk 0 1 ⟨#[]⟩ []] [] []) 1 && (stK (.mk 4 ⟨#[]⟩ 0 [.mk 0 0 ⟨#[]⟩ []] [] []) 1 && true)))) && true))) = true; rw [set_K, set_B, h, a4 0 (by omega), ret_K]; rfl
  | 4, _ => show (true && (true && ((funB ⟨#[102]⟩ 0 && (true && (stK (.mk 3 q 2 [] [] []) 1 && (stK (.mk 4 ⟨#[]⟩ 0 [.mk 0 0 ⟨#[]⟩ []] [] []) 1 && true)))) && true))) = true; rw [for_K, for_B, h, a4 0 (by omega), ret_K]; rfl
  | 5, _ => show (true && (true && ((funB ⟨#[102]⟩ 0 && (true && (stK (.mk 4 ⟨#[]⟩ 0 [.mk 2 0 q [.mk 0 0 ⟨#[]⟩ []]] [] []) 1 && true))) && true))) = true; rw [get_K, get_B, h, a4 0 (by omega)]; rfl
  | 6, _ => show (true && (true && ((funB ⟨#[102]⟩ 0 && (true && (stK (.mk 4 ⟨#[]⟩ 0 [.mk 5 0 q []] [] []) 1 && true))) && true))) = true; rw [call_K, call_B, h, a4 0 (by omega)]; rfl
theorem name_parts {q : ByteArray} (h : nameB (sB q) = true) : sB q ≠ [] ∧ (sB q).length ≤ 24 ∧ ∀ c ∈ sB q, chrB c = true := by
  unfold nameB at h
  simp only [Bool.and_eq_true, decide_eq_true_eq, List.all_eq_true] at h
  obtain ⟨⟨⟨h1, h2⟩, _⟩, h3⟩ := h
  exact ⟨fun e => by rw [e] at h1; simp at h1, h2, h3⟩
theorem name_last {q : ByteArray} (h : nameB (sB q) = true) : (sB q).getD ((sB q).length - 1) 0 ≠ 40 := by
  obtain ⟨h1, _, h3⟩ := name_parts h
  have hl : 0 < (sB q).length := List.length_pos_iff.2 h1
  have hm : (sB q).getD ((sB q).length - 1) 0 ∈ sB q := by
    rw [List.getD_eq_getElem?_getD, List.getElem?_eq_getElem (by omega)]
    exact List.getElem_mem _
  intro e
  have := h3 _ hm
  rw [e] at this
  revert this
  decide
theorem sB_empty {q : ByteArray} (h : sB q ≠ []) : q.toList.isEmpty = false := by
  cases hq : q.toList.isEmpty with
  | false => rfl
  | true =>
    refine absurd ?_ h
    unfold sB
    rw [List.isEmpty_iff] at hq
    rw [ByteArray.toList_eq] at hq
    rw [hq]; rfl
theorem txB_mid (a c : List UInt8) (q : ByteArray) : txB (a.map (fun x : UInt8 => (x.toNat : Int)) ++ (sB q ++ c.map (fun x : UInt8 => (x.toNat : Int)))) = ⟨a.toArray⟩ ++ q ++ ⟨c.toArray⟩ := by
  have hb : ∀ l : List UInt8, (l.map (fun x : UInt8 => (x.toNat : Int))).map (fun x => UInt8.ofNat x.toNat) = l := fun l => by
    rw [List.map_map]
    conv => rhs; rw [← List.map_id l]
    refine List.map_congr_left fun x _ => ?_
    simp
  unfold txB
  rw [List.map_append, List.map_append, hb, hb, show (sB q).map (fun x => UInt8.ofNat x.toNat) = q.data.toList from hb _]
  apply ByteArray.ext
  simp [ByteArray.data_append]
theorem txB_line (a c : List UInt8) (q : ByteArray) : txB (a.map (fun x : UInt8 => (x.toNat : Int)) ++ (sB q ++ (c ++ [10]).map (fun x : UInt8 => (x.toNat : Int)))) = ((⟨a.toArray⟩ : ByteArray) ++ q ++ ⟨c.toArray⟩) ++ ⟨#[10]⟩ := by
  rw [txB_mid]
  apply ByteArray.ext
  simp [ByteArray.data_append]
theorem nm_form (i : Nat) (hi : i < 7) (q : ByteArray) (h : nameB (sB q) = true) : ∃ a c : List UInt8, proT (nmP i q) = a.map (fun x : UInt8 => (x.toNat : Int)) ++ (sB q ++ (c ++ [10]).map (fun x : UInt8 => (x.toNat : Int))) ∧ a.length + c.length ≤ 100 ∧ nmS i q = (⟨a.toArray⟩ : ByteArray) ++ q ++ ⟨c.toArray⟩ := by
  obtain ⟨h1, h2, h3⟩ := name_parts h
  have h4 := name_last h
  have h5 := sB_empty h1
  match i, hi with
  | 0, _ => exact ⟨[40, 115, 101, 99, 114, 101, 116, 32], [32, 49, 41], (nm_txt0 q h1 h4 h2).trans (by kernel_rfl), by decide, rfl⟩
  | 1, _ => exact ⟨[40, 102, 117, 110, 32], [32, 40, 41, 32, 40, 114, 101, 116, 32, 48, 41, 41], (nm_txt1 q h1 h4 h2).trans (by kernel_rfl), by decide, rfl⟩
  | 2, _ => exact ⟨[40, 102, 117, 110, 32, 102, 32, 40], [41, 32, 40, 114, 101, 116, 32, 48, 41, 41], (nm_txt2 q h1 h4 h2).trans (by kernel_rfl), by decide, rfl⟩
  | 3, _ => exact ⟨[40, 102, 117, 110, 32, 102, 32, 40, 41, 32, 40, 115, 101, 116, 32], [32, 49, 41, 32, 40, 114, 101, 116, 32, 48, 41, 41], (nm_txt3 q h1 h4 h2).trans (by kernel_rfl), by decide, rfl⟩
  | 4, _ => exact ⟨[40, 102, 117, 110, 32, 102, 32, 40, 41, 32, 40, 102, 111, 114, 32], [32, 50, 41, 32, 40, 114, 101, 116, 32, 48, 41, 41], (nm_txt4 q h1 h4 h2).trans (by kernel_rfl), by decide, rfl⟩
  | 5, _ => exact ⟨[40, 102, 117, 110, 32, 102, 32, 40, 41, 32, 40, 114, 101, 116, 32, 40, 103, 101, 116, 32], [32, 48, 41, 41, 41], (nm_txt5 q h5 h1 h4 h2).trans (by kernel_rfl), by decide, rfl⟩
  | 6, _ => exact ⟨[40, 102, 117, 110, 32, 102, 32, 40, 41, 32, 40, 114, 101, 116, 32, 40, 99, 97, 108, 108, 32], [41, 41, 41], (nm_txt6 q h5 h1 h4 h2).trans (by kernel_rfl), by decide, rfl⟩
theorem nm_prt (i : Nat) (hi : i < 7) (q : ByteArray) (h : nameB (sB q) = true) : prtE (nmP i q) = (nmS i q ++ ⟨#[10]⟩, 0) := by
  obtain ⟨h1, h2, h3⟩ := name_parts h
  obtain ⟨a, c, e1, e2, e3⟩ := nm_form i hi q h
  have hq : q.size ≤ 24 := by have := sB_len q; omega
  unfold prtE prtP
  rw [if_pos (nm_K i hi q h), e1, txB_line, ← e3]
  simp only
  rw [if_neg]
  rw [e3, ByteArray.size_append, ByteArray.size_append, ByteArray.size_append]
  have z1 : (⟨a.toArray⟩ : ByteArray).size = a.length := by simp [ByteArray.size]
  have z2 : (⟨c.toArray⟩ : ByteArray).size = c.length := by simp [ByteArray.size]
  have z3 : (⟨#[10]⟩ : ByteArray).size = 1 := rfl
  omega
theorem dat_three7 (a b c : List UInt8) : ((⟨a.toArray⟩ : ByteArray) ++ ⟨b.toArray⟩ ++ ⟨c.toArray⟩).data.toList = a ++ (b ++ c) := by
  simp [ByteArray.data_append]
theorem lineP_shut (l cur : List UInt8) (ws : List ByteArray) : lineP (41 :: l) cur ws = lineP l [] (putW ws cur ++ [⟨#[41]⟩]) := by
  conv => lhs; unfold lineP
  rw [if_neg (by decide), if_neg (by decide), if_neg (by decide), if_pos (by decide)]
theorem lineP_blank (l cur : List UInt8) (ws : List ByteArray) : lineP (32 :: l) cur ws = lineP l [] (putW ws cur) := by
  conv => lhs; unfold lineP
  rw [if_neg (by decide), if_neg (by decide), if_neg (by decide), if_neg (by decide)]
theorem nm_pre0 (r : List UInt8) : lineP ([40, 115, 101, 99, 114, 101, 116, 32] ++ r) [] [] = lineP r [] [⟨#[40]⟩, ⟨#[115, 101, 99, 114, 101, 116]⟩] := by simp [lineP, kindP, putW]
theorem nm_post0 (d : List UInt8) (h : WrdD d) : lineP [32, 49, 41] d [⟨#[40]⟩, ⟨#[115, 101, 99, 114, 101, 116]⟩] = some (flats (nmT 0 ⟨d.toArray⟩)) := by
  rw [lineP_blank, h.put]
  simp [lineP, kindP, putW, nmT, flats, flat, opnB, clsB]
theorem nm_line0 : (∀ c ∈ ([40, 115, 101, 99, 114, 101, 116, 32] : List UInt8), c ≠ 10) ∧ ∀ c ∈ ([32, 49, 41] : List UInt8), c ≠ 10 := by decide
theorem nm_dat0 (d : List UInt8) : (nmS 0 ⟨d.toArray⟩).data.toList = [40, 115, 101, 99, 114, 101, 116, 32] ++ (d ++ [32, 49, 41]) := dat_three7 [40, 115, 101, 99, 114, 101, 116, 32] d [32, 49, 41]
theorem nm_ok0 (q : ByteArray) (ho : opnW q = 0) : ToksOk (nmT 0 q) ∧ tdeps (nmT 0 q) ≤ 24 := by
  unfold nmT
  simp only [ToksOk, TokOk, ho, tdeps, tdep]
  decide
theorem nm_pre1 (r : List UInt8) : lineP ([40, 102, 117, 110, 32] ++ r) [] [] = lineP r [] [⟨#[40]⟩, ⟨#[102, 117, 110]⟩] := by simp [lineP, kindP, putW]
theorem nm_post1 (d : List UInt8) (h : WrdD d) : lineP [32, 40, 41, 32, 40, 114, 101, 116, 32, 48, 41, 41] d [⟨#[40]⟩, ⟨#[102, 117, 110]⟩] = some (flats (nmT 1 ⟨d.toArray⟩)) := by
  rw [lineP_blank, h.put]
  simp [lineP, kindP, putW, nmT, flats, flat, opnB, clsB]
theorem nm_line1 : (∀ c ∈ ([40, 102, 117, 110, 32] : List UInt8), c ≠ 10) ∧ ∀ c ∈ ([32, 40, 41, 32, 40, 114, 101, 116, 32, 48, 41, 41] : List UInt8), c ≠ 10 := by decide
theorem nm_dat1 (d : List UInt8) : (nmS 1 ⟨d.toArray⟩).data.toList = [40, 102, 117, 110, 32] ++ (d ++ [32, 40, 41, 32, 40, 114, 101, 116, 32, 48, 41, 41]) := dat_three7 [40, 102, 117, 110, 32] d [32, 40, 41, 32, 40, 114, 101, 116, 32, 48, 41, 41]
theorem nm_ok1 (q : ByteArray) (ho : opnW q = 0) : ToksOk (nmT 1 q) ∧ tdeps (nmT 1 q) ≤ 24 := by
  unfold nmT
  simp only [ToksOk, TokOk, ho, tdeps, tdep]
  decide
theorem nm_pre2 (r : List UInt8) : lineP ([40, 102, 117, 110, 32, 102, 32, 40] ++ r) [] [] = lineP r [] [⟨#[40]⟩, ⟨#[102, 117, 110]⟩, ⟨#[102]⟩, ⟨#[40]⟩] := by simp [lineP, kindP, putW]
theorem nm_post2 (d : List UInt8) (h : WrdD d) : lineP [41, 32, 40, 114, 101, 116, 32, 48, 41, 41] d [⟨#[40]⟩, ⟨#[102, 117, 110]⟩, ⟨#[102]⟩, ⟨#[40]⟩] = some (flats (nmT 2 ⟨d.toArray⟩)) := by
  rw [lineP_shut, h.put]
  simp [lineP, kindP, putW, nmT, flats, flat, opnB, clsB]
theorem nm_line2 : (∀ c ∈ ([40, 102, 117, 110, 32, 102, 32, 40] : List UInt8), c ≠ 10) ∧ ∀ c ∈ ([41, 32, 40, 114, 101, 116, 32, 48, 41, 41] : List UInt8), c ≠ 10 := by decide
theorem nm_dat2 (d : List UInt8) : (nmS 2 ⟨d.toArray⟩).data.toList = [40, 102, 117, 110, 32, 102, 32, 40] ++ (d ++ [41, 32, 40, 114, 101, 116, 32, 48, 41, 41]) := dat_three7 [40, 102, 117, 110, 32, 102, 32, 40] d [41, 32, 40, 114, 101, 116, 32, 48, 41, 41]
theorem nm_ok2 (q : ByteArray) (ho : opnW q = 0) : ToksOk (nmT 2 q) ∧ tdeps (nmT 2 q) ≤ 24 := by
  unfold nmT
  simp only [ToksOk, TokOk, ho, tdeps, tdep]
  decide
theorem nm_pre3 (r : List UInt8) : lineP ([40, 102, 117, 110, 32, 102, 32, 40, 41, 32, 40, 115, 101, 116, 32] ++ r) [] [] = lineP r [] [⟨#[40]⟩, ⟨#[102, 117, 110]⟩, ⟨#[102]⟩, ⟨#[40]⟩, ⟨#[41]⟩, ⟨#[40]⟩, ⟨#[115, 101, 116]⟩] := by simp [lineP, kindP, putW]
theorem nm_post3 (d : List UInt8) (h : WrdD d) : lineP [32, 49, 41, 32, 40, 114, 101, 116, 32, 48, 41, 41] d [⟨#[40]⟩, ⟨#[102, 117, 110]⟩, ⟨#[102]⟩, ⟨#[40]⟩, ⟨#[41]⟩, ⟨#[40]⟩, ⟨#[115, 101, 116]⟩] = some (flats (nmT 3 ⟨d.toArray⟩)) := by
  rw [lineP_blank, h.put]
  simp [lineP, kindP, putW, nmT, flats, flat, opnB, clsB]
theorem nm_line3 : (∀ c ∈ ([40, 102, 117, 110, 32, 102, 32, 40, 41, 32, 40, 115, 101, 116, 32] : List UInt8), c ≠ 10) ∧ ∀ c ∈ ([32, 49, 41, 32, 40, 114, 101, 116, 32, 48, 41, 41] : List UInt8), c ≠ 10 := by decide
theorem nm_dat3 (d : List UInt8) : (nmS 3 ⟨d.toArray⟩).data.toList = [40, 102, 117, 110, 32, 102, 32, 40, 41, 32, 40, 115, 101, 116, 32] ++ (d ++ [32, 49, 41, 32, 40, 114, 101, 116, 32, 48, 41, 41]) := dat_three7 [40, 102, 117, 110, 32, 102, 32, 40, 41, 32, 40, 115, 101, 116, 32] d [32, 49, 41, 32, 40, 114, 101, 116, 32, 48, 41, 41]
theorem nm_ok3 (q : ByteArray) (ho : opnW q = 0) : ToksOk (nmT 3 q) ∧ tdeps (nmT 3 q) ≤ 24 := by
  unfold nmT
  simp only [ToksOk, TokOk, ho, tdeps, tdep]
  decide
theorem nm_pre4 (r : List UInt8) : lineP ([40, 102, 117, 110, 32, 102, 32, 40, 41, 32, 40, 102, 111, 114, 32] ++ r) [] [] = lineP r [] [⟨#[40]⟩, ⟨#[102, 117, 110]⟩, ⟨#[102]⟩, ⟨#[40]⟩, ⟨#[41]⟩, ⟨#[40]⟩, ⟨#[102, 111, 114]⟩] := by simp [lineP, kindP, putW]
theorem nm_post4 (d : List UInt8) (h : WrdD d) : lineP [32, 50, 41, 32, 40, 114, 101, 116, 32, 48, 41, 41] d [⟨#[40]⟩, ⟨#[102, 117, 110]⟩, ⟨#[102]⟩, ⟨#[40]⟩, ⟨#[41]⟩, ⟨#[40]⟩, ⟨#[102, 111, 114]⟩] = some (flats (nmT 4 ⟨d.toArray⟩)) := by
  rw [lineP_blank, h.put]
  simp [lineP, kindP, putW, nmT, flats, flat, opnB, clsB]
theorem nm_line4 : (∀ c ∈ ([40, 102, 117, 110, 32, 102, 32, 40, 41, 32, 40, 102, 111, 114, 32] : List UInt8), c ≠ 10) ∧ ∀ c ∈ ([32, 50, 41, 32, 40, 114, 101, 116, 32, 48, 41, 41] : List UInt8), c ≠ 10 := by decide
theorem nm_dat4 (d : List UInt8) : (nmS 4 ⟨d.toArray⟩).data.toList = [40, 102, 117, 110, 32, 102, 32, 40, 41, 32, 40, 102, 111, 114, 32] ++ (d ++ [32, 50, 41, 32, 40, 114, 101, 116, 32, 48, 41, 41]) := dat_three7 [40, 102, 117, 110, 32, 102, 32, 40, 41, 32, 40, 102, 111, 114, 32] d [32, 50, 41, 32, 40, 114, 101, 116, 32, 48, 41, 41]
theorem nm_ok4 (q : ByteArray) (ho : opnW q = 0) : ToksOk (nmT 4 q) ∧ tdeps (nmT 4 q) ≤ 24 := by
  unfold nmT
  simp only [ToksOk, TokOk, ho, tdeps, tdep]
  decide
theorem nm_pre5 (r : List UInt8) : lineP ([40, 102, 117, 110, 32, 102, 32, 40, 41, 32, 40, 114, 101, 116, 32, 40, 103, 101, 116, 32] ++ r) [] [] = lineP r [] [⟨#[40]⟩, ⟨#[102, 117, 110]⟩, ⟨#[102]⟩, ⟨#[40]⟩, ⟨#[41]⟩, ⟨#[40]⟩, ⟨#[114, 101, 116]⟩, ⟨#[40]⟩, ⟨#[103, 101, 116]⟩] := by simp [lineP, kindP, putW]
theorem nm_post5 (d : List UInt8) (h : WrdD d) : lineP [32, 48, 41, 41, 41] d [⟨#[40]⟩, ⟨#[102, 117, 110]⟩, ⟨#[102]⟩, ⟨#[40]⟩, ⟨#[41]⟩, ⟨#[40]⟩, ⟨#[114, 101, 116]⟩, ⟨#[40]⟩, ⟨#[103, 101, 116]⟩] = some (flats (nmT 5 ⟨d.toArray⟩)) := by
  rw [lineP_blank, h.put]
  simp [lineP, kindP, putW, nmT, flats, flat, opnB, clsB]
theorem nm_line5 : (∀ c ∈ ([40, 102, 117, 110, 32, 102, 32, 40, 41, 32, 40, 114, 101, 116, 32, 40, 103, 101, 116, 32] : List UInt8), c ≠ 10) ∧ ∀ c ∈ ([32, 48, 41, 41, 41] : List UInt8), c ≠ 10 := by decide
theorem nm_dat5 (d : List UInt8) : (nmS 5 ⟨d.toArray⟩).data.toList = [40, 102, 117, 110, 32, 102, 32, 40, 41, 32, 40, 114, 101, 116, 32, 40, 103, 101, 116, 32] ++ (d ++ [32, 48, 41, 41, 41]) := dat_three7 [40, 102, 117, 110, 32, 102, 32, 40, 41, 32, 40, 114, 101, 116, 32, 40, 103, 101, 116, 32] d [32, 48, 41, 41, 41]
theorem nm_ok5 (q : ByteArray) (ho : opnW q = 0) : ToksOk (nmT 5 q) ∧ tdeps (nmT 5 q) ≤ 24 := by
  unfold nmT
  simp only [ToksOk, TokOk, ho, tdeps, tdep]
  decide
theorem nm_pre6 (r : List UInt8) : lineP ([40, 102, 117, 110, 32, 102, 32, 40, 41, 32, 40, 114, 101, 116, 32, 40, 99, 97, 108, 108, 32] ++ r) [] [] = lineP r [] [⟨#[40]⟩, ⟨#[102, 117, 110]⟩, ⟨#[102]⟩, ⟨#[40]⟩, ⟨#[41]⟩, ⟨#[40]⟩, ⟨#[114, 101, 116]⟩, ⟨#[40]⟩, ⟨#[99, 97, 108, 108]⟩] := by simp [lineP, kindP, putW]
theorem nm_post6 (d : List UInt8) (h : WrdD d) : lineP [41, 41, 41] d [⟨#[40]⟩, ⟨#[102, 117, 110]⟩, ⟨#[102]⟩, ⟨#[40]⟩, ⟨#[41]⟩, ⟨#[40]⟩, ⟨#[114, 101, 116]⟩, ⟨#[40]⟩, ⟨#[99, 97, 108, 108]⟩] = some (flats (nmT 6 ⟨d.toArray⟩)) := by
  rw [lineP_shut, h.put]
  simp [lineP, kindP, putW, nmT, flats, flat, opnB, clsB]
theorem nm_line6 : (∀ c ∈ ([40, 102, 117, 110, 32, 102, 32, 40, 41, 32, 40, 114, 101, 116, 32, 40, 99, 97, 108, 108, 32] : List UInt8), c ≠ 10) ∧ ∀ c ∈ ([41, 41, 41] : List UInt8), c ≠ 10 := by decide
theorem nm_dat6 (d : List UInt8) : (nmS 6 ⟨d.toArray⟩).data.toList = [40, 102, 117, 110, 32, 102, 32, 40, 41, 32, 40, 114, 101, 116, 32, 40, 99, 97, 108, 108, 32] ++ (d ++ [41, 41, 41]) := dat_three7 [40, 102, 117, 110, 32, 102, 32, 40, 41, 32, 40, 114, 101, 116, 32, 40, 99, 97, 108, 108, 32] d [41, 41, 41]
theorem nm_ok6 (q : ByteArray) (ho : opnW q = 0) : ToksOk (nmT 6 q) ∧ tdeps (nmT 6 q) ≤ 24 := by
  unfold nmT
  simp only [ToksOk, TokOk, ho, tdeps, tdep]
  decide
theorem ne_three {a b c : List UInt8} (ha : ∀ x ∈ a, x ≠ 10) (hb : ∀ x ∈ b, x ≠ 10) (hc : ∀ x ∈ c, x ≠ 10) : ∀ x ∈ a ++ (b ++ c), x ≠ 10 := fun x hx => by
  rcases List.mem_append.1 hx with h | h
  · exact ha x h
  rcases List.mem_append.1 h with h | h
  · exact hb x h
  · exact hc x h
theorem nm_ok (i : Nat) (hi : i < 7) (d : List UInt8) (h : WrdD d) : ToksOk (nmT i ⟨d.toArray⟩) := by
  match i, hi with
  | 0, _ => exact (nm_ok0 _ h.opn).1
  | 1, _ => exact (nm_ok1 _ h.opn).1
  | 2, _ => exact (nm_ok2 _ h.opn).1
  | 3, _ => exact (nm_ok3 _ h.opn).1
  | 4, _ => exact (nm_ok4 _ h.opn).1
  | 5, _ => exact (nm_ok5 _ h.opn).1
  | 6, _ => exact (nm_ok6 _ h.opn).1
theorem nm_words (i : Nat) (hi : i < 7) (d : List UInt8) (h : WrdD d) : wordsV (nmS i ⟨d.toArray⟩) = some (flats (nmT i ⟨d.toArray⟩)) := by
  match i, hi with
  | 0, _ => exact wordsV_of (by rw [nm_dat0]; exact ne_three nm_line0.1 h.line nm_line0.2) (by rw [nm_dat0, nm_pre0, lineP_word d _ _ _ h.word, List.nil_append, nm_post0 d h]) (nm_ok0 _ h.opn).1 (nm_ok0 _ h.opn).2
  | 1, _ => exact wordsV_of (by rw [nm_dat1]; exact ne_three nm_line1.1 h.line nm_line1.2) (by rw [nm_dat1, nm_pre1, lineP_word d _ _ _ h.word, List.nil_append, nm_post1 d h]) (nm_ok1 _ h.opn).1 (nm_ok1 _ h.opn).2
  | 2, _ => exact wordsV_of (by rw [nm_dat2]; exact ne_three nm_line2.1 h.line nm_line2.2) (by rw [nm_dat2, nm_pre2, lineP_word d _ _ _ h.word, List.nil_append, nm_post2 d h]) (nm_ok2 _ h.opn).1 (nm_ok2 _ h.opn).2
  | 3, _ => exact wordsV_of (by rw [nm_dat3]; exact ne_three nm_line3.1 h.line nm_line3.2) (by rw [nm_dat3, nm_pre3, lineP_word d _ _ _ h.word, List.nil_append, nm_post3 d h]) (nm_ok3 _ h.opn).1 (nm_ok3 _ h.opn).2
  | 4, _ => exact wordsV_of (by rw [nm_dat4]; exact ne_three nm_line4.1 h.line nm_line4.2) (by rw [nm_dat4, nm_pre4, lineP_word d _ _ _ h.word, List.nil_append, nm_post4 d h]) (nm_ok4 _ h.opn).1 (nm_ok4 _ h.opn).2
  | 5, _ => exact wordsV_of (by rw [nm_dat5]; exact ne_three nm_line5.1 h.line nm_line5.2) (by rw [nm_dat5, nm_pre5, lineP_word d _ _ _ h.word, List.nil_append, nm_post5 d h]) (nm_ok5 _ h.opn).1 (nm_ok5 _ h.opn).2
  | 6, _ => exact wordsV_of (by rw [nm_dat6]; exact ne_three nm_line6.1 h.line nm_line6.2) (by rw [nm_dat6, nm_pre6, lineP_word d _ _ _ h.word, List.nil_append, nm_post6 d h]) (nm_ok6 _ h.opn).1 (nm_ok6 _ h.opn).2
theorem nm_wrong (i : Nat) (hi : i < 7) (d : List UInt8) (h1 : ∀ c ∈ d, kindP c.toNat = 0 ∨ kindP c.toNat = 1) (h2 : ∃ c ∈ d, kindP c.toNat = 0) (h3 : ∀ c ∈ d, c ≠ 10) : wordsV (nmS i ⟨d.toArray⟩) = none := by
  match i, hi with
  | 0, _ => exact wordsV_bad (by rw [nm_dat0]; exact ne_three nm_line0.1 h3 nm_line0.2) (by rw [nm_dat0, nm_pre0]; exact lineP_wrong d _ _ _ h1 h2)
  | 1, _ => exact wordsV_bad (by rw [nm_dat1]; exact ne_three nm_line1.1 h3 nm_line1.2) (by rw [nm_dat1, nm_pre1]; exact lineP_wrong d _ _ _ h1 h2)
  | 2, _ => exact wordsV_bad (by rw [nm_dat2]; exact ne_three nm_line2.1 h3 nm_line2.2) (by rw [nm_dat2, nm_pre2]; exact lineP_wrong d _ _ _ h1 h2)
  | 3, _ => exact wordsV_bad (by rw [nm_dat3]; exact ne_three nm_line3.1 h3 nm_line3.2) (by rw [nm_dat3, nm_pre3]; exact lineP_wrong d _ _ _ h1 h2)
  | 4, _ => exact wordsV_bad (by rw [nm_dat4]; exact ne_three nm_line4.1 h3 nm_line4.2) (by rw [nm_dat4, nm_pre4]; exact lineP_wrong d _ _ _ h1 h2)
  | 5, _ => exact wordsV_bad (by rw [nm_dat5]; exact ne_three nm_line5.1 h3 nm_line5.2) (by rw [nm_dat5, nm_pre5]; exact lineP_wrong d _ _ _ h1 h2)
  | 6, _ => exact wordsV_bad (by rw [nm_dat6]; exact ne_three nm_line6.1 h3 nm_line6.2) (by rw [nm_dat6, nm_pre6]; exact lineP_wrong d _ _ _ h1 h2)
end Go.Proofs.YtbhdbglhejibbaaGreatDoor
