/- Sources with a name in them that is open: how they are printed. No condition. -/
import Derived.Test.YtbhdbglhejibbaaGreatDoorTuS
namespace Go.Proofs.YtbhdbglhejibbaaGreatDoor
set_option maxRecDepth 100000
open Go.RowKit
set_option linter.unusedVariables false
def gapV (b : List Int) (o : Nat) : List Int := if 0 < o ∧ (b = [] ∨ b.getD (b.length - 1) 0 ≠ 40) then b ++ [32] else b
def endV (b : List Int) (o : Nat) : List Int := if o = 1 then b ++ [41] ++ [10] else b ++ [41]
section
variable {a x b : List Int} (hx : x ≠ []) (hl : x.getD (x.length - 1) 0 ≠ 40)
theorem put_mid (h : a.length + x.length + b.length ≤ 20000) (s : ByteArray) : putL (a ++ (x ++ b)) s = a ++ (x ++ (b ++ sB s)) := by
  unfold putL
  rw [if_neg (by simp only [List.length_append]; omega)]
  simp
include hx hl in
theorem gap_mid (h : a.length + x.length + b.length ≤ 20000) (o : Nat) : gapL (a ++ (x ++ b)) o = a ++ (x ++ gapV b o) := by
  have hxl : 0 < x.length := List.length_pos_iff.2 hx
  have hlast : (a ++ (x ++ b)).getD ((a ++ (x ++ b)).length - 1) 0 = if b = [] then x.getD (x.length - 1) 0 else b.getD (b.length - 1) 0 := by
    by_cases hb : b = []
    · subst hb
      rw [if_pos rfl]
      simp only [List.append_nil, List.length_append, List.getD_eq_getElem?_getD]
      rw [List.getElem?_append_right (by omega), show a.length + x.length - 1 - a.length = x.length - 1 by omega]
    · have hbl : 0 < b.length := List.length_pos_iff.2 hb
      rw [if_neg hb]
      simp only [List.length_append, List.getD_eq_getElem?_getD]
      rw [List.getElem?_append_right (by omega), List.getElem?_append_right (by omega), show a.length + (x.length + b.length) - 1 - a.length - x.length = b.length - 1 by omega]
  unfold gapL gapV
  rw [hlast]
  by_cases hb : b = []
  · subst hb
    simp only [if_true, true_or, and_true]
    by_cases ho : 0 < o
    · rw [if_pos ⟨ho, hl⟩, if_pos ho, put_mid h]; rfl
    · rw [if_neg (fun e => ho e.1), if_neg ho]
  · simp only [hb, if_false, false_or]
    by_cases hc : 0 < o ∧ b.getD (b.length - 1) 0 ≠ 40
    · rw [if_pos hc, if_pos hc, put_mid h]; rfl
    · rw [if_neg hc, if_neg hc]
theorem gapV_len (b : List Int) (o : Nat) : (gapV b o).length ≤ b.length + 1 := by unfold gapV; split <;> simp
include hx hl in
theorem word_mid (h : a.length + x.length + b.length ≤ 19000) (o : Nat) (s : ByteArray) : wordL (a ++ (x ++ b)) o s = a ++ (x ++ (gapV b o ++ sB s)) := by
  unfold wordL
  rw [gap_mid hx hl (by omega), put_mid (by have := gapV_len b o; omega)]
include hx hl in
theorem beg_mid (h : a.length + x.length + b.length ≤ 19000) (o : Nat) : begL (a ++ (x ++ b)) o = a ++ (x ++ (gapV b o ++ [40])) := by
  unfold begL
  rw [gap_mid hx hl (by omega), put_mid (by have := gapV_len b o; omega)]; rfl
theorem end_mid (h : a.length + x.length + b.length ≤ 19000) (o : Nat) : endL (a ++ (x ++ b)) o = a ++ (x ++ endV b o) := by
  unfold endL endV
  split
  · rw [put_mid (by omega), put_mid (by simp only [List.length_append]; have : (sB ⟨#[41]⟩).length = 1 := rfl; omega)]; rfl
  · rw [put_mid (by omega)]; rfl
end
theorem word_new {t : List Int} {o : Nat} {q : ByteArray} (h : (gapL t o).length ≤ 20000) : wordL t o q = gapL t o ++ (sB q ++ []) := by
  unfold wordL putL
  rw [if_neg (by omega), List.append_nil]
theorem ret_T (o : Nat) (t : List Int) : stT (.mk 4 ⟨#[]⟩ 0 [.mk 0 0 ⟨#[]⟩ []] [] []) o t = endL (wordL (wordL (begL t o) (o + 1) ⟨#[114, 101, 116]⟩) (o + 1) ⟨#[48]⟩) (o + 1) := by kernel_rfl
theorem set_T (q : ByteArray) (o : Nat) (t : List Int) : stT (.mk 0 q 0 [.mk 0 1 ⟨#[]⟩ []] [] []) o t = endL (wordL (wordL (wordL (begL t o) (o + 1) ⟨#[115, 101, 116]⟩) (o + 1) q) (o + 1) ⟨#[49]⟩) (o + 1) := by kernel_rfl
theorem for_T (q : ByteArray) (o : Nat) (t : List Int) : stT (.mk 3 q 2 [] [] []) o t = endL (wordL (wordL (wordL (begL t o) (o + 1) ⟨#[102, 111, 114]⟩) (o + 1) q) (o + 1) ⟨#[50]⟩) (o + 1) := by kernel_rfl
theorem get_T (q : ByteArray) (hq : q.toList.isEmpty = false) (o : Nat) (t : List Int) : stT (.mk 4 ⟨#[]⟩ 0 [.mk 2 0 q [.mk 0 0 ⟨#[]⟩ []]] [] []) o t = endL (endL (wordL (wordL (wordL (begL (wordL (begL t o) (o + 1) ⟨#[114, 101, 116]⟩) (o + 1)) (o + 1 + 1) ⟨#[103, 101, 116]⟩) (o + 1 + 1) q) (o + 1 + 1) ⟨#[48]⟩) (o + 1 + 1)) (o + 1) := by
  have e1 : stT (.mk 4 ⟨#[]⟩ 0 [.mk 2 0 q [.mk 0 0 ⟨#[]⟩ []]] [] []) o t = endL (endL (wordL (nesL 2 0 q (wordL (begL t o) (o + 1) ⟨#[114, 101, 116]⟩) (o + 1)) (o + 1 + 1) ⟨#[48]⟩) (o + 1 + 1)) (o + 1) := by kernel_rfl
  rw [e1]
  unfold nesL
  rw [if_neg (by rw [hq]; simp)]
  rfl
theorem call_T (q : ByteArray) (hq : q.toList.isEmpty = false) (o : Nat) (t : List Int) : stT (.mk 4 ⟨#[]⟩ 0 [.mk 5 0 q []] [] []) o t = endL (endL (wordL (wordL (begL (wordL (begL t o) (o + 1) ⟨#[114, 101, 116]⟩) (o + 1)) (o + 1 + 1) ⟨#[99, 97, 108, 108]⟩) (o + 1 + 1) q) (o + 1 + 1)) (o + 1) := by
  have e1 : stT (.mk 4 ⟨#[]⟩ 0 [.mk 5 0 q []] [] []) o t = endL (endL (nesL 5 0 q (wordL (begL t o) (o + 1) ⟨#[114, 101, 116]⟩) (o + 1)) (o + 1 + 1)) (o + 1) := by kernel_rfl
  rw [e1]
  unfold nesL
  rw [if_neg (by rw [hq]; simp)]
  rfl
theorem nm_pro0 (q : ByteArray) : proT (nmP 0 q) = endL (wordL (wordL [40, 115, 101, 99, 114, 101, 116] 1 q) 1 ⟨#[49]⟩) 1 := by
  kernel_rfl
theorem nm_txt0 (q : ByteArray) (hx : sB q ≠ []) (hl : (sB q).getD ((sB q).length - 1) 0 ≠ 40) (hn : (sB q).length ≤ 24) : proT (nmP 0 q) = [40, 115, 101, 99, 114, 101, 116, 32] ++ (sB q ++ [32, 49, 41, 10]) := by
  rw [nm_pro0]
  have e0 : wordL [40, 115, 101, 99, 114, 101, 116] 1 q = [40, 115, 101, 99, 114, 101, 116, 32] ++ (sB q ++ []) := word_new (t := [40, 115, 101, 99, 114, 101, 116]) (o := 1) (q := q) (by decide)
  generalize sB q = x at *
  have e1 : wordL ([40, 115, 101, 99, 114, 101, 116, 32] ++ (x ++ [])) 1 ⟨#[49]⟩ = [40, 115, 101, 99, 114, 101, 116, 32] ++ (x ++ [32, 49]) := by
    rw [word_mid hx hl (by simp only [List.length_cons, List.length_nil]; omega)]; rfl
  have e2 : endL ([40, 115, 101, 99, 114, 101, 116, 32] ++ (x ++ [32, 49])) 1 = [40, 115, 101, 99, 114, 101, 116, 32] ++ (x ++ [32, 49, 41, 10]) := by
    rw [end_mid (by simp only [List.length_cons, List.length_nil]; omega)]; rfl
  rw [e0, e1, e2]
theorem nm_pro1 (q : ByteArray) : proT (nmP 1 q) = endL (endL (wordL (wordL (begL (endL (begL (wordL [40, 102, 117, 110] 1 q) 1) 2) 1) 2 ⟨#[114, 101, 116]⟩) 2 ⟨#[48]⟩) 2) 1 := by
  kernel_rfl
theorem nm_txt1 (q : ByteArray) (hx : sB q ≠ []) (hl : (sB q).getD ((sB q).length - 1) 0 ≠ 40) (hn : (sB q).length ≤ 24) : proT (nmP 1 q) = [40, 102, 117, 110, 32] ++ (sB q ++ [32, 40, 41, 32, 40, 114, 101, 116, 32, 48, 41, 41, 10]) := by
  rw [nm_pro1]
  have e0 : wordL [40, 102, 117, 110] 1 q = [40, 102, 117, 110, 32] ++ (sB q ++ []) := word_new (t := [40, 102, 117, 110]) (o := 1) (q := q) (by decide)
  generalize sB q = x at *
  have e1 : begL ([40, 102, 117, 110, 32] ++ (x ++ [])) 1 = [40, 102, 117, 110, 32] ++ (x ++ [32, 40]) := by
    rw [beg_mid hx hl (by simp only [List.length_cons, List.length_nil]; omega)]; rfl
  have e2 : endL ([40, 102, 117, 110, 32] ++ (x ++ [32, 40])) 2 = [40, 102, 117, 110, 32] ++ (x ++ [32, 40, 41]) := by
    rw [end_mid (by simp only [List.length_cons, List.length_nil]; omega)]; rfl
  have e3 : begL ([40, 102, 117, 110, 32] ++ (x ++ [32, 40, 41])) 1 = [40, 102, 117, 110, 32] ++ (x ++ [32, 40, 41, 32, 40]) := by
    rw [beg_mid hx hl (by simp only [List.length_cons, List.length_nil]; omega)]; rfl
  have e4 : wordL ([40, 102, 117, 110, 32] ++ (x ++ [32, 40, 41, 32, 40])) 2 ⟨#[114, 101, 116]⟩ = [40, 102, 117, 110, 32] ++ (x ++ [32, 40, 41, 32, 40, 114, 101, 116]) := by
    rw [word_mid hx hl (by simp only [List.length_cons, List.length_nil]; omega)]; rfl
  have e5 : wordL ([40, 102, 117, 110, 32] ++ (x ++ [32, 40, 41, 32, 40, 114, 101, 116])) 2 ⟨#[48]⟩ = [40, 102, 117, 110, 32] ++ (x ++ [32, 40, 41, 32, 40, 114, 101, 116, 32, 48]) := by
    rw [word_mid hx hl (by simp only [List.length_cons, List.length_nil]; omega)]; rfl
  have e6 : endL ([40, 102, 117, 110, 32] ++ (x ++ [32, 40, 41, 32, 40, 114, 101, 116, 32, 48])) 2 = [40, 102, 117, 110, 32] ++ (x ++ [32, 40, 41, 32, 40, 114, 101, 116, 32, 48, 41]) := by
    rw [end_mid (by simp only [List.length_cons, List.length_nil]; omega)]; rfl
  have e7 : endL ([40, 102, 117, 110, 32] ++ (x ++ [32, 40, 41, 32, 40, 114, 101, 116, 32, 48, 41])) 1 = [40, 102, 117, 110, 32] ++ (x ++ [32, 40, 41, 32, 40, 114, 101, 116, 32, 48, 41, 41, 10]) := by
    rw [end_mid (by simp only [List.length_cons, List.length_nil]; omega)]; rfl
  rw [e0, e1, e2, e3, e4, e5, e6, e7]
theorem nm_pro2 (q : ByteArray) : proT (nmP 2 q) = endL (endL (wordL (wordL (begL (endL (wordL [40, 102, 117, 110, 32, 102, 32, 40] 2 q) 2) 1) 2 ⟨#[114, 101, 116]⟩) 2 ⟨#[48]⟩) 2) 1 := by
  kernel_rfl
theorem nm_txt2 (q : ByteArray) (hx : sB q ≠ []) (hl : (sB q).getD ((sB q).length - 1) 0 ≠ 40) (hn : (sB q).length ≤ 24) : proT (nmP 2 q) = [40, 102, 117, 110, 32, 102, 32, 40] ++ (sB q ++ [41, 32, 40, 114, 101, 116, 32, 48, 41, 41, 10]) := by
  rw [nm_pro2]
  have e0 : wordL [40, 102, 117, 110, 32, 102, 32, 40] 2 q = [40, 102, 117, 110, 32, 102, 32, 40] ++ (sB q ++ []) := word_new (t := [40, 102, 117, 110, 32, 102, 32, 40]) (o := 2) (q := q) (by decide)
  generalize sB q = x at *
  have e1 : endL ([40, 102, 117, 110, 32, 102, 32, 40] ++ (x ++ [])) 2 = [40, 102, 117, 110, 32, 102, 32, 40] ++ (x ++ [41]) := by
    rw [end_mid (by simp only [List.length_cons, List.length_nil]; omega)]; rfl
  have e2 : begL ([40, 102, 117, 110, 32, 102, 32, 40] ++ (x ++ [41])) 1 = [40, 102, 117, 110, 32, 102, 32, 40] ++ (x ++ [41, 32, 40]) := by
    rw [beg_mid hx hl (by simp only [List.length_cons, List.length_nil]; omega)]; rfl
  have e3 : wordL ([40, 102, 117, 110, 32, 102, 32, 40] ++ (x ++ [41, 32, 40])) 2 ⟨#[114, 101, 116]⟩ = [40, 102, 117, 110, 32, 102, 32, 40] ++ (x ++ [41, 32, 40, 114, 101, 116]) := by
    rw [word_mid hx hl (by simp only [List.length_cons, List.length_nil]; omega)]; rfl
  have e4 : wordL ([40, 102, 117, 110, 32, 102, 32, 40] ++ (x ++ [41, 32, 40, 114, 101, 116])) 2 ⟨#[48]⟩ = [40, 102, 117, 110, 32, 102, 32, 40] ++ (x ++ [41, 32, 40, 114, 101, 116, 32, 48]) := by
    rw [word_mid hx hl (by simp only [List.length_cons, List.length_nil]; omega)]; rfl
  have e5 : endL ([40, 102, 117, 110, 32, 102, 32, 40] ++ (x ++ [41, 32, 40, 114, 101, 116, 32, 48])) 2 = [40, 102, 117, 110, 32, 102, 32, 40] ++ (x ++ [41, 32, 40, 114, 101, 116, 32, 48, 41]) := by
    rw [end_mid (by simp only [List.length_cons, List.length_nil]; omega)]; rfl
  have e6 : endL ([40, 102, 117, 110, 32, 102, 32, 40] ++ (x ++ [41, 32, 40, 114, 101, 116, 32, 48, 41])) 1 = [40, 102, 117, 110, 32, 102, 32, 40] ++ (x ++ [41, 32, 40, 114, 101, 116, 32, 48, 41, 41, 10]) := by
    rw [end_mid (by simp only [List.length_cons, List.length_nil]; omega)]; rfl
  rw [e0, e1, e2, e3, e4, e5, e6]
theorem nm_pro3 (q : ByteArray) : proT (nmP 3 q) = endL (endL (wordL (wordL (begL (endL (wordL (wordL [40, 102, 117, 110, 32, 102, 32, 40, 41, 32, 40, 115, 101, 116] 2 q) 2 ⟨#[49]⟩) 2) 1) 2 ⟨#[114, 101, 116]⟩) 2 ⟨#[48]⟩) 2) 1 := by
  kernel_rfl
theorem nm_txt3 (q : ByteArray) (hx : sB q ≠ []) (hl : (sB q).getD ((sB q).length - 1) 0 ≠ 40) (hn : (sB q).length ≤ 24) : proT (nmP 3 q) = [40, 102, 117, 110, 32, 102, 32, 40, 41, 32, 40, 115, 101, 116, 32] ++ (sB q ++ [32, 49, 41, 32, 40, 114, 101, 116, 32, 48, 41, 41, 10]) := by
  rw [nm_pro3]
  have e0 : wordL [40, 102, 117, 110, 32, 102, 32, 40, 41, 32, 40, 115, 101, 116] 2 q = [40, 102, 117, 110, 32, 102, 32, 40, 41, 32, 40, 115, 101, 116, 32] ++ (sB q ++ []) := word_new (t := [40, 102, 117, 110, 32, 102, 32, 40, 41, 32, 40, 115, 101, 116]) (o := 2) (q := q) (by decide)
  generalize sB q = x at *
  have e1 : wordL ([40, 102, 117, 110, 32, 102, 32, 40, 41, 32, 40, 115, 101, 116, 32] ++ (x ++ [])) 2 ⟨#[49]⟩ = [40, 102, 117, 110, 32, 102, 32, 40, 41, 32, 40, 115, 101, 116, 32] ++ (x ++ [32, 49]) := by
    rw [word_mid hx hl (by simp only [List.length_cons, List.length_nil]; omega)]; rfl
  have e2 : endL ([40, 102, 117, 110, 32, 102, 32, 40, 41, 32, 40, 115, 101, 116, 32] ++ (x ++ [32, 49])) 2 = [40, 102, 117, 110, 32, 102, 32, 40, 41, 32, 40, 115, 101, 116, 32] ++ (x ++ [32, 49, 41]) := by
    rw [end_mid (by simp only [List.length_cons, List.length_nil]; omega)]; rfl
  have e3 : begL ([40, 102, 117, 110, 32, 102, 32, 40, 41, 32, 40, 115, 101, 116, 32] ++ (x ++ [32, 49, 41])) 1 = [40, 102, 117, 110, 32, 102, 32, 40, 41, 32, 40, 115, 101, 116, 32] ++ (x ++ [32, 49, 41, 32, 40]) := by
    rw [beg_mid hx hl (by simp only [List.length_cons, List.length_nil]; omega)]; rfl
  have e4 : wordL ([40, 102, 117, 110, 32, 102, 32, 40, 41, 32, 40, 115, 101, 116, 32] ++ (x ++ [32, 49, 41, 32, 40])) 2 ⟨#[114, 101, 116]⟩ = [40, 102, 117, 110, 32, 102, 32, 40, 41, 32, 40, 115, 101, 116, 32] ++ (x ++ [32, 49, 41, 32, 40, 114, 101, 116]) := by
    rw [word_mid hx hl (by simp only [List.length_cons, List.length_nil]; omega)]; rfl
  have e5 : wordL ([40, 102, 117, 110, 32, 102, 32, 40, 41, 32, 40, 115, 101, 116, 32] ++ (x ++ [32, 49, 41, 32, 40, 114, 101, 116])) 2 ⟨#[48]⟩ = [40, 102, 117, 110, 32, 102, 32, 40, 41, 32, 40, 115, 101, 116, 32] ++ (x ++ [32, 49, 41, 32, 40, 114, 101, 116, 32, 48]) := by
    rw [word_mid hx hl (by simp only [List.length_cons, List.length_nil]; omega)]; rfl
  have e6 : endL ([40, 102, 117, 110, 32, 102, 32, 40, 41, 32, 40, 115, 101, 116, 32] ++ (x ++ [32, 49, 41, 32, 40, 114, 101, 116, 32, 48])) 2 = [40, 102, 117, 110, 32, 102, 32, 40, 41, 32, 40, 115, 101, 116, 32] ++ (x ++ [32, 49, 41, 32, 40, 114, 101, 116, 32, 48, 41]) := by
    rw [end_mid (by simp only [List.length_cons, List.length_nil]; omega)]; rfl
  have e7 : endL ([40, 102, 117, 110, 32, 102, 32, 40, 41, 32, 40, 115, 101, 116, 32] ++ (x ++ [32, 49, 41, 32, 40, 114, 101, 116, 32, 48, 41])) 1 = [40, 102, 117, 110, 32, 102, 32, 40, 41, 32, 40, 115, 101, 116, 32] ++ (x ++ [32, 49, 41, 32, 40, 114, 101, 116, 32, 48, 41, 41, 10]) := by
    rw [end_mid (by simp only [List.length_cons, List.length_nil]; omega)]; rfl
  rw [e0, e1, e2, e3, e4, e5, e6, e7]
theorem nm_pro4 (q : ByteArray) : proT (nmP 4 q) = endL (endL (wordL (wordL (begL (endL (wordL (wordL [40, 102, 117, 110, 32, 102, 32, 40, 41, 32, 40, 102, 111, 114] 2 q) 2 ⟨#[50]⟩) 2) 1) 2 ⟨#[114, 101, 116]⟩) 2 ⟨#[48]⟩) 2) 1 := by
  kernel_rfl
theorem nm_txt4 (q : ByteArray) (hx : sB q ≠ []) (hl : (sB q).getD ((sB q).length - 1) 0 ≠ 40) (hn : (sB q).length ≤ 24) : proT (nmP 4 q) = [40, 102, 117, 110, 32, 102, 32, 40, 41, 32, 40, 102, 111, 114, 32] ++ (sB q ++ [32, 50, 41, 32, 40, 114, 101, 116, 32, 48, 41, 41, 10]) := by
  rw [nm_pro4]
  have e0 : wordL [40, 102, 117, 110, 32, 102, 32, 40, 41, 32, 40, 102, 111, 114] 2 q = [40, 102, 117, 110, 32, 102, 32, 40, 41, 32, 40, 102, 111, 114, 32] ++ (sB q ++ []) := word_new (t := [40, 102, 117, 110, 32, 102, 32, 40, 41, 32, 40, 102, 111, 114]) (o := 2) (q := q) (by decide)
  generalize sB q = x at *
  have e1 : wordL ([40, 102, 117, 110, 32, 102, 32, 40, 41, 32, 40, 102, 111, 114, 32] ++ (x ++ [])) 2 ⟨#[50]⟩ = [40, 102, 117, 110, 32, 102, 32, 40, 41, 32, 40, 102, 111, 114, 32] ++ (x ++ [32, 50]) := by
    rw [word_mid hx hl (by simp only [List.length_cons, List.length_nil]; omega)]; rfl
  have e2 : endL ([40, 102, 117, 110, 32, 102, 32, 40, 41, 32, 40, 102, 111, 114, 32] ++ (x ++ [32, 50])) 2 = [40, 102, 117, 110, 32, 102, 32, 40, 41, 32, 40, 102, 111, 114, 32] ++ (x ++ [32, 50, 41]) := by
    rw [end_mid (by simp only [List.length_cons, List.length_nil]; omega)]; rfl
  have e3 : begL ([40, 102, 117, 110, 32, 102, 32, 40, 41, 32, 40, 102, 111, 114, 32] ++ (x ++ [32, 50, 41])) 1 = [40, 102, 117, 110, 32, 102, 32, 40, 41, 32, 40, 102, 111, 114, 32] ++ (x ++ [32, 50, 41, 32, 40]) := by
    rw [beg_mid hx hl (by simp only [List.length_cons, List.length_nil]; omega)]; rfl
  have e4 : wordL ([40, 102, 117, 110, 32, 102, 32, 40, 41, 32, 40, 102, 111, 114, 32] ++ (x ++ [32, 50, 41, 32, 40])) 2 ⟨#[114, 101, 116]⟩ = [40, 102, 117, 110, 32, 102, 32, 40, 41, 32, 40, 102, 111, 114, 32] ++ (x ++ [32, 50, 41, 32, 40, 114, 101, 116]) := by
    rw [word_mid hx hl (by simp only [List.length_cons, List.length_nil]; omega)]; rfl
  have e5 : wordL ([40, 102, 117, 110, 32, 102, 32, 40, 41, 32, 40, 102, 111, 114, 32] ++ (x ++ [32, 50, 41, 32, 40, 114, 101, 116])) 2 ⟨#[48]⟩ = [40, 102, 117, 110, 32, 102, 32, 40, 41, 32, 40, 102, 111, 114, 32] ++ (x ++ [32, 50, 41, 32, 40, 114, 101, 116, 32, 48]) := by
    rw [word_mid hx hl (by simp only [List.length_cons, List.length_nil]; omega)]; rfl
  have e6 : endL ([40, 102, 117, 110, 32, 102, 32, 40, 41, 32, 40, 102, 111, 114, 32] ++ (x ++ [32, 50, 41, 32, 40, 114, 101, 116, 32, 48])) 2 = [40, 102, 117, 110, 32, 102, 32, 40, 41, 32, 40, 102, 111, 114, 32] ++ (x ++ [32, 50, 41, 32, 40, 114, 101, 116, 32, 48, 41]) := by
    rw [end_mid (by simp only [List.length_cons, List.length_nil]; omega)]; rfl
  have e7 : endL ([40, 102, 117, 110, 32, 102, 32, 40, 41, 32, 40, 102, 111, 114, 32] ++ (x ++ [32, 50, 41, 32, 40, 114, 101, 116, 32, 48, 41])) 1 = [40, 102, 117, 110, 32, 102, 32, 40, 41, 32, 40, 102, 111, 114, 32] ++ (x ++ [32, 50, 41, 32, 40, 114, 101, 116, 32, 48, 41, 41, 10]) := by
    rw [end_mid (by simp only [List.length_cons, List.length_nil]; omega)]; rfl
  rw [e0, e1, e2, e3, e4, e5, e6, e7]
theorem nm_pro5 (q : ByteArray) (hq : q.toList.isEmpty = false) : proT (nmP 5 q) = endL (endL (endL (wordL (wordL [40, 102, 117, 110, 32, 102, 32, 40, 41, 32, 40, 114, 101, 116, 32, 40, 103, 101, 116] 3 q) 3 ⟨#[48]⟩) 3) 2) 1 := by
  have e1 : proT (nmP 5 q) = endL (stT (.mk 4 ⟨#[]⟩ 0 [.mk 2 0 q [.mk 0 0 ⟨#[]⟩ []]] [] []) 1 [40, 102, 117, 110, 32, 102, 32, 40, 41]) 1 := by kernel_rfl
  rw [e1, get_T q hq]
  show _ = _
  kernel_rfl
theorem nm_txt5 (q : ByteArray) (hq : q.toList.isEmpty = false) (hx : sB q ≠ []) (hl : (sB q).getD ((sB q).length - 1) 0 ≠ 40) (hn : (sB q).length ≤ 24) : proT (nmP 5 q) = [40, 102, 117, 110, 32, 102, 32, 40, 41, 32, 40, 114, 101, 116, 32, 40, 103, 101, 116, 32] ++ (sB q ++ [32, 48, 41, 41, 41, 10]) := by
  rw [nm_pro5 q hq]
  have e0 : wordL [40, 102, 117, 110, 32, 102, 32, 40, 41, 32, 40, 114, 101, 116, 32, 40, 103, 101, 116] 3 q = [40, 102, 117, 110, 32, 102, 32, 40, 41, 32, 40, 114, 101, 116, 32, 40, 103, 101, 116, 32] ++ (sB q ++ []) := word_new (t := [40, 102, 117, 110, 32, 102, 32, 40, 41, 32, 40, 114, 101, 116, 32, 40, 103, 101, 116]) (o := 3) (q := q) (by decide)
  generalize sB q = x at *
  have e1 : wordL ([40, 102, 117, 110, 32, 102, 32, 40, 41, 32, 40, 114, 101, 116, 32, 40, 103, 101, 116, 32] ++ (x ++ [])) 3 ⟨#[48]⟩ = [40, 102, 117, 110, 32, 102, 32, 40, 41, 32, 40, 114, 101, 116, 32, 40, 103, 101, 116, 32] ++ (x ++ [32, 48]) := by
    rw [word_mid hx hl (by simp only [List.length_cons, List.length_nil]; omega)]; rfl
  have e2 : endL ([40, 102, 117, 110, 32, 102, 32, 40, 41, 32, 40, 114, 101, 116, 32, 40, 103, 101, 116, 32] ++ (x ++ [32, 48])) 3 = [40, 102, 117, 110, 32, 102, 32, 40, 41, 32, 40, 114, 101, 116, 32, 40, 103, 101, 116, 32] ++ (x ++ [32, 48, 41]) := by
    rw [end_mid (by simp only [List.length_cons, List.length_nil]; omega)]; rfl
  have e3 : endL ([40, 102, 117, 110, 32, 102, 32, 40, 41, 32, 40, 114, 101, 116, 32, 40, 103, 101, 116, 32] ++ (x ++ [32, 48, 41])) 2 = [40, 102, 117, 110, 32, 102, 32, 40, 41, 32, 40, 114, 101, 116, 32, 40, 103, 101, 116, 32] ++ (x ++ [32, 48, 41, 41]) := by
    rw [end_mid (by simp only [List.length_cons, List.length_nil]; omega)]; rfl
  have e4 : endL ([40, 102, 117, 110, 32, 102, 32, 40, 41, 32, 40, 114, 101, 116, 32, 40, 103, 101, 116, 32] ++ (x ++ [32, 48, 41, 41])) 1 = [40, 102, 117, 110, 32, 102, 32, 40, 41, 32, 40, 114, 101, 116, 32, 40, 103, 101, 116, 32] ++ (x ++ [32, 48, 41, 41, 41, 10]) := by
    rw [end_mid (by simp only [List.length_cons, List.length_nil]; omega)]; rfl
  rw [e0, e1, e2, e3, e4]
theorem nm_pro6 (q : ByteArray) (hq : q.toList.isEmpty = false) : proT (nmP 6 q) = endL (endL (endL (wordL [40, 102, 117, 110, 32, 102, 32, 40, 41, 32, 40, 114, 101, 116, 32, 40, 99, 97, 108, 108] 3 q) 3) 2) 1 := by
  have e1 : proT (nmP 6 q) = endL (stT (.mk 4 ⟨#[]⟩ 0 [.mk 5 0 q []] [] []) 1 [40, 102, 117, 110, 32, 102, 32, 40, 41]) 1 := by kernel_rfl
  rw [e1, call_T q hq]
  show _ = _
  kernel_rfl
theorem nm_txt6 (q : ByteArray) (hq : q.toList.isEmpty = false) (hx : sB q ≠ []) (hl : (sB q).getD ((sB q).length - 1) 0 ≠ 40) (hn : (sB q).length ≤ 24) : proT (nmP 6 q) = [40, 102, 117, 110, 32, 102, 32, 40, 41, 32, 40, 114, 101, 116, 32, 40, 99, 97, 108, 108, 32] ++ (sB q ++ [41, 41, 41, 10]) := by
  rw [nm_pro6 q hq]
  have e0 : wordL [40, 102, 117, 110, 32, 102, 32, 40, 41, 32, 40, 114, 101, 116, 32, 40, 99, 97, 108, 108] 3 q = [40, 102, 117, 110, 32, 102, 32, 40, 41, 32, 40, 114, 101, 116, 32, 40, 99, 97, 108, 108, 32] ++ (sB q ++ []) := word_new (t := [40, 102, 117, 110, 32, 102, 32, 40, 41, 32, 40, 114, 101, 116, 32, 40, 99, 97, 108, 108]) (o := 3) (q := q) (by decide)
  generalize sB q = x at *
  have e1 : endL ([40, 102, 117, 110, 32, 102, 32, 40, 41, 32, 40, 114, 101, 116, 32, 40, 99, 97, 108, 108, 32] ++ (x ++ [])) 3 = [40, 102, 117, 110, 32, 102, 32, 40, 41, 32, 40, 114, 101, 116, 32, 40, 99, 97, 108, 108, 32] ++ (x ++ [41]) := by
    rw [end_mid (by simp only [List.length_cons, List.length_nil]; omega)]; rfl
  have e2 : endL ([40, 102, 117, 110, 32, 102, 32, 40, 41, 32, 40, 114, 101, 116, 32, 40, 99, 97, 108, 108, 32] ++ (x ++ [41])) 2 = [40, 102, 117, 110, 32, 102, 32, 40, 41, 32, 40, 114, 101, 116, 32, 40, 99, 97, 108, 108, 32] ++ (x ++ [41, 41]) := by
    rw [end_mid (by simp only [List.length_cons, List.length_nil]; omega)]; rfl
  have e3 : endL ([40, 102, 117, 110, 32, 102, 32, 40, 41, 32, 40, 114, 101, 116, 32, 40, 99, 97, 108, 108, 32] ++ (x ++ [41, 41])) 1 = [40, 102, 117, 110, 32, 102, 32, 40, 41, 32, 40, 114, 101, 116, 32, 40, 99, 97, 108, 108, 32] ++ (x ++ [41, 41, 41, 10]) := by
    rw [end_mid (by simp only [List.length_cons, List.length_nil]; omega)]; rfl
  rw [e0, e1, e2, e3]
end Go.Proofs.YtbhdbglhejibbaaGreatDoor
