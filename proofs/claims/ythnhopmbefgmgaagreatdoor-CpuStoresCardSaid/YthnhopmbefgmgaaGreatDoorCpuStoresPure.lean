/- Layer 5's statements: what CpuStores' run comes to: plain mathematics. -/
import Derived.Test.YthnhopmbefgmgaaGreatDoorCpuH
namespace Go.Proofs.YthnhopmbefgmgaaGreatDoor
set_option maxRecDepth 100000
open Go.RowKit Go.Maps
def sT : List Rg := T1 0 64 7 7
theorem st_w : TabW sT := tabW_of (by decide +kernel)
theorem st_may : mayTB sT = true := by decide +kernel
def sX : List X := [⟨31, 0, 0, 5, 40⟩, ⟨30, 0, 0, 5, 48⟩, ⟨29, 0, 0, 5, 56⟩, ⟨28, 6, 0, 0, 40⟩, ⟨27, 7, 0, 0, 48⟩, ⟨25, 8, 0, 0, 56⟩, ⟨26, 9, 0, 0, 56⟩, ⟨42, 0, 0, 0, 0⟩]
theorem sx_may : sX.all mayXB = true := by decide +kernel
theorem sx_at {k : Nat} {z : X} (h : sX[k]? = some z) : MayX z := mayL sx_may z (List.mem_of_getElem? h)
def sW (v : Int) (own : Bool) : CS := { s0 0 own with R := zeroR.set 5 v }
def sR (v a b c d : Int) : List Int := 0 :: 0 :: 0 :: 0 :: 0 :: v :: a :: b :: c :: d :: List.replicate 22 0
def sB0 : Nat → List Int := bB sT [wordsL sX] 1
def sSt (v : Int) (own : Bool) : St := { s := newS (sW v own), ev := [], lk := [], B := sB0 }
def sLk (own : Bool) (l : List Lk) : List Lk := if own then l else []
def sSts (v a b c d p : Int) (own : Bool) (dn : Int) (lk : List Lk) (B : Nat → List Int) : St := ⟨⟨sR v a b c d, p, own, dn⟩, [], lk, B⟩
theorem sB : sB0 0 = wordsL sX ++ List.replicate 32 0 := b_one (n := 64) rfl (by rw [wordsL_len]; decide) (by rw [wordsL_len]; decide)
theorem sX_len : (wordsL sX).length = 32 := by rw [wordsL_len]; decide
theorem rt (own : Bool) {q : Int} (h : hasB 7 q = true) : hasB (if own then 7 else 7) q = true := by cases own <;> exact h
def t1 (v : Int) : List Int := splice (List.replicate 32 0) 8 (bytesL v 8)
def t2 (v : Int) : List Int := splice (t1 v) 16 (bytesL v 4)
def t3 (v : Int) : List Int := splice (t2 v) 24 (bytesL v 1)
theorem t3_8 (v : Int) : ((t3 v).drop 8).take 8 = bytesL v 8 := rfl
theorem t3_16 (v : Int) : ((t3 v).drop 16).take 4 = bytesL v 4 := rfl
theorem t3_24 (v : Int) : ((t3 v).drop 24).take 1 = bytesL v 1 := rfl
theorem drop_past {a t : List Int} {p q n : Nat} (h : a.length = q) (h' : q ≤ p) : ((a ++ t).drop p).take n = (t.drop (p - q)).take n := by
  rw [List.drop_append, List.drop_of_length_le (by omega), List.nil_append, h]
theorem sLk_add (own : Bool) (a b : List Lk) : sLk own a ++ sLk own b = sLk own (a ++ b) := by cases own <;> simp [sLk]
theorem showC_is (st : St) (k a b : Int) : showC st k a b = { st with lk := st.lk ++ sLk st.s.own [(k, a, b)] } := by
  unfold showC sLk
  cases st.s.own <;> simp
theorem sum_is {st : St} {v a b c d im r2 rd : Int} {op : Nat} (h : st.s.R = sR v a b c d) (h0 : 0 ≤ im) (h1 : im < 64) : sumP st.s ⟨op, rd, 0, r2, im⟩ = im := by
  unfold sumP reg; rw [h]
  show (0 + im) % 18446744073709551616 = im
  omega
/-- a store of the module's or the context's, behind the instructions -/
theorem s_store {v a b c d : Int} {own : Bool} {lk : List Lk} {B : Nat → List Int} {t : List Int} (k : Nat) (op : Nat) (im n : Int) (h1 : 29 ≤ op) (h2 : op < 32) (hl : lenOf op = n) (hn : n = 1 ∨ n = 4 ∨ n = 8) (hz : sX[k]? = some ⟨op, 0, 0, 5, im⟩) (hk : k < 16) (him : 32 ≤ im ∧ im + n ≤ 64 ∧ im % n = 0) (hB : B 0 = wordsL sX ++ t) :
    ∃ B', B' 0 = wordsL sX ++ splice t (im.toNat - 32) (bytesL v n.toNat) ∧ stepC sT [] (sSts v a b c d (4 * k) own 0 lk B) = sSts v a b c d (4 * k + 4) own 0 (lk ++ sLk own [(0, 4 * k, 0), (1, im, 0)]) B' := by
  have hp : (4 * (k : Int) + 4) % 18446744073709551616 = 4 * k + 4 := by omega
  have hq := sum_is (st := { sSts v a b c d (4 * k) own 0 lk B with lk := lk ++ sLk own [(0, 4 * (k : Int), 0)] }) (v := v) (a := a) (b := b) (c := c) (d := d) (im := im) (r2 := 5) (rd := 0) (op := op) rfl (by omega) (by omega)
  refine ⟨setB B 0 (splice (B 0) im.toNat (bytesL v n.toNat)), ?_, ?_⟩
  · rw [setB_same, hB, splice_past (by rw [sX_len]; omega), sX_len]
  · have e := step_at (hi := 64) (x := 7) (y := 7) (E := []) (st := sSts v a b c d (4 * k) own 0 lk B) k ⟨op, 0, 0, 5, im⟩ rfl rfl hB hz (sx_at hz) (by omega) (rt own (by decide +kernel))
    refine e.trans ?_
    rw [showC_is]
    have hs : storeM (T1 0 64 7 7) B im n own v = some (setB B 0 (splice (B 0) im.toNat (bytesL v n.toNat))) := store_one (by omega) hn him.2.2 him.2.1 (rt own (by decide +kernel))
    have e2 := exec_store (T := T1 0 64 7 7) (x := ⟨op, 0, 0, 5, im⟩) (st := { sSts v a b c d (4 * k) own 0 lk B with lk := lk ++ sLk own [(0, 4 * (k : Int), 0)] }) (B' := setB B 0 (splice (B 0) im.toNat (bytesL v n.toNat))) h1 h2 (by
      rw [hq, hl]; exact hs)
    refine e2.trans ?_
    rw [showC_is, hq]
    show St.mk ⟨sR v a b c d, (4 * (k : Int) + 4) % 18446744073709551616, own, 0⟩ [] ((lk ++ sLk own [(0, 4 * (k : Int), 0)]) ++ sLk own [(1, im, 0)]) _ = _
    rw [hp, List.append_assoc, sLk_add]; rfl
/-- a load, likewise -/
theorem s_load {v a b c d : Int} {own : Bool} {lk : List Lk} {B : Nat → List Int} {t x : List Int} (k : Nat) (op : Nat) (rd im n : Int) (h1 : 25 ≤ op) (h2 : op < 29) (hl : lenOf op = n) (hn : n = 1 ∨ n = 4 ∨ n = 8) (hz : sX[k]? = some ⟨op, rd, 0, 0, im⟩) (hk : k < 16) (him : 32 ≤ im ∧ im + n ≤ 64 ∧ im % n = 0) (hrd : rd ≠ 0) (hB : B 0 = wordsL sX ++ t) (hx : (t.drop (im.toNat - 32)).take n.toNat = x) :
    stepC sT [] (sSts v a b c d (4 * k) own 0 lk B) = ⟨⟨(sR v a b c d).set rd.toNat (loadV op (wordI x)), 4 * k + 4, own, 0⟩, [], lk ++ sLk own [(0, 4 * k, 0), (1, im, 0)], B⟩ := by
  have hp : (4 * (k : Int) + 4) % 18446744073709551616 = 4 * k + 4 := by omega
  have hq := sum_is (st := { sSts v a b c d (4 * k) own 0 lk B with lk := lk ++ sLk own [(0, 4 * (k : Int), 0)] }) (v := v) (a := a) (b := b) (c := c) (d := d) (im := im) (r2 := 0) (rd := rd) (op := op) rfl (by omega) (by omega)
  have e := step_at (hi := 64) (x := 7) (y := 7) (E := []) (st := sSts v a b c d (4 * k) own 0 lk B) k ⟨op, rd, 0, 0, im⟩ rfl rfl hB hz (sx_at hz) (by omega) (rt own (by decide +kernel))
  refine e.trans ?_
  rw [showC_is]
  have hs : loadM (T1 0 64 7 7) B im n own 1 = some (wordI x) := by
    rw [load_one (by omega) hn him.2.2 him.2.1 (rt own (by decide +kernel)), hB, drop_past sX_len (by omega), hx]
  have e2 := exec_load (T := T1 0 64 7 7) (x := ⟨op, rd, 0, 0, im⟩) (st := { sSts v a b c d (4 * k) own 0 lk B with lk := lk ++ sLk own [(0, 4 * (k : Int), 0)] }) (v := wordI x) h1 h2 (by
    rw [hq, hl]; exact hs)
  refine e2.trans ?_
  rw [showC_is, hq]
  unfold writeC setR
  rw [if_neg hrd]
  show St.mk ⟨(sR v a b c d).set rd.toNat (loadV op (wordI x)), (4 * (k : Int) + 4) % 18446744073709551616, own, 0⟩ [] ((lk ++ sLk own [(0, 4 * (k : Int), 0)]) ++ sLk own [(1, im, 0)]) _ = _
  rw [hp, List.append_assoc, sLk_add]; rfl
theorem run_on {T : List Rg} {E : List Int} {n k : Nat} {st st' fin : St} (hd : st.s.dn = 0) (h : stepC T E st = st') (hr : runC T E n st' = (k, fin)) : runC T E (n + 1) st = (k + 1, fin) := by
  rw [runC_succ _ _ _ _ hd, h, hr]
def sL : List Lk := [(0, 0, 0), (1, 40, 0), (0, 4, 0), (1, 48, 0), (0, 8, 0), (1, 56, 0), (0, 12, 0), (1, 40, 0), (0, 16, 0), (1, 48, 0), (0, 20, 0), (1, 56, 0), (0, 24, 0), (1, 56, 0), (0, 28, 0)]
def v6 (v : Int) : Int := loadV 28 (wordI (bytesL v 8))
def v7 (v : Int) : Int := loadV 27 (wordI (bytesL v 4))
def v8 (v : Int) : Int := loadV 25 (wordI (bytesL v 1))
def v9 (v : Int) : Int := loadV 26 (wordI (bytesL v 1))
theorem s_run (v : Int) (own : Bool) : ∃ B, runC sT [] 20 (sSt v own) = (8, sSts v (v6 v) (v7 v) (v8 v) (v9 v) 28 own 1 (sLk own sL) B) := by
  have e0 : sSt v own = sSts v 0 0 0 0 (4 * (0 : Nat)) own 0 (sLk own []) sB0 := by cases own <;> rfl
  obtain ⟨B1, b1, e1⟩ := s_store (v := v) (a := 0) (b := 0) (c := 0) (d := 0) (own := own) (lk := sLk own []) 0 31 40 8 (by omega) (by omega) rfl (by omega) rfl (by omega) (by omega) sB
  obtain ⟨B2, b2, e2⟩ := s_store (v := v) (a := 0) (b := 0) (c := 0) (d := 0) (own := own) (lk := sLk own [(0, 0, 0), (1, 40, 0)]) 1 30 48 4 (by omega) (by omega) rfl (by omega) rfl (by omega) (by omega) b1
  obtain ⟨B3, b3, e3⟩ := s_store (v := v) (a := 0) (b := 0) (c := 0) (d := 0) (own := own) (lk := sLk own [(0, 0, 0), (1, 40, 0), (0, 4, 0), (1, 48, 0)]) 2 29 56 1 (by omega) (by omega) rfl (by omega) rfl (by omega) (by omega) b2
  have b3 : B3 0 = wordsL sX ++ t3 v := b3
  have e4 := s_load (v := v) (a := 0) (b := 0) (c := 0) (d := 0) (own := own) (lk := sLk own [(0, 0, 0), (1, 40, 0), (0, 4, 0), (1, 48, 0), (0, 8, 0), (1, 56, 0)]) 3 28 6 40 8 (by omega) (by omega) rfl (by omega) rfl (by omega) (by omega) (by omega) b3 (t3_8 v)
  have e5 := s_load (v := v) (a := v6 v) (b := 0) (c := 0) (d := 0) (own := own) (lk := sLk own [(0, 0, 0), (1, 40, 0), (0, 4, 0), (1, 48, 0), (0, 8, 0), (1, 56, 0), (0, 12, 0), (1, 40, 0)]) 4 27 7 48 4 (by omega) (by omega) rfl (by omega) rfl (by omega) (by omega) (by omega) b3 (t3_16 v)
  have e6 := s_load (v := v) (a := v6 v) (b := v7 v) (c := 0) (d := 0) (own := own) (lk := sLk own [(0, 0, 0), (1, 40, 0), (0, 4, 0), (1, 48, 0), (0, 8, 0), (1, 56, 0), (0, 12, 0), (1, 40, 0), (0, 16, 0), (1, 48, 0)]) 5 25 8 56 1 (by omega) (by omega) rfl (by omega) rfl (by omega) (by omega) (by omega) b3 (t3_24 v)
  have e7 := s_load (v := v) (a := v6 v) (b := v7 v) (c := v8 v) (d := 0) (own := own) (lk := sLk own [(0, 0, 0), (1, 40, 0), (0, 4, 0), (1, 48, 0), (0, 8, 0), (1, 56, 0), (0, 12, 0), (1, 40, 0), (0, 16, 0), (1, 48, 0), (0, 20, 0), (1, 56, 0)]) 6 26 9 56 1 (by omega) (by omega) rfl (by omega) rfl (by omega) (by omega) (by omega) b3 (t3_24 v)
  have e8 : stepC sT [] (sSts v (v6 v) (v7 v) (v8 v) (v9 v) (4 * (7 : Nat)) own 0 (sLk own [(0, 0, 0), (1, 40, 0), (0, 4, 0), (1, 48, 0), (0, 8, 0), (1, 56, 0), (0, 12, 0), (1, 40, 0), (0, 16, 0), (1, 48, 0), (0, 20, 0), (1, 56, 0), (0, 24, 0), (1, 56, 0)]) B3) = sSts v (v6 v) (v7 v) (v8 v) (v9 v) 28 own 1 (sLk own sL) B3 := by
    refine (step_at (hi := 64) (x := 7) (y := 7) (E := []) (st := sSts v (v6 v) (v7 v) (v8 v) (v9 v) (4 * (7 : Nat)) own 0 (sLk own [(0, 0, 0), (1, 40, 0), (0, 4, 0), (1, 48, 0), (0, 8, 0), (1, 56, 0), (0, 12, 0), (1, 40, 0), (0, 16, 0), (1, 48, 0), (0, 20, 0), (1, 56, 0), (0, 24, 0), (1, 56, 0)]) B3) 7 ⟨42, 0, 0, 0, 0⟩ rfl rfl b3 rfl (mayX_of (by decide +kernel)) (by decide) (rt own (by decide +kernel))).trans ?_
    cases own <;> rfl
  rw [sLk_add] at e1 e2 e3 e4 e5 e6 e7
  have r8 := runC_stop sT [] 12 (sSts v (v6 v) (v7 v) (v8 v) (v9 v) 28 own 1 (sLk own sL) B3) (show (1 : Int) ≠ 0 by decide)
  have r7 := run_on (n := 12) (by rfl) e8 r8
  have r6 := run_on (n := 13) (by rfl) e7 r7
  have r5 := run_on (n := 14) (by rfl) e6 r6
  have r4 := run_on (n := 15) (by rfl) e5 r5
  have r3 := run_on (n := 16) (by rfl) e4 r4
  have r2 := run_on (n := 17) (by rfl) e3 r3
  have r1 := run_on (n := 18) (by rfl) e2 r2
  have r0 := run_on (n := 19) (by rfl) e1 r1
  exact ⟨B3, by rw [e0]; exact r0⟩
def kindS (o : Bool) (k : Nat) : Int := ((sLk o sL).getD k (0, 0, 0)).1
def cntS (o : Bool) (k : Nat) : Nat := (((sLk o sL).take k).filter (fun x => x.1 == 1)).length
theorem kind_or : ∀ o : Bool, ∀ k, k < 15 → k < (sLk o sL).length → (kindS o k = 1 ∧ cntS o (k + 1) = cntS o k + 1) ∨ (kindS o k = 0 ∧ cntS o (k + 1) = cntS o k) := by decide +kernel
theorem cnt_all : cntS true (sLk true sL).length = 7 ∧ cntS false (sLk false sL).length = 0 := by decide +kernel
theorem cntS_le (o : Bool) (k : Nat) (h : k ≤ 15) : cntS o k ≤ 15 := by
  unfold cntS
  refine Nat.le_trans (List.length_filter_le _ _) ?_
  simp; omega
theorem sl_len (o : Bool) : (sLk o sL).length ≤ 15 := by cases o <;> decide
theorem lks_at (l : List Lk) (k : Nat) (h : k < l.length) : (lksL l)[k * 3]? = some (.int .i64 (l.getD k (0, 0, 0)).1) := by
  induction l generalizing k with
  | nil => simp at h
  | cons x l ih =>
    rw [show lksL (x :: l) = lkC x ++ lksL l from rfl]
    cases k with
    | zero => rfl
    | succ k =>
      rw [List.getElem?_append_right (by simp [lkC]; omega), show (k + 1) * 3 - (lkC x).length = k * 3 by simp [lkC]; omega, ih k (by simpa using h)]
      rfl
theorem loadV_low {v : Int} {op : Nat} (h : bitsOf op = 64) (h0 : 0 ≤ v) (h1 : v < 18446744073709551616) : loadV op v = v := by
  unfold loadV sgn modU
  simp only [h, show (64 : Int).toNat = 64 from rfl, Nat.reducePow]
  split <;> omega
theorem v6_is {v : Int} (h : IsU v) : v6 v = v := by unfold v6; rw [word8 h]; exact loadV_low rfl h.1 h.2
theorem v9_is {v : Int} (h : IsU v) : v9 v = v % 256 := by unfold v9; rw [word1m h]; exact loadV_low rfl (by omega) (by omega)
theorem v7_is {v : Int} (h : IsU v) : v7 v = ((v + 2147483648) % 4294967296 - 2147483648) % 18446744073709551616 := by
  obtain ⟨h0, h1⟩ := h
  unfold v7; rw [word4m ⟨h0, h1⟩]
  unfold loadV sgn modU
  simp only [show bitsOf 27 = 32 from rfl, show (32 : Int).toNat = 32 from rfl, Nat.reducePow]
  split <;> omega
theorem v8_is {v : Int} (h : IsU v) : v8 v = ((v + 128) % 256 - 128) % 18446744073709551616 := by
  obtain ⟨h0, h1⟩ := h
  unfold v8; rw [word1m ⟨h0, h1⟩]
  unfold loadV sgn modU
  simp only [show bitsOf 25 = 8 from rfl, show (8 : Int).toNat = 8 from rfl, Nat.reducePow]
  split <;> omega
end Go.Proofs.YthnhopmbefgmgaaGreatDoor
