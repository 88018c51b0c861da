/- Layer 9: what a source's words are (lists), and split. Condition: LxT. -/
import Derived.Test.YtbhdbglhejibbaaGreatDoorLexG
import Derived.Test.YtbhdbglhejibbaaGreatDoorLexH
import Derived.Lib.DecodeN
import Derived.Lib.OthersKept
import Derived.Laws.DeepStrings4
namespace Go.Proofs.YtbhdbglhejibbaaGreatDoor
set_option maxRecDepth 100000
open Go.RowKit
set_option linter.unusedVariables false
/-- a line's words, behind those that are there; cur: the row of characters that stands ahead -/
def lineP : List UInt8 → List UInt8 → List ByteArray → Option (List ByteArray)
  | [], cur, ws => some (putW ws cur)
  | c :: l, cur, ws =>
    if kindP c.toNat = 0 then none
    else if kindP c.toNat = 1 then lineP l (cur ++ [c]) ws
    else if kindP c.toNat = 4 then some (putW ws cur)
    else if kindP c.toNat = 3 then lineP l [] (putW ws cur ++ [⟨#[c]⟩])
    else lineP l [] (putW ws cur)
def linesP : List ByteArray → List ByteArray → Option (List ByteArray)
  | [], ws => some ws
  | x :: r, ws => match lineP x.data.toList [] ws with | none => none | some ws' => linesP r ws'
def linesOf (s : ByteArray) : List ByteArray := Lib.splitB ⟨#[10]⟩ 0 (Lib.countB s ⟨#[10]⟩) s
def wordsP (s : ByteArray) : Option (List ByteArray) := linesP (linesOf s) []
theorem kind_wrong {c : Int} (h : 127 ≤ c) : kindP c = 0 := by
  unfold kindP
  rw [if_neg (by omega), if_neg (by omega), if_neg (by omega), if_neg (by omega)]
theorem kind_bd (c : Int) : 0 ≤ kindP c ∧ kindP c ≤ 4 := by unfold kindP; repeat' split
                                                            all_goals omega
theorem decode_high (s : ByteArray) (k : Nat) (h : k < s.size) (h1 : 128 ≤ s[k].toNat) : (128 : Int) ≤ ((Utf8.decode s k).1 : Int) := by
  rw [Lib.decode_at]
  have e : s.get! k = s[k] := by simp [ByteArray.get!, getElem!_pos, h]; rfl
  rw [e]
  generalize (s.get! (k + 1)).toNat = b1
  generalize (s.get! (k + 2)).toNat = b2
  generalize (s.get! (k + 3)).toNat = b3
  generalize s[k].toNat = b0 at *
  unfold Lib.decodeN
  repeat' split
  all_goals (simp; try omega)
theorem lines_len (s : ByteArray) : (linesOf s).length = Lib.countB s ⟨#[10]⟩ + 1 ∧ Lib.countB s ⟨#[10]⟩ ≤ s.size := by
  have hle := Lib.countB_le ⟨#[10]⟩ (by decide) s.size s (Nat.le_refl _)
  have hlen := Lib.splitB_all ⟨#[10]⟩ (by decide) 0 _ s rfl
  exact ⟨hlen, hle⟩
theorem split_small (sep : ByteArray) (k : Nat) : ∀ s : ByteArray, ∀ x ∈ Lib.splitB sep 0 k s, x.size ≤ s.size := by
  induction k with
  | zero => intro s x hx; simp [Lib.splitB] at hx; subst hx; exact Nat.le_refl _
  | succ k ih =>
    intro s x hx
    unfold Lib.splitB at hx
    split at hx
    · simp at hx; subst hx; exact Nat.le_refl _
    · rcases List.mem_cons.1 hx with rfl | h
      · rw [ByteArray.size_extract]; omega
      · have := ih _ x h
        rw [ByteArray.size_extract] at this; omega
theorem lines_small (s : ByteArray) (i : Nat) : (wdK (linesOf s) i).size ≤ s.size := by
  by_cases h : i < (linesOf s).length
  · refine split_small ⟨#[10]⟩ (Lib.countB s ⟨#[10]⟩) s _ ?_
    show wdK (linesOf s) i ∈ linesOf s
    unfold wdK
    simp [List.getD, h]
  · unfold wdK
    simp [List.getD, List.getElem?_eq_none (Nat.le_of_not_lt h)]
def SpE (s : ByteArray) (w : World) (e : Ending) (w' : World) : Prop := ∃ c, e = .returned (.slice (some ⟨w.heap.size, 0, none⟩) (linesOf s).length c) ∧ (∀ k, k < (linesOf s).length → w'.cell? ⟨w.heap.size, k, none⟩ = some (.string (wdK (linesOf s) k))) ∧ Below w.heap.size w w' ∧ w'.heap.size = w.heap.size + 1
theorem split_call (s : ByteArray) (hs : s.size ≤ 20000) (w : World) (hT : LxT w) : Calls Tryz.prog 77 #[.string s, .string ⟨#[10]⟩] w (SpE s w) := by
  obtain ⟨_, _, _, m, hm⟩ := hT
  refine (Any.strings_Split { Tryz.laysSplit with } Tryz.laysSplit.i9 s ⟨#[10]⟩ m w (by omega) hm (by decide)).mono ?_
  rintro e w' ⟨rfl, rfl⟩
  refine ⟨Lib.countB s ⟨#[10]⟩ + 1, by rw [(lines_len s).1], fun k hk => ?_, (Below.refl _ w).alloc (Nat.le_refl _) _, by simp⟩
  rw [World.cell?_alloc_new]
  show ((linesOf s).map Value.string).toArray[k]? = _
  unfold wdK
  simp [hk]
def SplitE (s : ByteArray) (w : World) (e : Ending) (w' : World) : Prop := Below w.heap.size w w' ∧ ((wordsP s = none ∧ e = .returned (.tuple #[.slice none 0 0, .bool false])) ∨ ∃ ws v, wordsP s = some ws ∧ ws.length ≤ 1000000000 ∧ e = .returned (.tuple #[v, .bool true]) ∧ Own w.heap.size w' ws v)
theorem Own.below {B : Nat} {w w' : World} {ws : List ByteArray} {v : Value} (h : Own B w ws v) (hb : Below w.heap.size w w') : Own B w' ws v := by
  refine ⟨h.1, ?_⟩
  rcases h.2 with h | ⟨g, cap, cur, h0, h1, h2, h3⟩
  · exact .inl h
  · exact .inr ⟨g, cap, cur, h0, h1, (hb.block g (Array.getElem?_eq_some_iff.1 h2).1).trans h2, h3⟩
theorem Own.kept {B : Nat} {w w' : World} {ws : List ByteArray} {v : Value} (h : Own B w ws v) (hb : ∀ g, v.ownBlock = some g → w'.heap[g]? = w.heap[g]?) : Own B w' ws v := by
  refine ⟨h.1, ?_⟩
  rcases h.2 with h | ⟨g, cap, cur, h0, h1, h2, h3⟩
  · exact .inl h
  · exact .inr ⟨g, cap, cur, h0, h1, (hb g (by rw [h0]; rfl)).trans h2, h3⟩
theorem Own.lt {B : Nat} {w : World} {ws : List ByteArray} {v : Value} (h : Own B w ws v) : ∀ g, v.ownBlock = some g → B ≤ g ∧ g < w.heap.size := World.ownsRow.lt h
/-- how the walk over a line stands -/
def LnI (B it i : Nat) (line : ByteArray) (LT : Option (List ByteArray)) (w1 : World) (k b : Nat) (ws : List ByteArray) (v : Value) (wz : World) : Prop :=
  lineP (line.data.toList.drop k) ((line.data.toList.drop b).take (k - b)) ws = LT ∧ wz.heap[it]? = some (.stringIter line k) ∧ Own B wz ws v ∧ (∀ g, v.ownBlock = some g → g ≠ it) ∧ Below B w1 wz ∧ ws.length ≤ i * 40001 + 2 * k
theorem LnI.iter {B it i : Nat} {line : ByteArray} {LT : Option (List ByteArray)} {w1 : World} {k b : Nat} {ws : List ByteArray} {v : Value} {wz : World} (h : LnI B it i line LT w1 k b ws v wz) (hB : B ≤ it) (p : Nat) :
    (wz.iterAt it line p).heap[it]? = some (.stringIter line p) ∧ Own B (wz.iterAt it line p) ws v ∧ Below B w1 (wz.iterAt it line p) := by
  obtain ⟨h1, h2, h3, h4, h5, h6⟩ := h
  exact ⟨Lib.iterAt_heap _ _ _ _ _ h2, h3.kept fun g hg => Lib.iterAt_other _ _ _ _ _ (h4 g hg), Lib.below_iterAt h5 hB _ _⟩
theorem put_step {B it : Nat} {ws : List ByteArray} {v v' : Value} {w1 wz w4 : World} (ho : Own B wz ws v) (hne : ∀ g, v.ownBlock = some g → g ≠ it) (hit : it < wz.heap.size) (hb : Below B w1 wz) (hBz : B ≤ wz.heap.size)
    (hg : wz.grownBy w4 v.ownBlock) (hv : v'.ownBlock = v.ownBlock ∨ ∃ g, v'.ownBlock = some g ∧ wz.heap.size ≤ g) : (∀ g, v'.ownBlock = some g → g ≠ it) ∧ Below B w1 w4 ∧ w4.heap[it]? = wz.heap[it]? := by
  refine ⟨fun g h => ?_, hb.grown hg hBz (fun g h => (ho.lt g h).1), hg.block it hit (fun e => hne it e.symm rfl)⟩
  rcases hv with e | ⟨g', e, h'⟩
  · exact hne g (e ▸ h)
  · rw [h] at e; cases e; omega
theorem ext_list (s : ByteArray) (b k : Nat) : (s.extract b k).data.toList = (s.data.toList.drop b).take (k - b) := by
  rw [ByteArray.data_extract, Array.toList_extract]
theorem cur_snoc (s : ByteArray) (b k : Nat) (hb : b ≤ k) (hk : k < s.size) : (s.data.toList.drop b).take (k + 1 - b) = (s.data.toList.drop b).take (k - b) ++ [s[k]] := by
  have e : k + 1 - b = (k - b) + 1 := by omega
  have h : k - b < (s.data.toList.drop b).length := by rw [List.length_drop, ba_len]; omega
  rw [e, List.take_succ_eq_append_getElem h]
  congr 2
  rw [List.getElem_drop]
  have : b + (k - b) = k := by omega
  simp only [this]
  rfl
theorem next_any (w : World) (it : Nat) (line : ByteArray) (k : Nat) (h : w.heap[it]? = some (.stringIter line k)) (hk : k < line.size) :
    ∃ (r : Int) (wd : Nat), (∀ ty, (Instr.next (.pointer (some ⟨it, 0, none⟩)) true ty).run Tryz.prog w = .ok (.tuple #[.bool true, .int .i64 k, .int .i32 r]) (w.iterAt it line (k + wd))) ∧ kindP r = kindP line[k].toNat ∧ (kindP line[k].toNat = 0 ∨ wd = 1) := by
  by_cases ha : line[k].toNat < 128
  · exact ⟨line[k].toNat, 1, fun ty => Lib.run_next_ascii_at w it line k ty h hk ha, rfl, .inr rfl⟩
  · have e := kind_wrong (c := line[k].toNat) (by omega)
    exact ⟨(Utf8.decode line k).1, (Utf8.decode line k).2, fun ty => Lib.run_next_any_at w it line k ty h hk, by rw [e]; exact kind_wrong (by have := decode_high line k hk (by omega); omega), .inl e⟩
set_option maxHeartbeats 8000000 in
theorem split_any (s : ByteArray) (hs : s.size ≤ 20000) (w : World) (hT : LxT w) : Calls Tryz.prog 47 #[.string s] w (SplitE s w) := by
  have HSp := Lib.hid (split_call s hs w hT)
  have HLn := Lib.hid (lines_len s)
  have HLs := Lib.hid (fun i => Nat.le_trans (lines_small s i) hs)
  have HT := Lib.hid (show wordsP s = linesP (linesOf s) [] from rfl)
  have hn : (linesOf s).length ≤ 20001 := by have := lines_len s; omega
  obtain ⟨i0, hi0, hz0, hz1, hz2⟩ := info_parts info_strL
  clear hT
  generalize hL : linesOf s = L at *
  have HL := Lib.hid hL
  clear hL
  go_enter Tryz.func47, Tryz.ntmps47
  go_wp2
  go_step3
  go_wp2
  go_step3
  go_wp2_with fail
  refine HSp.out.mono ?_
  rintro e w1 ⟨cc, rfl, hc1, hb1, hz1⟩
  have HC1 := Lib.hid (show ∀ k, k < L.length → w1.cell? ⟨w.heap.size, k, none⟩ = some (.string (wdK L k)) from by rw [HL.out] at hc1; exact hc1)
  rw [HL.out]
  have HB1 := Lib.hid hb1
  have HZ1 := Lib.hid hz1
  have HB0 := Lib.hid (show Below (w.heap.size + 1) w1 w1 from Below.refl _ _)
  obtain ⟨B0, hB0⟩ : ∃ B0, B0 = w.heap.size := ⟨_, rfl⟩
  have HE := Lib.hid hB0
  rw [← hB0] at HC1 HB0 HZ1
  rw [← hB0]
  clear hc1 hb1 hz1 HSp hB0
  go_wp2
  go_loopg [4, 14] L.length (fun g v4 v14 wr => ∃ (i : Nat) (ws : List ByteArray), i + g = L.length ∧ v14 = .int .i64 i ∧ Hid (linesP (L.drop i) ws = wordsP s) ∧ Hid (Own (B0 + 1) wr ws v4) ∧ Hid (Below (B0 + 1) w1 wr) ∧ Hid (ws.length ≤ i * 40001))
  case atStart => exact ⟨0, [], by omega, rfl, Lib.hid HT.out.symm, Lib.hid (Own.nil _ _), HB0, Lib.hid (by simp)⟩
  case round =>
    obtain ⟨i, ws, hig, rfl, HP, HO, HB, HW⟩ := hrel
    obtain ⟨wo, hwo⟩ : ∃ wo, wo = wr := ⟨_, rfl⟩
    subst hwo
    obtain ⟨gq, hgq⟩ : ∃ gq, gq = gk := ⟨_, rfl⟩
    subst hgq
    have hi0' : (0 : Int) ≤ (i : Int) := by omega
    by_cases hlt : i < L.length
    · have hcell : wo.cell? ⟨B0, i, none⟩ = some (.string (wdK L i)) := by rw [← HC1.out i hlt]; exact HB.out.cell (p := ⟨B0, i, none⟩) (Nat.lt_succ_self _)
      have hls := HLs.out i
      have HDr := Lib.hid (show linesP (L.drop i) ws = match lineP (wdK L i).data.toList [] ws with | none => none | some ws' => linesP (L.drop (i + 1)) ws' from by rw [drop_wd hlt]; rfl)
      have HI1 := Lib.hid (show i + 1 + (gq - 1) = L.length ∧ gq - 1 < gq from by omega)
      generalize wdK L i = line at *
      obtain ⟨LT, hLT⟩ : ∃ LT, LT = lineP line.data.toList [] ws := ⟨_, rfl⟩
      have HLT := Lib.hid hLT
      rw [← hLT] at HDr
      clear hLT
      have HSz := Lib.hid (show B0 + 1 ≤ wo.heap.size from by have := HB.out.size; rw [HZ1.out] at this; exact this)
      have HIt := Lib.hid (show LnI (B0 + 1) wo.heap.size i line LT w1 0 0 ws u4 (wo.iter line 0) from ⟨by rw [HLT.out]; simp, World.iter_heap _ _ _, HO.out.below ((Below.refl _ wo).alloc (Nat.le_refl _) _), fun g hg => Nat.ne_of_lt (HO.out.lt g hg).2,
        HB.out.trans (((Below.refl _ wo).alloc (Nat.le_refl _) (.stringIter line 0)).mono HSz.out), by have := HW.out; omega⟩)
      go_wp2
      clear hcell
      generalize wo.heap.size = it at *
      go_loopg [4, 7] line.size (fun g v4 v7 wz => ∃ (k b : Nat) (ws' : List ByteArray), k + g = line.size ∧ b ≤ k ∧ v7 = .int .i64 b ∧ Hid (LnI (B0 + 1) it i line LT w1 k b ws' v4 wz))
      case atStart => exact ⟨0, 0, ws, by omega, by omega, rfl, HIt⟩
      case round =>
        obtain ⟨k, b, ws', hkg, hbk, rfl, HI⟩ := hrel
        have HZi := Lib.hid (Array.getElem?_eq_some_iff.1 HI.out.2.1).1
        by_cases hk : k < line.size
        · have HLine := Lib.hid (show LT = (if kindP line[k].toNat = 0 then none
              else if kindP line[k].toNat = 1 then lineP (line.data.toList.drop (k + 1)) ((line.data.toList.drop b).take (k + 1 - b)) ws'
              else if kindP line[k].toNat = 4 then some (putW ws' (line.extract b k).data.toList)
              else if kindP line[k].toNat = 3 then lineP (line.data.toList.drop (k + 1)) [] (putW ws' (line.extract b k).data.toList ++ [line.extract k (k + 1)])
              else lineP (line.data.toList.drop (k + 1)) [] (putW ws' (line.extract b k).data.toList)) from by
            have e1 : (⟨#[line[k]]⟩ : ByteArray) = line.extract k (k + 1) := by
              rw [← ba_mk (line.extract k (k + 1)), ext_list, ba_drop line k hk, show k + 1 - k = 1 by omega]; rfl
            rw [← HI.out.1, ba_drop line k hk, cur_snoc line b k hbk hk, ext_list, ← e1]; rfl)
          obtain ⟨r, wd, hnx, hr, hwd⟩ := next_any wr it line k HI.out.2.1 hk
          have HIi := Lib.hid (HI.out.iter HSz.out (k + wd))
          obtain ⟨W1, hW1⟩ : ∃ W1, W1 = wr.iterAt it line (k + wd) := ⟨_, rfl⟩
          rw [← hW1] at hnx HIi
          have HBW := Lib.hid (show B0 + 1 ≤ W1.heap.size ∧ it < W1.heap.size from by rw [hW1, Lib.iterAt_size]; exact ⟨Nat.le_trans HSz.out (Nat.le_of_lt HZi.out), HZi.out⟩)
          clear hW1
          have hq := kind_bd line[k].toNat
          have hbk' : (b : Int) ≤ (k : Int) := by omega
          have hks' : (k : Int) ≤ (line.size : Int) := by omega
          have hks2 : (k : Int) + 1 ≤ (line.size : Int) := by omega
          have HWd := Lib.hid hwd
          have HR := Lib.hid hr
          clear hwd hr
          generalize kindP line[k].toNat = q at *
          have HPt := Lib.hid (put_any (B0 + 1) ws' (line.extract b k) u4 W1 HIi.out.2.1 HBW.out.1 (by have := HI.out.2.2.2.2.2; omega))
          have HLw := Lib.hid (putW_len ws' (line.extract b k).data.toList)
          rcases (by omega : q = 0 ∨ q = 1 ∨ q = 2 ∨ q = 3 ∨ q = 4) with rfl | rfl | rfl | rfl | rfl
          · have HF := Lib.hid (show wordsP s = none from by rw [← HP.out, HDr.out, HLine.out]; rfl)
            have HRes := Lib.hid (show SplitE s w (.returned (.tuple #[.slice none 0 0, .bool false])) W1 from ⟨HB1.out.trans (HIi.out.2.2.mono (by rw [HE.out]; omega)), .inl ⟨HF.out, rfl⟩⟩)
            clear hq
            go_wp2_with (go_at_call 78; refine (kind_any _ _).mono ?_; rintro e w' ⟨rfl, rfl⟩; rw [HR.out])
            try rw [Exit.noGoto_ret]
            go_ret2
            exact HRes.out
          · have HIn := Lib.hid (show LnI (B0 + 1) it i line LT w1 (k + 1) b ws' u4 W1 from ⟨HLine.out.symm, by have h := HIi.out.1; rcases HWd.out with h' | h'; cases h'; rw [h'] at h; exact h, HIi.out.2.1, HI.out.2.2.2.1, HIi.out.2.2, by have := HI.out.2.2.2.2.2; omega⟩)
            have HG := Lib.hid (show k + 1 + (gk - 1) = line.size ∧ gk - 1 < gk from by omega)
            clear hq
            go_wp2_with (go_at_call 78; refine (kind_any _ _).mono ?_; rintro e w' ⟨rfl, rfl⟩; rw [HR.out])
            go_roundg (gk - 1)
            case measure => exact HG.out.2
            case rel => exact ⟨k + 1, b, ws', HG.out.1, by omega, rfl, HIn⟩
          · have HG := Lib.hid (show k + 1 + (gk - 1) = line.size ∧ gk - 1 < gk from by omega)
            clear hq
            go_wp2_with (go_at_call 78; refine (kind_any _ _).mono ?_; rintro e w' ⟨rfl, rfl⟩; rw [HR.out])
            refine HPt.out.mono ?_
            rintro e w4 ⟨v', rfl, ho, hg, hv⟩
            have HS := Lib.hid (put_step HIi.out.2.1 HI.out.2.2.2.1 HBW.out.2 HIi.out.2.2 HBW.out.1 hg hv)
            have HIn := Lib.hid (show LnI (B0 + 1) it i line LT w1 (k + 1) (k + 1) (putW ws' (line.extract b k).data.toList) v' w4 from ⟨by rw [HLine.out]; simp, by have h := HIi.out.1; rcases HWd.out with h' | h'; cases h'; rw [h'] at h; exact HS.out.2.2.trans h, ho, HS.out.1, HS.out.2.1, by have := HI.out.2.2.2.2.2; have := HLw.out.2; omega⟩)
            clear hg hv ho hnx
            go_wp2
            go_roundg (gk - 1)
            case measure => exact HG.out.2
            case rel => exact ⟨k + 1, k + 1, _, HG.out.1, by omega, by go_num, HIn⟩
          · have HG := Lib.hid (show k + 1 + (gk - 1) = line.size ∧ gk - 1 < gk from by omega)
            clear hq
            go_wp2_with (go_at_call 78; refine (kind_any _ _).mono ?_; rintro e w' ⟨rfl, rfl⟩; rw [HR.out])
            refine HPt.out.mono ?_
            rintro e w4 ⟨v', rfl, ho, hg, hv⟩
            have HS := Lib.hid (put_step HIi.out.2.1 HI.out.2.2.2.1 HBW.out.2 HIi.out.2.2 HBW.out.1 hg hv)
            have HIt4 := Lib.hid (show w4.heap[it]? = some (.stringIter line (k + 1)) from by have h := HIi.out.1; rcases HWd.out with h' | h'; cases h'; rw [h'] at h; exact HS.out.2.2.trans h)
            have HO4 := Lib.hid ho
            have HG4 := Lib.hid (show B0 + 1 ≤ w4.heap.size from Nat.le_trans HBW.out.1 hg.size)
            clear hg hv ho hnx
            have hsl2 : ∀ W, (Instr.slice 9 (.string line) (some (.int .i64 (k : Int))) (some (.int .i64 ((k : Int) + 1))) none).run Tryz.prog W = .ok (.string (line.extract k (k + 1))) W := fun W => by
              rw [run_slice_string_if W 9 line .i64 .i64 (k : Int) ((k : Int) + 1) Tryz.underlying9, if_pos ⟨by omega, by omega⟩, if_pos ⟨by omega, by omega⟩, show ((k : Int) + 1).toNat = k + 1 by omega, Int.toNat_natCast]
            obtain ⟨R, hR⟩ : ∃ R, R = putW ws' (line.extract b k).data.toList := ⟨_, rfl⟩
            have HLR := Lib.hid (show R.length ≤ i * 40001 + 2 * k + 1 from by rw [hR]; have := HI.out.2.2.2.2.2; have := HLw.out.2; omega)
            have HLi3 := Lib.hid (show LT = lineP (line.data.toList.drop (k + 1)) [] (R ++ [line.extract k (k + 1)]) from by rw [hR]; exact HLine.out)
            rw [← hR] at HO4
            clear hR HLine HPt HLw
            have HOa := Lib.hid (World.ownsRow.alloc HO4.out (.cells #[.string (line.extract k (k + 1))] 9))
            have HNc := Lib.hid (new_cellL w4 (.string (line.extract k (k + 1))) 9)
            have HM := Lib.hid (show R.length + 1 ≤ maxLen from by have := HLR.out; unfold maxLen; omega)
            have HY := Lib.hid (show (R.length + 1) * 16 ≤ 140737488355328 from by have := HLR.out; omega)
            have HBa := Lib.hid (show B0 + 1 ≤ (w4.alloc (.cells #[.string (line.extract k (k + 1))] 9)).heap.size from by have := HG4.out; simp; omega)
            have H1 := Lib.hid (one_s (line.extract k (k + 1)))
            go_wp2_with (at_builtin; (refine wpList_append_at9 rfl _ _ 38 rfl (B0 + 1) 9 i0 (.string ⟨#[]⟩) 1 16 Tryz.underlying38 hi0 hz0 hz1 hz2 rfl (by decide) v' R.length (R.map Value.string) ?hs HOa.out ⟨w4.heap.size, 0, none⟩ 1 1 [.string (line.extract k (k + 1))] ?hx rfl HNc.out H1.out HM.out HY.out HBa.out ?_; (case hs => rfl); (case hx => rfl); intro v7 w7 hr7 hg7 hv7))
            have hg8 := grown_alloc hg7 (fun g h => (HO4.out.lt g h).2)
            have HS7 := Lib.hid (put_step (v' := v7) HO4.out HS.out.1 (Array.getElem?_eq_some_iff.1 HIt4.out).1 HS.out.2.1 HG4.out hg8 (by rcases hv7 with h | h; exact .inl h; exact .inr ⟨_, h, by simp⟩))
            have HIn := Lib.hid (show LnI (B0 + 1) it i line LT w1 (k + 1) (k + 1) (R ++ [line.extract k (k + 1)]) v7 w7 from ⟨by rw [HLi3.out]; simp, HS7.out.2.2.trans HIt4.out, by unfold Own; rw [List.length_append, List.map_append]; exact hr7, HS7.out.1, HS7.out.2.1, by have := HLR.out; simp; omega⟩)
            clear hr7 hg7 hv7 hg8
            go_wp2
            go_roundg (gk - 1)
            case measure => exact HG.out.2
            case rel => exact ⟨k + 1, k + 1, _, HG.out.1, by omega, by go_num, HIn⟩
          · clear hq
            go_wp2_with (go_at_call 78; refine (kind_any _ _).mono ?_; rintro e w' ⟨rfl, rfl⟩; rw [HR.out])
            refine HPt.out.mono ?_
            rintro e w4 ⟨v', rfl, ho, hg, hv⟩
            have HS := Lib.hid (put_step HIi.out.2.1 HI.out.2.2.2.1 HBW.out.2 HIi.out.2.2 HBW.out.1 hg hv)
            have HO4 := Lib.hid ho
            clear hg hv ho hnx
            go_wp2
            go_roundg (gq - 1)
            case measure => exact HI1.out.2
            case rel => exact ⟨i + 1, _, HI1.out.1, by go_num, Lib.hid (by rw [← HP.out, HDr.out, HLine.out]; rfl), HO4, Lib.hid HS.out.2.1, Lib.hid (by have := HI.out.2.2.2.2.2; have := HLw.out.2; omega)⟩
        · have hkk : k = line.size := by omega
          have HF := Lib.hid (show LT = some (putW ws' (line.extract b line.size).data.toList) from by
            rw [← HI.out.1, ext_list, List.drop_eq_nil_of_le (by rw [ba_len]; omega), hkk]; rfl)
          have hnx : ∀ ty, (Instr.next (.pointer (some ⟨it, 0, none⟩)) true ty).run Tryz.prog wr = _ := fun ty => Lib.run_next_end_at wr it line k ty HI.out.2.1 hk
          have HPt := Lib.hid (put_any (B0 + 1) ws' (line.extract b line.size) u4 wr HI.out.2.2.1 (Nat.le_trans HSz.out (Nat.le_of_lt HZi.out)) (by have := HI.out.2.2.2.2.2; omega))
          have HLw := Lib.hid (show (putW ws' (line.extract b line.size).data.toList).length ≤ (i + 1) * 40001 from by have := HI.out.2.2.2.2.2; have := (putW_len ws' (line.extract b line.size).data.toList).2; omega)
          have hbs : (b : Int) ≤ (line.size : Int) := by omega
          clear hk hkk
          go_wp2_with fail
          refine HPt.out.mono ?_
          rintro e w4 ⟨v', rfl, ho, hg, hv⟩
          have HS := Lib.hid (put_step HI.out.2.2.1 HI.out.2.2.2.1 HZi.out HI.out.2.2.2.2.1 (Nat.le_trans HSz.out (Nat.le_of_lt HZi.out)) hg hv)
          have HO4 := Lib.hid ho
          clear hg hv ho hnx
          go_wp2
          go_roundg (gq - 1)
          case measure => exact HI1.out.2
          case rel => exact ⟨i + 1, _, HI1.out.1, by go_num, Lib.hid (by rw [← HP.out, HDr.out, HF.out]), HO4, Lib.hid HS.out.2.1, HLw⟩
    · have hgz : i = L.length := by omega
      have HF := Lib.hid (show wordsP s = some ws from by rw [← HP.out, List.drop_eq_nil_of_le (by omega)]; rfl)
      have HR := Lib.hid (show SplitE s w (.returned (.tuple #[u4, .bool true])) wo from ⟨HB1.out.trans (HB.out.mono (by rw [HE.out]; omega)), .inr ⟨ws, u4, HF.out, by have := HW.out; omega, rfl, (HO.out.base (by rw [HE.out]; omega))⟩⟩)
      clear hgz
      go_wp2
      try rw [Exit.noGoto_ret]
      go_ret2
      exact HR.out
end Go.Proofs.YtbhdbglhejibbaaGreatDoor
