/- Layer 10: a statement behind its word, read. Condition: the tables read as they should. -/
import Derived.Test.YtbhdbglhejibbaaGreatDoorTsaJ
import Derived.StillTailTactics
import Derived.Deep.DeepCutAuto
namespace Go.Proofs.YtbhdbglhejibbaaGreatDoor
set_option maxRecDepth 100000
open Go.RowKit
set_option linter.unusedVariables false
def ReadSP (w : World) (p : Nat) (r : Option (StmtD × List TokD)) (e : Ending) (w' : World) : Prop := But p w w' ∧ match r with
  | none => e = tlackP
  | some z => ∃ cs : List Value, e = .returned (.agg cs.toArray) ∧ ElS w' (NewS w.heap.size w') z.1 cs ∧ PtAt w' p z.2
theorem stm_small (k : Nat) (hk : k < 5) : (((stmR k).2.2.2.1 = 0 ∨ (stmR k).2.2.2.1 = 1 ∨ (stmR k).2.2.2.1 = 2) ∧ ((stmR k).2.2.2.2 = 0 ∨ (stmR k).2.2.2.2 = 1 ∨ (stmR k).2.2.2.2 = 2)) := by
  match k, hk with
  | 0, _ => decide
  | 1, _ => decide
  | 2, _ => decide
  | 3, _ => decide
  | 4, _ => decide
theorem lstF2_no1 {t1 : TokD} {vs : List TokD} (h : (pS t1).2 = none) : lstF 2 (t1 :: vs) = none := by
  unfold lstF
  rw [if_neg (by decide), if_pos rfl]
  match vs with
  | [] => rfl
  | t2 :: rest => simp only [h]
theorem lstF2_no2 {t1 t2 : TokD} {rest : List TokD} {ys : List StmtD} (h : (pS t1).2 = some ys) (h2 : (pS t2).2 = none) : lstF 2 (t1 :: t2 :: rest) = none := by
  unfold lstF
  rw [if_neg (by decide), if_pos rfl]
  simp only [h, h2]
theorem lstF2_yes {t1 t2 : TokD} {rest : List TokD} {ys zs : List StmtD} (h : (pS t1).2 = some ys) (h2 : (pS t2).2 = some zs) : lstF 2 (t1 :: t2 :: rest) = some ((ys, zs), rest) := by
  unfold lstF
  rw [if_neg (by decide), if_pos rfl]
  simp only [h, h2]
set_option maxHeartbeats 8000000 in
theorem stread_of (R : RdC) (ts : List TokD) (ihS : ∀ t ∈ ts, RdSt R t) (ihB : ∀ t ∈ ts, RdBk R t) (k : Nat) (hk : k < 5) (p : Nat) (w : World) (hR : RdIs R w) (hp : R.top ≤ p) (h : PtAt w p ts) :
    Calls Tryz.prog 55 #[stV8 R.r k, .pointer (some ⟨p, 0, none⟩)] w (ReadSP w p (rdQ k ts)) := by
  have hmf : ∀ (fn : Fn) (first cap : Array Value) (w : World), (Instr.makeFunc fn first cap).run Tryz.prog w = .ok (.func fn first cap) w := fun _ _ _ _ => rfl
  unfold stV8
  obtain ⟨hna, hls⟩ := stm_small k hk
  generalize hN : (stmR k).2.1 = fN
  generalize hC : (stmR k).2.2.1 = fC
  generalize hA : (stmR k).2.2.2.1 = fA
  generalize hLs : (stmR k).2.2.2.2 = fL
  rw [hA] at hna
  rw [hLs] at hls
  have h3 := three_boxes w (.cells #[.pointer (some ⟨R.r, 0, none⟩), .int .i64 k, .string (stmW k), .bool fN, .bool fC, .int .i64 fA, .int .i64 fL] 114) (.cells #[.int .i64 0, .string ⟨#[]⟩, .int .i64 0, .slice none 0 0, .slice none 0 0, .slice none 0 0] 45) (.cells #[.int .i64 k, .string ⟨#[]⟩, .int .i64 0, .slice none 0 0, .slice none 0 0, .slice none 0 0] 45)
  have HS := Lib.hid (show StE w R.r k p ts ⟨#[]⟩ 0 [] _ from ⟨But.of_below h3.2.2.2.1, h.lt, by rw [hN, hC, hA, hLs]; exact h3.1, h3.2.1, ⟨none, 0, [], h3.2.2.1, RowG.nil⟩, h.below h3.2.2.2.1⟩)
  have HSz := Lib.hid h3.2.2.2.2
  have HR := Lib.hid (And.intro hR hp)
  have HL := Lib.hid (And.intro ihS ihB)
  have HF := Lib.hid h.few
  have HTok := Lib.hid (toksOk_iff.1 h.ok)
  have HLen := Lib.hid h.len
  have hlt := h.lt
  have HQ := Lib.hid (show rdQ k ts = match nmF fN ts with
    | none => none
    | some a => match cntF fC a.2 with
      | none => none
      | some b => match argF fA.toNat b.2 with
        | none => none
        | some c => match lstF fL c.2 with
          | none => none
          | some d => some (.mk k a.1 b.1 c.1 d.1.1 d.1.2, d.2) from by unfold rdQ; rw [hN, hC, hA, hLs]; rfl)
  have HD := Lib.hid (show ∀ w', StE w R.r k p ts ⟨#[]⟩ 0 [] w' → True from fun _ _ => trivial)
  clear h3 hR hp ihS ihB h HD
  go_enter Tryz.func55, Tryz.ntmps55
  go_upto_region 2 with fail
  generalize (((w.alloc (.cells #[.pointer (some ⟨R.r, 0, none⟩), .int .i64 k, .string (stmW k), .bool fN, .bool fC, .int .i64 fA, .int .i64 fL] 114)).alloc (.cells #[.int .i64 0, .string ⟨#[]⟩, .int .i64 0, .slice none 0 0, .slice none 0 0, .slice none 0 0] 45)).alloc (.cells #[.int .i64 k, .string ⟨#[]⟩, .int .i64 0, .slice none 0 0, .slice none 0 0, .slice none 0 0] 45)) = W at *
  have b1 : W.cell? ⟨w.heap.size, 3, none⟩ = some (.bool fN) := by rw [cell_of_row W _ 3 _ _ _ HS.out.box, hN]; rfl
  go_upto_if 11 with fail
  go_cut [] (fun wx => Hid (∃ a, nmF fN ts = some a ∧ StE w R.r k p a.2 a.1 0 [] wx))
  case first =>
    cases fN with
    | false =>
      have HM := Lib.hid (show ∃ a, nmF false ts = some a ∧ StE w R.r k p a.2 a.1 0 [] W from ⟨(⟨#[]⟩, ts), by unfold nmF; rw [if_neg (by simp)], HS.out⟩)
      go_wp2_with fail
      go_meet
      exact HM
    | true =>
      have HW := Lib.hid (pword_any p ts W HS.out.parts)
      go_wp2_with fail
      refine HW.out.mono ?_
      rintro e w2 ⟨hO, h2⟩
      cases hw : wdF ts with
      | none =>
        rw [hw] at h2
        have h2 : e = tlackP := h2
        subst h2
        have HE := Lib.hid (show rdQ k ts = none from by rw [HQ.out]; unfold nmF; rw [if_pos rfl, hw])
        exact ⟨rfl, HS.out.but.trans hO, by rw [HE.out]; rfl⟩
      | some sx =>
        obtain ⟨s, us⟩ := sx
        rw [hw] at h2
        obtain ⟨rfl, hP⟩ := h2
        have hst := HS.out.step hO hP
        have HM := Lib.hid (show ∃ a, nmF true ts = some a ∧ StE w R.r k p a.2 a.1 0 [] (w2.setCell ⟨w.heap.size + 1 + 1, 1, none⟩ (.string s)) from ⟨(s, us), by unfold nmF; rw [if_pos rfl, hw], hst.name⟩)
        obtain ⟨A0, c0, css0, hg2, _⟩ := hst.row
        have y1 := cell_of_row w2 _ 1 _ _ _ hg2
        simp only [List.getElem?_toArray, List.getElem?_cons_zero, List.getElem?_cons_succ] at y1
        have f1 := frozen_of_row w2 _ 1 _ _ hg2
        clear hO hP hst hg2 hw
        go_wp2_with fail
        go_meet
        exact HM
  case rest =>
  have HS := hcut
  clear hcut
  obtain ⟨a, ha, hsa⟩ := HS.out
  have HS1 := Lib.hid hsa
  have HA1 := Lib.hid ha
  have HP1 := Lib.hid (show ∀ t ∈ a.2, t ∈ ts from fun t ht => by
    unfold nmF at ha
    split at ha
    · rw [wdF_some (us := a.2) (s := a.1) ha]; simp [ht]
    · cases ha; exact ht)
  have b2 : wc.cell? ⟨w.heap.size, 4, none⟩ = some (.bool fC) := by rw [cell_of_row wc _ 4 _ _ _ hsa.box, hC]; rfl
  clear hsa ha HS
  go_upto_if 17 with fail
  go_cut [] (fun wx => Hid (∃ b, cntF fC a.2 = some b ∧ StE w R.r k p b.2 a.1 b.1 [] wx))
  case first =>
    cases fC with
    | false =>
      have HM := Lib.hid (show ∃ b, cntF false a.2 = some b ∧ StE w R.r k p b.2 a.1 b.1 [] wc from ⟨(0, a.2), by unfold cntF; rw [if_neg (by simp)], HS1.out⟩)
      go_wp2_with fail
      go_meet
      exact HM
    | true =>
      have HW := Lib.hid (pcount_any R p a.2 wc (HR.out.1.move (But.low HS1.out.but HR.out.2 HR.out.1.top)) HR.out.2 HS1.out.parts)
      go_wp2_with fail
      refine HW.out.mono ?_
      rintro e w2 ⟨hO, h2⟩
      cases hw : cnF a.2 with
      | none =>
        rw [hw] at h2
        have h2 : e = tlackP := h2
        subst h2
        have HE := Lib.hid (show rdQ k ts = none from by rw [HQ.out, HA1.out]; simp only; unfold cntF; rw [if_pos rfl, hw])
        exact ⟨rfl, HS1.out.but.trans hO, by rw [HE.out]; rfl⟩
      | some sx =>
        obtain ⟨n, us⟩ := sx
        rw [hw] at h2
        obtain ⟨rfl, hP⟩ := h2
        have hst := HS1.out.step hO hP
        have HM := Lib.hid (show ∃ b, cntF true a.2 = some b ∧ StE w R.r k p b.2 a.1 b.1 [] (w2.setCell ⟨w.heap.size + 1 + 1, 2, none⟩ (.int .i64 n)) from ⟨(n, us), by unfold cntF; rw [if_pos rfl, hw], hst.count⟩)
        obtain ⟨A0, c0, css0, hg2, _⟩ := hst.row
        have y1 := cell_of_row w2 _ 2 _ _ _ hg2
        simp only [List.getElem?_toArray, List.getElem?_cons_zero, List.getElem?_cons_succ] at y1
        have f1 := frozen_of_row w2 _ 2 _ _ hg2
        clear hO hP hst hg2 hw
        go_wp2_with fail
        go_meet
        exact HM
  case rest =>
  have HS := hcut
  clear hcut b2
  obtain ⟨b, hb, hsb⟩ := HS.out
  have HB1 := Lib.hid hb
  have HPb := Lib.hid (show ∀ t ∈ b.2, t ∈ ts from fun t ht => by
    refine HP1.out t ?_
    unfold cntF at hb
    split at hb
    · obtain ⟨s, h1, _⟩ := cnF_some (us := b.2) (n := b.1) hb
      rw [wdF_some h1]; simp [ht]
    · cases hb; exact ht)
  have b3 : wc.cell? ⟨w.heap.size, 5, none⟩ = some (.int .i64 fA) := by rw [cell_of_row wc _ 5 _ _ _ hsb.box, hA]; rfl
  have HSb := Lib.hid (show ∃ xs us, argF 0 b.2 = some (xs, us) ∧ StE w R.r k p us a.1 b.1 xs wc from ⟨[], b.2, rfl, hsb⟩)
  have hcn : ∀ (args : Array Value) (w : World), (callFunc 85 args).run Tryz.prog w = .ok (.enter 85 args) w := fun args w => by kernel_rfl
  have hce : ∀ (args : Array Value) (w : World), (callFunc 84 args).run Tryz.prog w = .ok (.enter 84 args) w := fun args w => by kernel_rfl
  obtain ⟨i0, hi, hz0, hz1, hz2⟩ := info_parts infoEx
  clear hsb hb HS
  go_wp2
  go_loopw [24] (fun i wr => ∃ m : Nat, (m : Int) ≤ fA ∧ i = .int .i64 m ∧ Hid (∃ xs us, argF m b.2 = some (xs, us) ∧ StE w R.r k p us a.1 b.1 xs wr)) (fun i _ => fA.toNat - (intOf i).toNat)
  case atStart => exact ⟨0, by omega, rfl, HSb⟩
  case round =>
    obtain ⟨m, hm, rfl, HX⟩ := hrel
    obtain ⟨xs, us, hxu, hst⟩ := HX.out
    by_cases hlt2 : (m : Int) < fA
    · have hm0 : (0 : Int) ≤ m := by omega
      have HXu := Lib.hid hxu
      have hstd := hst.below (Below.refl wr.heap.size wr).drew
      have HSt := Lib.hid hstd
      obtain ⟨A, c, css, hg2, hG⟩ := hstd.row
      have HG := Lib.hid (And.intro hg2 hG)
      have x3 : wr.drew.cell? ⟨w.heap.size + 1 + 1, 3, none⟩ = some (.slice A xs.length c) := by rw [cell_of_row _ _ 3 _ _ _ hg2]; rfl
      have x0 : wr.drew.cell? ⟨w.heap.size, 0, none⟩ = some (.pointer (some ⟨R.r, 0, none⟩)) := by rw [cell_of_row _ _ 0 _ _ _ hstd.box]; rfl
      have HN := Lib.hid (pnext_any p us wr.drew hstd.parts)
      have HStop := Lib.hid (show argF (m + 1) b.2 = none → rdQ k ts = none from fun h => by
        have := argF_stop (m + 1) (fA.toNat - (m + 1)) b.2 h
        rw [show m + 1 + (fA.toNat - (m + 1)) = fA.toNat by omega] at this
        rw [HQ.out, HA1.out]
        simp only
        rw [HB1.out]
        simp only
        rw [this])
      have HSn := Lib.hid (argF_snoc m b.2 us xs hxu)
      clear hxu hst hstd hg2 hG HX
      cases us with
      | nil =>
        have HE := Lib.hid (HStop.out HSn.out)
        go_wp2
        go_region_law (refine quit_goal (P := Tryz.prog) ?_ ?_; (refine step_call8 rfl 85 _ _ rfl #[.pointer (some ⟨p, 0, none⟩)] ?hv hcn HN.out ?_; (case hv => simp [go_sem]); intro e w2 h; exact .inr ⟨_, h.1, And.intro rfl (And.intro (h.2 ▸ HSt.out.but) (by rw [HE.out]; exact rfl))⟩))
        all_goals trivial
      | cons t vs =>
        have htm : t ∈ ts := HPb.out t (argF_mem HXu.out t (by simp))
        have HE := Lib.hid (fun (w2 : World) (v : Value) (h1 : But p wr.drew w2) (h2 : ItemV w2 t v) => rdExpr_any R t (HTok.out t htm) (HF.out t htm) w2 v (HR.out.1.move (But.low (HSt.out.but.trans h1) HR.out.2 HR.out.1.top)) h2)
        cases hpe : pE t with
        | none =>
          have HNo := Lib.hid (HStop.out (HSn.out.trans (by simp only; rw [hpe])))
          go_wp2
          go_region_law (first
            | (refine step_call6 rfl 85 _ _ rfl #[.pointer (some ⟨p, 0, none⟩)] ?hv hcn HN.out ?_; (case hv => simp [go_sem]); intro e w2 h; obtain ⟨v, rfl, hi2, hp2, ho2⟩ := h; have HE2 := Lib.hid (HE.out w2 v ho2 hi2.arg); have hst2 := HSt.out.step ho2 hp2; have HO2 := Lib.hid hst2.but; have HS2 := Lib.hid hst2; have hg2 := (ho2.block _ (Array.getElem?_eq_some_iff.1 HG.out.1).1 (by have := HSt.out.plt; omega)).trans HG.out.1; have HG2 := Lib.hid (And.intro hg2 (HG.out.2.but elE_ok ho2 (by have := HSt.out.plt; omega))); have x32 : w2.cell? ⟨w.heap.size + 1 + 1, 3, none⟩ = some (.slice A xs.length c) := (by rw [cell_of_row _ _ 3 _ _ _ hg2]; rfl); have x02 : w2.cell? ⟨w.heap.size, 0, none⟩ = some (.pointer (some ⟨R.r, 0, none⟩)) := (by rw [cell_of_row _ _ 0 _ _ _ hst2.box]; rfl); obtain ⟨a1, q1, c1, rfl, hic⟩ := hi2; refine ⟨_, rfl, ?_⟩; clear hp2 ho2 hst2 hg2 hic)
            | (refine quit_goal (P := Tryz.prog) ?_ ?_; (refine step_call8 rfl 84 _ _ rfl #[.pointer (some ⟨R.r, 0, none⟩), .slice (some ⟨a1, q1, none⟩) (flat t).length c1] ?hv hce HE2.out ?_; (case hv => simp [go_sem]); intro e w3 h; obtain ⟨hb3, h3⟩ := h; rw [hpe] at h3; exact .inr ⟨_, h3, And.intro rfl (And.intro (HO2.out.trans (But.of_below hb3)) (by rw [HNo.out]; exact rfl))⟩)))
          all_goals trivial
        | some x =>
          have HMo := Lib.hid (show argF (m + 1) b.2 = some (xs ++ [x], vs) from HSn.out.trans (by simp only; rw [hpe]))
          have HMl := Lib.hid (show xs.length + 1 ≤ maxLen from by have := argF_len HXu.out; unfold maxLen; omega)
          have HBy := Lib.hid (show (xs.length + 1) * 56 ≤ 140737488355328 from by have := argF_len HXu.out; omega)
          go_wp2
          go_region_law (first
            | (refine step_call6 rfl 85 _ _ rfl #[.pointer (some ⟨p, 0, none⟩)] ?hv hcn HN.out ?_; (case hv => simp [go_sem]); intro e w2 h; obtain ⟨v, rfl, hi2, hp2, ho2⟩ := h; have HE2 := Lib.hid (HE.out w2 v ho2 hi2.arg); have hst2 := HSt.out.step ho2 hp2; have HO2 := Lib.hid hst2.but; have HS2 := Lib.hid hst2; have hg2 := (ho2.block _ (Array.getElem?_eq_some_iff.1 HG.out.1).1 (by have := HSt.out.plt; omega)).trans HG.out.1; have HG2 := Lib.hid (And.intro hg2 (HG.out.2.but elE_ok ho2 (by have := HSt.out.plt; omega))); have x32 : w2.cell? ⟨w.heap.size + 1 + 1, 3, none⟩ = some (.slice A xs.length c) := (by rw [cell_of_row _ _ 3 _ _ _ hg2]; rfl); have x02 : w2.cell? ⟨w.heap.size, 0, none⟩ = some (.pointer (some ⟨R.r, 0, none⟩)) := (by rw [cell_of_row _ _ 0 _ _ _ hst2.box]; rfl); obtain ⟨a1, q1, c1, rfl, hic⟩ := hi2; refine ⟨_, rfl, ?_⟩; clear hp2 ho2 hst2 hg2 hic)
            | (refine step_call6 rfl 84 _ _ rfl #[.pointer (some ⟨R.r, 0, none⟩), .slice (some ⟨a1, q1, none⟩) (flat t).length c1] ?hv hce HE2.out ?_; (case hv => simp [go_sem]); intro e w3 h; obtain ⟨hb3, h3⟩ := h; rw [hpe] at h3; obtain ⟨cs, rfl, hel⟩ := h3; obtain ⟨vk, vn, vs4, A4, n4, c4, rfl⟩ := elE_shape hel; refine ⟨_, rfl, ?_⟩; have hbx := (Below.refl w3.heap.size w3).alloc (Nat.le_refl _) (.cells #[.int .i64 vk, .int .u64 vn, .string vs4, .slice A4 n4 c4] 42); have HS4 := Lib.hid ((HS2.out.below hb3).below hbx); have hg3 := (hb3.block _ (Array.getElem?_eq_some_iff.1 HG2.out.1).1).trans HG2.out.1; have hg4 := (hbx.block _ (Array.getElem?_eq_some_iff.1 hg3).1).trans hg3; have HG4 := Lib.hid (And.intro hg4 ((HG2.out.2.below elE_ok hb3).below elE_ok hbx)); have H1 := Lib.hid (elE_ok.one hel); have HNw := Lib.hid (news_of (w := w3) (cs := [.int .i64 vk, .int .u64 vn, .string vs4, .slice A4 n4 c4]) (T := 42)); have HEl := Lib.hid (elE_above (A := A) (n := xs.length) (c := c) hel hbx HG2.out.2 (by have := (Array.getElem?_eq_some_iff.1 HG2.out.1).1; omega)); have x33 : w3.cell? ⟨w.heap.size + 1 + 1, 3, none⟩ = some (.slice A xs.length c) := (by rw [cell_of_row _ _ 3 _ _ _ hg3]; rfl); have HZ := Lib.hid (show w.heap.size + 1 + 1 + 1 ≤ (w3.alloc (.cells #[.int .i64 vk, .int .u64 vn, .string vs4, .slice A4 n4 c4] 42)).heap.size from (by have := (Array.getElem?_eq_some_iff.1 hg4).1; omega)); have x34 : (w3.alloc (.cells #[.int .i64 vk, .int .u64 vn, .string vs4, .slice A4 n4 c4] 42)).cell? ⟨w.heap.size + 1 + 1, 3, none⟩ = some (.slice A xs.length c) := (by rw [cell_of_row _ _ 3 _ _ _ hg4]; rfl); clear hb3 hel hbx hg3 hg4)
            | (refine step_append_at6 rfl _ _ 40 rfl (w.heap.size + 1 + 1 + 1) 42 i0 (.agg #[.int .i64 0, .int .u64 0, .string ⟨#[]⟩, .slice none 0 0]) 4 56 Tryz.underlying40 hi hz0 hz1 hz2 rfl (by decide) (.slice A xs.length c) xs.length css.flatten ?hs HG4.out.2.row ⟨w3.heap.size, 0, none⟩ 1 1 [.int .i64 vk, .int .u64 vn, .string vs4, .slice A4 n4 c4] ?hx rfl HNw.out H1.out HMl.out HBy.out HZ.out ?_; (case hs => simp [go_sem]); (case hx => simp [go_sem]); intro v' w5 hr hg hv'; obtain ⟨A5, c5, rfl⟩ := ownO_slice hr; have HX5 := Lib.hid (show ∃ xs' us', argF (m + 1) b.2 = some (xs', us') ∧ StE w R.r k p us' a.1 b.1 xs' (w5.setCell ⟨w.heap.size + 1 + 1, 3, none⟩ (.slice A5 (xs.length + 1) c5)) from ⟨_, _, HMo.out, HS4.out.push HG4.out.1 HG4.out.2 HEl.out hr hg hv'⟩); have hg5 := (hg.block _ (Array.getElem?_eq_some_iff.1 HG4.out.1).1 (fun e => by have := (ownO_lt HG4.out.2.row e.symm).2.1; omega)).trans HG4.out.1; have x35 : w5.cell? ⟨w.heap.size + 1 + 1, 3, none⟩ = some (.slice A xs.length c) := (by rw [cell_of_row _ _ 3 _ _ _ hg5]; rfl); have f35 := frozen_of_row w5 _ 3 _ _ hg5; clear hr hg hv' hg5))
          all_goals
            go_wp2
            go_roundw
            case rel => exact ⟨m + 1, by omega, by go_num, HX5⟩
            case measure => simp [intOf]; omega
    · have hmA : m = fA.toNat := by omega
      have HXu := Lib.hid (show argF fA.toNat b.2 = some (xs, us) from by rw [← hmA]; exact hxu)
      have HFn := Lib.hid hst.fin
      have HMem := Lib.hid (show ∀ t ∈ us, t ∈ ts from fun t ht => HPb.out t (argF_mem hxu t ht))
      have HNm := Lib.hid (show a.1.size ≤ 100000 from by
        have h1 := HA1.out
        unfold nmF at h1
        split at h1
        · exact word_size (us := a.2) HF.out h1
        · cases h1; exact Nat.zero_le _)
      have HNn := Lib.hid (show fitsI b.1 from by
        have h1 := HB1.out
        unfold cntF at h1
        unfold fitsI
        split at h1
        · obtain ⟨_, _, h2, h3⟩ := cnF_some (us := b.2) (n := b.1) h1
          omega
        · cases h1; simp)
      have k1 : ¬ (m : Int) < fA := by omega
      have b4 : wr.cell? ⟨w.heap.size, 6, none⟩ = some (.int .i64 fL) := by rw [cell_of_row wr _ 6 _ _ _ hst.box, hLs]; rfl
      clear hxu hst HX hlt2
      rcases hls with rfl | rfl | rfl
      · have HFz := HFn
        obtain ⟨A1, c1, A2, c2, A3, c3, hg2, h1, h2, h3⟩ := HFz.out.row
        obtain ⟨F, hFe, r1, r2, r3, r4⟩ := HFz.out.done hk HNm.out HNn.out h1 h2 h3
        have HFd := Lib.hid (And.intro (hFe ▸ r1) (And.intro (hFe ▸ r2) (And.intro (hFe ▸ r3) (hFe ▸ r4))))
        have HQr := Lib.hid (show rdQ k ts = some (.mk k a.1 b.1 xs [] [], us) from by
          rw [HQ.out, HA1.out]
          simp only
          rw [HB1.out]
          simp only
          rw [HXu.out]
          simp only
          rw [show lstF 0 us = some (([], []), us) from rfl])
        have y0 := cell_of_row wr _ 0 _ _ _ hg2
        have y1 := cell_of_row wr _ 1 _ _ _ hg2
        have y2 := cell_of_row wr _ 2 _ _ _ hg2
        have y3 := cell_of_row wr _ 3 _ _ _ hg2
        have y4 := cell_of_row wr _ 4 _ _ _ hg2
        have y5 := cell_of_row wr _ 5 _ _ _ hg2
        have hres := HFz.out.res
        have z0 := cell_of_row wr _ 0 _ _ _ hres
        have z1 := cell_of_row wr _ 1 _ _ _ hres
        have z2 := cell_of_row wr _ 2 _ _ _ hres
        have z3 := cell_of_row wr _ 3 _ _ _ hres
        have z4 := cell_of_row wr _ 4 _ _ _ hres
        have z5 := cell_of_row wr _ 5 _ _ _ hres
        simp only [List.getElem?_toArray, List.getElem?_cons_zero, List.getElem?_cons_succ] at y0 y1 y2 y3 y4 y5 z0 z1 z2 z3 z4 z5
        have q0 := frozen_of_row wr _ 0 _ _ hres
        have q1 := frozen_of_row wr _ 1 _ _ hres
        have q2 := frozen_of_row wr _ 2 _ _ hres
        have q3 := frozen_of_row wr _ 3 _ _ hres
        have q4 := frozen_of_row wr _ 4 _ _ hres
        have q5 := frozen_of_row wr _ 5 _ _ hres
        clear hg2 h1 h2 h3 hFe r1 r2 r3 r4 hres
        go_wp2
        refine bodyPost_ret (v := .agg #[.int .i64 k, .string a.1, .int .i64 b.1, .slice A1 xs.length c1, .slice A2 [].length c2, .slice A3 [].length c3]) (res_cell6 (j := 4) (b := w.heap.size + 1) rfl rfl HFd.out.1) rfl ⟨HFd.out.2.1, ?_⟩
        rw [HQr.out]
        exact ⟨_, rfl, HFd.out.2.2.1, HFd.out.2.2.2⟩
      · have HLs := Lib.hid (listS_of R us (fun t ht => HL.out.1 t (HMem.out t ht)) p wr (HR.out.1.move (But.low HFn.out.but HR.out.2 HR.out.1.top)) HR.out.2 HFn.out.parts)
        have x0 : wr.cell? ⟨w.heap.size, 0, none⟩ = some (.pointer (some ⟨R.r, 0, none⟩)) := by rw [cell_of_row _ _ 0 _ _ _ HFn.out.box]; rfl
        have HW3 := Lib.hid (show w.heap.size + 1 + 1 + 1 ≤ wr.heap.size from by obtain ⟨_, _, _, _, _, _, hg, _⟩ := HFn.out.row; have := (Array.getElem?_eq_some_iff.1 hg).1; omega)
        go_wp2_with fail
        refine HLs.out.mono ?_
        rintro e w3 ⟨hO, h3⟩
        cases hr : allO (us.map pSt) with
        | none =>
          rw [hr] at h3
          have h3 : e = tlackP := h3
          subst h3
          have HE := Lib.hid (show rdQ k ts = none from by
            rw [HQ.out, HA1.out]
            simp only
            rw [HB1.out]
            simp only
            rw [HXu.out]
            simp only
            rw [show lstF 1 us = none from by unfold lstF; rw [if_pos rfl, hr]; rfl])
          exact ⟨rfl, HFn.out.but.trans hO, by rw [HE.out]; rfl⟩
        | some ys =>
          rw [hr] at h3
          obtain ⟨v, rfl, hls, hpt⟩ := h3
          have hf3 := HFn.out.step hO hpt
          obtain ⟨Ay, cy, rfl, hyy⟩ := hls
          have HLst := Lib.hid (show lstF 1 us = some ((ys, []), []) from by unfold lstF; rw [if_pos rfl, hr]; rfl)
          have HFz := Lib.hid (hf3.set1 (LsS.base (B' := w.heap.size + 1 + 1 + 1) ⟨Ay, cy, rfl, hyy⟩ HW3.out))
          obtain ⟨_, _, _, _, _, _, hgx, _⟩ := hf3.row
          have v4 := cell_of_row w3 _ 4 _ _ _ hgx
          simp only [List.getElem?_toArray, List.getElem?_cons_zero, List.getElem?_cons_succ] at v4
          have u4' := frozen_of_row w3 _ 4 _ _ hgx
          clear hO hpt hf3 hyy hgx hr
          go_upto_region 16 with fail
          obtain ⟨A1, c1, A2, c2, A3, c3, hg2, h1, h2, h3⟩ := HFz.out.row
          obtain ⟨F, hFe, r1, r2, r3, r4⟩ := HFz.out.done hk HNm.out HNn.out h1 h2 h3
          have HFd := Lib.hid (And.intro (hFe ▸ r1) (And.intro (hFe ▸ r2) (And.intro (hFe ▸ r3) (hFe ▸ r4))))
          have HQr := Lib.hid (show rdQ k ts = some (.mk k a.1 b.1 xs ys [], []) from by
            rw [HQ.out, HA1.out]
            simp only
            rw [HB1.out]
            simp only
            rw [HXu.out]
            simp only
            rw [HLst.out])
          have y0 := cell_of_row (w3.setCell ⟨w.heap.size + 1 + 1, 4, none⟩ (.slice Ay ys.length cy)) _ 0 _ _ _ hg2
          have y1 := cell_of_row (w3.setCell ⟨w.heap.size + 1 + 1, 4, none⟩ (.slice Ay ys.length cy)) _ 1 _ _ _ hg2
          have y2 := cell_of_row (w3.setCell ⟨w.heap.size + 1 + 1, 4, none⟩ (.slice Ay ys.length cy)) _ 2 _ _ _ hg2
          have y3 := cell_of_row (w3.setCell ⟨w.heap.size + 1 + 1, 4, none⟩ (.slice Ay ys.length cy)) _ 3 _ _ _ hg2
          have y4 := cell_of_row (w3.setCell ⟨w.heap.size + 1 + 1, 4, none⟩ (.slice Ay ys.length cy)) _ 4 _ _ _ hg2
          have y5 := cell_of_row (w3.setCell ⟨w.heap.size + 1 + 1, 4, none⟩ (.slice Ay ys.length cy)) _ 5 _ _ _ hg2
          have hres := HFz.out.res
          have z0 := cell_of_row (w3.setCell ⟨w.heap.size + 1 + 1, 4, none⟩ (.slice Ay ys.length cy)) _ 0 _ _ _ hres
          have z1 := cell_of_row (w3.setCell ⟨w.heap.size + 1 + 1, 4, none⟩ (.slice Ay ys.length cy)) _ 1 _ _ _ hres
          have z2 := cell_of_row (w3.setCell ⟨w.heap.size + 1 + 1, 4, none⟩ (.slice Ay ys.length cy)) _ 2 _ _ _ hres
          have z3 := cell_of_row (w3.setCell ⟨w.heap.size + 1 + 1, 4, none⟩ (.slice Ay ys.length cy)) _ 3 _ _ _ hres
          have z4 := cell_of_row (w3.setCell ⟨w.heap.size + 1 + 1, 4, none⟩ (.slice Ay ys.length cy)) _ 4 _ _ _ hres
          have z5 := cell_of_row (w3.setCell ⟨w.heap.size + 1 + 1, 4, none⟩ (.slice Ay ys.length cy)) _ 5 _ _ _ hres
          simp only [List.getElem?_toArray, List.getElem?_cons_zero, List.getElem?_cons_succ] at y0 y1 y2 y3 y4 y5 z0 z1 z2 z3 z4 z5
          have q0 := frozen_of_row (w3.setCell ⟨w.heap.size + 1 + 1, 4, none⟩ (.slice Ay ys.length cy)) _ 0 _ _ hres
          have q1 := frozen_of_row (w3.setCell ⟨w.heap.size + 1 + 1, 4, none⟩ (.slice Ay ys.length cy)) _ 1 _ _ hres
          have q2 := frozen_of_row (w3.setCell ⟨w.heap.size + 1 + 1, 4, none⟩ (.slice Ay ys.length cy)) _ 2 _ _ hres
          have q3 := frozen_of_row (w3.setCell ⟨w.heap.size + 1 + 1, 4, none⟩ (.slice Ay ys.length cy)) _ 3 _ _ hres
          have q4 := frozen_of_row (w3.setCell ⟨w.heap.size + 1 + 1, 4, none⟩ (.slice Ay ys.length cy)) _ 4 _ _ hres
          have q5 := frozen_of_row (w3.setCell ⟨w.heap.size + 1 + 1, 4, none⟩ (.slice Ay ys.length cy)) _ 5 _ _ hres
          clear hg2 h1 h2 h3 hFe r1 r2 r3 r4 hres
          go_wp2
          refine bodyPost_ret (v := .agg #[.int .i64 k, .string a.1, .int .i64 b.1, .slice A1 xs.length c1, .slice A2 ys.length c2, .slice A3 [].length c3]) (res_cell6 (j := 4) (b := w.heap.size + 1) rfl rfl HFd.out.1) rfl ⟨HFd.out.2.1, ?_⟩
          rw [HQr.out]
          exact ⟨_, rfl, HFd.out.2.2.1, HFd.out.2.2.2⟩
      · have hcb : ∀ (args : Array Value) (w : World), (callFunc 88 args).run Tryz.prog w = .ok (.enter 88 args) w := fun args w => by kernel_rfl
        have HQl := Lib.hid (show lstF 2 us = none → rdQ k ts = none from fun hl => by
          rw [HQ.out, HA1.out]
          simp only
          rw [HB1.out]
          simp only
          rw [HXu.out]
          simp only
          rw [hl])
        have hfd := HFn.out.below (Below.refl wr.heap.size wr).drew
        have HFd := Lib.hid hfd
        have x0 : wr.drew.cell? ⟨w.heap.size, 0, none⟩ = some (.pointer (some ⟨R.r, 0, none⟩)) := by rw [cell_of_row _ _ 0 _ _ _ hfd.box]; rfl
        have HN := Lib.hid (pnext_any p us wr.drew hfd.parts)
        clear hfd
        cases us with
        | nil =>
          have HE := Lib.hid (HQl.out rfl)
          go_wp2
          go_region_law (refine quit_goal (P := Tryz.prog) ?_ ?_; (refine step_call8 rfl 85 _ _ rfl #[.pointer (some ⟨p, 0, none⟩)] ?hv hcn HN.out ?_; (case hv => simp [go_sem]); intro e w2 h; exact .inr ⟨_, h.1, And.intro rfl (And.intro (h.2 ▸ HFd.out.but) (by rw [HE.out]; exact rfl))⟩))
          all_goals trivial
        | cons t1 vs1 =>
        have ht1 := HMem.out t1 (by simp)
        have HBk := Lib.hid (fun (w2 : World) (v : Value) (h1 : But p wr.drew w2) (h2 : ItemV w2 t1 v) => HL.out.2 t1 ht1 (HTok.out t1 ht1) (HF.out t1 ht1) w2 v (HR.out.1.move (But.low (HFd.out.but.trans h1) HR.out.2 HR.out.1.top)) h2)
        clear ht1
        cases hbk1 : (pS t1).2 with
        | none =>
          have HE := Lib.hid (HQl.out (lstF2_no1 hbk1))
          go_wp2
          go_region_law (first
            | (refine step_call6 rfl 85 _ _ rfl #[.pointer (some ⟨p, 0, none⟩)] ?hv hcn HN.out ?_; (case hv => simp [go_sem]); intro e w2 h; obtain ⟨v, rfl, hi2, hp2, ho2⟩ := h; have HE2 := Lib.hid (HBk.out w2 v ho2 hi2.arg); have hf2 := HFd.out.step ho2 hp2; have HF2 := Lib.hid hf2; have x02 : w2.cell? ⟨w.heap.size, 0, none⟩ = some (.pointer (some ⟨R.r, 0, none⟩)) := (by rw [cell_of_row _ _ 0 _ _ _ hf2.box]; rfl); obtain ⟨a1, q1, c1, rfl, hic⟩ := hi2; refine ⟨_, rfl, ?_⟩; clear hp2 ho2 hf2 hic)
            | (refine quit_goal (P := Tryz.prog) ?_ ?_; (refine step_call8 rfl 88 _ _ rfl #[.pointer (some ⟨R.r, 0, none⟩), .slice (some ⟨a1, q1, none⟩) (flat t1).length c1] ?hv hcb HE2.out ?_; (case hv => simp [go_sem]); intro e w3 h; obtain ⟨hb3, h3⟩ := h; rw [hbk1] at h3; exact .inr ⟨_, h3, And.intro rfl (And.intro (HF2.out.but.trans (But.of_below hb3)) (by rw [HE.out]; exact rfl))⟩)))
          all_goals trivial
        | some ys1 =>
        go_wp2
        go_region_law (first
          | (refine step_call6 rfl 85 _ _ rfl #[.pointer (some ⟨p, 0, none⟩)] ?hv hcn HN.out ?_; (case hv => simp [go_sem]); intro e w2 h; obtain ⟨v, rfl, hi2, hp2, ho2⟩ := h; have HE2 := Lib.hid (HBk.out w2 v ho2 hi2.arg); have hf2 := HFd.out.step ho2 hp2; have HF2 := Lib.hid hf2; have x02 : w2.cell? ⟨w.heap.size, 0, none⟩ = some (.pointer (some ⟨R.r, 0, none⟩)) := (by rw [cell_of_row _ _ 0 _ _ _ hf2.box]; rfl); obtain ⟨a1, q1, c1, rfl, hic⟩ := hi2; refine ⟨_, rfl, ?_⟩; clear hp2 ho2 hf2 hic)
          | (refine step_call6 rfl 88 _ _ rfl #[.pointer (some ⟨R.r, 0, none⟩), .slice (some ⟨a1, q1, none⟩) (flat t1).length c1] ?hv hcb HE2.out ?_; (case hv => simp [go_sem]); intro e w3 h; obtain ⟨hb3, h3⟩ := h; rw [hbk1] at h3; obtain ⟨v, rfl, hls⟩ := h3; have hf3 := HF2.out.below hb3; obtain ⟨Ay1, cy1, rfl, hyy⟩ := hls; refine ⟨_, rfl, ?_⟩; obtain ⟨B1, d1, B2, d2, B3, d3, hgx, _⟩ := hf3.row; have HR1 := Lib.hid (hf3.set1 (LsS.base (B' := w.heap.size + 1 + 1 + 1) ⟨Ay1, cy1, rfl, hyy⟩ (by obtain ⟨_, _, _, _, _, _, hg, _⟩ := HF2.out.row; have := (Array.getElem?_eq_some_iff.1 hg).1; omega))); have v43 := cell_of_row w3 _ 4 _ _ _ hgx; simp only [List.getElem?_toArray, List.getElem?_cons_zero, List.getElem?_cons_succ] at v43; have f43 := frozen_of_row w3 _ 4 _ _ hgx; clear hb3 hf3 hyy hgx))
        all_goals
          have hfd := HR1.out.below (Below.refl _ _).drew
          have HFe := Lib.hid hfd
          have x0e : (w3.setCell ⟨w.heap.size + 1 + 1, 4, none⟩ (.slice Ay1 ys1.length cy1)).drew.cell? ⟨w.heap.size, 0, none⟩ = some (.pointer (some ⟨R.r, 0, none⟩)) := by rw [cell_of_row _ _ 0 _ _ _ hfd.box]; rfl
          have HNe := Lib.hid (pnext_any p vs1 _ hfd.parts)
          clear hfd v43 f43 x02
          cases vs1 with
          | nil =>
            have HE := Lib.hid (HQl.out rfl)
            go_wp2
            go_region_law (refine quit_goal (P := Tryz.prog) ?_ ?_; (refine step_call8 rfl 85 _ _ rfl #[.pointer (some ⟨p, 0, none⟩)] ?hv hcn HNe.out ?_; (case hv => simp [go_sem]); intro e w2 h; exact .inr ⟨_, h.1, And.intro rfl (And.intro (h.2 ▸ HFe.out.but) (by rw [HE.out]; exact rfl))⟩))
            all_goals trivial
          | cons t2 vs2 =>
          have ht2 := HMem.out t2 (by simp)
          have HBk2 := Lib.hid (fun (w2 : World) (v : Value) (h1 : But p (w3.setCell ⟨w.heap.size + 1 + 1, 4, none⟩ (.slice Ay1 ys1.length cy1)).drew w2) (h2 : ItemV w2 t2 v) => HL.out.2 t2 ht2 (HTok.out t2 ht2) (HF.out t2 ht2) w2 v (HR.out.1.move (But.low (HFe.out.but.trans h1) HR.out.2 HR.out.1.top)) h2)
          clear ht2 HF2 HE2
          cases hbk2 : (pS t2).2 with
          | none =>
            have HE := Lib.hid (HQl.out (lstF2_no2 hbk1 hbk2))
            go_wp2
            go_region_law (first
              | (refine step_call6 rfl 85 _ _ rfl #[.pointer (some ⟨p, 0, none⟩)] ?hv hcn HNe.out ?_; (case hv => simp [go_sem]); intro e w2 h; obtain ⟨v, rfl, hi2, hp2, ho2⟩ := h; have HE2 := Lib.hid (HBk2.out w2 v ho2 hi2.arg); have hf2 := HFe.out.step ho2 hp2; have HF2 := Lib.hid hf2; have x02 : w2.cell? ⟨w.heap.size, 0, none⟩ = some (.pointer (some ⟨R.r, 0, none⟩)) := (by rw [cell_of_row _ _ 0 _ _ _ hf2.box]; rfl); obtain ⟨a1, q1, c1, rfl, hic⟩ := hi2; refine ⟨_, rfl, ?_⟩; clear hp2 ho2 hf2 hic)
              | (refine quit_goal (P := Tryz.prog) ?_ ?_; (refine step_call8 rfl 88 _ _ rfl #[.pointer (some ⟨R.r, 0, none⟩), .slice (some ⟨a1, q1, none⟩) (flat t2).length c1] ?hv hcb HE2.out ?_; (case hv => simp [go_sem]); intro e w3 h; obtain ⟨hb3, h3⟩ := h; rw [hbk2] at h3; exact .inr ⟨_, h3, And.intro rfl (And.intro (HF2.out.but.trans (But.of_below hb3)) (by rw [HE.out]; exact rfl))⟩)))
            all_goals trivial
          | some ys2 =>
          have HLst := Lib.hid (lstF2_yes (rest := vs2) hbk1 hbk2)
          go_wp2
          go_region_law (first
            | (refine step_call6 rfl 85 _ _ rfl #[.pointer (some ⟨p, 0, none⟩)] ?hv hcn HNe.out ?_; (case hv => simp [go_sem]); intro e w2 h; obtain ⟨v, rfl, hi2, hp2, ho2⟩ := h; have HE2 := Lib.hid (HBk2.out w2 v ho2 hi2.arg); have hf2 := HFe.out.step ho2 hp2; have HF2 := Lib.hid hf2; have x02 : w2.cell? ⟨w.heap.size, 0, none⟩ = some (.pointer (some ⟨R.r, 0, none⟩)) := (by rw [cell_of_row _ _ 0 _ _ _ hf2.box]; rfl); obtain ⟨a1, q1, c1, rfl, hic⟩ := hi2; refine ⟨_, rfl, ?_⟩; clear hp2 ho2 hf2 hic)
            | (refine step_call6 rfl 88 _ _ rfl #[.pointer (some ⟨R.r, 0, none⟩), .slice (some ⟨a1, q1, none⟩) (flat t2).length c1] ?hv hcb HE2.out ?_; (case hv => simp [go_sem]); intro e w3 h; obtain ⟨hb3, h3⟩ := h; rw [hbk2] at h3; obtain ⟨v, rfl, hls⟩ := h3; have hf3 := HF2.out.below hb3; obtain ⟨Ay2, cy2, rfl, hyy⟩ := hls; refine ⟨_, rfl, ?_⟩; obtain ⟨B1, d1, B2, d2, B3, d3, hgx, _⟩ := hf3.row; have HR2 := Lib.hid (hf3.set2 (LsS.base (B' := w.heap.size + 1 + 1 + 1) ⟨Ay2, cy2, rfl, hyy⟩ (by obtain ⟨_, _, _, _, _, _, hg, _⟩ := HF2.out.row; have := (Array.getElem?_eq_some_iff.1 hg).1; omega))); have v43 := cell_of_row w3 _ 5 _ _ _ hgx; simp only [List.getElem?_toArray, List.getElem?_cons_zero, List.getElem?_cons_succ] at v43; have f43 := frozen_of_row w3 _ 5 _ _ hgx; clear hb3 hf3 hyy hgx))
          all_goals
            have HFz := HR2
            clear v43 f43 x02
            obtain ⟨A1, c1, A2, c2, A3, c3, hg2, h1, h2, h3⟩ := HFz.out.row
            obtain ⟨F, hFe, r1, r2, r3, r4⟩ := HFz.out.done hk HNm.out HNn.out h1 h2 h3
            have HFd := Lib.hid (And.intro (hFe ▸ r1) (And.intro (hFe ▸ r2) (And.intro (hFe ▸ r3) (hFe ▸ r4))))
            have HQr := Lib.hid (show rdQ k ts = some (.mk k a.1 b.1 xs ys1 ys2, vs2) from by
              rw [HQ.out, HA1.out]
              simp only
              rw [HB1.out]
              simp only
              rw [HXu.out]
              simp only
              rw [HLst.out])
            have y0 := cell_of_row (w3.setCell ⟨w.heap.size + 1 + 1, 5, none⟩ (.slice Ay2 ys2.length cy2)) _ 0 _ _ _ hg2
            have y1 := cell_of_row (w3.setCell ⟨w.heap.size + 1 + 1, 5, none⟩ (.slice Ay2 ys2.length cy2)) _ 1 _ _ _ hg2
            have y2 := cell_of_row (w3.setCell ⟨w.heap.size + 1 + 1, 5, none⟩ (.slice Ay2 ys2.length cy2)) _ 2 _ _ _ hg2
            have y3 := cell_of_row (w3.setCell ⟨w.heap.size + 1 + 1, 5, none⟩ (.slice Ay2 ys2.length cy2)) _ 3 _ _ _ hg2
            have y4 := cell_of_row (w3.setCell ⟨w.heap.size + 1 + 1, 5, none⟩ (.slice Ay2 ys2.length cy2)) _ 4 _ _ _ hg2
            have y5 := cell_of_row (w3.setCell ⟨w.heap.size + 1 + 1, 5, none⟩ (.slice Ay2 ys2.length cy2)) _ 5 _ _ _ hg2
            have hres := HFz.out.res
            have z0 := cell_of_row (w3.setCell ⟨w.heap.size + 1 + 1, 5, none⟩ (.slice Ay2 ys2.length cy2)) _ 0 _ _ _ hres
            have z1 := cell_of_row (w3.setCell ⟨w.heap.size + 1 + 1, 5, none⟩ (.slice Ay2 ys2.length cy2)) _ 1 _ _ _ hres
            have z2 := cell_of_row (w3.setCell ⟨w.heap.size + 1 + 1, 5, none⟩ (.slice Ay2 ys2.length cy2)) _ 2 _ _ _ hres
            have z3 := cell_of_row (w3.setCell ⟨w.heap.size + 1 + 1, 5, none⟩ (.slice Ay2 ys2.length cy2)) _ 3 _ _ _ hres
            have z4 := cell_of_row (w3.setCell ⟨w.heap.size + 1 + 1, 5, none⟩ (.slice Ay2 ys2.length cy2)) _ 4 _ _ _ hres
            have z5 := cell_of_row (w3.setCell ⟨w.heap.size + 1 + 1, 5, none⟩ (.slice Ay2 ys2.length cy2)) _ 5 _ _ _ hres
            simp only [List.getElem?_toArray, List.getElem?_cons_zero, List.getElem?_cons_succ] at y0 y1 y2 y3 y4 y5 z0 z1 z2 z3 z4 z5
            have q0 := frozen_of_row (w3.setCell ⟨w.heap.size + 1 + 1, 5, none⟩ (.slice Ay2 ys2.length cy2)) _ 0 _ _ hres
            have q1 := frozen_of_row (w3.setCell ⟨w.heap.size + 1 + 1, 5, none⟩ (.slice Ay2 ys2.length cy2)) _ 1 _ _ hres
            have q2 := frozen_of_row (w3.setCell ⟨w.heap.size + 1 + 1, 5, none⟩ (.slice Ay2 ys2.length cy2)) _ 2 _ _ hres
            have q3 := frozen_of_row (w3.setCell ⟨w.heap.size + 1 + 1, 5, none⟩ (.slice Ay2 ys2.length cy2)) _ 3 _ _ hres
            have q4 := frozen_of_row (w3.setCell ⟨w.heap.size + 1 + 1, 5, none⟩ (.slice Ay2 ys2.length cy2)) _ 4 _ _ hres
            have q5 := frozen_of_row (w3.setCell ⟨w.heap.size + 1 + 1, 5, none⟩ (.slice Ay2 ys2.length cy2)) _ 5 _ _ hres
            clear hg2 h1 h2 h3 hFe r1 r2 r3 r4 hres
            go_wp2
            refine bodyPost_ret (v := .agg #[.int .i64 k, .string a.1, .int .i64 b.1, .slice A1 xs.length c1, .slice A2 ys1.length c2, .slice A3 ys2.length c3]) (res_cell6 (j := 4) (b := w.heap.size + 1) rfl rfl HFd.out.1) rfl ⟨HFd.out.2.1, ?_⟩
            rw [HQr.out]
            exact ⟨_, rfl, HFd.out.2.2.1, HFd.out.2.2.2⟩
end Go.Proofs.YtbhdbglhejibbaaGreatDoor
