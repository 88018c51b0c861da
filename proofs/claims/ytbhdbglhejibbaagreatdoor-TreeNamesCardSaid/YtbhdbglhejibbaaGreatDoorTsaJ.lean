/- Layer 10: what is read of trees of words: parameters and statements, plainly, and as they lie. No condition.
   Layer 10: list, of parameters and of statements. Condition: what reads each of them does what it says.
   Layer 10: secretParam, pointer. Condition: the library's variables are what they are.
   Layer 10: become, of parameters. Condition: the library's variables are what they are.
   Layer 10: a parameter, read. Condition: the tables read as they should.
   Layer 10: statements behind their word, plainly; where their reading stands. No condition.
   Layer 10: block; statements, read behind their word. Condition: the tables read as they should. -/
import Derived.Test.YtbhdbglhejibbaaGreatDoorTsaA
namespace Go.Proofs.YtbhdbglhejibbaaGreatDoor
set_option maxRecDepth 100000
open Go.RowKit
set_option linter.unusedVariables false
/-- a parameter's three cells -/
def ElP : ElT ParD := fun w S x cs => cs = [.string x.1, .int .i64 x.2.1, .int .i64 x.2.2] ∧ ParW x
theorem elP_ok : ElOk ElP 3 where
  move := fun {w w' S S' x cs} h _ _ => h
  len := fun {w S x cs} h => by rw [h.1]; rfl
  one := fun {w S x cs} h => by
    rw [h.1]
    intro u hu
    simp only [List.mem_cons, List.not_mem_nil, or_false] at hu
    rcases hu with rfl | rfl | rfl <;> rfl
def LsP (B : Nat) (w : World) (xs : List ParD) (v : Value) : Prop := ∃ A c, v = .slice A xs.length c ∧ xs.length ≤ c ∧ c ≤ maxLen ∧ ParsAt w (NewS B w) xs A ∧ ∀ x ∈ xs, ParW x
theorem RowG.lsP {w : World} {B : Nat} {v : Value} {xs : List ParD} {css : List (List Value)} (h : RowG ElP 58 3 w B v xs css) : LsP B w xs v := by
  obtain ⟨A, c, h1, h2, h3, h4⟩ := h.fin elP_ok (by omega)
  have hw : ∀ x ∈ xs, ParW x := fun e he => by
    obtain ⟨j, hj, rfl⟩ := List.mem_iff_getElem.1 he
    obtain ⟨cs, _, q2⟩ := h.els j hj
    exact q2.2
  refine ⟨A, c, h1, h2, h3, ?_, hw⟩
  rcases h4 with rfl | ⟨g, rfl, hg, h5⟩
  · exact .inl rfl
  · refine .inr ⟨g, 0, rfl, hg, fun i hi => ?_⟩
    obtain ⟨cs, q1, q2⟩ := h5 i hi
    obtain ⟨rfl, _⟩ := q1
    exact ⟨q2 0 (by omega), q2 1 (by omega), q2 2 (by omega)⟩
/-- a statement's six cells -/
def ElS : ElT StmtD := fun w S e cs => match e with
  | .mk k s n args one two => ∃ A1 c1 A2 c2 A3 c3, cs = [.int .i64 k, .string s, .int .i64 n, .slice A1 args.length c1, .slice A2 one.length c2, .slice A3 two.length c3] ∧ (args.length ≤ c1 ∧ one.length ≤ c2 ∧ two.length ≤ c3) ∧ ExprsAt w S args A1 ∧ StmtsAt w S one A2 ∧ StmtsAt w S two A3 ∧ StmtW (.mk k s n args one two)
theorem elS_ok : ElOk ElS 6 where
  move := fun {w w' S S' x cs} h hl hk => by
    obtain ⟨k, s, n, args, one, two⟩ := x
    obtain ⟨A1, c1, A2, c2, A3, c3, h1, h2, h3, h4, h5, h6⟩ := h
    exact ⟨A1, c1, A2, c2, A3, c3, h1, h2, h3.move hl hk, h4.move hl hk, h5.move hl hk, h6⟩
  len := fun {w S x cs} h => by
    obtain ⟨k, s, n, args, one, two⟩ := x
    obtain ⟨A1, c1, A2, c2, A3, c3, rfl, _⟩ := h
    rfl
  one := fun {w S x cs} h => by
    obtain ⟨k, s, n, args, one, two⟩ := x
    obtain ⟨A1, c1, A2, c2, A3, c3, rfl, _⟩ := h
    intro u hu
    simp only [List.mem_cons, List.not_mem_nil, or_false] at hu
    rcases hu with rfl | rfl | rfl | rfl | rfl | rfl <;> rfl
def LsS (B : Nat) (w : World) (xs : List StmtD) (v : Value) : Prop := ∃ A c, v = .slice A xs.length c ∧ xs.length ≤ c ∧ c ≤ maxLen ∧ StmtsAt w (NewS B w) xs A ∧ StmtsW xs
theorem RowG.lsS {w : World} {B : Nat} {v : Value} {xs : List StmtD} {css : List (List Value)} (h : RowG ElS 45 6 w B v xs css) : LsS B w xs v := by
  obtain ⟨A, c, h1, h2, h3, h4⟩ := h.fin elS_ok (by omega)
  have hw : StmtsW xs := stmtsW_iff.2 fun e he => by
    obtain ⟨j, hj, rfl⟩ := List.mem_iff_getElem.1 he
    obtain ⟨cs, _, q2⟩ := h.els j hj
    generalize xs[j] = e at q2
    obtain ⟨k, s, n, args, one, two⟩ := e
    obtain ⟨A1, c1, A2, c2, A3, c3, _, _, _, _, _, q⟩ := q2
    exact q
  refine ⟨A, c, h1, h2, h3, ?_, hw⟩
  rcases h4 with rfl | ⟨g, rfl, hg, h5⟩
  · exact .inl rfl
  · refine .inr ⟨g, 0, rfl, hg, stmtsIn_of xs g 0 fun i hi => ?_⟩
    obtain ⟨cs, q1, q2⟩ := h5 i hi
    generalize xs[i] = e at q1
    obtain ⟨k, s, n, args, one, two⟩ := e
    obtain ⟨A1, c1, A2, c2, A3, c3, rfl, q3, q4, q5, q6, _⟩ := q1
    unfold StmtAt
    exact ⟨q2 0 (by omega), q2 1 (by omega), q2 2 (by omega), ⟨A1, c1, q2 3 (by omega), q3.1, q4⟩, ⟨A2, c2, q2 4 (by omega), q3.2.1, q5⟩, A3, c3, q2 5 (by omega), q3.2.2, q6⟩
/-! ### parameters, plainly -/
def chkP (x : ParD) : Option ParD := if mparB x = true then some x else none
def kinP (s : ByteArray) : Option Bool := if s = wSec then some false else if s = wPtr then some true else none
def rdP (ptr : Bool) (ts : List TokD) : Option (ParD × List TokD) := match wdF ts with
  | none => none
  | some x => if ptr = true then (match cnF x.2 with
    | some y => some ((x.1, 2, y.1), y.2)
    | none => none) else some ((x.1, 1, 0), x.2)
def becP : TokD → Option ParD
  | .w _ => none
  | .l ts => match wdF ts with
    | some x => match kinP x.1 with
      | some y => match rdP y x.2 with
        | some z => if z.2 = [] then some z.1 else none
        | none => none
      | none => none
    | none => none
def pP : TokD → Option ParD
  | .w s => chkP (s, 0, 0)
  | .l ts => (becP (.l ts)).bind chkP
/-! ### statements, plainly -/
def chkS : StmtD → Option StmtD
  | .mk k s n args one two => if stB k s n args.length one.length two.length = true then some (.mk k s n args one two) else none
def kinS (s : ByteArray) : Option Nat := (List.range 5).find? fun (k : Nat) => decide (stmW (k : Int) = s)
/-- what is read so far of a statement: its name, its count, its arguments; the parts that are left, and what they are as statements, and as blocks -/
abbrev StR := Option StmtD × Option (List StmtD)
def rdName (named : Bool) (ts : List TokD) (rs : List StR) : Option (ByteArray × List TokD × List StR) :=
  if named = true then (match wdF ts with
    | some x => some (x.1, x.2, rs.drop 1)
    | none => none) else some (⟨#[]⟩, ts, rs)
def rdCount (counted : Bool) (ts : List TokD) (rs : List StR) : Option (Int × List TokD × List StR) :=
  if counted = true then (match cnF ts with
    | some x => some (x.1, x.2, rs.drop 1)
    | none => none) else some (0, ts, rs)
/-- so many arguments -/
def rdArgs : Nat → List TokD → List StR → Option (List ExprD × List TokD × List StR)
  | 0, ts, rs => some ([], ts, rs)
  | m + 1, ts, rs => match ts with
    | [] => none
    | t :: us => match pE t with
      | none => none
      | some x => (rdArgs m us (rs.drop 1)).map fun y => (x :: y.1, y.2)
/-- its lists -/
def rdLists (l : Int) (rs : List StR) : Option (List StmtD × List StmtD × List StR) :=
  if l = 1 then (allO (rs.map (·.1))).map fun x => (x, [], [])
  else if l = 2 then (match rs with
    | r1 :: r2 :: rest => match r1.2, r2.2 with
      | some a, some b => some (a, b, rest)
      | _, _ => none
    | _ => none)
  else some ([], [], rs)
def rdS (k : Nat) (ts : List TokD) (rs : List StR) : Option StmtD :=
  match rdName (stmR k).2.1 ts rs with
  | none => none
  | some a => match rdCount (stmR k).2.2.1 a.2.1 a.2.2 with
    | none => none
    | some b => match rdArgs (stmR k).2.2.2.1.toNat b.2.1 b.2.2 with
      | none => none
      | some c => match rdLists (stmR k).2.2.2.2 c.2.2 with
        | none => none
        | some d => if d.2.2 = [] then some (.mk k a.1 b.1 c.1 d.1 d.2.1) else none
mutual
def pS : TokD → StR
  | .w _ => (none, none)
  | .l ts => (match ts, psS ts with
      | .w h :: us, _ :: rs => (match kinS h with
        | some k => (rdS k us rs).bind chkS
        | none => none)
      | _, _ => none, allO ((psS ts).map (·.1)))
def psS : List TokD → List StR
  | [] => []
  | t :: ts => pS t :: psS ts
end
theorem psS_map : ∀ (l : List TokD), psS l = l.map pS
  | [] => rfl
  | t :: ts => by unfold psS; rw [psS_map ts]; rfl
def becS : TokD → Option StmtD
  | .w _ => none
  | .l ts => match wdF ts with
    | some x => match kinS x.1 with
      | some k => rdS k x.2 (x.2.map pS)
      | none => none
    | none => none
theorem becS_l (ts : List TokD) : becS (.l ts) = match wdF ts with
    | some x => match kinS x.1 with
      | some k => rdS k x.2 (x.2.map pS)
      | none => none
    | none => none := rfl
theorem pS_l (ts : List TokD) : (pS (.l ts)).1 = (becS (.l ts)).bind chkS := by
  match ts with
  | [] => simp only [pS]; rfl
  | .l us :: ts => simp only [pS]; rfl
  | .w h :: ts =>
    simp only [pS, psS_map, List.map_cons]
    rw [becS_l]
    simp only [wdF]
    cases kinS h <;> rfl
theorem pS_w (s : ByteArray) : pS (.w s) = (none, none) := by simp only [pS]
theorem pS_b (ts : List TokD) : (pS (.l ts)).2 = allO (ts.map fun t => (pS t).1) := by
  simp only [pS, psS_map, List.map_map]
  rfl
end Go.Proofs.YtbhdbglhejibbaaGreatDoor
namespace Go.Proofs.YtbhdbglhejibbaaGreatDoor
set_option maxRecDepth 100000
open Go.RowKit
set_option linter.unusedVariables false
theorem infoPa : (Tryz.prog.info? 58).map (fun i => (i.zero, i.size, i.bytes)) = some (some (.agg #[.string ⟨#[]⟩, .int .i64 0, .int .i64 0]), 3, 32) := by kernel_rfl
def pSt (t : TokD) : Option StmtD := (pS t).1
/-- what a parameter's reading comes to -/
def ParamP (B : Nat) (w' : World) (r : Option ParD) (e : Ending) : Prop := match r with
  | none => e = tlackP
  | some x => ∃ cs : List Value, e = .returned (.agg cs.toArray) ∧ ElP w' (NewS B w') x cs
def RdPa (R : RdC) (t : TokD) : Prop := TokOk t → TokB t → ∀ (w : World) (v : Value), RdIs R w → ItemV w t v →
  Calls Tryz.prog 107 #[.pointer (some ⟨R.r, 0, none⟩), v] w fun e w' => Below w.heap.size w w' ∧ ParamP w.heap.size w' (pP t) e
def ListPP (w : World) (p : Nat) (r : Option (List ParD)) (e : Ending) (w' : World) : Prop := But p w w' ∧ match r with
  | none => e = tlackP
  | some xs => ∃ v, e = .returned v ∧ LsP w.heap.size w' xs v ∧ PtAt w' p []
set_option maxHeartbeats 4000000 in
theorem listP_of (R : RdC) (ts : List TokD) (hl : ∀ t ∈ ts, RdPa R t) (p : Nat) (w : World) (hR : RdIs R w) (hp : R.top ≤ p) (h : PtAt w p ts) :
    Calls Tryz.prog 106 #[.pointer (some ⟨p, 0, none⟩), .func (.func 107) #[.pointer (some ⟨R.r, 0, none⟩)] #[]] w (ListPP w p (allO (ts.map pP))) := by
  have hcf : ∀ (args : Array Value) (w : World), (callFunc 107 args).run Tryz.prog w = .ok (.enter 107 args) w := fun args w => by kernel_rfl
  have HL := Lib.hid hl
  have HO := Lib.hid (show But p w w from OutO.of_below (Below.refl _ _))
  have HP := Lib.hid (show PtAt w p (ts.drop 0) from h)
  have HR := Lib.hid (And.intro hR hp)
  have hlt := h.lt
  have hts := h.len
  have HF := Lib.hid h
  obtain ⟨i0, hi, hz0, hz1, hz2⟩ := info_parts infoPa
  clear hl h hR hp
  go_enter Tryz.func106, Tryz.ntmps106
  go_wp2
  go_loopw [5] (fun v5 wr => ∃ (k c : Nat) (A : Option Addr), k ≤ ts.length ∧ v5 = .slice A k c ∧ Hid (∃ (xs : List ParD) (css : List (List Value)), (ts.take k).map pP = xs.map some ∧ RowG ElP 58 3 wr w.heap.size (.slice A k c) xs css) ∧ Hid (PtAt wr p (ts.drop k)) ∧ Hid (But p w wr)) (fun v5 _ => ts.length - sliceN v5)
  case atStart => exact ⟨0, 0, none, by omega, rfl, Lib.hid ⟨[], [], rfl, RowG.nil⟩, HP, HO⟩
  case round =>
    obtain ⟨k, c, A, hk, rfl, HX, HP, HO⟩ := hrel
    obtain ⟨xs, css, hx1, hx2⟩ := HX.out
    have hxl : xs.length = k := by
      have := congrArg List.length hx1
      simp at this
      omega
    obtain ⟨Ap, cp, hblk, _⟩ := HP.out.blk
    have x0 : wr.cell? ⟨p, 0, none⟩ = some (.slice Ap (ts.drop k).length cp) := by rw [cell_of_row wr p 0 _ _ _ hblk]; rfl
    by_cases hlt2 : k < ts.length
    · have hd : ts.drop k = ts[k] :: ts.drop (k + 1) := List.drop_eq_getElem_cons hlt2
      have hdl : (ts.drop k).length = ts.length - k := List.length_drop
      have h1 : (0 : Int) < ((ts.length - k : Nat) : Int) := by omega
      rw [hdl] at x0
      have HN := Lib.hid (pnext_any p (ts.drop k) wr HP.out)
      rw [hd] at HN
      have hE := HL.out ts[k] (List.getElem_mem hlt2)
      have hok := (toksOk_iff.1 HF.out.ok) _ (List.getElem_mem hlt2)
      have hfew := HF.out.few _ (List.getElem_mem hlt2)
      have HS := Lib.hid (show ∀ x, pP ts[k] = some x → (ts.take (k + 1)).map pP = (xs ++ [x]).map some from fun x hx => by
        rw [List.take_succ_eq_append_getElem hlt2, List.map_append, List.map_append, hx1]; simp [hx])
      have HNo := Lib.hid (show pP ts[k] = none → allO (ts.map pP) = none from fun hn => allO_stop hlt2 hn)
      generalize ts[k] = t at *
      have HG := Lib.hid hx2
      have HE := Lib.hid (fun (w2 : World) (v : Value) (h1 : But p wr w2) (h2 : ItemV w2 t v) => hE hok hfew w2 v (HR.out.1.move (But.low (HO.out.trans h1) HR.out.2 HR.out.1.top)) h2)
      clear hx1 hx2 hblk hE hok hfew hd hdl HX HP
      go_wp2_with fail
      refine HN.out.mono ?_
      rintro e w2 ⟨v, rfl, hi2, hp2, ho2⟩
      have HI2 := Lib.hid (HE.out w2 v ho2 hi2.arg)
      have HP2 := Lib.hid hp2
      have HO2 := Lib.hid (HO.out.trans ho2)
      have HG2 := Lib.hid (HG.out.but elP_ok ho2 hlt)
      obtain ⟨a, q, cq, rfl, _⟩ := hi2
      clear hp2 ho2 HE HG
      go_wp2_with fail
      refine HI2.out.mono ?_
      rintro e w3 ⟨hb3, hx3⟩
      cases hr : pP t with
      | none =>
        rw [hr] at hx3
        have hx3 : e = tlackP := hx3
        subst hx3
        exact ⟨rfl, HO2.out.trans (But.of_below hb3), by rw [HNo.out hr]; rfl⟩
      | some x =>
        rw [hr] at hx3
        obtain ⟨cs, rfl, hel⟩ := hx3
        have HS2 := Lib.hid (HS.out x hr)
        have hcs : ∃ u0 u1 u2, cs = [u0, u1, u2] := by
          exact ⟨_, _, _, hel.1⟩
        obtain ⟨u0, u1, u2, rfl⟩ := hcs
        have H1 := Lib.hid (elP_ok.one hel)
        have hbx := (Below.refl w3.heap.size w3).alloc (Nat.le_refl _) (.cells #[u0, u1, u2] 58)
        have HG4 := Lib.hid ((HG2.out.below elP_ok hb3).below elP_ok hbx)
        have HO4 := Lib.hid ((HO2.out.trans (But.of_below hb3)).trans (But.of_below hbx))
        have HP4 := Lib.hid ((HP2.out.below hb3).below hbx)
        have HNw := Lib.hid (news_of (w := w3) (cs := [u0, u1, u2]) (T := 58))
        have HEl := Lib.hid (show ElP (w3.alloc (.cells #[u0, u1, u2] 58)) (RowS w.heap.size (w3.alloc (.cells #[u0, u1, u2] 58)) (.slice A k c)) x [u0, u1, u2] from
          elP_ok.move hel (fun b hb => ⟨by have := HO2.out.size; have := hb.1; omega, hb.2.move (hbx.block b hb.2.lt), fun e => by
            have h8 := (ownO_lt HG2.out.row e.symm).1
            have := hb.1
            omega⟩) (fun b hb => hbx.block b hb.2.lt))
        have HM := Lib.hid (show k + 1 ≤ maxLen from by unfold maxLen; omega)
        have HBy := Lib.hid (show (k + 1) * 32 ≤ 140737488355328 from by omega)
        have HZ := Lib.hid (show w.heap.size ≤ (w3.alloc (.cells #[u0, u1, u2] 58)).heap.size from by have := HO4.out.size; omega)
        have HRw := Lib.hid (show (w3.alloc (.cells #[u0, u1, u2] 58)).ownsRow w.heap.size 58 3 (.slice A k c) k css.flatten from by rw [← hxl]; have := HG4.out.row; rw [hxl] at this ⊢; exact this)
        clear hel hb3 hbx HG2 HO2 HP2 hr
        go_wp2_with (at_builtin; (refine wpList_append_at6 rfl _ _ 46 rfl w.heap.size 58 i0 (.agg #[.string ⟨#[]⟩, .int .i64 0, .int .i64 0]) 3 32 Tryz.underlying46 hi hz0 hz1 hz2 rfl (by decide) (.slice A k c) k css.flatten ?hs HRw.out ⟨w3.heap.size, 0, none⟩ 1 1 [u0, u1, u2] ?hx rfl HNw.out H1.out HM.out HBy.out HZ.out ?_; (case hs => rfl); (case hx => rfl); intro v' w5 hr hg hv'; obtain ⟨A5, c5, rfl⟩ := ownO_slice hr; have HX5 := Lib.hid (show ∃ (xs' : List ParD) (css' : List (List Value)), (ts.take (k + 1)).map pP = xs'.map some ∧ RowG ElP 58 3 w5 w.heap.size (.slice A5 (k + 1) c5) xs' css' from ⟨xs ++ [x], css ++ [[u0, u1, u2]], HS2.out, HG4.out.push elP_ok HEl.out (by rw [hxl]; exact hr) hg hv'⟩); have HO5 := Lib.hid (show But p w w5 from But.grown HO4.out hg (fun g e => (ownO_lt HG4.out.row e).2.1)); have HP5 := Lib.hid (show PtAt w5 p (ts.drop (k + 1)) from HP4.out.grown hg (fun g e => by have := (ownO_lt HG4.out.row e).2.1; omega)); clear hr hg hv'))
        go_roundw
        case rel => exact ⟨k + 1, c5, A5, by omega, rfl, HX5, HP5, HO5⟩
        case measure => simp [sliceN]; omega
    · have hkn : k = ts.length := by omega
      subst hkn
      rw [List.drop_length] at x0
      have HX2 := Lib.hid (show ∃ xs, allO (ts.map pP) = some xs ∧ LsP w.heap.size wr xs (.slice A ts.length c) from by
        rw [List.take_length] at hx1
        exact ⟨xs, allO_done hx1, hx2.lsP⟩)
      have HP2 := Lib.hid (show PtAt wr p [] from by have := HP.out; rw [List.drop_length] at this; exact this)
      clear hx1 hx2 hblk HX HP
      rw [show ([] : List TokD).length = 0 from rfl] at x0
      go_wp2
      go_ret
      obtain ⟨xs', h1, h2⟩ := HX2.out
      exact ⟨HO.out, by rw [h1]; exact ⟨_, rfl, h2, HP2.out⟩⟩
/-- what a statement's reading comes to -/
def StmtP (B : Nat) (w' : World) (r : Option StmtD) (e : Ending) : Prop := match r with
  | none => e = tlackP
  | some x => ∃ cs : List Value, e = .returned (.agg cs.toArray) ∧ ElS w' (NewS B w') x cs
def RdSt (R : RdC) (t : TokD) : Prop := TokOk t → TokB t → ∀ (w : World) (v : Value), RdIs R w → ItemV w t v →
  Calls Tryz.prog 87 #[.pointer (some ⟨R.r, 0, none⟩), v] w fun e w' => Below w.heap.size w w' ∧ StmtP w.heap.size w' (pSt t) e
def ListSP (w : World) (p : Nat) (r : Option (List StmtD)) (e : Ending) (w' : World) : Prop := But p w w' ∧ match r with
  | none => e = tlackP
  | some xs => ∃ v, e = .returned v ∧ LsS w.heap.size w' xs v ∧ PtAt w' p []
set_option maxHeartbeats 4000000 in
theorem listS_of (R : RdC) (ts : List TokD) (hl : ∀ t ∈ ts, RdSt R t) (p : Nat) (w : World) (hR : RdIs R w) (hp : R.top ≤ p) (h : PtAt w p ts) :
    Calls Tryz.prog 86 #[.pointer (some ⟨p, 0, none⟩), .func (.func 87) #[.pointer (some ⟨R.r, 0, none⟩)] #[]] w (ListSP w p (allO (ts.map pSt))) := by
  have hcf : ∀ (args : Array Value) (w : World), (callFunc 87 args).run Tryz.prog w = .ok (.enter 87 args) w := fun args w => by kernel_rfl
  have HL := Lib.hid hl
  have HO := Lib.hid (show But p w w from OutO.of_below (Below.refl _ _))
  have HP := Lib.hid (show PtAt w p (ts.drop 0) from h)
  have HR := Lib.hid (And.intro hR hp)
  have hlt := h.lt
  have hts := h.len
  have HF := Lib.hid h
  obtain ⟨i0, hi, hz0, hz1, hz2⟩ := info_parts infoSt
  clear hl h hR hp
  go_enter Tryz.func86, Tryz.ntmps86
  go_wp2
  go_loopw [5] (fun v5 wr => ∃ (k c : Nat) (A : Option Addr), k ≤ ts.length ∧ v5 = .slice A k c ∧ Hid (∃ (xs : List StmtD) (css : List (List Value)), (ts.take k).map pSt = xs.map some ∧ RowG ElS 45 6 wr w.heap.size (.slice A k c) xs css) ∧ Hid (PtAt wr p (ts.drop k)) ∧ Hid (But p w wr)) (fun v5 _ => ts.length - sliceN v5)
  case atStart => exact ⟨0, 0, none, by omega, rfl, Lib.hid ⟨[], [], rfl, RowG.nil⟩, HP, HO⟩
  case round =>
    obtain ⟨k, c, A, hk, rfl, HX, HP, HO⟩ := hrel
    obtain ⟨xs, css, hx1, hx2⟩ := HX.out
    have hxl : xs.length = k := by
      have := congrArg List.length hx1
      simp at this
      omega
    obtain ⟨Ap, cp, hblk, _⟩ := HP.out.blk
    have x0 : wr.cell? ⟨p, 0, none⟩ = some (.slice Ap (ts.drop k).length cp) := by rw [cell_of_row wr p 0 _ _ _ hblk]; rfl
    by_cases hlt2 : k < ts.length
    · have hd : ts.drop k = ts[k] :: ts.drop (k + 1) := List.drop_eq_getElem_cons hlt2
      have hdl : (ts.drop k).length = ts.length - k := List.length_drop
      have h1 : (0 : Int) < ((ts.length - k : Nat) : Int) := by omega
      rw [hdl] at x0
      have HN := Lib.hid (pnext_any p (ts.drop k) wr HP.out)
      rw [hd] at HN
      have hE := HL.out ts[k] (List.getElem_mem hlt2)
      have hok := (toksOk_iff.1 HF.out.ok) _ (List.getElem_mem hlt2)
      have hfew := HF.out.few _ (List.getElem_mem hlt2)
      have HS := Lib.hid (show ∀ x, pSt ts[k] = some x → (ts.take (k + 1)).map pSt = (xs ++ [x]).map some from fun x hx => by
        rw [List.take_succ_eq_append_getElem hlt2, List.map_append, List.map_append, hx1]; simp [hx])
      have HNo := Lib.hid (show pSt ts[k] = none → allO (ts.map pSt) = none from fun hn => allO_stop hlt2 hn)
      generalize ts[k] = t at *
      have HG := Lib.hid hx2
      have HE := Lib.hid (fun (w2 : World) (v : Value) (h1 : But p wr w2) (h2 : ItemV w2 t v) => hE hok hfew w2 v (HR.out.1.move (But.low (HO.out.trans h1) HR.out.2 HR.out.1.top)) h2)
      clear hx1 hx2 hblk hE hok hfew hd hdl HX HP
      go_wp2_with fail
      refine HN.out.mono ?_
      rintro e w2 ⟨v, rfl, hi2, hp2, ho2⟩
      have HI2 := Lib.hid (HE.out w2 v ho2 hi2.arg)
      have HP2 := Lib.hid hp2
      have HO2 := Lib.hid (HO.out.trans ho2)
      have HG2 := Lib.hid (HG.out.but elS_ok ho2 hlt)
      obtain ⟨a, q, cq, rfl, _⟩ := hi2
      clear hp2 ho2 HE HG
      go_wp2_with fail
      refine HI2.out.mono ?_
      rintro e w3 ⟨hb3, hx3⟩
      cases hr : pSt t with
      | none =>
        rw [hr] at hx3
        have hx3 : e = tlackP := hx3
        subst hx3
        exact ⟨rfl, HO2.out.trans (But.of_below hb3), by rw [HNo.out hr]; rfl⟩
      | some x =>
        rw [hr] at hx3
        obtain ⟨cs, rfl, hel⟩ := hx3
        have HS2 := Lib.hid (HS.out x hr)
        have hcs : ∃ u0 u1 u2 A4 n4 c4 A6 n6 c6 A7 n7 c7, cs = [u0, u1, u2, .slice A4 n4 c4, .slice A6 n6 c6, .slice A7 n7 c7] := by
          obtain ⟨kx, sx, nx, ax, ox, tx⟩ := x
          obtain ⟨A1', c1', A2', c2', A3', c3', e1, _⟩ := hel
          exact ⟨_, _, _, _, _, _, _, _, _, _, _, _, e1⟩
        obtain ⟨u0, u1, u2, A4, n4, c4, A6, n6, c6, A7, n7, c7, rfl⟩ := hcs
        have H1 := Lib.hid (elS_ok.one hel)
        have hbx := (Below.refl w3.heap.size w3).alloc (Nat.le_refl _) (.cells #[u0, u1, u2, .slice A4 n4 c4, .slice A6 n6 c6, .slice A7 n7 c7] 45)
        have HG4 := Lib.hid ((HG2.out.below elS_ok hb3).below elS_ok hbx)
        have HO4 := Lib.hid ((HO2.out.trans (But.of_below hb3)).trans (But.of_below hbx))
        have HP4 := Lib.hid ((HP2.out.below hb3).below hbx)
        have HNw := Lib.hid (news_of (w := w3) (cs := [u0, u1, u2, .slice A4 n4 c4, .slice A6 n6 c6, .slice A7 n7 c7]) (T := 45))
        have HEl := Lib.hid (show ElS (w3.alloc (.cells #[u0, u1, u2, .slice A4 n4 c4, .slice A6 n6 c6, .slice A7 n7 c7] 45)) (RowS w.heap.size (w3.alloc (.cells #[u0, u1, u2, .slice A4 n4 c4, .slice A6 n6 c6, .slice A7 n7 c7] 45)) (.slice A k c)) x [u0, u1, u2, .slice A4 n4 c4, .slice A6 n6 c6, .slice A7 n7 c7] from
          elS_ok.move hel (fun b hb => ⟨by have := HO2.out.size; have := hb.1; omega, hb.2.move (hbx.block b hb.2.lt), fun e => by
            have h8 := (ownO_lt HG2.out.row e.symm).1
            have := hb.1
            omega⟩) (fun b hb => hbx.block b hb.2.lt))
        have HM := Lib.hid (show k + 1 ≤ maxLen from by unfold maxLen; omega)
        have HBy := Lib.hid (show (k + 1) * 104 ≤ 140737488355328 from by omega)
        have HZ := Lib.hid (show w.heap.size ≤ (w3.alloc (.cells #[u0, u1, u2, .slice A4 n4 c4, .slice A6 n6 c6, .slice A7 n7 c7] 45)).heap.size from by have := HO4.out.size; omega)
        have HRw := Lib.hid (show (w3.alloc (.cells #[u0, u1, u2, .slice A4 n4 c4, .slice A6 n6 c6, .slice A7 n7 c7] 45)).ownsRow w.heap.size 45 6 (.slice A k c) k css.flatten from by rw [← hxl]; have := HG4.out.row; rw [hxl] at this ⊢; exact this)
        clear hel hb3 hbx HG2 HO2 HP2 hr
        go_wp2_with (at_builtin; (refine wpList_append_at6 rfl _ _ 43 rfl w.heap.size 45 i0 (.agg #[.int .i64 0, .string ⟨#[]⟩, .int .i64 0, .slice none 0 0, .slice none 0 0, .slice none 0 0]) 6 104 Tryz.underlying43 hi hz0 hz1 hz2 rfl (by decide) (.slice A k c) k css.flatten ?hs HRw.out ⟨w3.heap.size, 0, none⟩ 1 1 [u0, u1, u2, .slice A4 n4 c4, .slice A6 n6 c6, .slice A7 n7 c7] ?hx rfl HNw.out H1.out HM.out HBy.out HZ.out ?_; (case hs => rfl); (case hx => rfl); intro v' w5 hr hg hv'; obtain ⟨A5, c5, rfl⟩ := ownO_slice hr; have HX5 := Lib.hid (show ∃ (xs' : List StmtD) (css' : List (List Value)), (ts.take (k + 1)).map pSt = xs'.map some ∧ RowG ElS 45 6 w5 w.heap.size (.slice A5 (k + 1) c5) xs' css' from ⟨xs ++ [x], css ++ [[u0, u1, u2, .slice A4 n4 c4, .slice A6 n6 c6, .slice A7 n7 c7]], HS2.out, HG4.out.push elS_ok HEl.out (by rw [hxl]; exact hr) hg hv'⟩); have HO5 := Lib.hid (show But p w w5 from But.grown HO4.out hg (fun g e => (ownO_lt HG4.out.row e).2.1)); have HP5 := Lib.hid (show PtAt w5 p (ts.drop (k + 1)) from HP4.out.grown hg (fun g e => by have := (ownO_lt HG4.out.row e).2.1; omega)); clear hr hg hv'))
        go_roundw
        case rel => exact ⟨k + 1, c5, A5, by omega, rfl, HX5, HP5, HO5⟩
        case measure => simp [sliceN]; omega
    · have hkn : k = ts.length := by omega
      subst hkn
      rw [List.drop_length] at x0
      have HX2 := Lib.hid (show ∃ xs, allO (ts.map pSt) = some xs ∧ LsS w.heap.size wr xs (.slice A ts.length c) from by
        rw [List.take_length] at hx1
        exact ⟨xs, allO_done hx1, hx2.lsS⟩)
      have HP2 := Lib.hid (show PtAt wr p [] from by have := HP.out; rw [List.drop_length] at this; exact this)
      clear hx1 hx2 hblk HX HP
      rw [show ([] : List TokD).length = 0 from rfl] at x0
      go_wp2
      go_ret
      obtain ⟨xs', h1, h2⟩ := HX2.out
      exact ⟨HO.out, by rw [h1]; exact ⟨_, rfl, h2, HP2.out⟩⟩
end Go.Proofs.YtbhdbglhejibbaaGreatDoor
namespace Go.Proofs.YtbhdbglhejibbaaGreatDoor
set_option maxRecDepth 100000
open Go.RowKit
set_option linter.unusedVariables false
theorem res_cell3 {fn : Func} {T : Array Value} {j b : Nat} {W : World} {v0 v1 v2 : Value} {ty : TypeId} (hf : fn.results = #[.cell j 58]) (h2 : T[j]? = some (.pointer (some ⟨b, 0, none⟩))) (hr : W.heap[b]? = some (.cells #[v0, v1, v2] ty (0, 0))) :
    (results fn T).run Tryz.prog W = .ok (.agg #[v0, v1, v2]) W := by
  have y0 := cell_of_row W b 0 _ _ _ hr
  have y1 := cell_of_row W b 1 _ _ _ hr
  have y2 := cell_of_row W b 2 _ _ _ hr
  simp only [List.getElem?_toArray, List.getElem?_cons_zero, List.getElem?_cons_succ] at y0 y1 y2
  simp [results, hf, go_sem, h2, y0, y1, y2]
theorem sfill3 {W : World} {b : Nat} {a0 a1 a2 : Value} {T : TypeId} (h : W.heap[b]? = some (.cells #[a0, a1, a2] T (0, 0))) (v0 v1 v2 : Value) :
    (((W.setCell ⟨b, 0, none⟩ v0).setCell ⟨b, 1, none⟩ v1).setCell ⟨b, 2, none⟩ v2).heap[b]? = some (.cells #[v0, v1, v2] T (0, 0)) := by
  rw [heap_setCell_same _ b 2 _ _ _ (heap_setCell_same _ b 1 _ _ _ (heap_setCell_same W b 0 _ _ _ h))]
  rfl
theorem bset3 {w W : World} {b : Nat} (h : Below w.heap.size w W) (hb : w.heap.size ≤ b) (v0 v1 v2 : Value) : Below w.heap.size w (((W.setCell ⟨b, 0, none⟩ v0).setCell ⟨b, 1, none⟩ v1).setCell ⟨b, 2, none⟩ v2) :=
  tbelow_set (tbelow_set (tbelow_set h hb) hb) hb
theorem sfill3_off {W : World} {b g : Nat} (h : b ≠ g) (v0 v1 v2 : Value) : (((W.setCell ⟨g, 0, none⟩ v0).setCell ⟨g, 1, none⟩ v1).setCell ⟨g, 2, none⟩ v2).heap[b]? = W.heap[b]? := by
  rw [heap_set_off h, heap_set_off h, heap_set_off h]
def ReadPP (w : World) (p : Nat) (r : Option (ParD × List TokD)) (e : Ending) (w' : World) : Prop := But p w w' ∧ match r with
  | none => e = tlackP
  | some y => e = .returned (.agg #[.string y.1.1, .int .i64 y.1.2.1, .int .i64 y.1.2.2]) ∧ PtAt w' p y.2 ∧ ParW y.1
theorem word_size {ts us : List TokD} {s : ByteArray} (hf : ∀ t ∈ ts, TokB t) (h : wdF ts = some (s, us)) : s.size ≤ 100000 := by
  rw [wdF_some h] at hf
  exact (hf (.w s) (by simp)).2.1 s (by simp [flat])
theorem cnF_some {ts us : List TokD} {n : Int} (h : cnF ts = some (n, us)) : ∃ s, wdF ts = some (s, us) ∧ 0 ≤ n ∧ n ≤ 64 := by
  unfold cnF at h
  cases hw : wdF ts with
  | none => rw [hw] at h; cases h
  | some x =>
    rw [hw] at h
    obtain ⟨s, us'⟩ := x
    simp only at h
    split at h
    · next hc =>
      simp only [Option.some.injEq, Prod.mk.injEq] at h
      obtain ⟨rfl, rfl⟩ := h
      exact ⟨s, rfl, numV_low s, hc.2⟩
    · cases h
set_option maxHeartbeats 2000000 in
theorem secretParam_any (r : Nat) (ts : List TokD) (p : Nat) (w : World) (h : PtAt w p ts) :
    Calls Tryz.prog 53 #[.pointer (some ⟨r, 0, none⟩), .pointer (some ⟨p, 0, none⟩)] w (ReadPP w p (rdP false ts)) := by
  have hb := (Below.refl w.heap.size w).alloc (Nat.le_refl _) (.cells #[.string ⟨#[]⟩, .int .i64 0, .int .i64 0] 58)
  have h0 := heap_alloc_new w (.cells #[.string ⟨#[]⟩, .int .i64 0, .int .i64 0] 58)
  have HW := Lib.hid (pword_any p ts _ (h.below hb))
  have HB := Lib.hid hb
  have HX := Lib.hid h0
  have hlt := h.lt
  have HF := Lib.hid h.few
  clear hb h0 h
  go_enter Tryz.func53, Tryz.ntmps53
  go_wp2_with fail
  refine HW.out.mono ?_
  rintro e w2 ⟨hO, h2⟩
  have HO := Lib.hid ((But.of_below (p := p) HB.out).trans hO)
  have hg := (hO.block _ (Array.getElem?_eq_some_iff.1 HX.out).1 (by omega)).trans HX.out
  cases hw : wdF ts with
  | none =>
    rw [hw] at h2
    have h2 : e = tlackP := h2
    subst h2
    exact ⟨rfl, HO.out, by unfold rdP; rw [hw]; rfl⟩
  | some sx =>
    obtain ⟨s, us⟩ := sx
    rw [hw] at h2
    obtain ⟨rfl, hP⟩ := h2
    have HR := Lib.hid (show rdP false ts = some ((s, 1, 0), us) from by unfold rdP; rw [hw]; rfl)
    have HS := Lib.hid (word_size HF.out hw)
    have HP := Lib.hid hP
    have HG := Lib.hid hg
    have y0 := cell_of_row w2 _ 0 _ _ _ hg
    have y1 := cell_of_row w2 _ 1 _ _ _ hg
    have y2 := cell_of_row w2 _ 2 _ _ _ hg
    simp only [List.getElem?_toArray, List.getElem?_cons_zero, List.getElem?_cons_succ] at y0 y1 y2
    have f0 := frozen_of_row w2 _ 0 _ _ hg
    have f1 := frozen_of_row w2 _ 1 _ _ hg
    have f2 := frozen_of_row w2 _ 2 _ _ hg
    clear hO hP hg hw
    go_wp2
    refine bodyPost_ret (v := .agg #[.string s, .int .i64 1, .int .i64 0]) (res_cell3 (j := 4) (b := w.heap.size) rfl rfl (sfill3 HG.out _ _ _)) rfl ⟨But.set (But.set (But.set HO.out (Nat.le_refl _)) (Nat.le_refl _)) (Nat.le_refl _), ?_⟩
    rw [HR.out]
    exact ⟨rfl, HP.out.keep (fun b hb => sfill3_off (by omega) _ _ _), by have := HS.out; exact ⟨by show s.size ≤ maxLen; unfold maxLen; omega, by unfold fitsI; simp, by unfold fitsI; simp⟩⟩
set_option maxHeartbeats 2000000 in
theorem pointer_any (R : RdC) (ts : List TokD) (p : Nat) (w : World) (hR : RdIs R w) (hp : R.top ≤ p) (h : PtAt w p ts) :
    Calls Tryz.prog 54 #[.pointer (some ⟨R.r, 0, none⟩), .pointer (some ⟨p, 0, none⟩)] w (ReadPP w p (rdP true ts)) := by
  obtain ⟨h1, h2, hbl, hsz⟩ := two_new w (.cells #[.string ⟨#[]⟩, .int .i64 0, .int .i64 0] 58) (.cells #[.string ⟨#[]⟩, .int .i64 2, .int .i64 0] 58)
  have HW := Lib.hid (pword_any p ts _ (h.below hbl))
  have HB := Lib.hid hbl
  have HX := Lib.hid (And.intro h1 h2)
  have hlt := h.lt
  have HF := Lib.hid h.few
  have HRd := Lib.hid (And.intro (hR.below hbl) hp)
  clear h1 h2 hbl hsz h hR hp
  go_enter Tryz.func54, Tryz.ntmps54
  go_wp2_with fail
  generalize ((w.alloc (.cells #[.string ⟨#[]⟩, .int .i64 0, .int .i64 0] 58)).alloc (.cells #[.string ⟨#[]⟩, .int .i64 2, .int .i64 0] 58)) = W at *
  refine HW.out.mono ?_
  rintro e w2 ⟨hO, h2⟩
  have HO := Lib.hid ((But.of_below (p := p) HB.out).trans hO)
  cases hw : wdF ts with
  | none =>
    rw [hw] at h2
    have h2 : e = tlackP := h2
    subst h2
    exact ⟨rfl, HO.out, by unfold rdP; rw [hw]; rfl⟩
  | some sx =>
    obtain ⟨s, us⟩ := sx
    rw [hw] at h2
    obtain ⟨rfl, hP⟩ := h2
    have hg1 := (hO.block _ (Array.getElem?_eq_some_iff.1 HX.out.1).1 (by omega)).trans HX.out.1
    have hg2 := (hO.block _ (Array.getElem?_eq_some_iff.1 HX.out.2).1 (by omega)).trans HX.out.2
    have HS := Lib.hid (word_size HF.out hw)
    have HRD := Lib.hid (show rdP true ts = (match cnF us with
      | some y => some ((s, 2, y.1), y.2)
      | none => none) from by unfold rdP; rw [hw]; rfl)
    have HR3 := Lib.hid (HRd.out.1.move ((But.low hO HRd.out.2 HRd.out.1.top).setCell (p := ⟨w.heap.size + 1, 0, none⟩) (by have := HRd.out.2; show R.top ≤ w.heap.size + 1; omega) (.string s)))
    have HP3 := Lib.hid (show PtAt (w2.setCell ⟨w.heap.size + 1, 0, none⟩ (.string s)) p us from hP.keep fun b hb => heap_set_off (by omega))
    have HO3 := Lib.hid (But.set (b := w.heap.size + 1) (o := 0) (v := .string s) HO.out (by omega))
    have HG3 := Lib.hid (show (w2.setCell ⟨w.heap.size + 1, 0, none⟩ (.string s)).heap[w.heap.size]? = some (.cells #[.string ⟨#[]⟩, .int .i64 0, .int .i64 0] 58 (0, 0)) ∧ (w2.setCell ⟨w.heap.size + 1, 0, none⟩ (.string s)).heap[w.heap.size + 1]? = some (.cells #[.string s, .int .i64 2, .int .i64 0] 58 (0, 0)) from
      ⟨by rw [heap_set_off (by omega)]; exact hg1, by rw [heap_setCell_same _ _ 0 _ _ _ hg2]; rfl⟩)
    have HC := Lib.hid (pcount_any R p us _ HR3.out HRd.out.2 HP3.out)
    have y0 := cell_of_row w2 _ 0 _ _ _ hg2
    have f0 := frozen_of_row w2 _ 0 _ _ hg2
    simp only [List.getElem?_toArray, List.getElem?_cons_zero] at y0
    clear hO hP hg1 hg2 hw
    go_wp2_with fail
    refine HC.out.mono ?_
    rintro e w3 ⟨hO, h3⟩
    cases hc : cnF us with
    | none =>
      rw [hc] at h3
      have h3 : e = tlackP := h3
      subst h3
      exact ⟨rfl, HO3.out.trans hO, by rw [HRD.out, hc]; rfl⟩
    | some nx =>
      obtain ⟨n, vs⟩ := nx
      rw [hc] at h3
      obtain ⟨rfl, hP⟩ := h3
      have hn := cnF_some hc
      have HN := Lib.hid (show fitsI n from by obtain ⟨_, _, h1, h2⟩ := hn; unfold fitsI; omega)
      have HRr := Lib.hid (show rdP true ts = some ((s, 2, n), vs) from by rw [HRD.out, hc])
      have hg1 := (hO.block _ (Array.getElem?_eq_some_iff.1 HG3.out.1).1 (by omega)).trans HG3.out.1
      have hg2 := (hO.block _ (Array.getElem?_eq_some_iff.1 HG3.out.2).1 (by omega)).trans HG3.out.2
      have HO4 := Lib.hid (HO3.out.trans hO)
      have HP4 := Lib.hid hP
      have HG4 := Lib.hid (show (w3.setCell ⟨w.heap.size + 1, 2, none⟩ (.int .i64 n)).heap[w.heap.size]? = some (.cells #[.string ⟨#[]⟩, .int .i64 0, .int .i64 0] 58 (0, 0)) from by rw [heap_set_off (by omega)]; exact hg1)
      have y0 := cell_of_row w3 _ 0 _ _ _ hg2
      have y1 := cell_of_row w3 _ 1 _ _ _ hg2
      have y2 := cell_of_row w3 _ 2 _ _ _ hg2
      have z0 := cell_of_row w3 _ 0 _ _ _ hg1
      have z1 := cell_of_row w3 _ 1 _ _ _ hg1
      have z2 := cell_of_row w3 _ 2 _ _ _ hg1
      simp only [List.getElem?_toArray, List.getElem?_cons_zero, List.getElem?_cons_succ] at y0 y1 y2 z0 z1 z2
      have f2 := frozen_of_row w3 _ 2 _ _ hg2
      have q0 := frozen_of_row w3 _ 0 _ _ hg1
      have q1 := frozen_of_row w3 _ 1 _ _ hg1
      have q2 := frozen_of_row w3 _ 2 _ _ hg1
      clear hO hP hg1 hg2 hc hn
      go_wp2
      refine bodyPost_ret (v := .agg #[.string s, .int .i64 2, .int .i64 n]) (res_cell3 (j := 4) (b := w.heap.size) rfl rfl (sfill3 HG4.out _ _ _)) rfl ⟨But.set (But.set (But.set (But.set HO4.out (by omega)) (Nat.le_refl _)) (Nat.le_refl _)) (Nat.le_refl _), ?_⟩
      rw [HRr.out]
      exact ⟨rfl, HP4.out.keep (fun b hb => by rw [sfill3_off (by omega), heap_set_off (by omega)]), by have := HS.out; exact ⟨by show s.size ≤ maxLen; unfold maxLen; omega, by unfold fitsI; simp, HN.out⟩⟩
end Go.Proofs.YtbhdbglhejibbaaGreatDoor
namespace Go.Proofs.YtbhdbglhejibbaaGreatDoor
set_option maxRecDepth 100000
open Go.RowKit
set_option linter.unusedVariables false
theorem zeroFP (w : World) : (zeroValue 108).run Tryz.prog w = .ok .nilFunc w := by kernel_rfl
theorem paramsL_find (r : Nat) (s : ByteArray) : strF (paramsL r) s = (kinP s).map fun b => .func (.func (if b = true then 54 else 53)) #[.pointer (some ⟨r, 0, none⟩)] #[] := by
  unfold strF paramsL kinP
  by_cases h1 : wSec = s
  · subst h1
    rw [List.find?_cons_of_pos (by simp), if_pos rfl]; rfl
  · rw [List.find?_cons_of_neg (by simpa using h1), if_neg (fun e => h1 e.symm)]
    by_cases h2 : wPtr = s
    · subst h2
      rw [List.find?_cons_of_pos (by simp), if_pos rfl]; rfl
    · rw [List.find?_cons_of_neg (by simpa using h2), if_neg (fun e => h2 e.symm)]; rfl
theorem becP_l (ts : List TokD) : becP (.l ts) = match wdF ts with
    | some x => match kinP x.1 with
      | some y => match rdP y x.2 with
        | some z => if z.2 = [] then some z.1 else none
        | none => none
      | none => none
    | none => none := rfl
set_option maxHeartbeats 4000000 in
theorem becomeP_of (R : RdC) (t : TokD) (hok : TokOk t) (hB : TokB t) (w : World) (v : Value) (hR : RdIs R w) (hv : ItemV w t v) :
    Calls Tryz.prog 125 #[.map (some R.rp), v] w fun e w' => Below w.heap.size w w' ∧ ParamP w.heap.size w' (becP t) e := by
  have hb := (Below.refl w.heap.size w).alloc (Nat.le_refl _) (.cells #[.string ⟨#[]⟩, .int .i64 0, .int .i64 0] 58)
  have h0 := heap_alloc_new w (.cells #[.string ⟨#[]⟩, .int .i64 0, .int .i64 0] 58)
  have hv1 := hv.below hb
  have HR := Lib.hid (hR.below hb)
  have HB := Lib.hid hb
  have HX := Lib.hid h0
  have hsz : (w.alloc (.cells #[.string ⟨#[]⟩, .int .i64 0, .int .i64 0] 58)).heap.size = w.heap.size + 1 := by simp
  have HV := Lib.hid hv
  obtain ⟨a0, q0, c0, rfl, _⟩ := hv
  cases t with
  | w s =>
    have HI := Lib.hid (inside_no s _ _ hv1)
    clear hv1 hb h0 hR
    go_enter Tryz.func125, Tryz.ntmps125
    go_wp2_with fail
    refine HI.out.mono ?_
    rintro e w2 ⟨rfl, rfl⟩
    exact ⟨rfl, HB.out, rfl⟩
  | l ts =>
    have HI := Lib.hid (inside_yes ts _ hok hB _ hv1)
    have HTb := Lib.hid hB
    clear hv1 hb h0 hR
    go_enter Tryz.func125, Tryz.ntmps125
    go_wp2_with fail
    generalize (w.alloc (.cells #[.string ⟨#[]⟩, .int .i64 0, .int .i64 0] 58)) = W at *
    refine HI.out.mono ?_
    rintro e w2 ⟨p, rfl, hp, hpt, hb2⟩
    have HR2 := Lib.hid (HR.out.below hb2)
    have HB2 := Lib.hid (HB.out.trans (hb2.mono HB.out.size))
    have HX2 := Lib.hid ((hb2.block _ (Array.getElem?_eq_some_iff.1 HX.out).1).trans HX.out)
    have HP := Lib.hid (And.intro hp (Nat.le_trans HR.out.top hp))
    have HW := Lib.hid (pword_any p ts w2 hpt)
    have HPt := Lib.hid hpt
    have hpg : w.heap.size < p := by omega
    clear hb2 hpt hp
    go_wp2_with fail
    refine HW.out.mono ?_
    rintro e w3 ⟨hO, h3⟩
    have HO3 := Lib.hid hO
    have HB3 := Lib.hid (HB2.out.trans (But.low hO (by omega) HB2.out.size))
    have HR3 := Lib.hid (HR2.out.move (But.low hO HP.out.2 HR2.out.top))
    have HX3 := Lib.hid ((hO.block _ (Array.getElem?_eq_some_iff.1 HX2.out).1 (by omega)).trans HX2.out)
    clear hO
    cases hw : wdF ts with
    | none =>
      rw [hw] at h3
      have h3 : e = tlackP := h3
      subst h3
      exact ⟨rfl, HB3.out, by rw [becP_l, hw]; rfl⟩
    | some sx =>
    obtain ⟨s, us⟩ := sx
    rw [hw] at h3
    obtain ⟨rfl, hP3⟩ := h3
    have hts := wdF_some hw
    have hlk := HR3.out.params.look Tryz.underlying104 Tryz.underlying9 (zeroFP w3) s
    rw [paramsL_find] at hlk
    cases hk : kinP s with
    | none =>
      have HN := Lib.hid (show becP (.l ts) = none from by rw [becP_l, hw]; simp only; rw [hk])
      rw [hk] at hlk
      simp only [Option.map_none, Option.getD_none, Option.isSome_none] at hlk
      clear hP3 hw hts hk
      go_wp2_with fail
      refine (twant_no _).mono ?_
      rintro e w4 ⟨rfl, rfl⟩
      exact ⟨rfl, HB3.out, by rw [HN.out]; rfl⟩
    | some y =>
      have HN := Lib.hid (show becP (.l ts) = match rdP y us with
        | some z => if z.2 = [] then some z.1 else none
        | none => none from by rw [becP_l, hw]; simp only; rw [hk])
      rw [hk] at hlk
      simp only [Option.map_some, Option.getD_some, Option.isSome_some] at hlk
      have hcf0 : ∀ (args : Array Value) (w : World), (callFunc 53 args).run Tryz.prog w = .ok (.enter 53 args) w := fun args w => by kernel_rfl
      have hcf1 : ∀ (args : Array Value) (w : World), (callFunc 54 args).run Tryz.prog w = .ok (.enter 54 args) w := fun args w => by kernel_rfl
      have HRd : Hid (Calls Tryz.prog (if y = true then 54 else 53) #[.pointer (some ⟨R.r, 0, none⟩), .pointer (some ⟨p, 0, none⟩)] w3 (ReadPP w3 p (rdP y us))) := Lib.hid (by
        cases y
        · exact secretParam_any R.r us p w3 hP3
        · exact pointer_any R us p w3 HR3.out HP.out.2 hP3)
      clear hP3 hw hts hk
      cases y
      all_goals
        simp only [if_true, Bool.false_eq_true, if_false] at HRd hlk
        go_wp2_with fail
        refine (twant_yes _).mono ?_
        rintro e w4 ⟨rfl, rfl⟩
        go_wp2_with fail
        refine HRd.out.mono ?_
        rintro e w4 ⟨hO, h4⟩
        have HB4 := Lib.hid (HB3.out.trans (But.low hO (by omega) HB3.out.size))
        have hX4 := (hO.block _ (Array.getElem?_eq_some_iff.1 HX3.out).1 (by omega)).trans HX3.out
        generalize hrd : rdP _ us = rr at *
        cases rr with
        | none =>
          have h4 : e = tlackP := h4
          subst h4
          exact ⟨rfl, HB4.out, by rw [HN.out]; rfl⟩
        | some z =>
          obtain ⟨⟨vn, vk, vl⟩, rest⟩ := z
          obtain ⟨rfl, hpt, hpw⟩ := h4
          obtain ⟨Ap, cp, hblk, _⟩ := hpt.blk
          have HPw := Lib.hid hpw
          have hbx := (Below.refl w4.heap.size w4).alloc (Nat.le_refl _) (.cells #[.string vn, .int .i64 vk, .int .i64 vl] 58)
          have hblk2 := (hbx.block p (Array.getElem?_eq_some_iff.1 hblk).1).trans hblk
          have hX5 := (hbx.block _ (Array.getElem?_eq_some_iff.1 hX4).1).trans hX4
          have xp := cell_of_row _ p 0 _ _ _ hblk2
          have z0 := cell_of_row _ _ 0 _ _ _ hX5
          have z1 := cell_of_row _ _ 1 _ _ _ hX5
          have z2 := cell_of_row _ _ 2 _ _ _ hX5
          simp only [List.getElem?_toArray, List.getElem?_cons_zero, List.getElem?_cons_succ] at xp z0 z1 z2
          have q0 := frozen_of_row _ _ 0 _ _ hX5
          have q1 := frozen_of_row _ _ 1 _ _ hX5
          have q2 := frozen_of_row _ _ 2 _ _ hX5
          have HX5 := Lib.hid hX5
          have HB5 := Lib.hid (HB4.out.trans (hbx.mono HB4.out.size))
          simp only at HN
          cases hrest : rest with
          | nil =>
            have HNx := Lib.hid (HN.out.trans (if_pos hrest))
            rw [hrest, show ([] : List TokD).length = 0 from rfl] at xp
            clear hO hpt hblk hbx hblk2 hX4 hX5 hrest hpw
            go_wp2_with fail
            refine (twant_yes _).mono ?_
            rintro e w5 ⟨rfl, rfl⟩
            go_wp2
            refine bodyPost_ret (v := .agg #[.string vn, .int .i64 vk, .int .i64 vl]) (res_cell3 (j := 4) (b := w.heap.size) rfl rfl (sfill3 HX5.out _ _ _)) rfl ⟨bset3 HB5.out (Nat.le_refl _) _ _ _, ?_⟩
            rw [HNx.out]
            exact ⟨_, rfl, rfl, HPw.out⟩
          | cons t0 rest' =>
            have HNx := Lib.hid (HN.out.trans (if_neg (by rw [hrest]; simp)))
            have hne : (((rest.length : Nat) : Int) == 0) = false := by rw [beq_eq_false_iff_ne, hrest]; simp; omega
            clear hO hpt hblk hbx hblk2 hX4 hX5 hrest hpw
            go_wp2_with fail
            refine (twant_no _).mono ?_
            rintro e w5 ⟨rfl, rfl⟩
            exact ⟨rfl, HB5.out, by rw [HNx.out]; rfl⟩
end Go.Proofs.YtbhdbglhejibbaaGreatDoor
namespace Go.Proofs.YtbhdbglhejibbaaGreatDoor
set_option maxRecDepth 100000
open Go.RowKit
set_option linter.unusedVariables false
set_option maxHeartbeats 4000000 in
theorem rdParam_any (R : RdC) : ∀ t, RdPa R t := by
  intro t hok hB w v hR hv
  cases t with
  | w s =>
    obtain ⟨h1, h2, hbl, hsz⟩ := two_new w (.cells #[.string ⟨#[]⟩, .int .i64 0, .int .i64 0] 58) (.cells #[.string s, .int .i64 0, .int .i64 0] 58)
    have HG := Lib.hid (And.intro h1 h2)
    have HBs := Lib.hid hbl
    have hv1 := hv
    obtain ⟨a, q, c, rfl, hc0, hc1, hlt, hcell⟩ := hv1
    have i0' := hcell 0 (by simp [flat])
    rw [show wdK (flat (.w s)) 0 = s from rfl, Nat.add_zero] at i0'
    have i0 : (w.alloc (.cells #[.string ⟨#[]⟩, .int .i64 0, .int .i64 0] 58)).cell? ⟨a, q, none⟩ = some (.string s) := cell_belowT i0' ((Below.refl _ w).alloc (Nat.le_refl _) _)
    rw [show (flat (.w s)).length = 1 from rfl] at hc0 ⊢
    have hcc : (1 : Int) ≤ c := by omega
    obtain ⟨xn, xk, xl, hxx⟩ : ∃ xn xk xl, (xn, xk, xl) = (s, (0 : Int), (0 : Int)) := ⟨_, _, _, rfl⟩
    have e1 : xn = s := congrArg (fun x : ParD => x.1) hxx
    have e2 : xk = 0 := congrArg (fun x : ParD => x.2.1) hxx
    have e3 : xl = 0 := congrArg (fun x : ParD => x.2.2) hxx
    subst e1 e2 e3
    have HS : xn.size ≤ 100000 := hB.2.1 xn (by simp [flat])
    have HPw := Lib.hid (show ParW (xn, 0, 0) from ⟨by show xn.size ≤ maxLen; unfold maxLen; omega, by unfold fitsI; simp, by unfold fitsI; simp⟩)
    have HPE := Lib.hid (show pP (.w xn) = chkP (xn, 0, 0) from rfl)
    clear h1 h2 hbl hsz hR hv hcell hok hB HS hxx i0' hlt
    go_enter Tryz.func107, Tryz.ntmps107
    have HM := Lib.hid (mayParam_any (xn, 0, 0) ((w.alloc (.cells #[.string ⟨#[]⟩, .int .i64 0, .int .i64 0] 58)).alloc (.cells #[.string xn, .int .i64 0, .int .i64 0] 58)))
    go_wp2_with fail
    refine HM.out.mono ?_
    rintro e w4 ⟨rfl, hb4⟩
    have hg1 := (hb4.block w.heap.size (Array.getElem?_eq_some_iff.1 HG.out.1).1).trans HG.out.1
    have hg2 := (hb4.block _ (Array.getElem?_eq_some_iff.1 HG.out.2).1).trans HG.out.2
    have HX4 := Lib.hid hg1
    have HB4 := Lib.hid (HBs.out.trans (hb4.mono HBs.out.size))
    cases hx : mparB (xn, 0, 0) with
    | false =>
      have HN := Lib.hid (show pP (.w xn) = none from HPE.out.trans (by unfold chkP; rw [if_neg (by rw [hx]; simp)]))
      clear hb4 hg1 hg2 hx
      go_wp2_with fail
      refine (twant_no _).mono ?_
      rintro e w5 ⟨rfl, rfl⟩
      exact ⟨rfl, HB4.out, by rw [HN.out]; rfl⟩
    | true =>
      have HN := Lib.hid (show pP (.w xn) = some (xn, 0, 0) from HPE.out.trans (by unfold chkP; rw [if_pos hx]))
      have z0 := cell_of_row w4 _ 0 _ _ _ hg1
      have z1 := cell_of_row w4 _ 1 _ _ _ hg1
      have z2 := cell_of_row w4 _ 2 _ _ _ hg1
      have x0 := cell_of_row w4 _ 0 _ _ _ hg2
      have x1 := cell_of_row w4 _ 1 _ _ _ hg2
      have x2 := cell_of_row w4 _ 2 _ _ _ hg2
      simp only [List.getElem?_toArray, List.getElem?_cons_zero, List.getElem?_cons_succ] at z0 z1 z2 x0 x1 x2
      have q0 := frozen_of_row w4 _ 0 _ _ hg1
      have q1 := frozen_of_row w4 _ 1 _ _ hg1
      have q2 := frozen_of_row w4 _ 2 _ _ hg1
      clear hb4 hg1 hg2 hx
      go_wp2_with fail
      refine (twant_yes _).mono ?_
      rintro e w5 ⟨rfl, rfl⟩
      go_wp2
      refine bodyPost_ret (v := .agg #[.string xn, .int .i64 0, .int .i64 0]) (res_cell3 (j := 4) (b := w.heap.size) rfl rfl (sfill3 HX4.out _ _ _)) rfl ⟨bset3 HB4.out (Nat.le_refl _) _ _ _, ?_⟩
      rw [HN.out]
      exact ⟨_, rfl, rfl, HPw.out⟩
  | l ts =>
    obtain ⟨h1, h2, hbl, hsz⟩ := two_new w (.cells #[.string ⟨#[]⟩, .int .i64 0, .int .i64 0] 58) (.cells #[.string opnB, .int .i64 0, .int .i64 0] 58)
    have HX := Lib.hid (And.intro h1 h2)
    have HB := Lib.hid hbl
    have HSz := Lib.hid hsz
    have hv1 := hv.below hbl
    have HBc := Lib.hid (becomeP_of R (.l ts) hok hB _ v (hR.below hbl) hv1)
    have j0 : (((w.alloc (.cells #[.string ⟨#[]⟩, .int .i64 0, .int .i64 0] 58)).alloc (.cells #[.string opnB, .int .i64 0, .int .i64 0] 58))).cell? ⟨R.r, 1, none⟩ = some (.map (some R.rp)) := by rw [cell_of_row _ _ 1 _ _ _ (hR.below hbl).blk]; rfl
    have hv2 := hv
    obtain ⟨a, q, c, rfl, hc0, hc1, hlt, hcell⟩ := hv2
    have i0' := hcell 0 (by simp [flat])
    rw [show wdK (flat (.l ts)) 0 = opnB from rfl, Nat.add_zero] at i0'
    have i0 : (w.alloc (.cells #[.string ⟨#[]⟩, .int .i64 0, .int .i64 0] 58)).cell? ⟨a, q, none⟩ = some (.string opnB) := cell_belowT i0' ((Below.refl _ w).alloc (Nat.le_refl _) _)
    have hfl : (flat (.l ts)).length = (flats ts).length + 2 := by simp [flat]
    have hgt : (1 : Int) < (((flats ts).length + 2 : Nat) : Int) := by omega
    have hcc : (1 : Int) ≤ c := by omega
    rw [hfl] at HBc ⊢
    generalize (flats ts).length = m at *
    clear h1 h2 hbl hsz hR hv hcell hok hB hfl hc0 hv1 i0' hlt
    go_enter Tryz.func107, Tryz.ntmps107
    go_wp2_with fail
    refine HBc.out.mono ?_
    rintro e w2 ⟨hb, hx⟩
    cases hbe : becP (.l ts) with
    | none =>
      rw [hbe] at hx
      have hx : e = tlackP := hx
      subst hx
      exact ⟨rfl, HB.out.trans (hb.mono HB.out.size), by show ParamP _ _ ((becP (.l ts)).bind chkP) _; rw [hbe]; rfl⟩
    | some x =>
    rw [hbe] at hx
    obtain ⟨cs, rfl, hel⟩ := hx
    obtain ⟨xn, xk, xl⟩ := x
    obtain ⟨rfl, hpw⟩ := hel
    have HPw := Lib.hid hpw
    have HPE := Lib.hid (show pP (.l ts) = chkP (xn, xk, xl) from by show (becP (.l ts)).bind chkP = _; rw [hbe]; rfl)
    have hg1 := (hb.block _ (Array.getElem?_eq_some_iff.1 HX.out.1).1).trans HX.out.1
    have hg2 := (hb.block _ (Array.getElem?_eq_some_iff.1 HX.out.2).1).trans HX.out.2
    have HB2 := Lib.hid (HB.out.trans (hb.mono HB.out.size))
    have HG := Lib.hid (show (((w2.setCell ⟨w.heap.size + 1, 0, none⟩ (.string xn)).setCell ⟨w.heap.size + 1, 1, none⟩ (.int .i64 xk)).setCell ⟨w.heap.size + 1, 2, none⟩ (.int .i64 xl)).heap[w.heap.size]? = some (.cells #[.string ⟨#[]⟩, .int .i64 0, .int .i64 0] 58) ∧ (((w2.setCell ⟨w.heap.size + 1, 0, none⟩ (.string xn)).setCell ⟨w.heap.size + 1, 1, none⟩ (.int .i64 xk)).setCell ⟨w.heap.size + 1, 2, none⟩ (.int .i64 xl)).heap[w.heap.size + 1]? = some (.cells #[.string xn, .int .i64 xk, .int .i64 xl] 58) from ⟨by rw [sfill3_off (by omega)]; exact hg1, sfill3 hg2 _ _ _⟩)
    have HBs := Lib.hid (bset3 (b := w.heap.size + 1) HB2.out (by omega) (.string xn) (.int .i64 xk) (.int .i64 xl))
    have y0 := cell_of_row w2 _ 0 _ _ _ hg2
    have y1 := cell_of_row w2 _ 1 _ _ _ hg2
    have y2 := cell_of_row w2 _ 2 _ _ _ hg2
    simp only [List.getElem?_toArray, List.getElem?_cons_zero, List.getElem?_cons_succ] at y0 y1 y2
    have f0 := frozen_of_row w2 _ 0 _ _ hg2
    have f1 := frozen_of_row w2 _ 1 _ _ hg2
    have f2 := frozen_of_row w2 _ 2 _ _ hg2
    clear hb hg1 hg2 hpw hbe
    have HM := Lib.hid (mayParam_any (xn, xk, xl) (((w2.setCell ⟨w.heap.size + 1, 0, none⟩ (.string xn)).setCell ⟨w.heap.size + 1, 1, none⟩ (.int .i64 xk)).setCell ⟨w.heap.size + 1, 2, none⟩ (.int .i64 xl)))
    go_wp2_with fail
    refine HM.out.mono ?_
    rintro e w4 ⟨rfl, hb4⟩
    have hg1 := (hb4.block w.heap.size (Array.getElem?_eq_some_iff.1 HG.out.1).1).trans HG.out.1
    have hg2 := (hb4.block _ (Array.getElem?_eq_some_iff.1 HG.out.2).1).trans HG.out.2
    have HX4 := Lib.hid hg1
    have HB4 := Lib.hid (HBs.out.trans (hb4.mono HBs.out.size))
    cases hx : mparB (xn, xk, xl) with
    | false =>
      have HN := Lib.hid (show pP (.l ts) = none from HPE.out.trans (by unfold chkP; rw [if_neg (by rw [hx]; simp)]))
      clear hb4 hg1 hg2 hx
      go_wp2_with fail
      refine (twant_no _).mono ?_
      rintro e w5 ⟨rfl, rfl⟩
      exact ⟨rfl, HB4.out, by rw [HN.out]; rfl⟩
    | true =>
      have HN := Lib.hid (show pP (.l ts) = some (xn, xk, xl) from HPE.out.trans (by unfold chkP; rw [if_pos hx]))
      have z0 := cell_of_row w4 _ 0 _ _ _ hg1
      have z1 := cell_of_row w4 _ 1 _ _ _ hg1
      have z2 := cell_of_row w4 _ 2 _ _ _ hg1
      have x0 := cell_of_row w4 _ 0 _ _ _ hg2
      have x1 := cell_of_row w4 _ 1 _ _ _ hg2
      have x2 := cell_of_row w4 _ 2 _ _ _ hg2
      simp only [List.getElem?_toArray, List.getElem?_cons_zero, List.getElem?_cons_succ] at z0 z1 z2 x0 x1 x2
      have q0 := frozen_of_row w4 _ 0 _ _ hg1
      have q1 := frozen_of_row w4 _ 1 _ _ hg1
      have q2 := frozen_of_row w4 _ 2 _ _ hg1
      clear hb4 hg1 hg2 hx
      go_wp2_with fail
      refine (twant_yes _).mono ?_
      rintro e w5 ⟨rfl, rfl⟩
      go_wp2
      refine bodyPost_ret (v := .agg #[.string xn, .int .i64 xk, .int .i64 xl]) (res_cell3 (j := 4) (b := w.heap.size) rfl rfl (sfill3 HX4.out _ _ _)) rfl ⟨bset3 HB4.out (Nat.le_refl _) _ _ _, ?_⟩
      rw [HN.out]
      exact ⟨_, rfl, rfl, HPw.out⟩
end Go.Proofs.YtbhdbglhejibbaaGreatDoor
namespace Go.Proofs.YtbhdbglhejibbaaGreatDoor
set_option maxRecDepth 100000
open Go.RowKit
set_option linter.unusedVariables false
def nmF (named : Bool) (ts : List TokD) : Option (ByteArray × List TokD) := if named = true then wdF ts else some (⟨#[]⟩, ts)
def cntF (counted : Bool) (ts : List TokD) : Option (Int × List TokD) := if counted = true then cnF ts else some (0, ts)
def argF : Nat → List TokD → Option (List ExprD × List TokD)
  | 0, ts => some ([], ts)
  | m + 1, ts => match ts with
    | [] => none
    | t :: us => match pE t with
      | none => none
      | some x => (argF m us).map fun y => (x :: y.1, y.2)
def lstF (l : Int) (ts : List TokD) : Option ((List StmtD × List StmtD) × List TokD) :=
  if l = 1 then (allO (ts.map pSt)).map fun x => ((x, []), [])
  else if l = 2 then (match ts with
    | t1 :: t2 :: rest => match (pS t1).2, (pS t2).2 with
      | some a, some b => some ((a, b), rest)
      | _, _ => none
    | _ => none)
  else some (([], []), ts)
def rdQ (k : Nat) (ts : List TokD) : Option (StmtD × List TokD) :=
  match nmF (stmR k).2.1 ts with
  | none => none
  | some a => match cntF (stmR k).2.2.1 a.2 with
    | none => none
    | some b => match argF (stmR k).2.2.2.1.toNat b.2 with
      | none => none
      | some c => match lstF (stmR k).2.2.2.2 c.2 with
        | none => none
        | some d => some (.mk k a.1 b.1 c.1 d.1.1 d.1.2, d.2)
theorem rdName_eq (b : Bool) (ts : List TokD) : rdName b ts (ts.map pS) = (nmF b ts).map fun a => (a.1, a.2, a.2.map pS) := by
  unfold rdName nmF
  cases b
  · rfl
  · rw [if_pos rfl, if_pos rfl]
    cases hw : wdF ts with
    | none => rfl
    | some x =>
      obtain ⟨s, us⟩ := x
      rw [wdF_some hw]; rfl
theorem rdCount_eq (b : Bool) (ts : List TokD) : rdCount b ts (ts.map pS) = (cntF b ts).map fun a => (a.1, a.2, a.2.map pS) := by
  unfold rdCount cntF
  cases b
  · rfl
  · rw [if_pos rfl, if_pos rfl]
    cases hw : cnF ts with
    | none => rfl
    | some x =>
      obtain ⟨n, us⟩ := x
      obtain ⟨s, h, _⟩ := cnF_some hw
      rw [wdF_some h]; rfl
theorem rdArgs_eq : ∀ (m : Nat) (ts : List TokD), rdArgs m ts (ts.map pS) = (argF m ts).map fun a => (a.1, a.2, a.2.map pS)
  | 0, ts => rfl
  | m + 1, [] => rfl
  | m + 1, t :: us => by
    unfold rdArgs argF
    simp only
    cases pE t with
    | none => rfl
    | some x =>
      simp only [List.map_cons, List.drop_succ_cons, List.drop_zero]
      rw [rdArgs_eq m us]
      cases argF m us <;> rfl
theorem rdLists_eq (l : Int) (ts : List TokD) : rdLists l (ts.map pS) = (lstF l ts).map fun a => (a.1.1, a.1.2, a.2.map pS) := by
  unfold rdLists lstF
  by_cases h1 : l = 1
  · rw [if_pos h1, if_pos h1, List.map_map]
    show (allO (ts.map pSt)).map _ = _
    cases allO (ts.map pSt) <;> rfl
  · rw [if_neg h1, if_neg h1]
    by_cases h2 : l = 2
    · rw [if_pos h2, if_pos h2]
      match ts with
      | [] => rfl
      | [t] => rfl
      | t1 :: t2 :: rest =>
        simp only [List.map_cons]
        cases (pS t1).2 <;> cases (pS t2).2 <;> rfl
    · rw [if_neg h2, if_neg h2]; rfl
theorem rdS_eq (k : Nat) (ts : List TokD) : rdS k ts (ts.map pS) = (rdQ k ts).bind fun z => if z.2 = [] then some z.1 else none := by
  unfold rdS rdQ
  rw [rdName_eq]
  cases nmF (stmR k).2.1 ts with
  | none => rfl
  | some a =>
    simp only [Option.map_some]
    rw [rdCount_eq]
    cases cntF (stmR k).2.2.1 a.2 with
    | none => rfl
    | some b =>
      simp only [Option.map_some]
      rw [rdArgs_eq]
      cases argF (stmR k).2.2.2.1.toNat b.2 with
      | none => rfl
      | some c =>
        simp only [Option.map_some]
        rw [rdLists_eq]
        cases lstF (stmR k).2.2.2.2 c.2 with
        | none => rfl
        | some d =>
          simp only [Option.map_some, Option.bind_some]
          by_cases hd : d.2 = []
          · rw [if_pos hd, if_pos (by rw [hd]; rfl)]
          · rw [if_neg hd, if_neg (by simpa using hd)]
/-- one argument more -/
theorem argF_snoc : ∀ (m : Nat) (ts us : List TokD) (xs : List ExprD), argF m ts = some (xs, us) → argF (m + 1) ts = match us with
    | [] => none
    | t :: vs => match pE t with
      | none => none
      | some x => some (xs ++ [x], vs)
  | 0, ts, us, xs, h => by
    simp only [argF, Option.some.injEq, Prod.mk.injEq] at h
    obtain ⟨rfl, rfl⟩ := h
    match ts with
    | [] => rfl
    | t :: vs =>
      simp only [argF]
      cases pE t <;> rfl
  | m + 1, [], us, xs, h => by simp [argF] at h
  | m + 1, t :: ts, us, xs, h => by
    unfold argF at h ⊢
    simp only at h ⊢
    cases hp : pE t with
    | none => rw [hp] at h; cases h
    | some x =>
      rw [hp] at h
      simp only at h ⊢
      cases ha : argF m ts with
      | none => rw [ha] at h; cases h
      | some y =>
        rw [ha] at h
        obtain ⟨ys, vs⟩ := y
        simp only [Option.map_some, Option.some.injEq, Prod.mk.injEq] at h
        obtain ⟨rfl, rfl⟩ := h
        rw [argF_snoc m ts vs ys ha]
        match vs with
        | [] => rfl
        | v :: vs' =>
          simp only
          cases pE v <;> rfl
theorem argF_stop : ∀ (m j : Nat) (ts : List TokD), argF m ts = none → argF (m + j) ts = none
  | 0, j, ts, h => by simp [argF] at h
  | m + 1, j, [], h => by rw [show m + 1 + j = (m + j) + 1 by omega]; rfl
  | m + 1, j, t :: ts, h => by
    rw [show m + 1 + j = (m + j) + 1 by omega]
    unfold argF at h ⊢
    simp only at h ⊢
    cases hp : pE t with
    | none => rfl
    | some x =>
      rw [hp] at h
      simp only at h ⊢
      have : argF m ts = none := by
        cases ha : argF m ts with
        | none => rfl
        | some y => rw [ha] at h; cases h
      rw [argF_stop m j ts this]; rfl
end Go.Proofs.YtbhdbglhejibbaaGreatDoor
namespace Go.Proofs.YtbhdbglhejibbaaGreatDoor
set_option maxRecDepth 100000
open Go.RowKit
set_option linter.unusedVariables false
def BlockP (B : Nat) (w' : World) (r : Option (List StmtD)) (e : Ending) : Prop := match r with
  | none => e = tlackP
  | some xs => ∃ v, e = .returned v ∧ LsS B w' xs v
def RdBk (R : RdC) (t : TokD) : Prop := TokOk t → TokB t → ∀ (w : World) (v : Value), RdIs R w → ItemV w t v →
  Calls Tryz.prog 88 #[.pointer (some ⟨R.r, 0, none⟩), v] w fun e w' => Below w.heap.size w w' ∧ BlockP w.heap.size w' (pS t).2 e
theorem LsS.base {B B' : Nat} {w : World} {xs : List StmtD} {v : Value} (h : LsS B w xs v) (hb : B' ≤ B) : LsS B' w xs v := by
  obtain ⟨A, c, h1, h2, h3, h4, h5⟩ := h
  exact ⟨A, c, h1, h2, h3, h4.move (fun b hb' => ⟨Nat.le_trans hb hb'.1, hb'.2⟩) (fun b _ => rfl), h5⟩
theorem block_no (R : RdC) (s : ByteArray) : RdBk R (.w s) := by
  intro hok hB w v hR hv
  have HI := Lib.hid (inside_no s v w hv)
  obtain ⟨a, q, c, rfl, _⟩ := hv
  have HE := Lib.hid (pS_w s)
  clear hR hok hB
  go_enter Tryz.func88, Tryz.ntmps88
  go_wp2_with fail
  refine HI.out.mono ?_
  rintro e w2 ⟨rfl, rfl⟩
  exact ⟨rfl, Below.refl _ _, by rw [HE.out]; rfl⟩
theorem block_yes (R : RdC) (ts : List TokD) (ih : ∀ t ∈ ts, RdSt R t) : RdBk R (.l ts) := by
  intro hok hB w v hR hv
  have hmf : ∀ (fn : Fn) (first cap : Array Value) (w : World), (Instr.makeFunc fn first cap).run Tryz.prog w = .ok (.func fn first cap) w := fun _ _ _ _ => rfl
  have HI := Lib.hid (inside_yes ts v hok hB w hv)
  have HR := Lib.hid hR
  have HL := Lib.hid ih
  have HE := Lib.hid (pS_b ts)
  obtain ⟨a, q, c, rfl, _⟩ := hv
  clear hR hok hB ih
  go_enter Tryz.func88, Tryz.ntmps88
  go_wp2_with fail
  refine HI.out.mono ?_
  rintro e w2 ⟨p, rfl, hp, hpt, hb⟩
  have HLs := Lib.hid (listS_of R ts HL.out p w2 (HR.out.below hb) (Nat.le_trans HR.out.top hp) hpt)
  have HB := Lib.hid (And.intro hb hp)
  clear hb hpt hp
  go_wp2_with fail
  refine HLs.out.mono ?_
  rintro e w3 ⟨hO, h3⟩
  have HB3 := Lib.hid (HB.out.1.trans (But.low hO HB.out.2 HB.out.1.size))
  have HO := Lib.hid (show w.heap.size ≤ w2.heap.size from HB.out.1.size)
  cases hr : allO (ts.map pSt) with
  | none =>
    rw [hr] at h3
    have h3 : e = tlackP := h3
    subst h3
    exact ⟨rfl, HB3.out, by rw [HE.out]; show BlockP _ _ (allO (ts.map pSt)) _; rw [hr]; rfl⟩
  | some xs =>
    rw [hr] at h3
    obtain ⟨v, rfl, hls, _⟩ := h3
    have HLv := Lib.hid (hls.base HO.out)
    have HR2 := Lib.hid (show (pS (.l ts)).2 = some xs from HE.out.trans hr)
    clear hO hls hr
    go_wp2
    go_ret
    exact ⟨HB3.out, by rw [HR2.out]; exact ⟨_, rfl, HLv.out⟩⟩
/-- where the reading of a statement stands -/
structure StE (w : World) (r k p : Nat) (ts : List TokD) (nm : ByteArray) (n : Int) (xs : List ExprD) (w' : World) : Prop where
  but : But p w w'
  plt : p < w.heap.size
  box : w'.heap[w.heap.size]? = some (.cells #[.pointer (some ⟨r, 0, none⟩), .int .i64 k, .string (stmW k), .bool (stmR k).2.1, .bool (stmR k).2.2.1, .int .i64 (stmR k).2.2.2.1, .int .i64 (stmR k).2.2.2.2] 114 (0, 0))
  res : w'.heap[w.heap.size + 1]? = some (.cells #[.int .i64 0, .string ⟨#[]⟩, .int .i64 0, .slice none 0 0, .slice none 0 0, .slice none 0 0] 45 (0, 0))
  row : ∃ A c css, w'.heap[w.heap.size + 1 + 1]? = some (.cells #[.int .i64 k, .string nm, .int .i64 n, .slice A xs.length c, .slice none 0 0, .slice none 0 0] 45 (0, 0)) ∧ RowG ElE 42 4 w' (w.heap.size + 1 + 1 + 1) (.slice A xs.length c) xs css
  parts : PtAt w' p ts
/-- a part is taken, and what it is read as lies above all -/
theorem StE.step {w w1 w2 : World} {r k p : Nat} {ts us : List TokD} {nm : ByteArray} {n : Int} {xs : List ExprD} (h : StE w r k p ts nm n xs w1) (hO : But p w1 w2) (hp : PtAt w2 p us) : StE w r k p us nm n xs w2 where
  but := h.but.trans hO
  plt := h.plt
  box := (hO.block _ (Array.getElem?_eq_some_iff.1 h.box).1 (by have := h.plt; omega)).trans h.box
  res := (hO.block _ (Array.getElem?_eq_some_iff.1 h.res).1 (by have := h.plt; omega)).trans h.res
  row := by
    obtain ⟨A, c, css, h1, h2⟩ := h.row
    exact ⟨A, c, css, (hO.block _ (Array.getElem?_eq_some_iff.1 h1).1 (by have := h.plt; omega)).trans h1, h2.but elE_ok hO (by have := h.plt; omega)⟩
  parts := hp
theorem StE.below {w w1 w2 : World} {r k p : Nat} {ts : List TokD} {nm : ByteArray} {n : Int} {xs : List ExprD} (h : StE w r k p ts nm n xs w1) (hb : Below w1.heap.size w1 w2) : StE w r k p ts nm n xs w2 := h.step (But.of_below hb) (h.parts.below hb)
theorem StE.name {w w1 : World} {r k p : Nat} {ts : List TokD} {nm s : ByteArray} {n : Int} (h : StE w r k p ts nm n [] w1) : StE w r k p ts s n [] (w1.setCell ⟨w.heap.size + 1 + 1, 1, none⟩ (.string s)) := by
  obtain ⟨A, c, css, h1, h2⟩ := h.row
  have hlt := h.plt
  have hk : ∀ b, b ≠ w.heap.size + 1 + 1 → (w1.setCell ⟨w.heap.size + 1 + 1, 1, none⟩ (.string s)).heap[b]? = w1.heap[b]? := fun b hb => heap_set_off hb
  refine ⟨But.set h.but (by omega), hlt, (hk _ (by omega)).trans h.box, (hk _ (by omega)).trans h.res, ⟨A, c, css, by rw [heap_setCell_same _ _ 1 _ _ _ h1]; rfl, ?_⟩, h.parts.keep fun b hb => hk b (by omega)⟩
  refine h2.move elE_ok ⟨h2.row.1, ?_⟩ (fun b hb _ => hk b (by omega))
  rcases h2.row.2 with h3 | ⟨g, cap, cur, q0, q1, q2, q3⟩
  · exact .inl h3
  · exact .inr ⟨g, cap, cur, q0, q1, (hk g (by omega)).trans q2, q3⟩
theorem StE.count {w w1 : World} {r k p : Nat} {ts : List TokD} {nm : ByteArray} {n m : Int} (h : StE w r k p ts nm n [] w1) : StE w r k p ts nm m [] (w1.setCell ⟨w.heap.size + 1 + 1, 2, none⟩ (.int .i64 m)) := by
  obtain ⟨A, c, css, h1, h2⟩ := h.row
  have hlt := h.plt
  have hk : ∀ b, b ≠ w.heap.size + 1 + 1 → (w1.setCell ⟨w.heap.size + 1 + 1, 2, none⟩ (.int .i64 m)).heap[b]? = w1.heap[b]? := fun b hb => heap_set_off hb
  refine ⟨But.set h.but (by omega), hlt, (hk _ (by omega)).trans h.box, (hk _ (by omega)).trans h.res, ⟨A, c, css, by rw [heap_setCell_same _ _ 2 _ _ _ h1]; rfl, ?_⟩, h.parts.keep fun b hb => hk b (by omega)⟩
  refine h2.move elE_ok ⟨h2.row.1, ?_⟩ (fun b hb _ => hk b (by omega))
  rcases h2.row.2 with h3 | ⟨g, cap, cur, q0, q1, q2, q3⟩
  · exact .inl h3
  · exact .inr ⟨g, cap, cur, q0, q1, (hk g (by omega)).trans q2, q3⟩
/-- an argument is put behind, and the slice stored -/
theorem StE.push {w w4 w5 : World} {r k p : Nat} {ts : List TokD} {nm : ByteArray} {n : Int} {xs : List ExprD} {A A5 : Option Addr} {c c5 : Nat} {css : List (List Value)} {x : ExprD} {cs : List Value} (h : StE w r k p ts nm n xs w4)
    (hg2 : w4.heap[w.heap.size + 1 + 1]? = some (.cells #[.int .i64 k, .string nm, .int .i64 n, .slice A xs.length c, .slice none 0 0, .slice none 0 0] 45 (0, 0))) (hG : RowG ElE 42 4 w4 (w.heap.size + 1 + 1 + 1) (.slice A xs.length c) xs css)
    (hx : ElE w4 (RowS (w.heap.size + 1 + 1 + 1) w4 (.slice A xs.length c)) x cs) (hr : w5.ownsRow (w.heap.size + 1 + 1 + 1) 42 4 (.slice A5 (xs.length + 1) c5) (xs.length + 1) (css.flatten ++ cs)) (hg : w4.grownBy w5 (Value.slice A xs.length c).ownBlock) (hv : (Value.slice A5 (xs.length + 1) c5).ownBlock = (Value.slice A xs.length c).ownBlock ∨ (Value.slice A5 (xs.length + 1) c5).ownBlock = some w4.heap.size) :
    StE w r k p ts nm n (xs ++ [x]) (w5.setCell ⟨w.heap.size + 1 + 1, 3, none⟩ (.slice A5 (xs.length + 1) c5)) := by
  have hlt := h.plt
  have hob : ∀ g, (Value.slice A xs.length c).ownBlock = some g → w.heap.size + 1 + 1 + 1 ≤ g := fun g e => (ownO_lt hG.row e).2.1
  have hk5 : ∀ b, b ≤ w.heap.size + 1 + 1 → w5.heap[b]? = w4.heap[b]? := fun b hb => hg.block b (by have := (Array.getElem?_eq_some_iff.1 hg2).1; omega) (fun e => by have := hob b e.symm; omega)
  have hP := hG.push elE_ok hx hr hg hv
  have hk : ∀ b, b ≠ w.heap.size + 1 + 1 → (w5.setCell ⟨w.heap.size + 1 + 1, 3, none⟩ (.slice A5 (xs.length + 1) c5)).heap[b]? = w5.heap[b]? := fun b hb => heap_set_off hb
  have hg25 := (hk5 _ (Nat.le_refl _)).trans hg2
  refine ⟨But.set (But.grown h.but hg (fun g e => by have := hob g e; omega)) (by omega), hlt, (hk _ (by omega)).trans ((hk5 _ (by omega)).trans h.box), (hk _ (by omega)).trans ((hk5 _ (by omega)).trans h.res), ⟨A5, c5, css ++ [cs], ?_, ?_⟩, h.parts.keep fun b hb => (hk b (by omega)).trans (hk5 b (by omega))⟩
  · rw [heap_setCell_same _ _ 3 _ _ _ hg25, List.length_append]; rfl
  · rw [List.length_append]
    refine hP.move elE_ok ⟨hP.row.1, ?_⟩ (fun b hb _ => hk b (by omega))
    rcases hP.row.2 with h3 | ⟨g, cap, cur, q0, q1, q2, q3⟩
    · exact .inl h3
    · exact .inr ⟨g, cap, cur, q0, q1, (hk g (by omega)).trans q2, q3⟩
theorem argF_mem : ∀ {m : Nat} {ts us : List TokD} {xs : List ExprD}, argF m ts = some (xs, us) → ∀ t ∈ us, t ∈ ts
  | 0, ts, us, xs, h, t, ht => by
    simp only [argF, Option.some.injEq, Prod.mk.injEq] at h
    obtain ⟨_, rfl⟩ := h
    exact ht
  | m + 1, [], us, xs, h, t, ht => by simp [argF] at h
  | m + 1, u :: ts, us, xs, h, t, ht => by
    unfold argF at h
    simp only at h
    cases hp : pE u with
    | none => rw [hp] at h; cases h
    | some x =>
      rw [hp] at h
      simp only at h
      cases ha : argF m ts with
      | none => rw [ha] at h; cases h
      | some y =>
        rw [ha] at h
        obtain ⟨ys, vs⟩ := y
        simp only [Option.map_some, Option.some.injEq, Prod.mk.injEq] at h
        obtain ⟨rfl, rfl⟩ := h
        have := argF_mem ha t ht
        simp [this]
theorem argF_len : ∀ {m : Nat} {ts us : List TokD} {xs : List ExprD}, argF m ts = some (xs, us) → xs.length = m
  | 0, ts, us, xs, h => by
    simp only [argF, Option.some.injEq, Prod.mk.injEq] at h
    obtain ⟨rfl, _⟩ := h
    rfl
  | m + 1, [], us, xs, h => by simp [argF] at h
  | m + 1, u :: ts, us, xs, h => by
    unfold argF at h
    simp only at h
    cases hp : pE u with
    | none => rw [hp] at h; cases h
    | some x =>
      rw [hp] at h
      simp only at h
      cases ha : argF m ts with
      | none => rw [ha] at h; cases h
      | some y =>
        rw [ha] at h
        obtain ⟨ys, vs⟩ := y
        simp only [Option.map_some, Option.some.injEq, Prod.mk.injEq] at h
        obtain ⟨rfl, rfl⟩ := h
        rw [List.length_cons, argF_len ha]
theorem elE_shape {w : World} {S : Nat → Prop} {x : ExprD} {cs : List Value} (h : ElE w S x cs) : ∃ k n s A m c, cs = [.int .i64 k, .int .u64 n, .string s, .slice A m c] := by
  obtain ⟨kx, nx, sx, ax⟩ := x
  obtain ⟨A', c', e1, _⟩ := h
  exact ⟨_, _, _, _, _, _, e1⟩
theorem elE_above {w2 w3 w4 : World} {B n c : Nat} {A : Option Addr} {xs : List ExprD} {css : List (List Value)} {x : ExprD} {cs : List Value} (hel : ElE w3 (NewS w2.heap.size w3) x cs) (hbx : Below w3.heap.size w3 w4) (hG : RowG ElE 42 4 w2 B (.slice A n c) xs css) (hB : B ≤ w2.heap.size) : ElE w4 (RowS B w4 (.slice A n c)) x cs :=
  elE_ok.move hel (fun b hb => ⟨by have := hb.1; omega, hb.2.move (hbx.block b hb.2.lt), fun e => by
    have h8 := (ownO_lt hG.row e.symm).1
    have := hb.1
    omega⟩) (fun b hb => hbx.block b hb.2.lt)
/-- where the reading of a statement stands, behind its arguments -/
structure FinS (w : World) (r k p : Nat) (ts : List TokD) (nm : ByteArray) (n : Int) (xs : List ExprD) (one two : List StmtD) (w' : World) : Prop where
  but : But p w w'
  plt : p < w.heap.size
  box : w'.heap[w.heap.size]? = some (.cells #[.pointer (some ⟨r, 0, none⟩), .int .i64 k, .string (stmW k), .bool (stmR k).2.1, .bool (stmR k).2.2.1, .int .i64 (stmR k).2.2.2.1, .int .i64 (stmR k).2.2.2.2] 114 (0, 0))
  res : w'.heap[w.heap.size + 1]? = some (.cells #[.int .i64 0, .string ⟨#[]⟩, .int .i64 0, .slice none 0 0, .slice none 0 0, .slice none 0 0] 45 (0, 0))
  row : ∃ A1 c1 A2 c2 A3 c3, w'.heap[w.heap.size + 1 + 1]? = some (.cells #[.int .i64 k, .string nm, .int .i64 n, .slice A1 xs.length c1, .slice A2 one.length c2, .slice A3 two.length c3] 45 (0, 0)) ∧ LsE (w.heap.size + 1 + 1 + 1) w' xs (.slice A1 xs.length c1) ∧ LsS (w.heap.size + 1 + 1 + 1) w' one (.slice A2 one.length c2) ∧ LsS (w.heap.size + 1 + 1 + 1) w' two (.slice A3 two.length c3)
  parts : PtAt w' p ts
theorem LsS.nil {B : Nat} {w : World} {A : Option Addr} : LsS B w [] (.slice A 0 0) := ⟨A, 0, rfl, Nat.le_refl _, Nat.zero_le _, .inl rfl, trivial⟩
theorem StE.fin {w w1 : World} {r k p : Nat} {ts : List TokD} {nm : ByteArray} {n : Int} {xs : List ExprD} (h : StE w r k p ts nm n xs w1) : FinS w r k p ts nm n xs [] [] w1 := by
  obtain ⟨A, c, css, h1, h2⟩ := h.row
  exact ⟨h.but, h.plt, h.box, h.res, ⟨A, c, none, 0, none, 0, h1, h2.lsE, LsS.nil, LsS.nil⟩, h.parts⟩
theorem LsE.keep {B : Nat} {w w' : World} {xs : List ExprD} {v : Value} (h : LsE B w xs v) (hk : ∀ b, B ≤ b → b < w.heap.size → w'.heap[b]? = w.heap[b]?) : LsE B w' xs v := by
  obtain ⟨A, c, h1, h2, h3, h4, h5⟩ := h
  exact ⟨A, c, h1, h2, h3, h4.move (fun b hb => ⟨hb.1, hb.2.move (hk b hb.1 hb.2.lt)⟩) (fun b hb => hk b hb.1 hb.2.lt), h5⟩
theorem LsS.keep {B : Nat} {w w' : World} {xs : List StmtD} {v : Value} (h : LsS B w xs v) (hk : ∀ b, B ≤ b → b < w.heap.size → w'.heap[b]? = w.heap[b]?) : LsS B w' xs v := by
  obtain ⟨A, c, h1, h2, h3, h4, h5⟩ := h
  exact ⟨A, c, h1, h2, h3, h4.move (fun b hb => ⟨hb.1, hb.2.move (hk b hb.1 hb.2.lt)⟩) (fun b hb => hk b hb.1 hb.2.lt), h5⟩
theorem FinS.step {w w1 w2 : World} {r k p : Nat} {ts us : List TokD} {nm : ByteArray} {n : Int} {xs : List ExprD} {one two : List StmtD} (h : FinS w r k p ts nm n xs one two w1) (hO : But p w1 w2) (hp : PtAt w2 p us) : FinS w r k p us nm n xs one two w2 := by
  have hlt := h.plt
  obtain ⟨A1, c1, A2, c2, A3, c3, h1, h2, h3, h4⟩ := h.row
  have hk : ∀ b, w.heap.size ≤ b → b < w1.heap.size → w2.heap[b]? = w1.heap[b]? := fun b hb hb2 => hO.block b hb2 (by omega)
  exact ⟨h.but.trans hO, hlt, (hk _ (Nat.le_refl _) (Array.getElem?_eq_some_iff.1 h.box).1).trans h.box, (hk _ (by omega) (Array.getElem?_eq_some_iff.1 h.res).1).trans h.res, ⟨A1, c1, A2, c2, A3, c3, (hk _ (by omega) (Array.getElem?_eq_some_iff.1 h1).1).trans h1, h2.keep (fun b hb => hk b (by omega)), h3.keep (fun b hb => hk b (by omega)), h4.keep (fun b hb => hk b (by omega))⟩, hp⟩
theorem FinS.below {w w1 w2 : World} {r k p : Nat} {ts : List TokD} {nm : ByteArray} {n : Int} {xs : List ExprD} {one two : List StmtD} (h : FinS w r k p ts nm n xs one two w1) (hb : Below w1.heap.size w1 w2) : FinS w r k p ts nm n xs one two w2 := h.step (But.of_below hb) (h.parts.below hb)
theorem FinS.set1 {w w1 : World} {r k p : Nat} {ts : List TokD} {nm : ByteArray} {n : Int} {xs : List ExprD} {one two ys : List StmtD} {A : Option Addr} {c : Nat} (h : FinS w r k p ts nm n xs one two w1) (hy : LsS (w.heap.size + 1 + 1 + 1) w1 ys (.slice A ys.length c)) : FinS w r k p ts nm n xs ys two (w1.setCell ⟨w.heap.size + 1 + 1, 4, none⟩ (.slice A ys.length c)) := by
  have hlt := h.plt
  obtain ⟨A1, c1, A2, c2, A3, c3, h1, h2, h3, h4⟩ := h.row
  have hk : ∀ b, b ≠ w.heap.size + 1 + 1 → (w1.setCell ⟨w.heap.size + 1 + 1, 4, none⟩ (.slice A ys.length c)).heap[b]? = w1.heap[b]? := fun b hb => heap_set_off hb
  exact ⟨But.set h.but (by omega), hlt, (hk _ (by omega)).trans h.box, (hk _ (by omega)).trans h.res, ⟨A1, c1, A, c, A3, c3, by rw [heap_setCell_same _ _ 4 _ _ _ h1]; rfl, h2.keep (fun b hb _ => hk b (by omega)), hy.keep (fun b hb _ => hk b (by omega)), h4.keep (fun b hb _ => hk b (by omega))⟩, h.parts.keep fun b hb => hk b (by omega)⟩
theorem FinS.set2 {w w1 : World} {r k p : Nat} {ts : List TokD} {nm : ByteArray} {n : Int} {xs : List ExprD} {one two ys : List StmtD} {A : Option Addr} {c : Nat} (h : FinS w r k p ts nm n xs one two w1) (hy : LsS (w.heap.size + 1 + 1 + 1) w1 ys (.slice A ys.length c)) : FinS w r k p ts nm n xs one ys (w1.setCell ⟨w.heap.size + 1 + 1, 5, none⟩ (.slice A ys.length c)) := by
  have hlt := h.plt
  obtain ⟨A1, c1, A2, c2, A3, c3, h1, h2, h3, h4⟩ := h.row
  have hk : ∀ b, b ≠ w.heap.size + 1 + 1 → (w1.setCell ⟨w.heap.size + 1 + 1, 5, none⟩ (.slice A ys.length c)).heap[b]? = w1.heap[b]? := fun b hb => heap_set_off hb
  exact ⟨But.set h.but (by omega), hlt, (hk _ (by omega)).trans h.box, (hk _ (by omega)).trans h.res, ⟨A1, c1, A2, c2, A, c, by rw [heap_setCell_same _ _ 5 _ _ _ h1]; rfl, h2.keep (fun b hb _ => hk b (by omega)), h3.keep (fun b hb _ => hk b (by omega)), hy.keep (fun b hb _ => hk b (by omega))⟩, h.parts.keep fun b hb => hk b (by omega)⟩
theorem sfill6 {W : World} {b : Nat} {a0 a1 a2 a3 a4 a5 : Value} {T : TypeId} (h : W.heap[b]? = some (.cells #[a0, a1, a2, a3, a4, a5] T (0, 0))) (v0 v1 v2 v3 v4 v5 : Value) :
    ((((((W.setCell ⟨b, 0, none⟩ v0).setCell ⟨b, 1, none⟩ v1).setCell ⟨b, 2, none⟩ v2).setCell ⟨b, 3, none⟩ v3).setCell ⟨b, 4, none⟩ v4).setCell ⟨b, 5, none⟩ v5).heap[b]? = some (.cells #[v0, v1, v2, v3, v4, v5] T (0, 0)) := by
  rw [heap_setCell_same _ b 5 _ _ _ (heap_setCell_same _ b 4 _ _ _ (heap_setCell_same _ b 3 _ _ _ (heap_setCell_same _ b 2 _ _ _ (heap_setCell_same _ b 1 _ _ _ (heap_setCell_same W b 0 _ _ _ h)))))]
  rfl
theorem sfill6_off {W : World} {b g : Nat} (h : b ≠ g) (v0 v1 v2 v3 v4 v5 : Value) : ((((((W.setCell ⟨g, 0, none⟩ v0).setCell ⟨g, 1, none⟩ v1).setCell ⟨g, 2, none⟩ v2).setCell ⟨g, 3, none⟩ v3).setCell ⟨g, 4, none⟩ v4).setCell ⟨g, 5, none⟩ v5).heap[b]? = W.heap[b]? := by
  rw [heap_set_off h, heap_set_off h, heap_set_off h, heap_set_off h, heap_set_off h, heap_set_off h]
theorem res_cell6 {fn : Func} {T : Array Value} {j b : Nat} {W : World} {v0 v1 v2 v3 v4 v5 : Value} {ty : TypeId} (hf : fn.results = #[.cell j 45]) (h2 : T[j]? = some (.pointer (some ⟨b, 0, none⟩))) (hr : W.heap[b]? = some (.cells #[v0, v1, v2, v3, v4, v5] ty (0, 0))) :
    (results fn T).run Tryz.prog W = .ok (.agg #[v0, v1, v2, v3, v4, v5]) W := by
  have y0 := cell_of_row W b 0 _ _ _ hr
  have y1 := cell_of_row W b 1 _ _ _ hr
  have y2 := cell_of_row W b 2 _ _ _ hr
  have y3 := cell_of_row W b 3 _ _ _ hr
  have y4 := cell_of_row W b 4 _ _ _ hr
  have y5 := cell_of_row W b 5 _ _ _ hr
  simp only [List.getElem?_toArray, List.getElem?_cons_zero, List.getElem?_cons_succ] at y0 y1 y2 y3 y4 y5
  simp [results, hf, go_sem, h2, y0, y1, y2, y3, y4, y5]
/-- behind its last store, a statement is read -/
theorem FinS.done {w w1 : World} {r k p : Nat} {ts : List TokD} {nm : ByteArray} {n : Int} {xs : List ExprD} {one two : List StmtD} {A1 A2 A3 : Option Addr} {c1 c2 c3 : Nat} (h : FinS w r k p ts nm n xs one two w1) (hk5 : k < 5) (hnm : nm.size ≤ 100000) (hn : fitsI n)
    (h1 : LsE (w.heap.size + 1 + 1 + 1) w1 xs (.slice A1 xs.length c1)) (h2 : LsS (w.heap.size + 1 + 1 + 1) w1 one (.slice A2 one.length c2)) (h3 : LsS (w.heap.size + 1 + 1 + 1) w1 two (.slice A3 two.length c3)) :
    ∃ F, ((((((w1.setCell ⟨w.heap.size + 1, 0, none⟩ (.int .i64 k)).setCell ⟨w.heap.size + 1, 1, none⟩ (.string nm)).setCell ⟨w.heap.size + 1, 2, none⟩ (.int .i64 n)).setCell ⟨w.heap.size + 1, 3, none⟩ (.slice A1 xs.length c1)).setCell ⟨w.heap.size + 1, 4, none⟩ (.slice A2 one.length c2)).setCell ⟨w.heap.size + 1, 5, none⟩ (.slice A3 two.length c3)) = F ∧
      F.heap[w.heap.size + 1]? = some (.cells #[.int .i64 k, .string nm, .int .i64 n, .slice A1 xs.length c1, .slice A2 one.length c2, .slice A3 two.length c3] 45 (0, 0)) ∧ But p w F ∧ ElS F (NewS w.heap.size F) (.mk k nm n xs one two) [.int .i64 k, .string nm, .int .i64 n, .slice A1 xs.length c1, .slice A2 one.length c2, .slice A3 two.length c3] ∧ PtAt F p ts := by
  have hlt := h.plt
  have hoff : ∀ b, b ≠ w.heap.size + 1 → ((((((w1.setCell ⟨w.heap.size + 1, 0, none⟩ (.int .i64 k)).setCell ⟨w.heap.size + 1, 1, none⟩ (.string nm)).setCell ⟨w.heap.size + 1, 2, none⟩ (.int .i64 n)).setCell ⟨w.heap.size + 1, 3, none⟩ (.slice A1 xs.length c1)).setCell ⟨w.heap.size + 1, 4, none⟩ (.slice A2 one.length c2)).setCell ⟨w.heap.size + 1, 5, none⟩ (.slice A3 two.length c3)).heap[b]? = w1.heap[b]? := fun b hb => sfill6_off hb _ _ _ _ _ _
  refine ⟨_, rfl, sfill6 h.res _ _ _ _ _ _, But.set (But.set (But.set (But.set (But.set (But.set h.but (by omega)) (by omega)) (by omega)) (by omega)) (by omega)) (by omega), ?_, h.parts.keep fun b hb => hoff b (by omega)⟩
  obtain ⟨_, _, e1, q1, r1, s1, t1⟩ := h1.keep (w' := _) (fun b hb _ => hoff b (by omega))
  obtain ⟨_, _, e2, q2, r2, s2, t2⟩ := h2.keep (w' := _) (fun b hb _ => hoff b (by omega))
  obtain ⟨_, _, e3, q3, r3, s3, t3⟩ := h3.keep (w' := _) (fun b hb _ => hoff b (by omega))
  simp only [Value.slice.injEq, true_and] at e1 e2 e3
  obtain ⟨rfl, rfl⟩ := e1
  obtain ⟨rfl, rfl⟩ := e2
  obtain ⟨rfl, rfl⟩ := e3
  refine ⟨A1, c1, A2, c2, A3, c3, rfl, ⟨q1, q2, q3⟩, s1.move (fun b hb => ⟨by have := hb.1; omega, hb.2⟩) (fun b _ => rfl), s2.move (fun b hb => ⟨by have := hb.1; omega, hb.2⟩) (fun b _ => rfl), s3.move (fun b hb => ⟨by have := hb.1; omega, hb.2⟩) (fun b _ => rfl), ?_⟩
  unfold StmtW fitsI
  exact ⟨by omega, by unfold maxLen; omega, hn, ⟨by omega, t1⟩, ⟨by omega, t2⟩, by omega, t3⟩
theorem quit_goal {P : Program} {G : Prop} (h : G) (_ : wpAny P Region.Mode.any #[] (fun _ _ _ => True) 0 #[] { tmps := #[], defers := [] } default) : G := h
end Go.Proofs.YtbhdbglhejibbaaGreatDoor
