/- Layer 6: the writer of package obj: numbers and names, put behind what is there. -/
import Derived.Test.YtfdpbogbnfkilaaDoorObjApp
import Derived.Test.YtfdpbogbnfkilaaDoorBitA
import Derived.Deep.QuietTactic
import Derived.Deep.RegionLaw
import Derived.Deep.RegionHeld3
import Derived.BigQuiet
import Derived.BigRegion
import Derived.RegionTactic
import Derived.StillTailTactics
import Derived.Maps.AppendAt
import Derived.WalkSpells
import Derived.IntWalk
namespace Go.Proofs.YtfdpbogbnfkilaaDoor
set_option maxRecDepth 100000
open Go.RowKit
set_option linter.unusedVariables false
/-- nothing outside F has turned -/
structure OutO (F : Nat → Prop) (w w' : World) : Prop where
  os : w'.os = w.os
  tape : w'.tape = w.tape
  output : w'.output = w.output
  size : w.heap.size ≤ w'.heap.size
  block : ∀ k, k < w.heap.size → ¬ F k → w'.heap[k]? = w.heap[k]?
section
variable {F : Nat → Prop} {w w1 w2 w' : World}
theorem OutO.refl (F : Nat → Prop) (w : World) : OutO F w w := ⟨rfl, rfl, rfl, Nat.le_refl _, fun _ _ _ => rfl⟩
theorem OutO.trans (h : OutO F w w1) (k : OutO F w1 w2) : OutO F w w2 :=
  ⟨k.os.trans h.os, k.tape.trans h.tape, k.output.trans h.output, Nat.le_trans h.size k.size, fun i hi hn => (k.block i (Nat.lt_of_lt_of_le hi h.size) hn).trans (h.block i hi hn)⟩
theorem OutO.of_below (h : Below w.heap.size w w') : OutO F w w' := ⟨h.os, h.tape, h.output, h.size, fun k hk _ => h.block k hk⟩
theorem OutO.of_grown {row : Option Nat} (h : w.grownBy w' row) (hF : ∀ g, row = some g → F g) : OutO F w w' :=
  ⟨h.os, h.tape, h.output, h.size, fun k hk hn => h.block k hk (fun e => hn (hF k e.symm))⟩
theorem OutO.to_below {B : Nat} (h : OutO (fun b => B ≤ b) w w') (hB : B ≤ w.heap.size) : Below B w w' :=
  ⟨h.os, h.tape, h.output, h.size, fun k hk => h.block k (Nat.lt_of_lt_of_le hk hB) (by omega)⟩
theorem grown_setO (w : World) (b o : Nat) (v : Value) : w.grownBy (w.setCell ⟨b, o, none⟩ v) (some b) :=
  ⟨rfl, rfl, rfl, by simp [World.setCell], fun k _ hne => heap_setCell_other w _ k v (fun e => hne (by rw [e]))⟩
theorem ownO_lt {base n s : Nat} {e : TypeId} {v : Value} {xs : List Value} (h : w.ownsRow base e s v n xs) {b : Nat} (hb : v.ownBlock = some b) : b < w.heap.size ∧ base ≤ b ∧ ∃ cur, w.heap[b]? = some (.cells cur e (0, 0)) := by
  rcases h.2 with ⟨rfl, _⟩ | ⟨g, cap, cur, rfl, hg, hc, _⟩
  · cases hb
  · cases hb; exact ⟨(Array.getElem?_eq_some_iff.1 hc).1, hg, cur, hc⟩
theorem rowO_kept {base n s : Nat} {e : TypeId} {v : Value} {xs : List Value} {row : Option Nat} (h : w.ownsRow base e s v n xs) (hg : w.grownBy w' row) (hne : ∀ b, v.ownBlock = some b → some b ≠ row) : w'.ownsRow base e s v n xs := by
  refine ⟨h.1, ?_⟩
  rcases h.2 with h | ⟨g, cap, cur, rfl, h1, h2, h3⟩
  · exact .inl h
  · exact .inr ⟨g, cap, cur, rfl, h1, by rw [hg.block g (Array.getElem?_eq_some_iff.1 h2).1 (hne g rfl)]; exact h2, h3⟩
theorem rowO_below {base n s : Nat} {e : TypeId} {v : Value} {xs : List Value} (h : w.ownsRow base e s v n xs) (hb : Below w.heap.size w w') : w'.ownsRow base e s v n xs :=
  rowO_kept (row := none) h ⟨hb.os, hb.tape, hb.output, hb.size, fun k hk _ => hb.block k hk⟩ (by simp)
end
/-- block p is a writer that has written l; what it may write is F -/
def WrV (w : World) (p : Nat) (F : Nat → Prop) (l : List Int) (v : Value) : Prop :=
  w.heap[p]? = some (.cells #[v] 81 (0, 0)) ∧ w.ownsRow (p + 1) 5 1 v l.length (l.map (Value.int .u8)) ∧ F p ∧ (∀ b, v.ownBlock = some b → F b) ∧ ∀ b, w.heap.size ≤ b → F b
def WrIs (w : World) (p : Nat) (F : Nat → Prop) (l : List Int) : Prop := ∃ v, WrV w p F l v
section
variable {w w1 w2 w' : World} {p : Nat} {F : Nat → Prop} {l : List Int} {v v' : Value}
theorem WrV.lt (h : WrV w p F l v) : p < w.heap.size := (Array.getElem?_eq_some_iff.1 h.1).1
theorem WrV.cell (h : WrV w p F l v) : w.cell? ⟨p, 0, none⟩ = some v := by rw [cell_of_row w p 0 _ _ _ h.1]; rfl
theorem WrV.free (h : WrV w p F l v) : w.frozen? ⟨p, 0, none⟩ = false := frozen_of_row w p 0 _ _ h.1
theorem WrV.below (h : WrV w p F l v) (hb : Below w.heap.size w w') : WrV w' p F l v :=
  ⟨by rw [hb.block p h.lt]; exact h.1, rowO_below h.2.1 hb, h.2.2.1, h.2.2.2.1, fun b h' => h.2.2.2.2 b (Nat.le_trans hb.size h')⟩
theorem WrIs.below (h : WrIs w p F l) (hb : Below w.heap.size w w') : WrIs w' p F l := by obtain ⟨v, h⟩ := h; exact ⟨v, h.below hb⟩
/-- more is put behind, and the slice stored -/
theorem WrV.more (h : WrV w p F l v) {m : List Int} {n : Nat} {xs : List Value} (hn : (l ++ m).length = n) (hx : xs = (l ++ m).map (Value.int .u8)) (hr : w2.ownsRow (p + 1) 5 1 v' n xs) (hg : w.grownBy w2 v.ownBlock) (hv : v'.ownBlock = v.ownBlock ∨ v'.ownBlock = some w.heap.size) :
    WrV (w2.setCell ⟨p, 0, none⟩ v') p F (l ++ m) v' ∧ OutO F w (w2.setCell ⟨p, 0, none⟩ v') := by
  subst hn hx
  have hp : w2.heap[p]? = some (.cells #[v] 81 (0, 0)) := by
    rw [hg.block p h.lt (fun e => by have := (ownO_lt h.2.1 e.symm).2.1; omega)]; exact h.1
  have g2 := grown_setO w2 p 0 v'
  refine ⟨⟨?_, rowO_kept hr g2 (fun b hb e => ?_), h.2.2.1, fun b hb => ?_, fun b hb => h.2.2.2.2 b ?_⟩, (OutO.of_grown hg (fun g e => h.2.2.2.1 g e)).trans (OutO.of_grown g2 (fun g e => by cases e; exact h.2.2.1))⟩
  · rw [heap_setCell_same w2 p 0 _ _ _ hp]; rfl
  · have := (ownO_lt hr hb).2.1; cases e; omega
  · rcases hv with e | e
    · rw [e] at hb; exact h.2.2.2.1 b hb
    · rw [e] at hb; cases hb; exact h.2.2.2.2 _ (Nat.le_refl _)
  · have := hg.size; have hb : w2.heap.size ≤ b := by simpa [World.setCell] using hb
    omega
end
theorem ownO_slice {w : World} {base n s : Nat} {e : TypeId} {v : Value} {xs : List Value} (h : w.ownsRow base e s v n xs) : ∃ A c, v = .slice A n c := by
  rcases h.2 with ⟨rfl, rfl⟩ | ⟨g, cap, _, rfl, _⟩
  · exact ⟨none, 0, rfl⟩
  · exact ⟨_, _, rfl⟩
theorem addO (b o j : Nat) : (⟨b, o, none⟩ : Addr).add j = ⟨b, o + j, none⟩ := by simp [Addr.add]
theorem wr_news {w : World} {b : Nat} {l : List Int} (h : Sl w (some ⟨b, 0, none⟩) l) : ∀ j u, (l.map (Value.int .u8))[j]? = some u → w.cell? ((⟨b, 0, none⟩ : Addr).add j) = some u := by
  intro j u hu
  have hj : j < l.length := by have := (List.getElem?_eq_some_iff.1 hu).1; simpa using this
  rcases h with h | ⟨b', off, e, hc⟩
  · rw [h] at hj; simp at hj
  · cases e
    rw [addO, hc j hj]
    rw [List.getElem?_map, List.getElem?_eq_getElem hj] at hu
    rw [nth_get hj]
    simpa using hu
theorem infoU8 : (Tryd.prog.info? 5).map (fun i => (i.zero, i.size, i.bytes)) = some (some (.int .u8 0), 1, 1) := by kernel_rfl
def WrP (w : World) (p : Nat) (F : Nat → Prop) (l : List Int) (e : Ending) (w' : World) : Prop := e = .returned (.tuple #[]) ∧ WrIs w' p F l ∧ OutO F w w'
/-- one row more, as an operation of a walk -/
theorem wpList_append_at6 {P : Program} {ops : Array Oper} {rest : List Oper} {o : Oper} {a : Act} {Q : Exit → Act → World → Prop} {w : World} (hgd : o.guard = none) (s x : Operand) (t : TypeId)
    (ho : o.op = .call { callee := .builtin .append, args := #[s, x], argTypes := #[t, t] })
    (base : Nat) (e : TypeId) (i : TypeInfo) (z : Value) (size bytes : Nat) (ht : P.underlying t = some (.slice e)) (hi : P.info? e = some i) (hz : i.zero = some z)
    (hsize : i.size = size) (hby : i.bytes = bytes) (hzs : z.cells.size = size) (hsz : 0 < size)
    (v : Value) (n : Nat) (xs : List Value) (hs : a.eval s = v) (hown : w.ownsRow base e size v n xs)
    (ad : Addr) (m c : Nat) (news : List Value) (hx : a.eval x = .slice (some ad) m c) (hl : news.length = m * size) (hnews : ∀ j u, news[j]? = some u → w.cell? (ad.add j) = some u) (h1 : ∀ u ∈ news, u.oneCell' = true)
    (h63 : n + m ≤ maxLen) (hbytes : (n + m) * bytes ≤ 140737488355328) (hbase : base ≤ w.heap.size)
    (h : ∀ v' w', w'.ownsRow base e size v' (n + m) (xs ++ news) → w.grownBy w' v.ownBlock → (v'.ownBlock = v.ownBlock ∨ v'.ownBlock = some w.heap.size) → wpList P ops Q rest (a.put o.dst v') w') : wpList P ops Q (o :: rest) a w := by
  refine wpList_plain hgd fun K' hK' => ?_
  obtain ⟨v', w', hr, h2, h3, h4, h5⟩ := run_append_own_at (P := P) w base t o.type e i z size bytes ht hi hz hsize hby hzs hsz v n xs hown ad m c news hl hnews h1 h63 hbytes hbase
  unfold Oper.wp execOp
  simp only [ho, resolve, invoke, builtin, Sem.run_bind, Sem.run_pure, Result.andThen_ok, List.map_toArray, List.map_cons, List.map_nil, hs, hx, hr]
  exact hK' _ _ (h v' w' h2 h3 h5)
/-- a string put behind, as an operation of a walk -/
theorem wpList_append_str {P : Program} {ops : Array Oper} {rest : List Oper} {o : Oper} {a : Act} {Q : Exit → Act → World → Prop} {w : World} (hgd : o.guard = none) (s x : Operand) (t u : TypeId)
    (ho : o.op = .call { callee := .builtin .append, args := #[s, x], argTypes := #[t, u] })
    (base : Nat) (e : TypeId) (i : TypeInfo) (z : Value) (bytes : Nat) (ht : P.underlying t = some (.slice e)) (hu : P.underlying u = some .string) (hi : P.info? e = some i) (hz : i.zero = some z)
    (hsize : i.size = 1) (hby : i.bytes = bytes) (hzs : z.cells.size = 1)
    (v : Value) (n : Nat) (xs : List Value) (hs : a.eval s = v) (hown : w.ownsRow base e 1 v n xs) (str : ByteArray) (hx : a.eval x = .string str)
    (h63 : n + str.size ≤ maxLen) (hbytes : (n + str.size) * bytes ≤ 140737488355328) (hbase : base ≤ w.heap.size)
    (h : ∀ v' w', w'.ownsRow base e 1 v' (n + str.size) (xs ++ sC str) → w.grownBy w' v.ownBlock → (v'.ownBlock = v.ownBlock ∨ v'.ownBlock = some w.heap.size) → wpList P ops Q rest (a.put o.dst v') w') : wpList P ops Q (o :: rest) a w := by
  refine wpList_plain hgd fun K' hK' => ?_
  obtain ⟨v', w', hr, h2, h3, h5⟩ := run_append_str (P := P) w base t u o.type e i z bytes ht hu hi hz hsize hby hzs v n xs hown str h63 hbytes hbase
  unfold Oper.wp execOp
  simp only [ho, resolve, invoke, builtin, Sem.run_bind, Sem.run_pure, Result.andThen_ok, List.map_toArray, List.map_cons, List.map_nil, hs, hx, hr]
  exact hK' _ _ (h v' w' h2 h3 h5)
/-- a call by its contract, as a step of a region that draws -/
theorem step_call6 {P : Program} {ops : Array Oper} {o : Oper} {a : Act} {w : World} {K : Act → World → Prop} {Q : Exit → Act → World → Prop} {E : Prop} (hgd : o.guard = none) (f : FuncId) (args : Array Operand) (tys : Array TypeId)
    (ho : o.op = .call { callee := .value (.func f), args := args, argTypes := tys }) (vals : Array Value) (hv : args.map a.eval = vals) (hf : ∀ (args : Array Value) (w : World), (callFunc f args).run P w = .ok (.enter f args) w) {post : Ending → World → Prop} (hc : Calls P f vals w post)
    (h : ∀ e w', post e w' → ∃ v, e = .returned v ∧ K (a.put o.dst v) w') : if Region.wanted o (yielded ops a.tmps) = true then Oper.wp P o a w K Q else E := by
  have hw : Region.wanted o (yielded ops a.tmps) = true := by simp [Region.wanted, hgd]
  rw [if_pos hw]
  subst hv
  unfold Oper.wp
  have hr : (execOp a.eval o).run P w = .ok (.enter f (args.map a.eval)) w := by
    simp [execOp, ho, resolve, Act.eval, Deferred.ofValue, invoke, hf]
  rw [hr, Oper.upon_enter]
  refine hc.mono ?_
  intro e w' hp
  obtain ⟨v, rfl, hk⟩ := h e w' hp
  exact hk
theorem step_append_at6 {P : Program} {ops : Array Oper} {o : Oper} {a : Act} {w : World} {K : Act → World → Prop} {Q : Exit → Act → World → Prop} {E : Prop} (hgd : o.guard = none) (s x : Operand) (t : TypeId)
    (ho : o.op = .call { callee := .builtin .append, args := #[s, x], argTypes := #[t, t] })
    (base : Nat) (e : TypeId) (i : TypeInfo) (z : Value) (size bytes : Nat) (ht : P.underlying t = some (.slice e)) (hi : P.info? e = some i) (hz : i.zero = some z)
    (hsize : i.size = size) (hby : i.bytes = bytes) (hzs : z.cells.size = size) (hsz : 0 < size)
    (v : Value) (n : Nat) (xs : List Value) (hs : a.eval s = v) (hown : w.ownsRow base e size v n xs)
    (ad : Addr) (m c : Nat) (news : List Value) (hx : a.eval x = .slice (some ad) m c) (hl : news.length = m * size) (hnews : ∀ j u, news[j]? = some u → w.cell? (ad.add j) = some u) (h1 : ∀ u ∈ news, u.oneCell' = true)
    (h63 : n + m ≤ maxLen) (hbytes : (n + m) * bytes ≤ 140737488355328) (hbase : base ≤ w.heap.size)
    (h : ∀ v' w', w'.ownsRow base e size v' (n + m) (xs ++ news) → w.grownBy w' v.ownBlock → (v'.ownBlock = v.ownBlock ∨ v'.ownBlock = some w.heap.size) → K (a.put o.dst v') w') :
    if Region.wanted o (yielded ops a.tmps) = true then Oper.wp P o a w K Q else E := by
  have hw : Region.wanted o (yielded ops a.tmps) = true := by simp [Region.wanted, hgd]
  rw [if_pos hw]
  obtain ⟨v', w', hr, h2, h3, h4, h5⟩ := run_append_own_at (P := P) w base t o.type e i z size bytes ht hi hz hsize hby hzs hsz v n xs hown ad m c news hl hnews h1 h63 hbytes hbase
  unfold Oper.wp execOp
  simp only [ho, resolve, invoke, builtin, Sem.run_bind, Sem.run_pure, Result.andThen_ok, List.map_toArray, List.map_cons, List.map_nil, hs, hx, hr]
  exact h v' w' h2 h3 h5
theorem calls_bytes (args : Array Value) (w : World) : (callFunc 95 args).run Tryd.prog w = .ok (.enter 95 args) w := by kernel_rfl
set_option maxHeartbeats 1000000 in
theorem wr_number (v : Int) (n : Nat) (hv : IsU v) (hn : n ≤ 8) (p : Nat) (F : Nat → Prop) (l : List Int) (w : World) (hW : WrIs w p F l) (hl : l.length ≤ 1000000) :
    Calls Tryd.prog 71 #[.pointer (some ⟨p, 0, none⟩), .int .u64 v, .int .i64 n] w (WrP w p F (l ++ bytesL v n)) := by
  obtain ⟨s, hW⟩ := hW
  have HW := Lib.hid hW
  have hc := hW.cell
  have hlt := hW.lt
  have hf := hW.free
  have HBy := Lib.hid (bytes_yes v n hv hn w.drew)
  obtain ⟨i0, hi, hz0, hz1, hz2⟩ := info_parts infoU8
  have HM := Lib.hid (show l.length + n ≤ maxLen by unfold maxLen; omega)
  have HB := Lib.hid (show (l.length + n) * 1 ≤ 140737488355328 by omega)
  have HL := Lib.hid (show ((bytesL v n).map (Value.int .u8)).length = n * 1 by rw [List.length_map, bytesL_length]; omega)
  have H1 := Lib.hid (show ∀ u ∈ (bytesL v n).map (Value.int .u8), u.oneCell' = true from fun u hu => by obtain ⟨x, _, rfl⟩ := List.mem_map.1 hu; rfl)
  clear hW
  go_enter Tryd.func71, Tryd.ntmps71
  go_wp2
  go_region_law (first
    | (refine step_call6 rfl 95 _ _ rfl #[.int .u64 v, .int .i64 n] ?hv calls_bytes HBy.out ?_; (case hv => simp [go_sem]); rintro e w2 ⟨rfl, hs, hb⟩; refine ⟨_, rfl, ?_⟩; have HV := Lib.hid (HW.out.below (((Below.refl _ w).drew).trans hb)); have HN := Lib.hid (wr_news hs); have HO := Lib.hid (OutO.of_below (F := F) (((Below.refl _ w).drew).trans hb)); have HZ := Lib.hid (show p + 1 ≤ w2.heap.size by (have := (((Below.refl _ w).drew).trans hb).size; omega)); have hc2 := HV.out.cell; have hlt2 := HV.out.lt; have hf2 := HV.out.free; clear hs hb)
    | (refine step_append_at6 rfl _ _ 35 rfl (p + 1) 5 i0 (.int .u8 0) 1 1 Tryd.underlying35 hi hz0 hz1 hz2 rfl (by decide) s l.length (l.map (Value.int .u8)) ?hs HV.out.2.1 ⟨w.heap.size, 0, none⟩ n n ((bytesL v n).map (Value.int .u8)) ?hx HL.out HN.out H1.out HM.out HB.out HZ.out ?_; (case hs => simp [go_sem]); (case hx => simp [go_sem]); intro v' w3 hr hg hv'; obtain ⟨A3, c3, rfl⟩ := ownO_slice hr; have HR := Lib.hid (HV.out.more (m := bytesL v n) (by rw [List.length_append, bytesL_length]) (by rw [List.map_append]) hr hg hv'); have hc3 : w3.cell? ⟨p, 0, none⟩ = some s := (by rw [World.cell?_of_block (hg.block p HV.out.lt (fun e => by have := (ownO_lt HV.out.2.1 e.symm).2.1; omega))]; exact HV.out.cell); have hf3 : w3.frozen? ⟨p, 0, none⟩ = false := (by rw [World.frozen?_of_block (hg.block p HV.out.lt (fun e => by have := (ownO_lt HV.out.2.1 e.symm).2.1; omega))]; exact HV.out.free); clear hr hg hv'))
  all_goals
    go_end0
    exact ⟨rfl, ⟨_, HR.out.1⟩, HO.out.trans HR.out.2⟩
set_option maxHeartbeats 1000000 in
theorem wr_name (s : ByteArray) (hs : s.size ≤ 255) (p : Nat) (F : Nat → Prop) (l : List Int) (w : World) (hW : WrIs w p F l) (hl : l.length ≤ 900000) :
    Calls Tryd.prog 96 #[.pointer (some ⟨p, 0, none⟩), .string s] w (WrP w p F (l ++ (bytesL s.size 1 ++ sB s))) := by
  have HW := Lib.hid hW
  have HS := Lib.hid (sB_len s)
  have hsz : (s.size : Int) ≤ 255 := by omega
  have hU := Lib.hid (show IntKind.u64.wrap (s.size : Int) = s.size by rw [IntKind.wrap_u64]; omega)
  clear hW
  go_enter Tryd.func96, Tryd.ntmps96
  go_wp2_with fail
  refine (wr_number s.size 1 ⟨by omega, by omega⟩ (by omega) p F l w HW.out (by omega)).mono ?_
  rintro e w2 ⟨rfl, hW2, hO2⟩
  obtain ⟨v, hV⟩ := hW2
  have HV := Lib.hid hV
  have HO := Lib.hid hO2
  have hc := hV.cell
  have hlt := hV.lt
  have hf := hV.free
  have hll : (l ++ bytesL (s.size : Int) 1).length = l.length + 1 := by rw [List.length_append, bytesL_length]
  have HLl := Lib.hid hll
  have HM := Lib.hid (show (l ++ bytesL (s.size : Int) 1).length + s.size ≤ maxLen by rw [hll]; unfold maxLen; omega)
  have HB := Lib.hid (show ((l ++ bytesL (s.size : Int) 1).length + s.size) * 1 ≤ 140737488355328 by rw [hll]; omega)
  have HZ := Lib.hid (show p + 1 ≤ w2.heap.size by omega)
  obtain ⟨i0, hi, hz0, hz1, hz2⟩ := info_parts infoU8
  clear hV hO2 hll
  go_wp2_with (at_builtin; (refine wpList_append_str rfl _ _ 35 9 rfl (p + 1) 5 i0 (.int .u8 0) 1 Tryd.underlying35 Tryd.underlying9 hi hz0 hz1 hz2 rfl v _ _ ?hs HV.out.2.1 s ?hx HM.out HB.out HZ.out ?_; (case hs => rfl); (case hx => rfl); intro v' w3 hr hg hv'; obtain ⟨A3, c3, rfl⟩ := ownO_slice hr; have HR := Lib.hid (HV.out.more (m := sB s) (by rw [List.length_append, HS.out]) (by unfold sC; rw [← List.map_append]) hr hg hv'); have hc3 : w3.cell? ⟨p, 0, none⟩ = some v := (by rw [World.cell?_of_block (hg.block p HV.out.lt (fun e => by have := (ownO_lt HV.out.2.1 e.symm).2.1; omega))]; exact HV.out.cell); have hf3 : w3.frozen? ⟨p, 0, none⟩ = false := (by rw [World.frozen?_of_block (hg.block p HV.out.lt (fun e => by have := (ownO_lt HV.out.2.1 e.symm).2.1; omega))]; exact HV.out.free); clear hr hg hv' hc hlt hf))
  go_end0
  have hR := HR.out
  rw [show (l ++ bytesL (s.size : Int) 1).length = l.length + (bytesL (s.size : Int) 1).length from List.length_append] at hR
  exact ⟨rfl, ⟨_, by rw [← List.append_assoc]; exact hR.1⟩, HO.out.trans hR.2⟩
end Go.Proofs.YtfdpbogbnfkilaaDoor
