/- Layer 9: rows of words that a call makes; put. No condition. -/
import Derived.Test.YtbhdbglhejibbaaGreatDoorLexC
namespace Go.Proofs.YtbhdbglhejibbaaGreatDoor
set_option maxRecDepth 100000
open Go.RowKit
set_option linter.unusedVariables false
theorem wpList_append_at9 {P : Program} {ops : Array Oper} {rest : List Oper} {o : Oper} {a : Act} {Q : Exit → Act → World → Prop} {w : World} (hgd : o.guard = none) (s x : Operand) (t : TypeId)
    (ho : o.op = .call { callee := .builtin .append, args := #[s, x], argTypes := #[t, t] })
    (base : Nat) (e : TypeId) (i : TypeInfo) (z : Value) (size bytes : Nat) (ht : P.underlying t = some (.slice e)) (hi : P.info? e = some i) (hz : i.zero = some z)
    (hsize : i.size = size) (hby : i.bytes = bytes) (hzs : z.cells.size = size) (hsz : 0 < size)
    (v : Value) (n : Nat) (xs : List Value) (hs : a.eval s = v) (hown : w.ownsRow base e size v n xs)
    (ad : Addr) (m c : Nat) (news : List Value) (hx : a.eval x = .slice (some ad) m c) (hl : news.length = m * size) (hnews : ∀ j u, news[j]? = some u → w.cell? (ad.add j) = some u) (h1 : ∀ u ∈ news, u.oneCell' = true)
    (h63 : n + m ≤ maxLen) (hbytes : (n + m) * bytes ≤ 140737488355328) (hbase : base ≤ w.heap.size)
    (h : ∀ v' w', w'.ownsRow base e size v' (n + m) (xs ++ news) → w.grownBy w' v.ownBlock → (v'.ownBlock = v.ownBlock ∨ v'.ownBlock = some w.heap.size) → wpList P ops Q rest (a.put o.dst v') w') : wpList P ops Q (o :: rest) a w := by
  refine wpList_plain hgd fun K' hK' => ?_
  obtain ⟨v', w', hr, h2, h3, h4, h5⟩ := run_append_own_at (P := P) w base t o.type e i z size bytes ht hi hz hsize hby hzs hsz v n xs hown ad m c news hl hnews h1 h63 hbytes hbase
  unfold Oper.wp execOp
  simp only [ho, resolve, invoke, builtin, Sem.run_bind, Sem.run_pure, Result.andThen_ok, List.map_toArray, List.map_cons, List.map_nil, hs, hx, hr]
  exact hK' _ _ (h v' w' h2 h3 h5)
theorem info_strL : (Tryz.prog.info? 9).map (fun i => (i.zero, i.size, i.bytes)) = some (some (.string ⟨#[]⟩), 1, 16) := by kernel_rfl
theorem addr_add (b o j : Nat) : (⟨b, o, none⟩ : Addr).add j = ⟨b, o + j, none⟩ := by
  unfold Addr.add
  by_cases h : j = 0 <;> simp [h]
/-- a row of words that the call made -/
def Own (B : Nat) (w : World) (ws : List ByteArray) (v : Value) : Prop := w.ownsRow B 9 1 v ws.length (ws.map Value.string)
theorem Own.nil (B : Nat) (w : World) : Own B w [] (.slice none 0 0) := World.ownsRow_nil _ _ _ _
theorem Own.slice {B : Nat} {w : World} {ws : List ByteArray} {v : Value} (h : Own B w ws v) : ∃ A c, v = .slice A ws.length c := by
  rcases h.2 with ⟨h1, h2⟩ | ⟨g, cap, cur, h1, _⟩
  · have : ws = [] := by simpa using h2
    subst this
    exact ⟨none, 0, h1⟩
  · exact ⟨_, _, h1⟩
theorem Own.wd {B : Nat} {w : World} {ws : List ByteArray} {A : Option Addr} {n c : Nat} (h : Own B w ws (.slice A n c)) : WdAt w A ws := by
  rcases h.2 with ⟨h1, h2⟩ | ⟨g, cap, cur, h1, _⟩
  · have : ws = [] := by simpa using h2
    exact .inl this
  · injection h1 with h1 h2 h3
    subst h1
    refine .inr ⟨g, 0, rfl, fun k hk => ?_⟩
    have := World.ownsRow.cells h (g := g) rfl k (.string (wdK ws k)) (by unfold wdK; simp [hk])
    rw [addr_add] at this
    exact this
theorem Own.base {B B' : Nat} {w : World} {ws : List ByteArray} {v : Value} (h : Own B w ws v) (hb : B' ≤ B) : Own B' w ws v := by
  refine ⟨h.1, ?_⟩
  rcases h.2 with h | ⟨g, cap, cur, h0, h1, h2, h3⟩
  · exact .inl h
  · exact .inr ⟨g, cap, cur, h0, Nat.le_trans hb h1, h2, h3⟩
/-- one more word, unless it is empty -/
def putW (ws : List ByteArray) (cur : List UInt8) : List ByteArray := if cur = [] then ws else ws ++ [⟨cur.toArray⟩]
theorem ba_mk (s : ByteArray) : (⟨s.data.toList.toArray⟩ : ByteArray) = s := ByteArray.ext (by simp)
theorem putW_len (ws : List ByteArray) (cur : List UInt8) : ws.length ≤ (putW ws cur).length ∧ (putW ws cur).length ≤ ws.length + 1 := by
  unfold putW; split <;> simp
def PutE (B : Nat) (ws : List ByteArray) (v : Value) (w : World) (e : Ending) (w' : World) : Prop := ∃ v', e = .returned v' ∧ Own B w' ws v' ∧ w.grownBy w' v.ownBlock ∧ (v'.ownBlock = v.ownBlock ∨ ∃ g, v'.ownBlock = some g ∧ w.heap.size ≤ g)
theorem grown_alloc {w w' : World} {o : Obj} {row : Option Nat} (h : (w.alloc o).grownBy w' row) (hr : ∀ g, row = some g → g < w.heap.size) : w.grownBy w' row := by
  have hb := (Below.refl w.heap.size w).alloc (Nat.le_refl _) o
  refine ⟨h.os.trans hb.os, h.tape.trans hb.tape, h.output.trans hb.output, Nat.le_trans hb.size h.size, fun k hk hne => ?_⟩
  rw [← hb.block k hk]
  exact h.block k (Nat.lt_of_lt_of_le hk hb.size) hne
theorem one_s (s : ByteArray) : ∀ u ∈ [Value.string s], u.oneCell' = true := fun u hu => by simp only [List.mem_singleton] at hu; subst hu; rfl
theorem new_cellL (w : World) (v : Value) (t : TypeId) : ∀ j u, [v][j]? = some u → (w.alloc (.cells #[v] t)).cell? ((⟨w.heap.size, 0, none⟩ : Addr).add j) = some u := by
  intro j u h
  match j, h with
  | 0, h =>
    have e := Option.some.inj h
    subst e
    rw [addr_add, World.cell?_alloc_new]
    rfl
  | j + 1, h => simp at h
set_option maxHeartbeats 1000000 in
theorem put_any (B : Nat) (ws : List ByteArray) (x : ByteArray) (v : Value) (w : World) (hO : Own B w ws v) (hB : B ≤ w.heap.size) (hn : ws.length ≤ 1000000000) :
    Calls Tryz.prog 79 #[v, .string x] w (PutE B (putW ws x.data.toList) v w) := by
  by_cases hx : x.data.toList = []
  · have t1 : (x.toList == []) = true := by rw [ByteArray.toList_eq, hx]; rfl
    have t2 : x.toList = [] := by rw [ByteArray.toList_eq, hx]
    have HR := Lib.hid (show PutE B (putW ws x.data.toList) v w (.returned v) w from ⟨v, rfl, by unfold putW; rw [if_pos hx]; exact hO, ⟨rfl, rfl, rfl, Nat.le_refl _, fun _ _ _ => rfl⟩, .inl rfl⟩)
    clear hx hO hB
    generalize putW ws x.data.toList = R at *
    go_enter Tryz.func79, Tryz.ntmps79
    go_wp2
    go_ret
    exact HR.out
  · have t1 : (x.toList == []) = false := by rw [ByteArray.toList_eq]; simpa using hx
    have t3 : (!x.toList.isEmpty) = true := by rw [ByteArray.toList_eq]; simpa using hx
    obtain ⟨i0, hi0, hz0, hz1, hz2⟩ := info_parts info_strL
    have HW := Lib.hid (show putW ws x.data.toList = ws ++ [x] from by unfold putW; rw [if_neg hx, ba_mk])
    have HO := Lib.hid hO
    have HOa := Lib.hid (World.ownsRow.alloc hO (.cells #[.string x] 9))
    have HLt := Lib.hid (fun g (h : v.ownBlock = some g) => (World.ownsRow.lt hO g h).2)
    have HNc := Lib.hid (new_cellL w (.string x) 9)
    have HM := Lib.hid (show ws.length + 1 ≤ maxLen from by unfold maxLen; omega)
    have HY := Lib.hid (show (ws.length + 1) * 16 ≤ 140737488355328 from by omega)
    have HBa := Lib.hid (show B ≤ (w.alloc (.cells #[.string x] 9)).heap.size from by simp; omega)
    have H1 := Lib.hid (one_s x)
    clear hx hO hB hn
    generalize putW ws x.data.toList = R at *
    go_enter Tryz.func79, Tryz.ntmps79
    go_wp2_with (at_builtin; (refine wpList_append_at9 rfl _ _ 38 rfl B 9 i0 (.string ⟨#[]⟩) 1 16 Tryz.underlying38 hi0 hz0 hz1 hz2 rfl (by decide) v ws.length (ws.map Value.string) ?hs HOa.out ⟨w.heap.size, 0, none⟩ 1 1 [.string x] ?hx rfl HNc.out H1.out HM.out HY.out HBa.out ?_; (case hs => rfl); (case hx => rfl); intro v' w7 hr hg hv'))
    have HR := Lib.hid (show PutE B R v w (.returned v') w7 from ⟨v', rfl, by rw [HW.out]; unfold Own; rw [List.length_append, List.map_append]; exact hr, grown_alloc hg HLt.out, by
      rcases hv' with h | h
      · exact .inl h
      · exact .inr ⟨_, h, by simp⟩⟩)
    clear hr hg hv'
    go_wp2
    go_ret
    exact HR.out
end Go.Proofs.YtbhdbglhejibbaaGreatDoor
