/- Regions that draw their order and append one row of bytes after the other onto a row of the call's own, each made in the region itself. No condition. -/
import Derived.Test.YtmpieeadkkeniaaGreatDoorRegRg
import Derived.Test.YtmpieeadkkeniaaGreatDoorBitA
import Derived.Maps.AppendAt
namespace Go.Proofs.YtmpieeadkkeniaaGreatDoor
set_option maxRecDepth 100000
open Go.RowKit
set_option linter.unusedVariables false
/-- what an operation of such a region leaves: a value known ahead; new bytes; the row with more appended -/
inductive Kd where
  | pure (c : Value)
  | mat (l : List Int)
  | app
  | cpy (q : Nat)
def chunkA (kd : List Kd) (m : Nat) : List Int := match kd[m]? with
  | some (.mat l) => l
  | _ => []
def depsB (o : Oper) : List Nat := o.after.toList.filterMap fun e => if Region.binds .any e then some e.on else none
/-- new bytes, apart from the row -/
def MatA (w : World) (cur v : Value) (l : List Int) : Prop := ∃ b o c, v = .slice (some ⟨b, o, none⟩) l.length c ∧ b < w.heap.size ∧ some b ≠ cur.ownBlock ∧ ∀ k, k < l.length → w.cell? ⟨b, o + k, none⟩ = some (.int .u8 (nth l k))
def curA (apps : List (Nat × Nat)) (cur0 : Value) (V : Nat → Value) : Nat → Value
  | 0 => cur0
  | j + 1 => V ((apps.getD j (0, 0)).1)
def rowA (kd : List Kd) (apps : List (Nat × Nat)) (xs0 : List Int) (j : Nat) : List Int := xs0 ++ (apps.take j).flatMap fun p => chunkA kd p.2
abbrev u8L (l : List Int) : List Value := l.map (Value.int .u8)
structure JA (S : World → Prop) (base : Nat) (e : TypeId) (kd : List Kd) (apps : List (Nat × Nat)) (cur0 : Value) (xs0 : List Int) (L : Nat → Bool) (V : Nat → Value) (w : World) (j : Nat) : Prop where
  keep : S w
  size : base ≤ w.heap.size
  pure : ∀ k c, kd[k]? = some (.pure c) → L k = true → V k = c
  cp : ∀ k q, kd[k]? = some (.cpy q) → L k = true → L q = true ∧ V k = V q
  le : j ≤ apps.length
  at_ : ∀ i p, apps[i]? = some p → L p.1 = decide (i < j)
  row : w.ownsRow base e 1 (curA apps cur0 V j) (rowA kd apps xs0 j).length (u8L (rowA kd apps xs0 j))
  mats : ∀ i p, apps[i]? = some p → j ≤ i → L p.2 = true → MatA w (curA apps cur0 V j) (V p.2) (chunkA kd p.2)
/-- what is known of the frame ahead of an operation -/
def PvF (l : List Oper) (kd : List Kd) (a0 : Act) (i : Nat) (o : Oper) (a : Act) : Prop :=
  (∀ k p x c, l[k]? = some p → p.dst = some x → kd[k]? = some (.pure c) → k ∈ depsB o → a.eval (.tmp x) = c) ∧ (∀ x, (l.all fun p => p.dst != some x || (depsB p).contains i) = true → a.eval (.tmp x) = a0.eval (.tmp x))
def OpOk (P : Program) (Q : Exit → Act → World → Prop) (S : World → Prop) (t : TypeId) (l : List Oper) (kd : List Kd) (apps : List (Nat × Nat)) (cur0 : Value) (a0 : Act) (i : Nat) (o : Oper) : Kd → Prop
  | .pure c => ∀ a w, S w → PvF l kd a0 i o a → (execOp a.eval o).run P w = .ok (.value c) w
  | .mat lb => ∀ a w, S w → PvF l kd a0 i o a → o.wp P a w (fun a' w' => ∃ v, a' = a.put o.dst v ∧ S w' ∧ w.grownBy w' none ∧ ∃ b oo c, v = .slice (some ⟨b, oo, none⟩) lb.length c ∧ w.heap.size ≤ b ∧ b < w'.heap.size ∧ ∀ k, k < lb.length → w'.cell? ⟨b, oo + k, none⟩ = some (.int .u8 (nth lb k))) Q
  | .app => ∃ (q m s d : Nat) (om : Oper) (lb : List Int), apps[q]? = some (i, m) ∧ l[m]? = some om ∧ om.dst = some d ∧ kd[m]? = some (.mat lb) ∧ m ∈ depsB o ∧
      o.op = .call { callee := .builtin .append, args := #[.tmp s, .tmp d], argTypes := #[t, t] } ∧
      ((q = 0 ∧ ∃ z oz, l[z]? = some oz ∧ oz.dst = some s ∧ kd[z]? = some (.pure cur0) ∧ z ∈ depsB o) ∨ (∃ z oz mz, q = z + 1 ∧ ∃ kz, apps[z]? = some (kz, mz) ∧ l[kz]? = some oz ∧ oz.dst = some s ∧ kz ∈ depsB o))
  | .cpy q => ∃ oq s, l[q]? = some oq ∧ oq.dst = some s ∧ q ∈ depsB o ∧ (o.op = .assign (.tmp s) ∨ o.op = .move (.tmp s))
def OblA (P : Program) (Q : Exit → Act → World → Prop) (S : World → Prop) (t : TypeId) (l : List Oper) (kd : List Kd) (apps : List (Nat × Nat)) (cur0 : Value) (a0 : Act) : Nat → List Oper → List Kd → Prop
  | i, o :: ls, d :: ds => OpOk P Q S t l kd apps cur0 a0 i o d ∧ OblA P Q S t l kd apps cur0 a0 (i + 1) ls ds
  | _, [], [] => True
  | _, _, _ => False
theorem obl_get {P : Program} {Q : Exit → Act → World → Prop} {S : World → Prop} {t : TypeId} {l : List Oper} {kd : List Kd} {apps : List (Nat × Nat)} {cur0 : Value} {a0 : Act} : ∀ {ls : List Oper} {ds : List Kd} {k : Nat}, OblA P Q S t l kd apps cur0 a0 k ls ds →
    ∀ {i : Nat} {o : Oper}, ls[i]? = some o → ∃ d, ds[i]? = some d ∧ OpOk P Q S t l kd apps cur0 a0 (k + i) o d
  | [], _, _, _, _, _, h => by simp at h
  | _ :: _, [], _, h, _, _, _ => by simp [OblA] at h
  | p :: ls, d :: ds, k, h, i, o, hi => by
    obtain ⟨h1, h2⟩ := h
    cases i with
    | zero =>
      simp only [List.getElem?_cons_zero, Option.some.injEq] at hi
      subst hi
      exact ⟨d, rfl, h1⟩
    | succ i =>
      rw [List.getElem?_cons_succ] at hi
      obtain ⟨d', h3, h4⟩ := obl_get h2 hi
      refine ⟨d', by rw [List.getElem?_cons_succ]; exact h3, ?_⟩
      rw [show k + (i + 1) = k + 1 + i by omega]; exact h4
theorem deps_of {o : Oper} {L : Nat → Bool} (h : ∀ e ∈ o.after, Region.binds .any e = true → L e.on = true) {k : Nat} (hk : k ∈ depsB o) : L k = true := by
  unfold depsB at hk
  obtain ⟨e, he, h2⟩ := List.mem_filterMap.1 hk
  split at h2
  · rename_i hb
    cases h2
    exact h e (by simpa using he) hb
  · cases h2
theorem run_copy {P : Program} {o : Oper} {a : Act} {w : World} {s : Tmp} (h : o.op = .assign (.tmp s) ∨ o.op = .move (.tmp s)) : (execOp a.eval o).run P w = .ok (.value (a.eval (.tmp s))) w := by
  rcases h with h | h <;> simp [execOp, h]
theorem run_app {P : Program} {o : Oper} {a : Act} {w : World} {K : Act → World → Prop} {Q : Exit → Act → World → Prop} (s x : Operand) (t : TypeId)
    (ho : o.op = .call { callee := .builtin .append, args := #[s, x], argTypes := #[t, t] })
    (base : Nat) (e : TypeId) (i : TypeInfo) (z : Value) (bytes : Nat) (ht : P.underlying t = some (.slice e)) (hi : P.info? e = some i) (hz : i.zero = some z)
    (hsize : i.size = 1) (hby : i.bytes = bytes) (hzs : z.cells.size = 1)
    (v : Value) (n : Nat) (xs : List Value) (hs : a.eval s = v) (hown : w.ownsRow base e 1 v n xs)
    (ad : Addr) (m c : Nat) (news : List Value) (hx : a.eval x = .slice (some ad) m c) (hl : news.length = m) (hnews : ∀ j u, news[j]? = some u → w.cell? (ad.add j) = some u) (h1 : ∀ u ∈ news, u.oneCell' = true)
    (h63 : n + m ≤ maxLen) (hbytes : (n + m) * bytes ≤ 140737488355328) (hbase : base ≤ w.heap.size)
    (h : ∀ v' w', w'.ownsRow base e 1 v' (n + m) (xs ++ news) → w.grownBy w' v.ownBlock → (v'.ownBlock = v.ownBlock ∨ v'.ownBlock = some w.heap.size) → K (a.put o.dst v') w') :
    o.wp P a w K Q := by
  obtain ⟨v', w', hr, h2, h3, h4, h5⟩ := run_append_own_at (P := P) w base t o.type e i z 1 bytes ht hi hz hsize hby hzs (by decide) v n xs hown ad m c news (by rw [Nat.mul_one]; exact hl) hnews h1 h63 hbytes hbase
  unfold Oper.wp execOp
  simp only [ho, resolve, invoke, builtin, Sem.run_bind, Sem.run_pure, Result.andThen_ok, List.map_toArray, List.map_cons, List.map_nil, hs, hx, hr]
  exact h v' w' h2 h3 h5
theorem obl_len {P : Program} {Q : Exit → Act → World → Prop} {S : World → Prop} {t : TypeId} {l : List Oper} {kd : List Kd} {apps : List (Nat × Nat)} {cur0 : Value} {a0 : Act} : ∀ {ls : List Oper} {ds : List Kd} {k : Nat}, OblA P Q S t l kd apps cur0 a0 k ls ds → ds.length = ls.length
  | [], [], _, _ => rfl
  | [], _ :: _, _, h => by simp [OblA] at h
  | _ :: _, [], _, h => by simp [OblA] at h
  | o :: ls, d :: ds, k, h => by simp [obl_len h.2]
def isApp : Option Kd → Bool
  | some .app => true
  | _ => false
def isMat : Option Kd → Bool
  | some (.mat _) => true
  | _ => false
theorem isApp_iff {d : Option Kd} (h : isApp d = true) : d = some .app := by
  cases d with
  | none => cases h
  | some d => cases d <;> first | rfl | cases h
theorem isMat_iff {d : Option Kd} (h : isMat d = true) : ∃ l, d = some (.mat l) := by
  cases d with
  | none => cases h
  | some d => cases d <;> first | exact ⟨_, rfl⟩ | cases h
theorem curA_succ (apps : List (Nat × Nat)) (cur0 : Value) (V : Nat → Value) (j : Nat) : curA apps cur0 V (j + 1) = V ((apps.getD j (0, 0)).1) := rfl
theorem curA_set {apps : List (Nat × Nat)} {cur0 : Value} {V : Nat → Value} {i : Nat} {v : Value} {j : Nat} (hj : j ≤ apps.length) (h : ∀ p ∈ apps, p.1 ≠ i) : curA apps cur0 (setV V i v) j = curA apps cur0 V j := by
  cases j with
  | zero => rfl
  | succ j =>
    have hlt : j < apps.length := by omega
    rw [curA_succ, curA_succ, List.getD_eq_getElem?_getD, List.getElem?_eq_getElem hlt]
    exact setV_other v (h _ (List.getElem_mem hlt))
theorem rowA_go {kd : List Kd} {apps : List (Nat × Nat)} {xs0 : List Int} {j : Nat} {p : Nat × Nat} (h : apps[j]? = some p) : rowA kd apps xs0 (j + 1) = rowA kd apps xs0 j ++ chunkA kd p.2 := by
  obtain ⟨hj, e⟩ := List.getElem?_eq_some_iff.1 h
  unfold rowA
  rw [List.take_succ_eq_append_getElem hj, List.flatMap_append, e, List.append_assoc]
  simp
theorem MatA.kept {w w' : World} {cur cur' v : Value} {l : List Int} {row : Option Nat} (h : MatA w cur v l) (hg : w.grownBy w' row) (hr : row = none ∨ row = cur.ownBlock) (hc : cur'.ownBlock = cur.ownBlock ∨ cur'.ownBlock = some w.heap.size) : MatA w' cur' v l := by
  obtain ⟨b, o, c, h1, h2, h3, h4⟩ := h
  refine ⟨b, o, c, h1, Nat.lt_of_lt_of_le h2 hg.size, ?_, fun k hk => ?_⟩
  · rcases hc with e | e
    · rw [e]; exact h3
    · rw [e]; intro h; cases h; omega
  · rw [World.cell?_of_block (hg.block b h2 (by rcases hr with e | e <;> rw [e]; exact (by simp); exact h3))]
    exact h4 k hk
theorem wp_region_app {P : Program} {id : Nat} {Q : Exit → Act → World → Prop} {a : Act} {w : World} {l : List Oper} (S : World → Prop) (base : Nat) (t e : TypeId) (ti : TypeInfo) (z : Value)
    (kd : List Kd) (apps : List (Nat × Nat)) (cur0 : Value) (xs0 : List Int) (n : Nat)
    (ht : P.underlying t = some (.slice e)) (hi : P.info? e = some ti) (hz : ti.zero = some z) (hsize : ti.size = 1) (hby : ti.bytes = 1) (hzs : z.cells.size = 1)
    (hm : P.follows .mixedOrders = true) (hb : (backB l 0 && apartB l && boundB l n) = true) (hn : a.tmps.size = n)
    (hnd : (apps.map (·.1)).Nodup) (hak : (apps.all fun p => isApp kd[p.1]? && isMat kd[p.2]?) = true)
    (hS0 : S w.drew) (hbase : base ≤ w.heap.size) (hown : w.ownsRow base e 1 cur0 xs0.length (u8L xs0))
    (hSg : ∀ w w' v n xs, S w → w.ownsRow base e 1 v n xs → w.grownBy w' v.ownBlock → S w')
    (hlim : (rowA kd apps xs0 apps.length).length ≤ 100000000)
    (hob : OblA P Q S t l kd apps cur0 a 0 l kd)
    (done : ∀ (V : Nat → Value) (w' : World), (∀ k c, kd[k]? = some (.pure c) → V k = c) → (∀ k q, kd[k]? = some (.cpy q) → V k = V q) → w'.ownsRow base e 1 (curA apps cur0 V apps.length) (rowA kd apps xs0 apps.length).length (u8L (rowA kd apps xs0 apps.length)) → S w' → Q .normal (putL l 0 (fun _ => true) V a) w') :
    (Code.region id l.toArray true).wp P Q a w := by
  have hkl := obl_len hob
  have kApp : ∀ p ∈ apps, kd[p.1]? = some .app := fun p hp => by
    have := List.all_eq_true.1 hak p hp
    rw [Bool.and_eq_true] at this
    exact isApp_iff this.1
  have kMat : ∀ p ∈ apps, ∃ lb, kd[p.2]? = some (.mat lb) := fun p hp => by
    have := List.all_eq_true.1 hak p hp
    rw [Bool.and_eq_true] at this
    exact isMat_iff this.2
  have row_len : ∀ j, j ≤ apps.length → (rowA kd apps xs0 j).length ≤ 100000000 := fun j hj => by
    refine Nat.le_trans ?_ hlim
    unfold rowA
    rw [List.length_append, List.length_append]
    have h1 : (apps.take apps.length).flatMap (fun p => chunkA kd p.2) = (apps.take j).flatMap (fun p => chunkA kd p.2) ++ (apps.drop j).flatMap (fun p => chunkA kd p.2) := by
      rw [← List.flatMap_append, List.take_append_drop, List.take_length]
    rw [h1, List.length_append]
    omega
  refine wp_region_rg (fun L V w' => ∃ j, JA S base e kd apps cur0 xs0 L V w' j) n hm hb hn (fun V => ⟨0, ?_⟩) ?_ ?_
  · refine ⟨hS0, hbase, fun k c _ h => (by cases h), fun k q _ h => (by cases h), Nat.zero_le _, fun i p _ => by simp, ?_, fun i p _ _ h => (by cases h)⟩
    unfold curA rowA
    simp only [List.take_zero, List.flatMap_nil, List.append_nil]
    exact hown
  · rintro L V w' i o a' ⟨j, hJ⟩ hL ho hd he1 he2 hcl
    obtain ⟨d, hkd, hok⟩ := obl_get hob ho
    rw [Nat.zero_add] at hok
    have hpv : PvF l kd a i o a' := ⟨fun k p x c hk hx hkc hdep => (he1 k p x hk hx (deps_of hd hdep)).trans (hJ.pure k c hkc (deps_of hd hdep)), fun x hx => he2 x (fun j p hp hd2 => by
      have h1 := List.all_eq_true.1 hx p (List.mem_of_getElem? hp)
      rw [hd2] at h1
      simp only [bne_self_eq_false, Bool.false_or, List.contains_iff_mem] at h1
      cases hLj : L j with
      | false => rfl
      | true =>
        have := deps_of (hcl j p hp hLj) h1
        rw [hL] at this
        cases this)⟩
    have hcp : ∀ v k q, k ≠ i → kd[k]? = some (.cpy q) → addL L i k = true → addL L i q = true ∧ setV V i v k = setV V i v q := fun v k q hk hkq hLk => by
      rw [addL_other hk] at hLk
      obtain ⟨h1, h2⟩ := hJ.cp k q hkq hLk
      have hqi : q ≠ i := fun e => by rw [e, hL] at h1; cases h1
      rw [addL_other hqi, setV_other _ hk, setV_other _ hqi]
      exact ⟨h1, h2⟩
    cases d with
    | pure c =>
      have hr := hok a' w' hJ.keep hpv
      unfold Oper.wp
      rw [hr]
      refine ⟨c, rfl, j, ?_⟩
      have hne : ∀ p ∈ apps, p.1 ≠ i := fun p hp h => by have := kApp p hp; rw [h, hkd] at this; cases this
      have hne2 : ∀ p ∈ apps, p.2 ≠ i := fun p hp h => by obtain ⟨lb, this⟩ := kMat p hp; rw [h, hkd] at this; cases this
      refine ⟨hJ.keep, hJ.size, fun k c' hk hLk => ?_, fun k q hk hLk => hcp _ k q (fun e => by rw [e, hkd] at hk; cases hk) hk hLk, hJ.le, fun i' p hp => ?_, ?_, fun i' p hp hle hLp => ?_⟩
      · by_cases h : k = i
        · subst h; rw [hkd] at hk; cases hk; exact setV_same _ _ _
        · rw [setV_other _ h]; rw [addL_other h] at hLk; exact hJ.pure k c' hk hLk
      · rw [addL_other (hne p (List.mem_of_getElem? hp))]; exact hJ.at_ i' p hp
      · rw [curA_set hJ.le hne]; exact hJ.row
      · rw [addL_other (hne2 p (List.mem_of_getElem? hp))] at hLp
        rw [curA_set hJ.le hne, setV_other _ (hne2 p (List.mem_of_getElem? hp))]
        exact hJ.mats i' p hp hle hLp
    | cpy q =>
      obtain ⟨oq, sq, hq1, hq2, hq3, hop⟩ := hok
      have hr := run_copy (P := P) (a := a') (w := w') hop
      have hLq := deps_of hd hq3
      rw [he1 q oq sq hq1 hq2 hLq] at hr
      unfold Oper.wp
      rw [hr]
      refine ⟨V q, rfl, j, ?_⟩
      have hne : ∀ p ∈ apps, p.1 ≠ i := fun p hp h => by have := kApp p hp; rw [h, hkd] at this; cases this
      have hne2 : ∀ p ∈ apps, p.2 ≠ i := fun p hp h => by obtain ⟨lb, this⟩ := kMat p hp; rw [h, hkd] at this; cases this
      have hqi : q ≠ i := fun e => by rw [e, hL] at hLq; cases hLq
      refine ⟨hJ.keep, hJ.size, fun k c' hk hLk => ?_, fun k q' hk hLk => ?_, hJ.le, fun i' p hp => ?_, ?_, fun i' p hp hle hLp => ?_⟩
      · by_cases h : k = i
        · subst h; rw [hkd] at hk; cases hk
        · rw [setV_other _ h]; rw [addL_other h] at hLk; exact hJ.pure k c' hk hLk
      · by_cases h : k = i
        · subst h
          rw [hkd] at hk
          cases hk
          rw [addL_other hqi, setV_same, setV_other _ hqi]
          exact ⟨hLq, rfl⟩
        · exact hcp _ k q' h hk hLk
      · rw [addL_other (hne p (List.mem_of_getElem? hp))]; exact hJ.at_ i' p hp
      · rw [curA_set hJ.le hne]; exact hJ.row
      · rw [addL_other (hne2 p (List.mem_of_getElem? hp))] at hLp
        rw [curA_set hJ.le hne, setV_other _ (hne2 p (List.mem_of_getElem? hp))]
        exact hJ.mats i' p hp hle hLp
    | mat lb =>
      refine Oper.wp_mono ?_ (hok a' w' hJ.keep hpv)
      rintro a'' w'' ⟨v, rfl, hS, hg, b, oo, c, rfl, hb1, hb2, hcell⟩
      refine ⟨_, rfl, j, ?_⟩
      have hne : ∀ p ∈ apps, p.1 ≠ i := fun p hp h => by have := kApp p hp; rw [h, hkd] at this; cases this
      refine ⟨hS, Nat.le_trans hJ.size hg.size, fun k c' hk hLk => ?_, fun k q hk hLk => hcp _ k q (fun e => by rw [e, hkd] at hk; cases hk) hk hLk, hJ.le, fun i' p hp => ?_, ?_, fun i' p hp hle hLp => ?_⟩
      · by_cases h : k = i
        · subst h; rw [hkd] at hk; cases hk
        · rw [setV_other _ h]; rw [addL_other h] at hLk; exact hJ.pure k c' hk hLk
      · rw [addL_other (hne p (List.mem_of_getElem? hp))]; exact hJ.at_ i' p hp
      · rw [curA_set hJ.le hne]
        exact hJ.row.kept hg (by cases (curA apps cur0 V j).ownBlock <;> simp)
      · rw [curA_set hJ.le hne]
        by_cases h : p.2 = i
        · rw [h, setV_same]
          have hch : chunkA kd i = lb := by unfold chunkA; rw [hkd]
          rw [hch]
          refine ⟨b, oo, c, rfl, hb2, fun h => ?_, hcell⟩
          have := (hJ.row.lt b h.symm).2
          omega
        · rw [addL_other h] at hLp
          rw [setV_other _ h]
          exact (hJ.mats i' p hp hle hLp).kept hg (.inl rfl) (.inl rfl)
    | app =>
      obtain ⟨q, m, s, dd, om, lb, hq, hlm, hdm, hkm, hdep, hop, hs⟩ := hok
      have hge : j ≤ q := by
        have := hJ.at_ q _ hq
        simp only at this
        rw [hL] at this
        have := of_decide_eq_false this.symm
        omega
      have hqj : q = j ∧ a'.eval (.tmp s) = curA apps cur0 V j := by
        rcases hs with ⟨h0, zz, oz, h1, h2, h3, h4⟩ | ⟨zz, oz, mz, h0, kz, h1, h2, h3, h4⟩
        · have hj0 : j = 0 := by omega
          refine ⟨by omega, ?_⟩
          rw [hj0]
          exact hpv.1 zz oz s cur0 h1 h2 h3 h4
        · have hLz := deps_of hd h4
          have h5 := hJ.at_ zz _ h1
          simp only at h5
          rw [hLz] at h5
          have h6 := of_decide_eq_true h5.symm
          have hj : j = zz + 1 := by omega
          refine ⟨by omega, ?_⟩
          rw [he1 kz oz s h2 h3 hLz, hj]
          rw [curA_succ, List.getD_eq_getElem?_getD, h1]; rfl
      obtain ⟨rfl, hes⟩ := hqj
      have hmat := hJ.mats q _ hq (Nat.le_refl _) (deps_of hd hdep)
      have hch : chunkA kd m = lb := by unfold chunkA; rw [hkm]
      simp only [hch] at hmat
      obtain ⟨b, oo, c, hv, hb1, hb2, hcell⟩ := hmat
      have hqlt : q + 1 ≤ apps.length := (List.getElem?_eq_some_iff.1 hq).1
      have hgo := rowA_go (kd := kd) (xs0 := xs0) hq
      simp only [hch] at hgo
      have hln := row_len (q + 1) hqlt
      rw [hgo, List.length_append] at hln
      refine run_app (.tmp s) (.tmp dd) t hop base e ti z 1 ht hi hz hsize hby hzs (curA apps cur0 V q) _ _ hes hJ.row ⟨b, oo, none⟩ lb.length c (u8L lb) ?_ (by simp) (fun k u hk => ?_) (fun u hu => ?_) (by unfold maxLen; omega) (by omega) hJ.size ?_
      · rw [he1 m om dd hlm hdm (deps_of hd hdep)]; exact hv
      · have hk2 : k < lb.length := by have := (List.getElem?_eq_some_iff.1 hk).1; simpa using this
        have h1 := hcell k hk2
        have h2 : u = .int .u8 (nth lb k) := by
          rw [List.getElem?_map, List.getElem?_eq_getElem hk2] at hk
          simp only [Option.map_some, Option.some.injEq] at hk
          rw [← hk, nth_get hk2]
        rw [h2]
        have h3 : (⟨b, oo, none⟩ : Addr).add k = ⟨b, oo + k, none⟩ := by simp [Addr.add]
        rw [h3]; exact h1
      · obtain ⟨x, _, rfl⟩ := List.mem_map.1 hu
        rfl
      · intro v' w'' hown' hg hv'
        have hne2 : ∀ p ∈ apps, p.2 ≠ i := fun p hp h => by obtain ⟨lb, this⟩ := kMat p hp; rw [h, hkd] at this; cases this
        have hinj : ∀ i' p, apps[i']? = some p → p.1 = i → i' = q := fun i' p hp h => by
          have h1 : (apps.map (·.1))[i']? = some i := by rw [List.getElem?_map, hp, ← h]; rfl
          have h2 : (apps.map (·.1))[q]? = some i := by rw [List.getElem?_map, hq]; rfl
          obtain ⟨l1, e1⟩ := List.getElem?_eq_some_iff.1 h1
          obtain ⟨l2, e2⟩ := List.getElem?_eq_some_iff.1 h2
          have hpw := List.pairwise_iff_getElem.1 hnd
          rcases Nat.lt_trichotomy i' q with h3 | h3 | h3
          · exact absurd (e1.trans e2.symm) (hpw i' q l1 l2 h3)
          · exact h3
          · exact absurd (e2.trans e1.symm) (hpw q i' l2 l1 h3)
        have hcur : curA apps cur0 (setV V i v') (q + 1) = v' := by
          rw [curA_succ, List.getD_eq_getElem?_getD, hq]
          exact setV_same _ _ _
        refine ⟨v', rfl, q + 1, hSg _ _ _ _ _ hJ.keep hJ.row hg, Nat.le_trans hJ.size hg.size, fun k c' hk hLk => ?_, fun k q hk hLk => hcp _ k q (fun e => by rw [e, hkd] at hk; cases hk) hk hLk, hqlt, fun i' p hp => ?_, ?_, fun i' p hp hle hLp => ?_⟩
        · by_cases h : k = i
          · subst h; rw [hkd] at hk; cases hk
          · rw [setV_other _ h]; rw [addL_other h] at hLk; exact hJ.pure k c' hk hLk
        · by_cases h : p.1 = i
          · rw [h, addL_same, hinj i' p hp h]; simp
          · rw [addL_other h, hJ.at_ i' p hp]
            have : i' ≠ q := fun e => by subst e; rw [hq] at hp; cases hp; exact h rfl
            congr 1
            exact propext ⟨fun h => by omega, fun h => by omega⟩
        · rw [hcur, hgo, List.length_append]
          unfold u8L at hown' ⊢
          rw [List.map_append]
          exact hown'
        · rw [hcur]
          have h2 := hne2 p (List.mem_of_getElem? hp)
          rw [addL_other h2] at hLp
          rw [setV_other _ h2]
          exact (hJ.mats i' p hp (by omega) hLp).kept hg (.inr rfl) hv'
  · rintro L V w' hall ⟨j, hJ⟩
    have hj : j = apps.length := by
      refine Nat.le_antisymm hJ.le (Nat.le_of_not_lt fun hlt => ?_)
      have h1 : apps[j]? = some apps[j] := List.getElem?_eq_getElem hlt
      have h2 := hJ.at_ j _ h1
      have h3 := kApp _ (List.getElem_mem hlt)
      rw [hall _ (by rw [← hkl]; exact (List.getElem?_eq_some_iff.1 h3).1)] at h2
      simp at h2
    subst hj
    exact done V w' (fun k c hk => hJ.pure k c hk (hall k (by rw [← hkl]; exact (List.getElem?_eq_some_iff.1 hk).1))) (fun k q hk => (hJ.cp k q hk (hall k (by rw [← hkl]; exact (List.getElem?_eq_some_iff.1 hk).1))).2) hJ.row hJ.keep
section
variable {P : Program} {Q : Exit → Act → World → Prop} {S : World → Prop} {t : TypeId} {l : List Oper} {kd : List Kd} {apps : List (Nat × Nat)} {cur0 : Value} {a0 : Act} {i : Nat} {o : Oper}
theorem OblA.cons {ls : List Oper} {d : Kd} {ds : List Kd} (h : OpOk P Q S t l kd apps cur0 a0 i o d) (h2 : OblA P Q S t l kd apps cur0 a0 (i + 1) ls ds) : OblA P Q S t l kd apps cur0 a0 i (o :: ls) (d :: ds) := ⟨h, h2⟩
theorem OblA.nil : OblA P Q S t l kd apps cur0 a0 i [] [] := trivial
theorem OpOk.of_pure {c : Value} (h : ∀ a w, S w → PvF l kd a0 i o a → (execOp a.eval o).run P w = .ok (.value c) w) : OpOk P Q S t l kd apps cur0 a0 i o (.pure c) := h
theorem OpOk.of_mat {lb : List Int} (h : ∀ a w, S w → PvF l kd a0 i o a → o.wp P a w (fun a' w' => ∃ v, a' = a.put o.dst v ∧ S w' ∧ w.grownBy w' none ∧ ∃ b oo c, v = .slice (some ⟨b, oo, none⟩) lb.length c ∧ w.heap.size ≤ b ∧ b < w'.heap.size ∧ ∀ k, k < lb.length → w'.cell? ⟨b, oo + k, none⟩ = some (.int .u8 (nth lb k))) Q) : OpOk P Q S t l kd apps cur0 a0 i o (.mat lb) := h
theorem OpOk.of_first {m s d z : Nat} {om oz : Oper} {lb : List Int} (h1 : apps[0]? = some (i, m)) (h2 : l[m]? = some om) (h3 : om.dst = some d) (h4 : kd[m]? = some (.mat lb)) (h5 : m ∈ depsB o)
    (h6 : o.op = .call { callee := .builtin .append, args := #[.tmp s, .tmp d], argTypes := #[t, t] }) (h7 : l[z]? = some oz) (h8 : oz.dst = some s) (h9 : kd[z]? = some (.pure cur0)) (h10 : z ∈ depsB o) : OpOk P Q S t l kd apps cur0 a0 i o .app :=
  ⟨0, m, s, d, om, lb, h1, h2, h3, h4, h5, h6, .inl ⟨rfl, z, oz, h7, h8, h9, h10⟩⟩
theorem OpOk.of_next {q m s d kz mz : Nat} {om oz : Oper} {lb : List Int} (h1 : apps[q + 1]? = some (i, m)) (h2 : l[m]? = some om) (h3 : om.dst = some d) (h4 : kd[m]? = some (.mat lb)) (h5 : m ∈ depsB o)
    (h6 : o.op = .call { callee := .builtin .append, args := #[.tmp s, .tmp d], argTypes := #[t, t] }) (h7 : apps[q]? = some (kz, mz)) (h8 : l[kz]? = some oz) (h9 : oz.dst = some s) (h10 : kz ∈ depsB o) : OpOk P Q S t l kd apps cur0 a0 i o .app :=
  ⟨q + 1, m, s, d, om, lb, h1, h2, h3, h4, h5, h6, .inr ⟨q, oz, mz, rfl, kz, h7, h8, h9, h10⟩⟩
theorem OpOk.of_cpy {q : Nat} {oq : Oper} {s : Tmp} (h1 : l[q]? = some oq) (h2 : oq.dst = some s) (h3 : q ∈ depsB o) (h4 : o.op = .assign (.tmp s) ∨ o.op = .move (.tmp s)) : OpOk P Q S t l kd apps cur0 a0 i o (.cpy q) := ⟨oq, s, h1, h2, h3, h4⟩
end
end Go.Proofs.YtmpieeadkkeniaaGreatDoor
