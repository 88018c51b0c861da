/- Layer 5: memory's answers in one form; slices.Contains of words; what mayChange, fetch and instruction of package cpu do. Condition: the tables of package ins read as they should.
   Layer 5: what fetch and instruction of package cpu do. Condition: the tables of package ins read as they should. -/
import Derived.Test.YtoeagbcjnffpaaaGreatDoorCpuB
import Derived.Test.YtoeagbcjnffpaaaGreatDoorInsDec
import Derived.Test.YtoeagbcjnffpaaaGreatDoorAluA
namespace Go.Proofs.YtoeagbcjnffpaaaGreatDoor
set_option maxRecDepth 100000
open Go.RowKit Go.Maps
set_option linter.unusedVariables false

def wOf (o : Option Int) : Int := o.getD 0
def cOf (o : Option Int) : Int := if o.isSome then 0 else 13
section
variable {w : World} {base m tb tc hb n : Nat} {T : List Rg} {G : Nat → Nat} {B : Nat → List Int}
theorem load_is (p q : Int) (own : Bool) (hp : IsU p) (hq : IsI q) (w : World) (hM : MemIs w base m tb tc hb n T G B) :
    Calls Tryz.prog 122 #[.pointer (some ⟨m, 0, none⟩), .int .u64 p, .int .i64 q, .bool own] w fun e w' => e = .returned (.tuple #[.int .u64 (wOf (loadM T B p q own 1)), .int .i64 (cOf (loadM T B p q own 1))]) ∧ Below w.heap.size w w' := by
  rcases all_or T p q own 1 with h | ⟨i, h⟩
  · have e : loadM T B p q own 1 = none := by unfold loadM; rw [allI_no h]; rfl
    rw [e]
    exact load_no base m tb tc hb n T G B p q own hp hq w hM h
  · have e : loadM T B p q own 1 = some (wordI (cut T B p q i)) := by unfold loadM; rw [allI_yes h]; rfl
    rw [e]
    exact load_yes base m tb tc hb n T G B p q own i hp hq w hM h
theorem fetch_is (p : Int) (own : Bool) (hp : IsU p) (w : World) (hM : MemIs w base m tb tc hb n T G B) :
    Calls Tryz.prog 178 #[.pointer (some ⟨m, 0, none⟩), .int .u64 p, .bool own] w fun e w' => e = .returned (.tuple #[.int .u32 (wOf (loadM T B p 4 own 4)), .int .i64 (cOf (loadM T B p 4 own 4))]) ∧ Below w.heap.size w w' := by
  rcases all_or T p 4 own 4 with h | ⟨i, h⟩
  · have e : loadM T B p 4 own 4 = none := by unfold loadM; rw [allI_no h]; rfl
    rw [e]
    exact fetch_no base m tb tc hb n T G B p own hp w hM h
  · have e : loadM T B p 4 own 4 = some (wordI (cut T B p 4 i)) := by unfold loadM; rw [allI_yes h]; rfl
    rw [e]
    exact fetch_yes base m tb tc hb n T G B p own i hp w hM h
theorem loadM_word {p : Int} {own : Bool} {q x : Int} (hM : MemIs w base m tb tc hb n T G B) (h : loadM T B p 4 own q = some x) : IsW x := by
  unfold loadM at h
  rw [Option.map_eq_some_iff] at h
  obtain ⟨i, hi, rfl⟩ := h
  have hF := (allI_is hi).2.1
  exact word4_bd (cut_all hM hF) (cut_length hM hF)
theorem loadM_u {p k : Int} {own : Bool} {q x : Int} (hM : MemIs w base m tb tc hb n T G B) (h : loadM T B p k own q = some x) : IsU x := by
  unfold loadM at h
  rw [Option.map_eq_some_iff] at h
  obtain ⟨i, hi, rfl⟩ := h
  have hF := (allI_is hi).2.1
  have h1 := wordI_bd (cut_all hM hF)
  rw [cut_length hM hF] at h1
  have h2 := pow256_le (k := k.toNat) (by have := accB_n (allI_is hi).1; omega)
  exact ⟨h1.1, by omega⟩
end
def IdxP (l : List Int) (v : Int) (w : World) (e : Ending) (w' : World) : Prop := ∃ r : Int, e = .returned (.int .i64 r) ∧ decide (0 ≤ r) = l.contains v ∧ w' = w
theorem take_mem {l : List Int} {k : Nat} {v : Int} (hk : k < l.length) (h : ∀ j, j < k → nth l j ≠ v) (hn : nth l k ≠ v) : ∀ j, j < k + 1 → nth l j ≠ v := by
  intro j hj
  by_cases e : j = k
  · subst e; exact hn
  · exact h j (by omega)
theorem contains_no {l : List Int} {v : Int} (h : ∀ j, j < l.length → nth l j ≠ v) : l.contains v = false := by
  rw [← Bool.not_eq_true, List.contains_iff_mem]
  intro hm
  obtain ⟨j, hj, e⟩ := List.getElem_of_mem hm
  exact h j hj (by rw [nth_get hj, e])
theorem contains_yes {l : List Int} {k : Nat} (hk : k < l.length) : l.contains (nth l k) = true := by
  rw [List.contains_iff_mem, nth_get hk]
  exact List.getElem_mem hk
set_option maxHeartbeats 400000 in
theorem index_any (A : Option Addr) (l : List Int) (n c : Nat) (v : Int) (hn : l.length = n) (hm : n ≤ 1000000) (w : World) (hs : SlU w A l) :
    Calls Tryz.prog 232 #[.slice A n c, .int .u64 v] w (IdxP l v w) := by
  have HS := Lib.hid hs
  have HN := Lib.hid hn
  clear hs hn
  go_enter Tryz.func232, Tryz.ntmps232
  go_wp2
  go_loop [8] (fun i => ∃ k : Nat, k ≤ n ∧ i = .int .i64 k ∧ Hid (∀ j, j < k → nth l j ≠ v)) (fun i => n - (intOf i).toNat)
  case atStart => exact ⟨0, by omega, rfl, Lib.hid (fun j hj => by omega)⟩
  case round =>
    obtain ⟨k, hk, rfl, HK⟩ := hrel
    by_cases hlt : k < n
    · have hl : k < l.length := by have := HN.out; omega
      obtain ⟨b, off, rfl, hc⟩ : ∃ b off, A = some ⟨b, off, none⟩ ∧ w.cell? ⟨b, off + k, none⟩ = some (.int .u64 (nth l k)) := by
        rcases HS.out with h | ⟨b, off, h1, h2⟩
        · rw [h] at hl; simp at hl
        · exact ⟨b, off, h1, h2 k hl⟩
      have k0 : (0 : Int) ≤ k := by omega
      have k1 : (k : Int) < n := by omega
      have HX := Lib.hid hl
      clear hl
      by_cases he : v = nth l k
      · have he2 : (v == nth l k) = true := by rw [beq_iff_eq]; exact he
        have HE := Lib.hid he
        clear he
        go_wp2
        go_ret
        exact ⟨k, rfl, by rw [HE.out, contains_yes HX.out]; simp, rfl⟩
      · have he2 : (v == nth l k) = false := by rw [beq_eq_false_iff_ne]; exact he
        have HE := Lib.hid (take_mem HX.out HK.out (fun h => he h.symm))
        clear he HK
        go_wp2
        go_round
        case rel => exact ⟨k + 1, by omega, by go_num, HE⟩
        case measure => simp [intOf]; omega
    · obtain rfl : k = n := by omega
      go_wp2
      go_ret
      exact ⟨-1, rfl, by rw [contains_no (by rw [HN.out]; exact HK.out)]; rfl, rfl⟩
theorem contains_any (A : Option Addr) (l : List Int) (n c : Nat) (v : Int) (hn : l.length = n) (hm : n ≤ 1000000) (w : World) (hs : SlU w A l) :
    Calls Tryz.prog 226 #[.slice A n c, .int .u64 v] w fun e w' => e = .returned (.bool (hasE l v)) ∧ w' = w := by
  have HS := Lib.hid (index_any A l n c v hn hm w hs)
  clear hs hn
  go_enter Tryz.func226, Tryz.ntmps226
  go_wp2_with fail
  refine HS.out.mono ?_
  rintro e w' ⟨r, rfl, hr, rfl⟩
  have HR := Lib.hid hr
  clear hr
  go_wp2
  go_ret
  exact ⟨ret_bool HR.out, rfl⟩
theorem EntsOk.sl {w : World} {K : CK} (h : EntsOk w K) : SlU w K.EA K.E := h.2.2.imp id (fun ⟨b, off, h1, _, _, h4⟩ => ⟨b, off, h1, h4⟩)
theorem mayChange_any (K : CK) (ve vl : Value) (st : St) (w : World) (hC : CpuIs w K ve vl st) :
    Calls Tryz.prog 179 #[.pointer (some ⟨K.c, 0, none⟩)] w fun e w' => e = .returned (.bool (st.s.own || hasE K.E st.s.pc)) ∧ Below w.heap.size w w' := by
  have h0 := hC.blk.own
  have h1 := hC.blk.pc
  have h2 := hC.blk.ent
  have HC := Lib.hid hC
  clear hC
  cases hb : st.s.own with
  | true =>
    rw [hb] at h0
    clear hb
    go_enter Tryz.func179, Tryz.ntmps179
    go_wp2
    go_quiet (fail)
    go_wp2
    go_ret
    exact ⟨rfl, bel_drewN (Below.refl _ _) _⟩
  | false =>
    rw [hb] at h0
    clear hb
    go_enter Tryz.func179, Tryz.ntmps179
    go_wp2
    go_quiet ((go_at_call 226; exact Calls.quiet_of_same (contains_any K.EA K.E _ _ _ rfl HC.out.ent.1 _ (HC.out.below (bel_drewN (Below.refl _ _) _)).ent.sl)))
    go_wp2
    go_ret
    exact ⟨rfl, bel_drewN (Below.refl _ _) _⟩
end Go.Proofs.YtoeagbcjnffpaaaGreatDoor
namespace Go.Proofs.YtoeagbcjnffpaaaGreatDoor
set_option maxRecDepth 100000
open Go.RowKit Go.Maps
set_option linter.unusedVariables false

/-- the world's tables are as they should be, and not to be written -/
structure Env (w : World) (F : Nat → Prop) : Prop where
  tabs : Tabs w
  taba : TabA w
  ops : ¬ F 1
  lays : ¬ F 0
  two : ¬ F 2
theorem Env.out {w w' : World} {F : Nat → Prop} (h : Env w F) (o : Out F w w') : Env w' F := by
  have key : ∀ {b k : Nat} {v : Value}, ¬ F b → w.cell? ⟨b, k, none⟩ = some v → w'.cell? ⟨b, k, none⟩ = some v := fun hb hc => by
    rw [World.cell?_of_block (o.block _ (block_lt hc) hb)]; exact hc
  exact ⟨⟨fun n hn j hj => key h.ops (h.tabs.1 n hn j hj), fun s hs j hj => key h.lays (h.tabs.2 s hs j hj)⟩, fun n hn => key h.two (h.taba n hn), h.ops, h.lays, h.two⟩
abbrev C3 (w : World) (K : CK) (st : St) : Prop := w.cell? ⟨K.c, 0, none⟩ = some (.pointer (some ⟨K.m, 0, none⟩)) ∧ w.cell? ⟨K.c, 34, none⟩ = some (.int .u64 st.s.pc) ∧ w.cell? ⟨K.c, 35, none⟩ = some (.bool st.s.own)
abbrev S3 (w0 : World) (K : CK) (ve vl : Value) (st : St) (w : World) : Prop := C3 w K st ∧ CpuIs w K ve vl st ∧ Below w0.heap.size w0 w
section
variable {w0 w w' : World} {K : CK} {ve vl : Value} {st : St} {F : Nat → Prop}
theorem s3_of (h : CpuIs w K ve vl st) (hb : Below w0.heap.size w0 w) : S3 w0 K ve vl st w := ⟨⟨h.blk.mem, h.blk.pc, h.blk.own⟩, h, hb⟩
theorem s3_below (h : S3 w0 K ve vl st w) (hb : Below w.heap.size w w') : S3 w0 K ve vl st w' := s3_of (h.2.1.below hb) (h.2.2.trans (hb.mono h.2.2.size))
theorem s3_drew (h : S3 w0 K ve vl st w) : S3 w0 K ve vl st w.drew := s3_below h (bel_drewN (Below.refl _ _) 1)
theorem s3_drewN (h : S3 w0 K ve vl st w) (n : Nat) : S3 w0 K ve vl st (w.drewN n) := s3_below h (bel_drewN (Below.refl _ _) n)
theorem s3_mem (h : S3 w0 K ve vl st w) : MemIs w 0 K.m K.tb K.tc K.hb K.n K.T K.G st.B := h.2.1.mem
theorem s3_mem' (h : S3 w0 K ve vl st w) : MemIs w.drew 0 K.m K.tb K.tc K.hb K.n K.T K.G st.B := (s3_drew h).2.1.mem
end
/-- what fetch answers -/
def FetP (w : World) (K : CK) (F : Nat → Prop) (x c : Int) (st : St) (e : Ending) (w' : World) : Prop := e = .returned (.tuple #[.int .u32 x, .int .i64 c]) ∧ CpuAt w' K F st ∧ Out F w w'
theorem fet_end {w w' : World} {K : CK} {ve vl : Value} {st : St} {F : Nat → Prop} (hF : FootIs w K F ve vl) (h : S3 w K ve vl st w') : CpuAt w' K F st ∧ Out F w w' := ⟨⟨ve, vl, h.2.1, hF.mono h.2.2.size⟩, .of_below h.2.2⟩
set_option maxHeartbeats 1000000 in
theorem cfetch_own (K : CK) (F : Nat → Prop) (st : St) (x : Int) (w : World) (hA : CpuAt w K F st) (h1 : loadM K.T st.B st.s.pc 4 st.s.own 4 = some x) :
    Calls Tryz.prog 135 #[.pointer (some ⟨K.c, 0, none⟩)] w (FetP w K F x 0 st) := by
  obtain ⟨ve, vl, hC, hF⟩ := hA
  have HPc := Lib.hid hC.wf.2.2.2.1
  have HFe := Lib.hid (show ∀ w, MemIs w 0 K.m K.tb K.tc K.hb K.n K.T K.G st.B → Calls Tryz.prog 178 #[.pointer (some ⟨K.m, 0, none⟩), .int .u64 st.s.pc, .bool st.s.own] w fun e w' => e = .returned (.tuple #[.int .u32 x, .int .i64 0]) ∧ Below w.heap.size w w' from fun w hM => by
    have := fetch_is st.s.pc st.s.own HPc.out w hM
    rw [h1] at this
    exact this)
  have HF := Lib.hid hF
  have hS : S3 w K ve vl st w := s3_of hC (Below.refl _ _)
  clear hC hF h1
  go_enter Tryz.func135, Tryz.ntmps135
  go_wp2
  go_region_held3 (fun w' => S3 w K ve vl st w') (first | (with_reducible assumption) | ((with_reducible apply s3_drew); (with_reducible assumption)) | ((with_reducible apply s3_drewN); (with_reducible assumption)) | ((with_reducible apply s3_below); (with_reducible assumption); (with_reducible assumption)))
    (first | (go_at_call 178; (with_reducible refine (HFe.out _ ?hm).mono ?_); (case hm => (first | ((with_reducible apply s3_mem); (with_reducible assumption)) | ((with_reducible apply s3_mem'); (with_reducible assumption)))); rintro e w' ⟨rfl, hb⟩))
  rename_i hh
  have HH := Lib.hid hh
  clear hh hS
  go_wp2
  go_ret2
  exact ⟨rfl, fet_end HF.out HH.out⟩
set_option maxHeartbeats 1000000 in
theorem cfetch_no (K : CK) (F : Nat → Prop) (st : St) (w : World) (hA : CpuAt w K F st) (h1 : loadM K.T st.B st.s.pc 4 st.s.own 4 = none) (h2 : (st.s.own || hasE K.E st.s.pc) = false) :
    Calls Tryz.prog 135 #[.pointer (some ⟨K.c, 0, none⟩)] w (FetP w K F 0 13 st) := by
  obtain ⟨ve, vl, hC, hF⟩ := hA
  have HPc := Lib.hid hC.wf.2.2.2.1
  have HFe := Lib.hid (show ∀ w, MemIs w 0 K.m K.tb K.tc K.hb K.n K.T K.G st.B → Calls Tryz.prog 178 #[.pointer (some ⟨K.m, 0, none⟩), .int .u64 st.s.pc, .bool st.s.own] w fun e w' => e = .returned (.tuple #[.int .u32 0, .int .i64 13]) ∧ Below w.heap.size w w' from fun w hM => by
    have := fetch_is st.s.pc st.s.own HPc.out w hM
    rw [h1] at this
    exact this)
  have HM := Lib.hid (fun w (h : CpuIs w K ve vl st) => h2 ▸ mayChange_any K ve vl st w h)
  have HF := Lib.hid hF
  have hS : S3 w K ve vl st w := s3_of hC (Below.refl _ _)
  clear hC hF h1 h2
  go_enter Tryz.func135, Tryz.ntmps135
  go_wp2
  go_region_held3 (fun w' => S3 w K ve vl st w') (first | (with_reducible assumption) | ((with_reducible apply s3_drew); (with_reducible assumption)) | ((with_reducible apply s3_drewN); (with_reducible assumption)) | ((with_reducible apply s3_below); (with_reducible assumption); (with_reducible assumption)))
    (first | (go_at_call 178; (with_reducible refine (HFe.out _ ?hm).mono ?_); (case hm => (first | ((with_reducible apply s3_mem); (with_reducible assumption)) | ((with_reducible apply s3_mem'); (with_reducible assumption)))); rintro e w' ⟨rfl, hb⟩))
  rename_i hh
  have HH := Lib.hid hh
  clear hh hS
  go_wp2_with fail
  refine (HM.out _ HH.out.2.1).mono ?_
  rintro e w2 ⟨rfl, hb2⟩
  have HH2 := Lib.hid (s3_below HH.out hb2)
  clear hb2 HH
  go_wp2
  go_ret2
  exact ⟨rfl, fet_end HF.out HH2.out⟩
set_option maxHeartbeats 1000000 in
theorem cfetch_none (K : CK) (F : Nat → Prop) (st : St) (w : World) (hA : CpuAt w K F st) (h1 : loadM K.T st.B st.s.pc 4 st.s.own 4 = none) (h2 : (st.s.own || hasE K.E st.s.pc) = true) (h3 : loadM K.T st.B st.s.pc 4 (!st.s.own) 4 = none) :
    Calls Tryz.prog 135 #[.pointer (some ⟨K.c, 0, none⟩)] w (FetP w K F 0 13 st) := by
  obtain ⟨ve, vl, hC, hF⟩ := hA
  have HPc := Lib.hid hC.wf.2.2.2.1
  have HFe := Lib.hid (show ∀ w, MemIs w 0 K.m K.tb K.tc K.hb K.n K.T K.G st.B → Calls Tryz.prog 178 #[.pointer (some ⟨K.m, 0, none⟩), .int .u64 st.s.pc, .bool st.s.own] w fun e w' => e = .returned (.tuple #[.int .u32 0, .int .i64 13]) ∧ Below w.heap.size w w' from fun w hM => by
    have := fetch_is st.s.pc st.s.own HPc.out w hM
    rw [h1] at this
    exact this)
  have HFf := Lib.hid (show ∀ w, MemIs w 0 K.m K.tb K.tc K.hb K.n K.T K.G st.B → Calls Tryz.prog 178 #[.pointer (some ⟨K.m, 0, none⟩), .int .u64 st.s.pc, .bool (!st.s.own)] w fun e w' => e = .returned (.tuple #[.int .u32 0, .int .i64 13]) ∧ Below w.heap.size w w' from fun w hM => by
    have := fetch_is st.s.pc (!st.s.own) HPc.out w hM
    rw [h3] at this
    exact this)
  have HM := Lib.hid (fun w (h : CpuIs w K ve vl st) => h2 ▸ mayChange_any K ve vl st w h)
  have HF := Lib.hid hF
  have hS : S3 w K ve vl st w := s3_of hC (Below.refl _ _)
  clear hC hF h1 h2 h3
  go_enter Tryz.func135, Tryz.ntmps135
  go_wp2
  go_region_held3 (fun w' => S3 w K ve vl st w') (first | (with_reducible assumption) | ((with_reducible apply s3_drew); (with_reducible assumption)) | ((with_reducible apply s3_drewN); (with_reducible assumption)) | ((with_reducible apply s3_below); (with_reducible assumption); (with_reducible assumption)))
    (first | (go_at_call 178; (with_reducible refine (HFe.out _ ?hm).mono ?_); (case hm => (first | ((with_reducible apply s3_mem); (with_reducible assumption)) | ((with_reducible apply s3_mem'); (with_reducible assumption)))); rintro e w' ⟨rfl, hb⟩))
  rename_i hh
  have HH := Lib.hid hh
  clear hh hS
  go_wp2_with fail
  refine (HM.out _ HH.out.2.1).mono ?_
  rintro e w2 ⟨rfl, hb2⟩
  have hS := s3_below HH.out hb2
  clear hb2 HH
  go_wp2
  go_region_held3 (fun w' => S3 w K ve vl st w') (first | (with_reducible assumption) | ((with_reducible apply s3_drew); (with_reducible assumption)) | ((with_reducible apply s3_drewN); (with_reducible assumption)) | ((with_reducible apply s3_below); (with_reducible assumption); (with_reducible assumption)))
    (first | (go_at_call 178; (with_reducible refine (HFf.out _ ?hm).mono ?_); (case hm => (first | ((with_reducible apply s3_mem); (with_reducible assumption)) | ((with_reducible apply s3_mem'); (with_reducible assumption)))); rintro e w' ⟨rfl, hb⟩))
  rename_i hh
  have HH := Lib.hid hh
  clear hh hS
  go_wp2
  go_ret2
  exact ⟨rfl, fet_end HF.out HH.out⟩
set_option maxHeartbeats 1000000 in
theorem cfetch_other (K : CK) (F : Nat → Prop) (st : St) (x : Int) (w : World) (hA : CpuAt w K F st) (hl : st.ev.length < 100000000) (h1 : loadM K.T st.B st.s.pc 4 st.s.own 4 = none) (h2 : (st.s.own || hasE K.E st.s.pc) = true) (h3 : loadM K.T st.B st.s.pc 4 (!st.s.own) 4 = some x) :
    Calls Tryz.prog 135 #[.pointer (some ⟨K.c, 0, none⟩)] w (FetP w K F x 0 (changed st)) := by
  obtain ⟨ve, vl, hC, hF⟩ := hA
  have HPc := Lib.hid hC.wf.2.2.2.1
  have HFe := Lib.hid (show ∀ w, MemIs w 0 K.m K.tb K.tc K.hb K.n K.T K.G st.B → Calls Tryz.prog 178 #[.pointer (some ⟨K.m, 0, none⟩), .int .u64 st.s.pc, .bool st.s.own] w fun e w' => e = .returned (.tuple #[.int .u32 0, .int .i64 13]) ∧ Below w.heap.size w w' from fun w hM => by
    have := fetch_is st.s.pc st.s.own HPc.out w hM
    rw [h1] at this
    exact this)
  have HFf := Lib.hid (show ∀ w, MemIs w 0 K.m K.tb K.tc K.hb K.n K.T K.G st.B → Calls Tryz.prog 178 #[.pointer (some ⟨K.m, 0, none⟩), .int .u64 st.s.pc, .bool (!st.s.own)] w fun e w' => e = .returned (.tuple #[.int .u32 x, .int .i64 0]) ∧ Below w.heap.size w w' from fun w hM => by
    have := fetch_is st.s.pc (!st.s.own) HPc.out w hM
    rw [h3] at this
    exact this)
  have HM := Lib.hid (fun w (h : CpuIs w K ve vl st) => h2 ▸ mayChange_any K ve vl st w h)
  have HL := Lib.hid hl
  have HF := Lib.hid hF
  have hS : S3 w K ve vl st w := s3_of hC (Below.refl _ _)
  clear hC hF h1 h2 h3 hl
  go_enter Tryz.func135, Tryz.ntmps135
  go_wp2
  go_region_held3 (fun w' => S3 w K ve vl st w') (first | (with_reducible assumption) | ((with_reducible apply s3_drew); (with_reducible assumption)) | ((with_reducible apply s3_drewN); (with_reducible assumption)) | ((with_reducible apply s3_below); (with_reducible assumption); (with_reducible assumption)))
    (first | (go_at_call 178; (with_reducible refine (HFe.out _ ?hm).mono ?_); (case hm => (first | ((with_reducible apply s3_mem); (with_reducible assumption)) | ((with_reducible apply s3_mem'); (with_reducible assumption)))); rintro e w' ⟨rfl, hb⟩))
  rename_i hh
  have HH := Lib.hid hh
  clear hh hS
  go_wp2_with fail
  refine (HM.out _ HH.out.2.1).mono ?_
  rintro e w2 ⟨rfl, hb2⟩
  have hS := s3_below HH.out hb2
  clear hb2 HH
  go_wp2
  go_region_held3 (fun w' => S3 w K ve vl st w') (first | (with_reducible assumption) | ((with_reducible apply s3_drew); (with_reducible assumption)) | ((with_reducible apply s3_drewN); (with_reducible assumption)) | ((with_reducible apply s3_below); (with_reducible assumption); (with_reducible assumption)))
    (first | (go_at_call 178; (with_reducible refine (HFf.out _ ?hm).mono ?_); (case hm => (first | ((with_reducible apply s3_mem); (with_reducible assumption)) | ((with_reducible apply s3_mem'); (with_reducible assumption)))); rintro e w' ⟨rfl, hb⟩))
  rename_i hh
  have HH := Lib.hid (fet_end HF.out hh)
  clear hh hS
  go_wp2_with fail
  refine (change_any K F st _ HH.out.1 HL.out).mono ?_
  rintro e w3 ⟨rfl, hA3, ho3⟩
  have HA3 := Lib.hid hA3
  have HO3 := Lib.hid (HH.out.2.trans ho3)
  clear hA3 ho3 HH
  go_wp2
  go_ret2
  exact ⟨rfl, HA3.out, HO3.out⟩
/-- fetch, whatever comes -/
theorem cfetch_some (K : CK) (F : Nat → Prop) (st st1 : St) (x : Int) (w : World) (hA : CpuAt w K F st) (hl : st.ev.length < 100000000) (h : fetchC K.T K.E st = some (x, st1)) :
    Calls Tryz.prog 135 #[.pointer (some ⟨K.c, 0, none⟩)] w (FetP w K F x 0 st1) := by
  unfold fetchC at h
  cases h1 : loadM K.T st.B st.s.pc 4 st.s.own 4 with
  | some y => rw [h1] at h; cases h; exact cfetch_own K F st x w hA h1
  | none =>
    rw [h1] at h
    cases h2 : (st.s.own || hasE K.E st.s.pc) with
    | false => rw [h2] at h; cases h
    | true =>
      rw [h2] at h
      cases h3 : loadM K.T st.B st.s.pc 4 (!st.s.own) 4 with
      | none => rw [h3] at h; cases h
      | some y => rw [h3] at h; cases h; exact cfetch_other K F st x w hA hl h1 h2 h3
theorem cfetch_fail (K : CK) (F : Nat → Prop) (st : St) (w : World) (hA : CpuAt w K F st) (h : fetchC K.T K.E st = none) :
    Calls Tryz.prog 135 #[.pointer (some ⟨K.c, 0, none⟩)] w (FetP w K F 0 13 st) := by
  unfold fetchC at h
  cases h1 : loadM K.T st.B st.s.pc 4 st.s.own 4 with
  | some y => rw [h1] at h; cases h
  | none =>
    rw [h1] at h
    cases h2 : (st.s.own || hasE K.E st.s.pc) with
    | false => exact cfetch_no K F st w hA h1 h2
    | true =>
      rw [h2] at h
      cases h3 : loadM K.T st.B st.s.pc 4 (!st.s.own) 4 with
      | none => exact cfetch_none K F st w hA h1 h2 h3
      | some y => rw [h3] at h; cases h
/-- what instruction answers -/
def InsP (w : World) (K : CK) (F : Nat → Prop) (x : X) (c : Int) (st : St) (e : Ending) (w' : World) : Prop := e = .returned (.tuple #[xV x, .int .i64 c]) ∧ CpuAt w' K F st ∧ Out F w w'
end Go.Proofs.YtoeagbcjnffpaaaGreatDoor
