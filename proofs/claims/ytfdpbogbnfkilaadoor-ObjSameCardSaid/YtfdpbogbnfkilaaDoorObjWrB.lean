/- Layer 6: the writer of package obj: a Rel, a Sym, an Entry, put behind what is there. -/
import Derived.Test.YtfdpbogbnfkilaaDoorObjWr
namespace Go.Proofs.YtfdpbogbnfkilaaDoor
set_option maxRecDepth 100000
open Go.RowKit
set_option linter.unusedVariables false
/-- a block taken out of what may be written -/
def NBo (F : Nat → Prop) (g : Nat) (b : Nat) : Prop := F b ∧ b ≠ g
theorem WrIs.box {w : World} {p : Nat} {F : Nat → Prop} {l : List Int} (h : WrIs w p F l) (o : Obj) : WrIs (w.alloc o) p (NBo F w.heap.size) l := by
  obtain ⟨v, h⟩ := h
  have hb := h.below ((Below.refl w.heap.size w).alloc (Nat.le_refl _) o)
  refine ⟨v, hb.1, hb.2.1, ⟨hb.2.2.1, by have := h.lt; omega⟩, fun b e => ⟨hb.2.2.2.1 b e, ?_⟩, fun b e => ⟨hb.2.2.2.2 b e, ?_⟩⟩
  · have := (ownO_lt h.2.1 e).1; omega
  · simp at e; omega
theorem WrIs.unbox {w : World} {p : Nat} {F : Nat → Prop} {g : Nat} {l : List Int} (h : WrIs w p (NBo F g) l) : WrIs w p F l := by
  obtain ⟨v, h⟩ := h
  exact ⟨v, h.1, h.2.1, h.2.2.1.1, fun b e => (h.2.2.2.1 b e).1, fun b e => (h.2.2.2.2 b e).1⟩
theorem OutO.unbox {F : Nat → Prop} {g : Nat} {w w' : World} (h : OutO (NBo F g) w w') : OutO F w w' :=
  ⟨h.os, h.tape, h.output, h.size, fun k hk hn => h.block k hk (fun e => hn e.1)⟩
theorem OutO.cellAt {F : Nat → Prop} {g o : Nat} {w w' : World} (h : OutO (NBo F g) w w') (hg : g < w.heap.size) : w'.cell? ⟨g, o, none⟩ = w.cell? ⟨g, o, none⟩ :=
  World.cell?_of_block (h.block g hg (fun e => e.2 rfl))
theorem OutO.ofAlloc {F : Nat → Prop} {g : Nat} {w w' : World} {o : Obj} (h : OutO (NBo F g) (w.alloc o) w') : OutO F w w' :=
  (OutO.of_below ((Below.refl w.heap.size w).alloc (Nat.le_refl _) o)).trans h.unbox
theorem wrU (x : Int) : IsU (IntKind.u64.wrap x) := by
  rw [IntKind.wrap_u64]
  exact ⟨by omega, by omega⟩
def nameW (s : ByteArray) : List Int := bytesL s.size 1 ++ sB s
def relW (at_ kind : Int) (s : ByteArray) (add : Int) : List Int := bytesL (IntKind.u64.wrap at_) 4 ++ (bytesL (IntKind.u64.wrap kind) 1 ++ (nameW s ++ bytesL (IntKind.u64.wrap add) 8))
theorem nameW_len (s : ByteArray) : (nameW s).length = s.size + 1 := by unfold nameW; rw [List.length_append, bytesL_length, sB_len]; omega
theorem relW_len (a k : Int) (s : ByteArray) (d : Int) : (relW a k s d).length = s.size + 14 := by unfold relW; simp only [List.length_append, bytesL_length, nameW_len]; omega
theorem wr_rel (a k : Int) (s : ByteArray) (d : Int) (hs : s.size ≤ 255) (p : Nat) (F : Nat → Prop) (l : List Int) (w : World) (hW : WrIs w p F l) (hl : l.length ≤ 800000) :
    Calls Tryd.prog 73 #[.pointer (some ⟨p, 0, none⟩), .agg #[.int .i64 a, .int .i64 k, .string s, .int .i64 d]] w (WrP w p F (l ++ relW a k s d)) := by
  have H0 := Lib.hid (hW.box (.cells #[.int .i64 a, .int .i64 k, .string s, .int .i64 d] 49))
  have HL := Lib.hid hl
  have hz : w.heap.size < (w.alloc (.cells #[.int .i64 a, .int .i64 k, .string s, .int .i64 d] 49)).heap.size := by simp
  have HZ := Lib.hid hz
  clear hW hz
  go_enter Tryd.func73, Tryd.ntmps73
  go_wp2_with fail
  refine (wr_number (IntKind.u64.wrap a) 4 (wrU a) (by omega) p _ l _ H0.out (by omega)).mono ?_
  rintro e w1 ⟨rfl, h1, o1⟩
  have H1 := Lib.hid h1
  have O1 := Lib.hid o1
  have c1 : w1.cell? ⟨w.heap.size, 1, none⟩ = some (.int .i64 k) := by rw [o1.cellAt HZ.out]; simp [go_sem]
  clear h1 o1
  go_wp2_with fail
  refine (wr_number (IntKind.u64.wrap k) 1 (wrU k) (by omega) p _ _ w1 H1.out (by rw [List.length_append, bytesL_length]; have := HL.out; omega)).mono ?_
  rintro e w2 ⟨rfl, h2, o2⟩
  have H2 := Lib.hid h2
  have O2 := Lib.hid (O1.out.trans o2)
  have c2 : w2.cell? ⟨w.heap.size, 2, none⟩ = some (.string s) := by rw [O2.out.cellAt HZ.out]; simp [go_sem]
  clear h2 o2 c1
  go_wp2_with fail
  refine (wr_name s hs p _ _ w2 H2.out (by simp only [List.length_append, bytesL_length]; have := HL.out; omega)).mono ?_
  rintro e w3 ⟨rfl, h3, o3⟩
  have H3 := Lib.hid h3
  have O3 := Lib.hid (O2.out.trans o3)
  have c3 : w3.cell? ⟨w.heap.size, 3, none⟩ = some (.int .i64 d) := by rw [O3.out.cellAt HZ.out]; simp [go_sem]
  clear h3 o3 c2
  go_wp2_with fail
  refine (wr_number (IntKind.u64.wrap d) 8 (wrU d) (by omega) p _ _ w3 H3.out (by simp only [List.length_append, bytesL_length, sB_len]; have := HL.out; omega)).mono ?_
  rintro e w4 ⟨rfl, h4, o4⟩
  have H4 := Lib.hid h4
  have O4 := Lib.hid (O3.out.trans o4)
  clear h4 o4 c3
  go_wp2
  go_end0
  exact ⟨rfl, by have h := H4.out.unbox; simp only [List.append_assoc] at h; unfold relW nameW; simp only [List.append_assoc]; exact h, O4.out.ofAlloc⟩
def marksW (i o : Bool) : Int := (if i then 1 else 0) + (if o then 2 else 0)
theorem marksU (i o : Bool) : IsU (marksW i o) := by cases i <;> cases o <;> exact ⟨by decide, by decide⟩
def symW (s : ByteArray) (i : Bool) (off : Int) (o : Bool) : List Int := nameW s ++ (bytesL (marksW i o) 1 ++ bytesL (IntKind.u64.wrap off) 4)
theorem symW_len (s : ByteArray) (i : Bool) (off : Int) (o : Bool) : (symW s i off o).length = s.size + 6 := by unfold symW; simp only [List.length_append, bytesL_length, nameW_len]
set_option maxHeartbeats 2000000 in
theorem wr_sym (s : ByteArray) (i : Bool) (off : Int) (o : Bool) (hs : s.size ≤ 255) (p : Nat) (F : Nat → Prop) (l : List Int) (w : World) (hW : WrIs w p F l) (hl : l.length ≤ 800000) :
    Calls Tryd.prog 72 #[.pointer (some ⟨p, 0, none⟩), .agg #[.string s, .bool i, .int .i64 off, .bool o]] w (WrP w p F (l ++ symW s i off o)) := by
  have H0 := Lib.hid (hW.box (.cells #[.string s, .bool i, .int .i64 off, .bool o] 65))
  have HL := Lib.hid hl
  have hz : w.heap.size < (w.alloc (.cells #[.string s, .bool i, .int .i64 off, .bool o] 65)).heap.size := by simp
  have HZ := Lib.hid hz
  clear hW hz
  cases i <;> cases o
  all_goals
    go_enter Tryd.func72, Tryd.ntmps72
    go_wp2_with fail
    refine (wr_name s hs p _ l _ H0.out (by omega)).mono ?_
    rintro e w1 ⟨rfl, h1, o1⟩
    have H1 := Lib.hid h1
    have O1 := Lib.hid o1
    have c1 : w1.cell? ⟨w.heap.size, 2, none⟩ = some (.int .i64 off) := by rw [o1.cellAt HZ.out]; simp [go_sem]
    clear h1 o1
    go_wp2_with fail
    have HB1 := Lib.hid (show (l ++ (bytesL (s.size : Int) 1 ++ sB s)).length ≤ 1000000 by simp only [List.length_append, bytesL_length, sB_len]; have := HL.out; omega)
    refine (wr_number _ 1 ?hu (by omega) p _ _ w1 H1.out HB1.out).mono ?_
    case hu => exact ⟨by decide, by decide⟩
    rintro e w2 ⟨rfl, h2, o2⟩
    have H2 := Lib.hid h2
    have O2 := Lib.hid (O1.out.trans o2)
    have c2 : w2.cell? ⟨w.heap.size, 2, none⟩ = some (.int .i64 off) := by rw [O2.out.cellAt HZ.out]; simp [go_sem]
    clear h2 o2 c1
    go_wp2_with fail
    refine (wr_number (IntKind.u64.wrap off) 4 (wrU off) (by omega) p _ _ w2 H2.out (by simp only [List.length_append, bytesL_length, sB_len]; have := HL.out; omega)).mono ?_
    rintro e w3 ⟨rfl, h3, o3⟩
    have H3 := Lib.hid h3
    have O3 := Lib.hid (O2.out.trans o3)
    clear h3 o3 c2
    go_wp2
    go_end0
    exact ⟨rfl, by have h := H3.out.unbox; simp only [List.append_assoc] at h; unfold symW nameW; simp only [List.append_assoc]; exact h, O3.out.ofAlloc⟩
def paramW (zs : List Int) : List Int := zs.flatMap (fun z => bytesL (IntKind.u64.wrap z) 1)
def entryW (s : ByteArray) (zs : List Int) : List Int := nameW s ++ (bytesL zs.length 1 ++ paramW zs)
theorem paramW_len (zs : List Int) : (paramW zs).length = zs.length := by
  induction zs with
  | nil => rfl
  | cons z zs ih => simp only [paramW, List.flatMap_cons, List.length_append, bytesL_length] at ih ⊢; simp only [List.length_cons]; omega
theorem paramW_more {zs : List Int} {k : Nat} (h : k < zs.length) : paramW (zs.take (k + 1)) = paramW (zs.take k) ++ bytesL (IntKind.u64.wrap (nth zs k)) 1 := by
  unfold paramW
  rw [List.take_succ_eq_append_getElem h, List.flatMap_append, nth_get h]
  simp only [List.flatMap_cons, List.flatMap_nil, List.append_nil]
/-- the entry's parameters, as they lie -/
def ParR (w : World) (F : Nat → Prop) (A : Option Addr) (zs : List Int) : Prop :=
  zs = [] ∨ ∃ b o, A = some ⟨b, o, none⟩ ∧ b < w.heap.size ∧ ¬ F b ∧ ∀ j, j < zs.length → w.cell? ⟨b, o + j, none⟩ = some (.int .i64 (nth zs j))
def EntL (w1 wr : World) (p : Nat) (F : Nat → Prop) (g : Nat) (l : List Int) (s : ByteArray) (zs : List Int) (k : Nat) : Prop :=
  WrIs wr p (NBo F g) (l ++ (nameW s ++ (bytesL zs.length 1 ++ paramW (zs.take k)))) ∧ OutO (NBo F g) w1 wr
set_option maxHeartbeats 1000000 in
theorem wr_entry (s : ByteArray) (A : Option Addr) (zs : List Int) (n c : Nat) (hn : zs.length = n) (hn8 : n ≤ 255) (hs : s.size ≤ 255) (p : Nat) (F : Nat → Prop) (l : List Int) (w : World) (hA : ParR w F A zs) (hW : WrIs w p F l) (hl : l.length ≤ 800000) :
    Calls Tryd.prog 74 #[.pointer (some ⟨p, 0, none⟩), .agg #[.string s, .slice A n c]] w (WrP w p F (l ++ entryW s zs)) := by
  have H0 := Lib.hid (hW.box (.cells #[.string s, .slice A n c] 70))
  have HA := Lib.hid hA
  have HL := Lib.hid hl
  have HN := Lib.hid hn
  have hz : w.heap.size < (w.alloc (.cells #[.string s, .slice A n c] 70)).heap.size := by simp
  have HZ := Lib.hid hz
  have hU : IntKind.u64.wrap (n : Int) = n := by rw [IntKind.wrap_u64]; omega
  clear hW hz hA hn
  go_enter Tryd.func74, Tryd.ntmps74
  go_wp2_with fail
  refine (wr_name s hs p _ l _ H0.out (by omega)).mono ?_
  rintro e w1 ⟨rfl, h1, o1⟩
  have H1 := Lib.hid h1
  have O1 := Lib.hid o1
  have c1 : w1.cell? ⟨w.heap.size, 1, none⟩ = some (.slice A n c) := by rw [o1.cellAt HZ.out]; simp [go_sem]
  clear h1 o1
  go_wp2_with fail
  refine (wr_number _ 1 ?hu (by omega) p _ _ w1 H1.out (by simp only [List.length_append, bytesL_length, sB_len]; have := HL.out; omega)).mono ?_
  case hu => exact ⟨by omega, by omega⟩
  rintro e w2 ⟨rfl, h2, o2⟩
  have O2 := Lib.hid (O1.out.trans o2)
  have HE := Lib.hid (show EntL (w.alloc (.cells #[.string s, .slice A n c] 70)) w2 p F w.heap.size l s zs 0 from ⟨by rw [HN.out]; have h := h2; simp only [List.append_assoc] at h; simpa [nameW, paramW] using h, O2.out⟩)
  have c2 : w2.cell? ⟨w.heap.size, 1, none⟩ = some (.slice A n c) := by rw [O2.out.cellAt HZ.out]; simp [go_sem]
  clear h2 o2 c1
  go_wp2
  clear c2
  go_loopw [19] (fun i wr => ∃ k : Nat, k ≤ n ∧ i = .int .i64 k ∧ EntL (w.alloc (.cells #[.string s, .slice A n c] 70)) wr p F w.heap.size l s zs k) (fun i _ => n - (intOf i).toNat)
  case atStart => exact ⟨0, by omega, rfl, HE.out⟩
  case round =>
    obtain ⟨k, hk, rfl, he⟩ := hrel
    have HK := Lib.hid he
    clear he
    by_cases hlt : k < n
    · have k0 : (0 : Int) ≤ k := by omega
      have k1 : (k : Int) < n := by omega
      have hlz : k < zs.length := by rw [HN.out]; exact hlt
      rcases HA.out with e | ⟨b, o, rfl, hb, hnF, hc⟩
      · subst e; simp at hlz
      have HM := Lib.hid (paramW_more hlz)
      have hcell : wr.cell? ⟨b, o + k, none⟩ = some (.int .i64 (nth zs k)) := by
        rw [World.cell?_of_block (HK.out.2.block b (by simp; omega) (fun e => hnF e.1)), ← hc k hlz]
        exact ((Below.refl w.heap.size w).alloc (Nat.le_refl _) _).cell (p := ⟨b, o + k, none⟩) hb
      have HX := Lib.hid (wr_number (IntKind.u64.wrap (nth zs k)) 1 (wrU _) (by omega) p _ _ wr HK.out.1 (by simp only [List.length_append, bytesL_length, nameW_len, paramW_len, List.length_take]; have := HL.out; omega))
      go_wp2_with fail
      refine HX.out.mono ?_
      rintro e w3 ⟨rfl, h3, o3⟩
      have HK3 := Lib.hid (show EntL (w.alloc (.cells #[.string s, .slice (some ⟨b, o, none⟩) n c] 70)) w3 p F w.heap.size l s zs (k + 1) from ⟨by rw [HM.out]; have h := h3; simp only [List.append_assoc] at h ⊢; exact h, HK.out.2.trans o3⟩)
      clear h3 o3 hcell
      go_wp2
      go_roundw
      case rel => exact ⟨k + 1, by omega, by go_num, HK3.out⟩
      case measure => simp [intOf]; omega
    · have hkn : k = n := by omega
      have k1 : ¬ (k : Int) < n := by omega
      have HKN := Lib.hid hkn
      clear hkn hlt
      go_wp2
      go_end0
      exact ⟨rfl, by have h := HK.out.1.unbox; rw [HKN.out, ← HN.out, List.take_length] at h; unfold entryW; exact h, HK.out.2.ofAlloc⟩
end Go.Proofs.YtfdpbogbnfkilaaDoor
