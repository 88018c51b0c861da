/- Layer 6: awake: what the document fixes. Condition: the tables of package ins read as they should.
   Layer 6: the reference's Small: some bool, whatever the object. No condition. -/
import Derived.Test.YtjngkifoaljmaaaGreatDoorObjH
import Derived.Test.YtjngkifoaljmaaaGreatDoorObjF
namespace Go.Proofs.YtjngkifoaljmaaaGreatDoor
set_option maxRecDepth 100000
open Go.RowKit
set_option linter.unusedVariables false
def fS : ByteArray := ⟨#[102]⟩
def d0 : ObjD := ⟨[1048691], [], [(fS, false, 0, true)], [], [(fS, [0, 2])]⟩
def dE : ObjD := ⟨[], [], [], [], []⟩
theorem d0_may : mayO d0 = true := by decide +kernel
theorem dE_may : mayO dE = true := by decide +kernel
theorem dE_len : (encB dE).length = 14 := by decide +kernel
theorem d0_W : ObjW d0 := by
  refine ⟨fun x hx => ?_, fun x hx => ?_, fun s hs => ?_, fun s hs => ?_, fun s hs => ?_⟩
  · simp [d0] at hx; subst hx; exact ⟨by decide, by decide⟩
  · simp [d0] at hx
  · simp [d0] at hs; subst hs; exact ⟨by unfold maxLen; decide, ⟨by decide, by decide⟩⟩
  · simp [d0] at hs
  · simp [d0] at hs; subst hs
    refine ⟨by unfold maxLen; decide, fun z hz => ?_, by unfold maxLen; decide⟩
    simp at hz
    rcases hz with rfl | rfl <;> exact ⟨by decide, by decide⟩
theorem dE_W : ObjW dE := ⟨fun x hx => (nomatch hx), fun x hx => (nomatch hx), fun x hx => (nomatch hx), fun x hx => (nomatch hx), fun x hx => (nomatch hx)⟩
theorem d0_L : ObjL d0 := by
  refine ⟨?_, ?_, ?_, ?_, ?_, fun x hx => ?_⟩
  all_goals unfold maxLen
  · decide
  · decide
  · decide
  · decide
  · decide
  · simp [d0] at hx; subst hx; decide
theorem allB_app {a b : List Int} (ha : AllB a) (hb : AllB b) : AllB (a ++ b) := fun x hx => by
  rcases List.mem_append.1 hx with h | h
  · exact ha x h
  · exact hb x h
theorem allB_flat {α : Type} {e : α → List Int} (h : ∀ x, AllB (e x)) (xs : List α) : AllB (xs.flatMap e) := fun x hx => by
  obtain ⟨y, _, h2⟩ := List.mem_flatMap.1 hx
  exact h y x h2
theorem nameW_all (s : ByteArray) : AllB (nameW s) := allB_app (bytesL_all _ _) (sB_all s)
theorem encB_all (d : ObjD) : AllB (encB d) := by
  unfold encB
  refine allB_app (fun x hx => ?_) (allB_app (by unfold headW; exact allB_app (bytesL_all _ _) (allB_app (bytesL_all _ _) (allB_app (bytesL_all _ _) (allB_app (bytesL_all _ _) (bytesL_all _ _))))) (allB_app (allB_flat (fun x => bytesL_all _ _) _) (allB_app (allB_flat (fun x => bytesL_all _ _) _) (allB_app (allB_flat (fun x => ?_) _) (allB_app (allB_flat (fun x => ?_) _) (allB_flat (fun x => ?_) _))))))
  · unfold magicW at hx
    simp at hx
    omega
  · unfold symWt symW; exact allB_app (nameW_all _) (allB_app (bytesL_all _ _) (bytesL_all _ _))
  · unfold relWt relW; exact allB_app (bytesL_all _ _) (allB_app (bytesL_all _ _) (allB_app (nameW_all _) (bytesL_all _ _)))
  · unfold entWt entryW paramW; exact allB_app (nameW_all _) (allB_app (bytesL_all _ _) (allB_flat (fun x => bytesL_all _ _) _))
theorem rowC_of_row {w : World} {lo hi b : Nat} {cs : Array Value} {T : TypeId} (h : w.heap[b]? = some (.cells cs T (0, 0))) (h1 : lo ≤ b) (h2 : b < hi) : RowC w lo hi (some ⟨b, 0, none⟩) cs.toList :=
  .inr ⟨b, 0, rfl, h1, h2, fun j v hj => by
    have := cell_of_row w b (0 + j) _ _ _ h
    rw [this, Nat.zero_add]
    simpa using hj⟩
theorem objAt_nil (w : World) (lo hi : Nat) : ObjAt w lo hi dE nil5 :=
  ⟨none, 0, none, 0, none, 0, none, 0, none, 0, [], rfl, .inl rfl, .inl rfl, .inl rfl, .inl rfl, .inl rfl, rfl⟩

theorem decB_nil : decB [] = none := by decide +kernel
theorem name_a1 : nameB (sB ⟨#[97, 95, 49]⟩) = true := by decide +kernel
theorem name_1a : nameB (sB ⟨#[49, 97]⟩) = false := by decide +kernel
def awV (h : Nat) : Value := .agg #[.slice (some ⟨h, 0, none⟩) 1 1, .slice none 0 0, .slice (some ⟨h + 1, 0, none⟩) 1 1, .slice none 0 0, .slice (some ⟨h + 1 + 1 + 1, 0, none⟩) 1 1]
theorem new_at {w : World} {o : Obj} {n : Nat} (h : w.heap.size = n) : (w.alloc o).heap[n]? = some o := by subst h; exact heap_alloc_new w o
theorem allocs5 (w : World) (o0 o1 o2 o3 o4 : Obj) : (((((w.alloc o0).alloc o1).alloc o2).alloc o3).alloc o4).heap[w.heap.size]? = some o0 ∧ (((((w.alloc o0).alloc o1).alloc o2).alloc o3).alloc o4).heap[w.heap.size + 1]? = some o1 ∧ (((((w.alloc o0).alloc o1).alloc o2).alloc o3).alloc o4).heap[w.heap.size + 1 + 1]? = some o2 ∧ (((((w.alloc o0).alloc o1).alloc o2).alloc o3).alloc o4).heap[w.heap.size + 1 + 1 + 1]? = some o3 ∧ (((((w.alloc o0).alloc o1).alloc o2).alloc o3).alloc o4).heap[w.heap.size + 1 + 1 + 1 + 1]? = some o4 ∧ (((((w.alloc o0).alloc o1).alloc o2).alloc o3).alloc o4).heap.size = w.heap.size + 5 := by
  have s1 : (w.alloc o0).heap.size = w.heap.size + 1 := by simp
  have s2 : ((w.alloc o0).alloc o1).heap.size = w.heap.size + 1 + 1 := by simp
  have s3 : (((w.alloc o0).alloc o1).alloc o2).heap.size = w.heap.size + 1 + 1 + 1 := by simp
  have s4 : ((((w.alloc o0).alloc o1).alloc o2).alloc o3).heap.size = w.heap.size + 1 + 1 + 1 + 1 := by simp
  refine ⟨?_, ?_, ?_, ?_, new_at s4, by simp⟩
  · rw [heap_alloc_old _ _ (by omega), heap_alloc_old _ _ (by omega), heap_alloc_old _ _ (by omega), heap_alloc_old _ _ (by omega)]; exact new_at rfl
  · rw [heap_alloc_old _ _ (by omega), heap_alloc_old _ _ (by omega), heap_alloc_old _ _ (by omega)]; exact new_at s1
  · rw [heap_alloc_old _ _ (by omega), heap_alloc_old _ _ (by omega)]; exact new_at s2
  · rw [heap_alloc_old _ _ (by omega)]; exact new_at s3
theorem aw_obj {W : World} {h : Nat} (r0 : W.heap[h]? = some (.cells #[.int .u32 1048691] 45 (0, 0))) (r1 : W.heap[h + 1]? = some (.cells #[.string fS, .bool false, .int .i64 0, .bool true] 52 (0, 0))) (r2 : W.heap[h + 1 + 1]? = some (.cells #[.int .i64 0, .int .i64 2] 3 (0, 0))) (r3 : W.heap[h + 1 + 1 + 1]? = some (.cells #[.string fS, .slice (some ⟨h + 1 + 1, 0, none⟩) 2 2] 84 (0, 0))) : ObjAt W h (h + 4) d0 (awV h) := by
  have p0 : RowC W h (h + 4) (some ⟨h, 0, none⟩) (d0.text.flatMap encU32) := rowC_of_row r0 (Nat.le_refl _) (by omega)
  have p1 : RowC W h (h + 4) (some ⟨h + 1, 0, none⟩) (d0.syms.flatMap encSym) := rowC_of_row r1 (by omega) (by omega)
  have p3 : RowC W h (h + 4) (some ⟨h + 1 + 1 + 1, 0, none⟩) [.string fS, .slice (some ⟨h + 1 + 1, 0, none⟩) 2 2] := rowC_of_row r3 (by omega) (by omega)
  have p2 : RowO W h (h + 4) none (some ⟨h + 1 + 1, 0, none⟩) ([(0 : Int), 2].flatMap encI64) := by
    rcases rowC_of_row (lo := h) (hi := h + 4) r2 (by omega) (by omega) with h' | ⟨b, o, e, h1, h2, h3⟩
    · cases h'
    · exact .inr ⟨b, o, e, h1, h2, (fun e => by cases e), h3⟩
  exact ⟨some ⟨h, 0, none⟩, 1, none, 0, some ⟨h + 1, 0, none⟩, 1, none, 0, some ⟨h + 1 + 1 + 1, 0, none⟩, 1, [.string fS, .slice (some ⟨h + 1 + 1, 0, none⟩) 2 2], rfl, p0, .inl rfl, p1, .inl rfl, p3, some ⟨h + 1 + 1, 0, none⟩, 2, [], rfl, p2, rfl⟩
set_option maxHeartbeats 1000000 in
theorem awake_start (w : World) : ObjAt (((((w.alloc (.cells #[.int .u32 1048691] 45)).alloc (.cells #[.string fS, .bool false, .int .i64 0, .bool true] 52)).alloc (.cells #[.int .i64 0, .int .i64 2] 3)).alloc (.cells #[.string fS, .slice (some ⟨w.heap.size + 1 + 1, 0, none⟩) 2 2] 84)).alloc (.cells #[.slice (some ⟨w.heap.size, 0, none⟩) 1 1, .slice none 0 0, .slice (some ⟨w.heap.size + 1, 0, none⟩) 1 1, .slice none 0 0, .slice (some ⟨w.heap.size + 1 + 1 + 1, 0, none⟩) 1 1] 59)) w.heap.size (w.heap.size + 4) d0 (awV w.heap.size) ∧ Below w.heap.size w (((((w.alloc (.cells #[.int .u32 1048691] 45)).alloc (.cells #[.string fS, .bool false, .int .i64 0, .bool true] 52)).alloc (.cells #[.int .i64 0, .int .i64 2] 3)).alloc (.cells #[.string fS, .slice (some ⟨w.heap.size + 1 + 1, 0, none⟩) 2 2] 84)).alloc (.cells #[.slice (some ⟨w.heap.size, 0, none⟩) 1 1, .slice none 0 0, .slice (some ⟨w.heap.size + 1, 0, none⟩) 1 1, .slice none 0 0, .slice (some ⟨w.heap.size + 1 + 1 + 1, 0, none⟩) 1 1] 59)) ∧ (((((w.alloc (.cells #[.int .u32 1048691] 45)).alloc (.cells #[.string fS, .bool false, .int .i64 0, .bool true] 52)).alloc (.cells #[.int .i64 0, .int .i64 2] 3)).alloc (.cells #[.string fS, .slice (some ⟨w.heap.size + 1 + 1, 0, none⟩) 2 2] 84)).alloc (.cells #[.slice (some ⟨w.heap.size, 0, none⟩) 1 1, .slice none 0 0, .slice (some ⟨w.heap.size + 1, 0, none⟩) 1 1, .slice none 0 0, .slice (some ⟨w.heap.size + 1 + 1 + 1, 0, none⟩) 1 1] 59)).heap[w.heap.size + 1 + 1 + 1 + 1]? = some (.cells #[.slice (some ⟨w.heap.size, 0, none⟩) 1 1, .slice none 0 0, .slice (some ⟨w.heap.size + 1, 0, none⟩) 1 1, .slice none 0 0, .slice (some ⟨w.heap.size + 1 + 1 + 1, 0, none⟩) 1 1] 59 (0, 0)) ∧ (((((w.alloc (.cells #[.int .u32 1048691] 45)).alloc (.cells #[.string fS, .bool false, .int .i64 0, .bool true] 52)).alloc (.cells #[.int .i64 0, .int .i64 2] 3)).alloc (.cells #[.string fS, .slice (some ⟨w.heap.size + 1 + 1, 0, none⟩) 2 2] 84)).alloc (.cells #[.slice (some ⟨w.heap.size, 0, none⟩) 1 1, .slice none 0 0, .slice (some ⟨w.heap.size + 1, 0, none⟩) 1 1, .slice none 0 0, .slice (some ⟨w.heap.size + 1 + 1 + 1, 0, none⟩) 1 1] 59)).heap.size = w.heap.size + 5 := by
  have hB : Below w.heap.size w (((((w.alloc (.cells #[.int .u32 1048691] 45)).alloc (.cells #[.string fS, .bool false, .int .i64 0, .bool true] 52)).alloc (.cells #[.int .i64 0, .int .i64 2] 3)).alloc (.cells #[.string fS, .slice (some ⟨w.heap.size + 1 + 1, 0, none⟩) 2 2] 84)).alloc (.cells #[.slice (some ⟨w.heap.size, 0, none⟩) 1 1, .slice none 0 0, .slice (some ⟨w.heap.size + 1, 0, none⟩) 1 1, .slice none 0 0, .slice (some ⟨w.heap.size + 1 + 1 + 1, 0, none⟩) 1 1] 59)) := (((((Below.refl _ _).alloc (Nat.le_refl _) _).alloc (by simp) _).alloc (by simp; omega) _).alloc (by simp; omega) _).alloc (by simp; omega) _
  obtain ⟨r0, r1, r2, r3, r4, hz⟩ := allocs5 w (.cells #[.int .u32 1048691] 45) (.cells #[.string fS, .bool false, .int .i64 0, .bool true] 52) (.cells #[.int .i64 0, .int .i64 2] 3) (.cells #[.string fS, .slice (some ⟨w.heap.size + 1 + 1, 0, none⟩) 2 2] 84) (.cells #[.slice (some ⟨w.heap.size, 0, none⟩) 1 1, .slice none 0 0, .slice (some ⟨w.heap.size + 1, 0, none⟩) 1 1, .slice none 0 0, .slice (some ⟨w.heap.size + 1 + 1 + 1, 0, none⟩) 1 1] 59)
  exact ⟨aw_obj r0 r1 r2 r3, hB, r4, hz⟩
end Go.Proofs.YtjngkifoaljmaaaGreatDoor
namespace Go.Proofs.YtjngkifoaljmaaaGreatDoor
set_option maxRecDepth 100000
open Go.RowKit
set_option linter.unusedVariables false
/-- some bool -/
def SomeBool (e : Ending) : Prop := ∃ b, e = .returned (.bool b)
set_option maxHeartbeats 2000000 in
theorem rsmall_any (d : ObjD) (v : Value) (lo hi : Nat) (w : World) (hO : ObjAt w lo hi d v) (hh : hi ≤ w.heap.size) (hl : ObjL d) :
    Calls Tryz.prog 18 #[v] w fun e w' => SomeBool e ∧ Below w.heap.size w w' := by
  obtain ⟨A1, c1, A2, c2, A3, c3, A4, c4, A5, c5, es, rfl, p1, p2, p3, p4, p5, p6⟩ := hO
  obtain ⟨n1, f1⟩ : ∃ n, d.text.length = n := ⟨_, rfl⟩
  obtain ⟨n2, f2⟩ : ∃ n, d.data.length = n := ⟨_, rfl⟩
  obtain ⟨n3, f3⟩ : ∃ n, d.syms.length = n := ⟨_, rfl⟩
  obtain ⟨n4, f4⟩ : ∃ n, d.rels.length = n := ⟨_, rfl⟩
  obtain ⟨n5, f5⟩ : ∃ n, d.ents.length = n := ⟨_, rfl⟩
  rw [f1, f2, f3, f4, f5]
  have b5 : n5 ≤ 9223372036854775807 := by have := hl.le; unfold maxLen at this; omega
  have HB0 := Lib.hid ((Below.refl w.heap.size w).alloc (Nat.le_refl _) (.cells #[.slice A1 n1 c1, .slice A2 n2 c2, .slice A3 n3 c3, .slice A4 n4 c4, .slice A5 n5 c5] 59))
  have hX0 := heap_alloc_new w (.cells #[.slice A1 n1 c1, .slice A2 n2 c2, .slice A3 n3 c3, .slice A4 n4 c4, .slice A5 n5 c5] 59)
  have HX0 := Lib.hid hX0
  have HL := Lib.hid hl
  have P5 := Lib.hid p5
  have P6 := Lib.hid p6
  have HN := Lib.hid f5
  have HH := Lib.hid hh
  clear p1 p2 p3 p4 p5 p6 f1 f2 f3 f4 f5 hl hh hX0
  go_enter Tryz.func18, Tryz.ntmps18
  go_wp2
  go_loopw [3, 4] (fun z i wr => ∃ (k : Nat) (y : Int), k ≤ n5 ∧ z = .int .i64 y ∧ i = .int .i64 k ∧ Hid (Below w.heap.size w wr) ∧ Hid (wr.heap[w.heap.size]? = some (.cells #[.slice A1 n1 c1, .slice A2 n2 c2, .slice A3 n3 c3, .slice A4 n4 c4, .slice A5 n5 c5] 59 (0, 0)))) (fun _ i _ => n5 - (intOf i).toNat)
  case atStart => exact ⟨0, 0, by omega, rfl, rfl, HB0, HX0⟩
  case round =>
    clear HB0 HX0
    obtain ⟨k, y, hk, rfl, rfl, HW, HX⟩ := hrel
    obtain ⟨⟨x0, x1, x2, x3, x4⟩, _⟩ := row_cells5 HX.out
    by_cases hlt : k < n5
    · have k0 : (0 : Int) ≤ k := by omega
      have k1 : (k : Int) < n5 := by omega
      have hle : k < d.ents.length := by rw [HN.out]; exact hlt
      obtain ⟨Ap, cp, g0, g1, gr⟩ := P6.out.get hle
      have hne : es ≠ [] := fun e => by rw [e] at g0; cases g0
      rcases P5.out with e | ⟨b1, o1, rfl, _, hb1, hc1⟩
      · exact absurd e hne
      have hx1 := (HW.out.cell (p := ⟨b1, o1 + (k * 2 + 1), none⟩) (by have := HH.out; show b1 < _; omega)).trans (hc1 (k * 2 + 1) _ g1)
      rw [← Nat.add_assoc] at hx1
      clear gr g0 g1 hc1 hne hb1
      go_wp2
      go_roundw
      case rel => exact ⟨k + 1, _, by omega, rfl, by go_num, HW, HX⟩
      case measure => simp [intOf]; omega
    · obtain rfl : k = n5 := by omega
      clear hlt
      go_wp2
      all_goals
        go_ret
        exact ⟨⟨_, rfl⟩, HW.out⟩
end Go.Proofs.YtjngkifoaljmaaaGreatDoor
