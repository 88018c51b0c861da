/- The walk of the statement InsDecodes: it returns true, and writes nothing that was there. Condition: the two tables of package ins read as they should. -/
import Derived.Test.YthmjelkckamkdaaDoorInsAwake
import Derived.Test.YthmjelkckamkdaaDoorInsLaid
import Derived.Test.YthmjelkckamkdaaDoorInsRDecode
import Derived.Test.YthmjelkckamkdaaDoorArgs
namespace Go.Proofs.YthmjelkckamkdaaDoor.InsDecodesWalk
open Go.RowKit
set_option linter.unusedVariables false
abbrev St (w0 w : World) : Prop := Tabs w ∧ Below w0.heap.size w0 w
theorem st_below {w0 w w' : World} (h : St w0 w) (hb : Below w.heap.size w w') : St w0 w' := ⟨h.1.below hb, h.2.trans (hb.mono h.2.size)⟩
theorem st_alloc {w0 w : World} (h : St w0 w) (o : Obj) : St w0 (w.alloc o) := st_below h ((Below.refl _ _).alloc (Nat.le_refl _) _)
theorem cells_at {w1 w2 : World} {a b c d e : Int} {t : TypeId} (h : Below (w1.alloc (.cells #[.int .i64 a, .int .i64 b, .int .i64 c, .int .i64 d, .int .i64 e] t)).heap.size (w1.alloc (.cells #[.int .i64 a, .int .i64 b, .int .i64 c, .int .i64 d, .int .i64 e] t)) w2) : InsC w2 w1.heap.size a b c d e :=
  InsC.below (insC_new (t := t)) h
set_option maxHeartbeats 2000000 in
theorem walk_no (v : Int) (w : World) (hT : Tabs w)
    (HD : Hid (∀ w, Tabs w → Calls Tryd.prog 5 #[.int .u32 v] w fun e w' => e = .returned (.tuple #[.agg #[.int .i64 0, .int .i64 0, .int .i64 0, .int .i64 0, .int .i64 0], .int .i64 3]) ∧ Below w.heap.size w w'))
    (HR : Hid (∀ w, Calls Tryd.prog 6 #[.int .u32 v] w fun e w' => e = .returned (.tuple #[.agg #[.int .i64 0, .int .i64 0, .int .i64 0, .int .i64 0, .int .i64 0], .int .i64 3]) ∧ Below w.heap.size w w')) :
    Calls Tryd.prog 3 #[.int .u32 v] w fun e w' => e = .returned (.bool true) ∧ Below w.heap.size w w' := by
  have H0 := Lib.hid (show St w w from ⟨hT, Below.refl _ _⟩)
  clear hT
  go_enter Tryd.func3, Tryd.ntmps3
  go_wp2_with fail
  refine (awake_any _ H0.out.1).mono ?_
  rintro e w1 ⟨rfl, _, hb⟩
  have H1 := Lib.hid (st_below H0.out hb)
  clear hb H0
  go_wp2_with fail
  refine (HD.out _ H1.out.1).mono ?_
  rintro e w2 ⟨rfl, hb⟩
  have H2 := Lib.hid (st_below H1.out hb)
  clear hb H1
  go_wp2_with fail
  refine (HR.out _).mono ?_
  rintro e w3 ⟨rfl, hb⟩
  obtain ⟨x0, x1, x2, x3, x4⟩ := cells_at hb
  have H3 := Lib.hid (st_below (st_alloc H2.out _) hb)
  have hz : w2.heap.size < w3.heap.size := by have := hb.size; simp at this; omega
  clear hb H2
  go_wp2
  go_ret
  exact ⟨rfl, (st_alloc H3.out _).2⟩
set_option maxHeartbeats 2000000 in
theorem walk_yes (v n a b c d : Int) (w : World) (hT : Tabs w)
    (HD : Hid (∀ w, Tabs w → Calls Tryd.prog 5 #[.int .u32 v] w fun e w' => e = .returned (.tuple #[.agg #[.int .i64 n, .int .i64 a, .int .i64 b, .int .i64 c, .int .i64 d], .int .i64 0]) ∧ Below w.heap.size w w'))
    (HR : Hid (∀ w, Calls Tryd.prog 6 #[.int .u32 v] w fun e w' => e = .returned (.tuple #[.agg #[.int .i64 n, .int .i64 a, .int .i64 b, .int .i64 c, .int .i64 d], .int .i64 0]) ∧ Below w.heap.size w w'))
    (HE : Hid (∀ w, Tabs w → Calls Tryd.prog 7 #[.agg #[.int .i64 n, .int .i64 a, .int .i64 b, .int .i64 c, .int .i64 d]] w fun e w' => e = .returned (.tuple #[.int .u32 v, .int .i64 0]) ∧ Below w.heap.size w w'))
    (HM : Hid (∀ w, Tabs w → Calls Tryd.prog 8 #[.agg #[.int .i64 n, .int .i64 a, .int .i64 b, .int .i64 c, .int .i64 d]] w fun e w' => e = .returned (.bool true) ∧ Below w.heap.size w w')) :
    Calls Tryd.prog 3 #[.int .u32 v] w fun e w' => e = .returned (.bool true) ∧ Below w.heap.size w w' := by
  have H0 := Lib.hid (show St w w from ⟨hT, Below.refl _ _⟩)
  clear hT
  go_enter Tryd.func3, Tryd.ntmps3
  go_wp2_with fail
  refine (awake_any _ H0.out.1).mono ?_
  rintro e w1 ⟨rfl, _, hb⟩
  have H1 := Lib.hid (st_below H0.out hb)
  clear hb H0
  go_wp2_with fail
  refine (HD.out _ H1.out.1).mono ?_
  rintro e w2 ⟨rfl, hb⟩
  have H2 := Lib.hid (st_below H1.out hb)
  clear hb H1
  go_wp2_with fail
  refine (HR.out _).mono ?_
  rintro e w3 ⟨rfl, hb⟩
  obtain ⟨x0, x1, x2, x3, x4⟩ := cells_at hb
  have H3 := Lib.hid (st_below (st_alloc H2.out _) hb)
  have hz : w2.heap.size < w3.heap.size := by have := hb.size; simp at this; omega
  clear hb H2
  go_wp2_with fail
  refine (HE.out _ (st_alloc H3.out _).1).mono ?_
  rintro e w4 ⟨rfl, hb⟩
  have k0 := cell_kept hb (cell_kept ((Below.refl w3.heap.size w3).alloc (Nat.le_refl _) _) x0)
  have k1 := cell_kept hb (cell_kept ((Below.refl w3.heap.size w3).alloc (Nat.le_refl _) _) x1)
  have k2 := cell_kept hb (cell_kept ((Below.refl w3.heap.size w3).alloc (Nat.le_refl _) _) x2)
  have k3 := cell_kept hb (cell_kept ((Below.refl w3.heap.size w3).alloc (Nat.le_refl _) _) x3)
  have k4 := cell_kept hb (cell_kept ((Below.refl w3.heap.size w3).alloc (Nat.le_refl _) _) x4)
  have H4 := Lib.hid (st_below (st_alloc H3.out _) hb)
  clear hb H3 x0 x1 x2 x3 x4
  go_wp2_with (go_at_call 8; refine (HM.out _ H4.out.1).mono ?_; rintro e w5 ⟨rfl, hb⟩)
  have H5 := Lib.hid (st_below H4.out hb)
  go_ret
  exact ⟨rfl, H5.out.2⟩
theorem walk (v : Int) (w : World) (w0 : (Lit.int .u32 v).wf = true) (hT : Tabs w) :
    Calls Tryd.prog 3 #[.int .u32 v] w fun e w' => e = .returned (.bool true) ∧ Below w.heap.size w w' := by
  have hb := bounds_u32 w0
  have hv : IsW v := ⟨by omega, by omega⟩
  by_cases h : ∃ n, n < 43 ∧ Match v n
  · obtain ⟨n, hn, hM⟩ := h
    obtain ⟨e1, e2⟩ := dec_enc hv hn hM
    obtain ⟨p1, p2, p3, _⟩ := may_parts e1
    have i1 := fitB_true p1
    have i2 := fitB_true p2
    have i3 := fitB_true p3
    have j1 : IsI (regI v 7 (lRd (opS n))) := ⟨by omega, by omega⟩
    have j2 : IsI (regI v 15 (lR1 (opS n))) := ⟨by omega, by omega⟩
    have j3 : IsI (regI v 20 (lR2 (opS n))) := ⟨by omega, by omega⟩
    refine walk_yes v n _ _ _ _ w hT (Lib.hid fun w hT => decode_yes v n w hv hT hn hM) (Lib.hid fun w => rdecode_yes v n w hv hn hM) (Lib.hid fun w hT => ?_) (Lib.hid fun w hT => ?_)
    · have := encode_yes n _ _ _ _ w hn hT j1 j2 j3 e1
      rw [e2] at this
      exact this
    · exact may_at n _ _ _ _ w hn hT j1 j2 j3 true e1
  · have h' : ∀ n, n < 43 → ¬ Match v n := fun n hn hM => h ⟨n, hn, hM⟩
    exact walk_no v w hT (Lib.hid fun w hT => decode_no v w hv hT h') (Lib.hid fun w => rdecode_no v w hv h')
end Go.Proofs.YthmjelkckamkdaaDoor.InsDecodesWalk
