/- Layer 2: what the guard of the statements asks first is true: a few fixed answers of package ins. Conditions: the two tables read as they should. -/
import Derived.Test.YtepkochgibjflaaDoorInsDec
namespace Go.Proofs.YtepkochgibjflaaDoor
open Go.RowKit
set_option linter.unusedVariables false

theorem awI1 : IsI 1 := ⟨by decide, by decide⟩
theorem awI0 : IsI 0 := ⟨by decide, by decide⟩
theorem awE (w : World) (hT : Tabs w) : Calls Tryd.prog 7 #[.agg #[.int .i64 16, .int .i64 1, .int .i64 0, .int .i64 0, .int .i64 (-1)]] w fun e w' => e = .returned (.tuple #[.int .u32 4293918867, .int .i64 0]) ∧ Below w.heap.size w w' := by
  have h := encode_yes 16 1 0 0 (-1) w (by decide) hT awI1 awI0 awI0 (by decide +kernel)
  rwa [show encI 16 1 0 0 (-1) = 4293918867 from by decide +kernel] at h
theorem awM (w : World) (hT : Tabs w) : Calls Tryd.prog 6 #[.agg #[.int .i64 16, .int .i64 1, .int .i64 0, .int .i64 0, .int .i64 (-1)]] w fun e w' => e = .returned (.bool true) ∧ Below w.heap.size w w' :=
  may_at 16 1 0 0 (-1) w (by decide) hT awI1 awI0 awI0 true (by decide +kernel)
theorem awF (w : World) (hT : Tabs w) : Calls Tryd.prog 5 #[.int .i64 40] w fun e w' => e = .returned (.string ⟨#[74]⟩) ∧ w = w' := form_yes 40 w (by decide) hT
theorem awMatch : Match 4293918867 16 := by unfold Match; decide +kernel
theorem awD (w : World) (hT : Tabs w) : Calls Tryd.prog 8 #[.int .u32 4293918867] w fun e w' => e = .returned (.tuple #[.agg #[.int .i64 16, .int .i64 1, .int .i64 0, .int .i64 0, .int .i64 (-1)], .int .i64 0]) ∧ Below w.heap.size w w' := by
  have h := decode_yes 4293918867 16 w ⟨by decide, by decide⟩ hT (by decide) awMatch
  rwa [show regI 4293918867 7 (lRd (opS 16)) = 1 from by decide +kernel, show regI 4293918867 15 (lR1 (opS 16)) = 0 from by decide +kernel, show regI 4293918867 20 (lR2 (opS 16)) = 0 from by decide +kernel, show numberI 4293918867 (opS 16) = -1 from by decide +kernel] at h
theorem noMatch0 : ∀ n, n < 43 → ¬ Match 0 n := fun n hn h => by
  have h1 : (opF n : Int) = 0 := h.1.trans (by decide +kernel)
  have h2 : 0 < opF n := all43 (p := fun n => 0 < opF n) (by decide +kernel) hn
  omega
theorem awN (w : World) (hT : Tabs w) : Calls Tryd.prog 8 #[.int .u32 0] w fun e w' => e = .returned (.tuple #[.agg #[.int .i64 0, .int .i64 0, .int .i64 0, .int .i64 0, .int .i64 0], .int .i64 3]) ∧ Below w.heap.size w w' :=
  decode_no 0 w ⟨by decide, by decide⟩ hT noMatch0
/-- a call that leaves all that was there, told in the world in which the caller began -/
theorem step_below {w0 w w' : World} (h : Tabs w ∧ Below w0.heap.size w0 w) (hb : Below w.heap.size w w') : Tabs w' ∧ Below w0.heap.size w0 w' := ⟨h.1.below hb, h.2.trans (hb.mono h.2.size)⟩
set_option maxHeartbeats 1000000 in
theorem awake_any (w : World) (hT : Tabs w) :
    Calls Tryd.prog 4 #[] w fun e w' => e = .returned (.bool true) ∧ Tabs w' ∧ Below w.heap.size w w' := by
  have HT := Lib.hid hT
  clear hT
  go_enter Tryd.func4, Tryd.ntmps4
  go_wp2_with fail
  refine (awE _ HT.out).mono ?_
  rintro e w1 ⟨rfl, hb⟩
  have H1 := Lib.hid (step_below ⟨HT.out, Below.refl _ _⟩ hb)
  clear hb HT
  go_wp2_with fail
  refine (awD _ H1.out.1).mono ?_
  rintro e w2 ⟨rfl, hb⟩
  have H2 := Lib.hid (step_below H1.out hb)
  clear hb H1
  go_wp2_with fail
  refine (awN _ (H2.out.1.alloc _)).mono ?_
  rintro e w3 ⟨rfl, hb⟩
  have x0 : w3.cell? ⟨w2.heap.size, 0, none⟩ = some (.int .i64 16) := by rw [hb.cell (p := ⟨_, _, none⟩) (by simp)]; simp [go_sem]
  have x1 : w3.cell? ⟨w2.heap.size, 1, none⟩ = some (.int .i64 1) := by rw [hb.cell (p := ⟨_, _, none⟩) (by simp)]; simp [go_sem]
  have x2 : w3.cell? ⟨w2.heap.size, 2, none⟩ = some (.int .i64 0) := by rw [hb.cell (p := ⟨_, _, none⟩) (by simp)]; simp [go_sem]
  have x3 : w3.cell? ⟨w2.heap.size, 3, none⟩ = some (.int .i64 0) := by rw [hb.cell (p := ⟨_, _, none⟩) (by simp)]; simp [go_sem]
  have x4 : w3.cell? ⟨w2.heap.size, 4, none⟩ = some (.int .i64 (-1)) := by rw [hb.cell (p := ⟨_, _, none⟩) (by simp)]; simp [go_sem]
  have hz : w2.heap.size < w3.heap.size := by have := hb.size; simp at this; omega
  have H3 := Lib.hid (step_below ⟨H2.out.1.alloc _, H2.out.2.alloc H2.out.2.size _⟩ hb)
  clear hb H2
  go_wp2_with fail
  refine (awF _ (H3.out.1.alloc _)).mono ?_
  rintro e w4 ⟨rfl, rfl⟩
  go_wp2_with fail
  refine (awM _ (H3.out.1.alloc _)).mono ?_
  rintro e w5 ⟨rfl, hb⟩
  have H5 := Lib.hid (step_below ⟨H3.out.1.alloc _, H3.out.2.alloc H3.out.2.size _⟩ hb)
  clear hb H3
  go_wp2
  go_ret
  exact ⟨rfl, H5.out⟩
end Go.Proofs.YtepkochgibjflaaDoor
