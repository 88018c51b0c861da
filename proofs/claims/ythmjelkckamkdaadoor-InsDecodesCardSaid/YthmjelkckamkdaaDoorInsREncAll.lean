/- Layer 2: what the reference's Encode answers: the same as the program's. Conditions: the registers and the number fit an int. -/
import Derived.Test.YthmjelkckamkdaaDoorInsREnc
namespace Go.Proofs.YthmjelkckamkdaaDoor
open Go.RowKit
set_option linter.unusedVariables false
set_option maxRecDepth 100000 in
theorem renc_bad (op rd r1 r2 imm : Int) (w : World) (HM : ∀ w : World, Calls Tryd.prog 27 #[.agg (insA op rd r1 r2 imm)] w fun e w' => e = .returned (.bool false) ∧ Below w.heap.size w w') :
    Calls Tryd.prog 14 #[.agg (insA op rd r1 r2 imm)] w fun e w' => e = .returned (.tuple #[.int .u32 0, .int .i64 1]) ∧ Below w.heap.size w w' := by
  unfold insA at HM ⊢
  have HM2 := Lib.hid HM
  clear HM
  go_enter Tryd.func14, Tryd.ntmps14
  go_wp2_with fail
  refine (HM2.out _).mono ?_
  rintro e w1 ⟨rfl, hb⟩
  have HB := Lib.hid (((Below.refl w.heap.size w).alloc (Nat.le_refl _) _).trans (hb.mono (by simp)))
  clear hb
  go_wp2
  go_ret2
  exact ⟨rfl, HB.out⟩
theorem only42 {n : Nat} (hn : n < 43) (hs : opS n = 7) : n = 42 :=
  all43 (p := fun n => opS n = 7 → n = 42) (by decide +kernel) hn hs
theorem zero42 {rd r1 r2 imm : Int} (hi : IsI imm) (h : mayB 42 rd r1 r2 imm = true) : rd = 0 ∧ r1 = 0 ∧ r2 = 0 ∧ imm = 0 := by
  obtain ⟨a, b, c, hk⟩ := may_parts h
  have hk : imm = 0 := (num_ok imm hi (s := 7) (by decide)).1 hk
  obtain ⟨a0, a1, a2⟩ := fitB_true a
  obtain ⟨b0, b1, b2⟩ := fitB_true b
  obtain ⟨c0, c1, c2⟩ := fitB_true c
  exact ⟨a2 rfl, b2 rfl, c2 rfl, hk⟩
theorem enc42 : encI 42 0 0 0 0 = 1048691 := by
  rw [encI_sum (by decide) (by decide +kernel)]
  decide +kernel
set_option maxRecDepth 100000 in
theorem renc_s7 (w : World) :
    Calls Tryd.prog 14 #[.agg (insA 42 0 0 0 0)] w fun e w' => e = .returned (.tuple #[.int .u32 1048691, .int .i64 0]) ∧ Below w.heap.size w w' := by
  have hM (w : World) := rmay_in 42 0 0 0 0 w (by decide) ⟨by omega, by omega⟩
  rw [show mayB 42 0 0 0 0 = true by decide +kernel] at hM
  have hX (W : World) (hb : Below (w.alloc (.cells (insA 42 0 0 0 0) 25)).heap.size (w.alloc (.cells (insA 42 0 0 0 0) 25)) W) : InsC W w.heap.size 42 0 0 0 0 ∧ Below w.heap.size w W := ⟨InsC.below (insC_new (t := 25)) hb, ((Below.refl w.heap.size w).alloc (Nat.le_refl _) _).trans (hb.mono (by simp))⟩
  have hM : ∀ w : World, Calls Tryd.prog 27 #[.agg (insA 42 0 0 0 0)] w fun e w' => e = .returned (.bool true) ∧ Below w.heap.size w w' := hM
  unfold insA at hM hX ⊢
  have HM2 := Lib.hid hM
  have HX := Lib.hid hX
  clear hM hX
  go_enter Tryd.func14, Tryd.ntmps14
  go_wp2_with fail
  refine (HM2.out _).mono ?_
  rintro e w1 ⟨rfl, hb⟩
  have hc := HX.out _ hb
  have H1 := Lib.hid hc
  obtain ⟨⟨x0, x1, x2, x3, x4⟩, _⟩ := hc
  clear hb HX
  go_wp2
  go_ret2
  exact ⟨rfl, H1.out.2⟩
theorem renc_yes (n : Nat) (rd r1 r2 imm : Int) (w : World) (hn : n < 43) (hi : IsI imm) (h : mayB n rd r1 r2 imm = true) :
    Calls Tryd.prog 14 #[.agg (insA n rd r1 r2 imm)] w fun e w' => e = .returned (.tuple #[.int .u32 (encI n rd r1 r2 imm), .int .i64 0]) ∧ Below w.heap.size w w' := by
  have h8 := opS_lt hn
  obtain e | e | e | e | e | e | e | e : opS n = 0 ∨ opS n = 1 ∨ opS n = 2 ∨ opS n = 3 ∨ opS n = 4 ∨ opS n = 5 ∨ opS n = 6 ∨ opS n = 7 := by omega
  · exact renc_s0 n rd r1 r2 imm w hn e hi h
  · exact renc_s1 n rd r1 r2 imm w hn e hi h
  · exact renc_s2 n rd r1 r2 imm w hn e hi h
  · exact renc_s3 n rd r1 r2 imm w hn e hi h
  · exact renc_s4 n rd r1 r2 imm w hn e hi h
  · exact renc_s5 n rd r1 r2 imm w hn e hi h
  · exact renc_s6 n rd r1 r2 imm w hn e hi h
  · obtain rfl := only42 hn e
    obtain ⟨rfl, rfl, rfl, rfl⟩ := zero42 hi h
    rw [enc42]
    exact renc_s7 w
theorem renc_no (n : Nat) (rd r1 r2 imm : Int) (w : World) (hn : n < 43) (hi : IsI imm) (h : mayB n rd r1 r2 imm = false) :
    Calls Tryd.prog 14 #[.agg (insA n rd r1 r2 imm)] w fun e w' => e = .returned (.tuple #[.int .u32 0, .int .i64 1]) ∧ Below w.heap.size w w' :=
  renc_bad _ _ _ _ _ w (fun w => h ▸ rmay_in n rd r1 r2 imm w hn hi)
theorem renc_out (op rd r1 r2 imm : Int) (w : World) (h : op < 0 ∨ 43 ≤ op) :
    Calls Tryd.prog 14 #[.agg (insA op rd r1 r2 imm)] w fun e w' => e = .returned (.tuple #[.int .u32 0, .int .i64 1]) ∧ Below w.heap.size w w' :=
  renc_bad _ _ _ _ _ w (fun w => rmay_out op rd r1 r2 imm w h)
end Go.Proofs.YthmjelkckamkdaaDoor
