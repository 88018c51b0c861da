/- Layer 8: number, done: a word of which a relocation is done. Condition: the tables of package ins read as they should. -/
import Derived.Test.YtjngkifoaljmaaaDoorPlaA
namespace Go.Proofs.YtjngkifoaljmaaaDoor
set_option maxRecDepth 100000
open Go.RowKit
set_option linter.unusedVariables false
/-- an instruction's number by a relocation -/
def numV (kind p v : Int) : Int :=
  if kind = 0 then wrap64 (put (IntKind.u64.wrap (v + 2048)) 0 12 0)
  else if kind = 1 then sgn v 12
  else wrap64 (IntKind.u64.wrap (v - p))
theorem wrapU_U (x : Int) : IsU (IntKind.u64.wrap x) := wrU x
theorem regI_I {v : Int} (h : IsW v) (a : Int) (has : Bool) : IsI (regI v a has) := by
  unfold regI
  split
  · have := isW_fld a 5 h
    exact ⟨by have := this.1; omega, by have := this.2; omega⟩
  · exact ⟨by omega, by omega⟩
theorem pnumber_any (kind p v : Int) (hp : IsU p) (hv : IsU v) (w : World) :
    Calls Tryd.prog 43 #[.int .i64 kind, .int .u64 p, .int .u64 v] w fun e w' => e = .returned (.int .i64 (numV kind p v)) ∧ ∃ k, w' = w.drewN k := by
  have HV := Lib.hid hv
  have HQ := Lib.hid hp
  by_cases h0 : kind = 0
  · subst h0
    have HR := Lib.hid (show numV 0 p v = wrap64 (put (IntKind.u64.wrap (v + 2048)) 0 12 0) from by unfold numV; rw [if_pos rfl])
    clear hp hv
    go_enter Tryd.func43, Tryd.ntmps43
    go_wp2_with fail
    refine (put_yes (IntKind.u64.wrap (v + 2048)) 0 12 0 (wrapU_U _) (by omega) (by omega) (by omega) ⟨by omega, by omega⟩ w).mono ?_
    rintro e w2 ⟨rfl, k, rfl⟩
    go_wp2
    go_ret
    exact ⟨by rw [HR.out]; rfl, k, rfl⟩
  · have g0 : (kind == (0 : Int)) = false := by simpa using h0
    by_cases h1 : kind = 1
    · subst h1
      have HR := Lib.hid (show numV 1 p v = sgn v 12 from by unfold numV; rw [if_neg (by omega), if_pos rfl])
      clear hp hv h0 g0
      go_enter Tryd.func43, Tryd.ntmps43
      go_wp2_with fail
      refine (sign_yes v 12 HV.out (by omega) (by omega) w).mono ?_
      rintro e w2 ⟨rfl, rfl⟩
      go_wp2
      go_ret
      exact ⟨by rw [HR.out]; rfl, 0, by rw [World.drewN_zero]⟩
    · have g1 : (kind == (1 : Int)) = false := by simpa using h1
      have HR := Lib.hid (show numV kind p v = wrap64 (IntKind.u64.wrap (v - p)) from by unfold numV; rw [if_neg h0, if_neg h1])
      clear hp hv
      go_enter Tryd.func43, Tryd.ntmps43
      go_wp2
      go_ret
      exact ⟨by rw [HR.out]; rfl, 0, by rw [World.drewN_zero]⟩
/-- it leaves by the panic -/
def misV : Value := .iface 91 (.agg #[])
def misP : Ending := .panicked [{ v := misV, recovered := false }]
/-- a word of operation n with another number; none, where there is no such instruction -/
def insW (n : Nat) (v imm : Int) : Option Int :=
  if mayB n (regI v 7 (lRd (opS n))) (regI v 15 (lR1 (opS n))) (regI v 20 (lR2 (opS n))) imm = true then some (encI n (regI v 7 (lRd (opS n))) (regI v 15 (lR1 (opS n))) (regI v 20 (lR2 (opS n))) imm) else none
def doneV (v kind p x : Int) : Option Int := match opOf v with
  | some n => insW n v (numV kind p x)
  | none => none
def DonP (r : Option Int) (w : World) (e : Ending) (w' : World) : Prop := Below w.heap.size w w' ∧ match r with
  | some x => e = .returned (.int .u32 x)
  | none => e = misP
theorem DonP.no {r : Option Int} {w w' : World} (hr : r = none) (hb : Below w.heap.size w w') : DonP r w misP w' := by subst hr; exact ⟨hb, rfl⟩
theorem DonP.yes {r : Option Int} {w w' : World} {x : Int} (hr : r = some x) (hb : Below w.heap.size w w') : DonP r w (.returned (.int .u32 x)) w' := by subst hr; exact ⟨hb, rfl⟩
set_option maxHeartbeats 2000000 in
theorem done_any (v kind p x : Int) (hv : IsW v) (hop : (opOf v).isSome = true) (hp : IsU p) (hx : IsU x) (w : World) (hT : Tabs w) :
    Calls Tryd.prog 27 #[.int .u32 v, .int .i64 kind, .int .u64 p, .int .u64 x] w (DonP (doneV v kind p x) w) := by
  obtain ⟨n, hn⟩ := Option.isSome_iff_exists.1 hop
  obtain ⟨h43, hM⟩ := opOf_some hn
  have HT := Lib.hid hT
  have HV := Lib.hid hv
  have HM := Lib.hid hM
  have HP := Lib.hid hp
  have HX := Lib.hid hx
  have HD := Lib.hid (show doneV v kind p x = insW n v (numV kind p x) from by unfold doneV; rw [hn])
  clear hv hop hp hx hT hM hn
  go_enter Tryd.func27, Tryd.ntmps27
  go_wp2_with fail
  refine (decode_yes v n w HV.out HT.out h43 HM.out).mono ?_
  rintro e w1 ⟨rfl, hb1⟩
  obtain ⟨rd, hrd⟩ : ∃ r, r = regI v 7 (lRd (opS n)) := ⟨_, rfl⟩
  obtain ⟨r1, hr1⟩ : ∃ r, r = regI v 15 (lR1 (opS n)) := ⟨_, rfl⟩
  obtain ⟨r2, hr2⟩ : ∃ r, r = regI v 20 (lR2 (opS n)) := ⟨_, rfl⟩
  obtain ⟨im, him⟩ : ∃ r, r = numberI v (opS n) := ⟨_, rfl⟩
  have HI := Lib.hid (show IsI rd ∧ IsI r1 ∧ IsI r2 from by rw [hrd, hr1, hr2]; exact ⟨regI_I HV.out _ _, regI_I HV.out _ _, regI_I HV.out _ _⟩)
  have HW := Lib.hid (show insW n v (numV kind p x) = if mayB n rd r1 r2 (numV kind p x) = true then some (encI n rd r1 r2 (numV kind p x)) else none from by rw [hrd, hr1, hr2]; rfl)
  rw [← hrd, ← hr1, ← hr2, ← him]
  have hbl := (Below.refl w1.heap.size w1).alloc (Nat.le_refl _) (.cells #[.int .i64 n, .int .i64 rd, .int .i64 r1, .int .i64 r2, .int .i64 im] 29)
  have HB2 := Lib.hid (hb1.trans (hbl.mono hb1.size))
  have HY := Lib.hid (heap_alloc_new w1 (.cells #[.int .i64 n, .int .i64 rd, .int .i64 r1, .int .i64 r2, .int .i64 im] 29))
  have HSz := Lib.hid hb1.size
  clear hb1 hbl hrd hr1 hr2 him
  go_wp2_with fail
  refine (pnumber_any kind p x HP.out HX.out _).mono ?_
  rintro e w2 ⟨rfl, kq, hw2⟩
  have hq : Below (w1.alloc (.cells #[.int .i64 n, .int .i64 rd, .int .i64 r1, .int .i64 r2, .int .i64 im] 29)).heap.size (w1.alloc (.cells #[.int .i64 n, .int .i64 rd, .int .i64 r1, .int .i64 r2, .int .i64 im] 29)) w2 := by rw [hw2]; exact ⟨rfl, rfl, rfl, Nat.le_refl _, fun _ _ => rfl⟩
  have HB3 := Lib.hid (HB2.out.trans (hq.mono HB2.out.size))
  have HY3 := Lib.hid ((hq.block _ (Array.getElem?_eq_some_iff.1 HY.out).1).trans HY.out)
  clear hw2 hq HB2 HY
  generalize w1.heap.size = kb at *
  obtain ⟨im2, him2⟩ : ∃ r, numV kind p x = r := ⟨_, rfl⟩
  rw [him2]
  rw [him2] at HD HW
  obtain ⟨y0, y1, y2, y3, y4, yf⟩ := row5 HY3.out
  have HB4 := Lib.hid (show Below w.heap.size w (w2.setCell ⟨kb, 4, none⟩ (.int .i64 im2)) from below_setNew HB3.out HSz.out)
  obtain ⟨z0, z1, z2, z3, z4, zf⟩ := row5 (heap_setCell_same w2 kb 4 _ _ (.int .i64 im2) HY3.out)
  go_wp2_with fail
  cases hm : mayB n rd r1 r2 im2
  case true =>
    have HR := Lib.hid (show doneV v kind p x = some (encI n rd r1 r2 im2) from by rw [HD.out, HW.out, hm]; rfl)
    refine (encode_yes n rd r1 r2 im2 _ h43 (HT.out.below HB4.out) HI.out.1 HI.out.2.1 HI.out.2.2 hm).mono ?_
    rintro e w5 ⟨rfl, hb5⟩
    have HB5 := Lib.hid (HB4.out.trans (hb5.mono HB4.out.size))
    clear hm hb5
    go_wp2
    go_ret
    exact DonP.yes HR.out HB5.out
  case false =>
    have HR := Lib.hid (show doneV v kind p x = none from by rw [HD.out, HW.out, hm]; rfl)
    refine (encode_no n rd r1 r2 im2 _ h43 (HT.out.below HB4.out) HI.out.1 HI.out.2.1 HI.out.2.2 hm).mono ?_
    rintro e w5 ⟨rfl, hb5⟩
    have HB5 := Lib.hid (HB4.out.trans (hb5.mono HB4.out.size))
    clear hm hb5
    go_wp2
    exact ⟨rfl, DonP.no HR.out HB5.out⟩
end Go.Proofs.YtjngkifoaljmaaaDoor
