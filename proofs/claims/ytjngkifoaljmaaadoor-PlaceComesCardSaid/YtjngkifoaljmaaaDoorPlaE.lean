/- Layer 8: target, suits, fitting, Relocate. Condition: the tables of package ins read as they should. -/
import Derived.Test.YtjngkifoaljmaaaDoorPlaD
namespace Go.Proofs.YtjngkifoaljmaaaDoor
set_option maxRecDepth 100000
open Go.RowKit
set_option linter.unusedVariables false
/-- the address of what a relocation means, and its Add -/
def tgV (a add : Int) : Int := IntKind.u64.wrap (a + IntKind.u64.wrap add)
set_option maxHeartbeats 4000000 in
theorem target_any (l : List ObjD) (hW : ∀ d ∈ l, ObjW d) (A : Option Addr) (n c lo hi : Nat) (hn : l.length = n) (hmx : n ≤ 1000000) (hsum : 2 * sumS l l.length < 1000000) (xs : List (Int × Int)) (As : Option Addr) (cs base : Nat) (w : World) (hA : ObjsAt w lo hi l A) (hh : hi ≤ w.heap.size) (hS : SpAt w base xs (.slice As n cs))
    (i : Int) (hi_ : IsI i) (at_ kind add : Int) (nm : ByteArray) (hs : nm.size ≤ maxLen) (o j : Nat) (hf : fndD l i nm = some ((o : Int), (j : Int))) (ho : o < l.length) (hj : j < l[o].syms.length) (hjm : l[o].syms.length ≤ 1000000) (hx : o < xs.length) :
    Calls Tryd.prog 48 #[.slice A n c, .slice As n cs, .int .i64 i, .agg #[.int .i64 at_, .int .i64 kind, .string nm, .int .i64 add]] w fun e w' => e = .returned (.int .u64 (tgV (adr1 xs[o] l[o].syms[j].2.1 l[o].syms[j].2.2.1) add)) ∧ Below w.heap.size w w' := by
  have HB0 := Lib.hid ((Below.refl w.heap.size w).alloc (Nat.le_refl _) (.cells #[.int .i64 at_, .int .i64 kind, .string nm, .int .i64 add] 47))
  have HX0 := Lib.hid (heap_alloc_new w (.cells #[.int .i64 at_, .int .i64 kind, .string nm, .int .i64 add] 47))
  have HF := Lib.hid (find_any l hW A n c lo hi hn hmx hsum i hi_ nm hs (w.alloc (.cells #[.int .i64 at_, .int .i64 kind, .string nm, .int .i64 add] 47)) (hA.below hh HB0.out) (Nat.le_trans hh HB0.out.size))
  rw [hf] at HF
  have HAd := Lib.hid (fun (W : World) (hb : Below w.heap.size w W) => addr_yes l A n c lo hi hn hmx xs As cs base W (hA.below hh hb) (Nat.le_trans hh hb.size) (hS.below hb) o j ho hj hjm hx)
  obtain ⟨a, ha⟩ : ∃ a, adr1 xs[o] l[o].syms[j].2.1 l[o].syms[j].2.2.1 = a := ⟨_, rfl⟩
  rw [ha] at HAd ⊢
  obtain ⟨z0, z1, z2, z3, zf⟩ := row4 HX0.out
  clear hW hn hmx hsum hA hh hS hi_ hs hf ha ho hj hjm hx
  go_enter Tryd.func48, Tryd.ntmps48
  go_wp2_with fail
  refine HF.out.mono ?_
  rintro e w1 ⟨he, hb⟩
  have he : e = .returned (.tuple #[.agg #[.int .i64 o, .int .i64 j], .bool true]) := he
  subst he
  have HB1 := Lib.hid (HB0.out.trans (hb.mono HB0.out.size))
  have HX1 := Lib.hid ((hb.block _ (Array.getElem?_eq_some_iff.1 HX0.out).1).trans HX0.out)
  have HSz := Lib.hid hb.size
  clear hb z0 z1 z2 z3 zf HX0 HB0
  have HB2 := Lib.hid (HB1.out.trans (((Below.refl w1.heap.size w1).alloc (Nat.le_refl _) (.cells #[.int .i64 o, .int .i64 j] 49)).mono HB1.out.size))
  have HX2 := Lib.hid ((heap_alloc_old w1 (.cells #[.int .i64 o, .int .i64 j] 49) (Array.getElem?_eq_some_iff.1 HX1.out).1).trans HX1.out)
  obtain ⟨z0, z1, z2, z3, zf⟩ := row4 HX2.out
  obtain ⟨y0, y1, yf⟩ := row2 (heap_alloc_new w1 (.cells #[.int .i64 o, .int .i64 j] 49))
  go_wp2_with fail
  refine (HAd.out _ HB2.out).mono ?_
  rintro e w2 ⟨hb, he⟩
  have he : e = .returned (.tuple #[.int .u64 a, .bool true]) := he
  subst he
  have HB3 := Lib.hid (HB2.out.trans (hb.mono HB2.out.size))
  have HX3 := Lib.hid ((hb.block _ (Array.getElem?_eq_some_iff.1 HX2.out).1).trans HX2.out)
  clear hb z0 z1 z2 z3 zf y0 y1 yf
  obtain ⟨z0, z1, z2, z3, zf⟩ := row4 HX3.out
  go_wp2
  go_ret
  exact ⟨rfl, HB3.out⟩
end Go.Proofs.YtjngkifoaljmaaaDoor
