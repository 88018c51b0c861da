/- Layer 8: Spots, Address, suits. Condition: the tables of package ins read as they should. -/
import Derived.Test.YtjngkifoaljmaaaDoorPlaB
namespace Go.Proofs.YtjngkifoaljmaaaDoor
set_option maxRecDepth 100000
open Go.RowKit
set_option linter.unusedVariables false
def baseB (x : Int) : Bool := decide (x % 8 = 0) && decide (x ≤ 1073741824)
/-- the code of Spots -/
def spC (l : List ObjD) (t d : Int) : Int :=
  if (chkF l).2 ≠ 0 then (chkF l).2
  else if sumT l l.length > 4096 ∨ sumD l l.length > 1024 then 4
  else if baseB t = true ∧ baseB d = true then 0 else 10
theorem chkF_may {l : List ObjD} (h : (chkF l).2 = 0) : mayLs l = true := by
  cases hm : mayLs l with
  | true => rfl
  | false =>
    unfold chkF at h
    rw [if_pos hm] at h
    cases h
theorem mayLs_len {l : List ObjD} (h : mayLs l = true) : l.length ≤ 16 := by
  unfold mayLs at h
  simp only [Bool.and_eq_true, decide_eq_true_eq] at h
  exact h.1
def SpotP (l : List ObjD) (t d : Int) (n : Nat) (w : World) (e : Ending) (w' : World) : Prop :=
  Below w.heap.size w w' ∧ ∃ v, e = .returned (.tuple #[v, .int .i64 (spC l t d)]) ∧ (spC l t d = 0 → SpAt w' w.heap.size (spL l t d n) v) ∧ (spC l t d ≠ 0 → v = .slice none 0 0)
theorem SpotP.no {l : List ObjD} {t d k : Int} {n : Nat} {w w' : World} (h : spC l t d = k) (hk : k ≠ 0) (hb : Below w.heap.size w w') : SpotP l t d n w (.returned (.tuple #[.slice none 0 0, .int .i64 k])) w' := by
  subst h
  exact ⟨hb, _, rfl, fun h => absurd h hk, fun _ => rfl⟩
theorem SpotP.yes {l : List ObjD} {t d : Int} {n : Nat} {w w' : World} {v : Value} (h : spC l t d = 0) (hs : SpAt w' w.heap.size (spL l t d n) v) (hb : Below w.heap.size w w') : SpotP l t d n w (.returned (.tuple #[v, .int .i64 0])) w' :=
  ⟨hb, v, by rw [h], fun _ => hs, fun k => absurd h k⟩
theorem base_lt {x : Int} (h : baseB x = true) : x ≤ 1073741824 := by
  unfold baseB at h
  simp only [Bool.and_eq_true, decide_eq_true_eq] at h
  exact h.2
theorem SpAt.low {w : World} {b b' : Nat} {xs : List (Int × Int)} {v : Value} (h : SpAt w b xs v) (hb : b' ≤ b) : SpAt w b' xs v := by
  obtain ⟨A, c, e, ho⟩ := h
  exact ⟨A, c, e, kn_base ho hb⟩
set_option maxHeartbeats 4000000 in
theorem spots_any (l : List ObjD) (hW : ∀ d ∈ l, ObjW d) (A : Option Addr) (n c lo hi : Nat) (hn : l.length = n) (hmx : n ≤ 1000000) (t d : Int) (ht : IsU t) (hd : IsU d) (w : World) (hT : Tabs w) (hA : ObjsAt w lo hi l A) (hh : hi ≤ w.heap.size) :
    Calls Tryd.prog 15 #[.slice A n c, .int .u64 t, .int .u64 d] w (SpotP l t d n w) := by
  have HW := Lib.hid hW
  have HN := Lib.hid hn
  have HA := Lib.hid hA
  have HH := Lib.hid hh
  have HMx := Lib.hid hmx
  have HU := Lib.hid (And.intro ht hd)
  have HC := Lib.hid (check_any l hW A n c lo hi hn (Nat.le_trans hmx (by decide)) w hT hA hh)
  clear hW hn hA hh hT hmx
  obtain ⟨ht0, ht1⟩ := ht
  obtain ⟨hd0, hd1⟩ := hd
  go_enter Tryd.func15, Tryd.ntmps15
  go_wp2_with fail
  refine HC.out.mono ?_
  rintro e w1 ⟨s, k, rfl, hc, hb⟩
  obtain ⟨-, hk⟩ := chk_eq HW.out (by rw [HN.out]; exact HMx.out) hc
  have HB1 := Lib.hid hb
  clear hc hb
  by_cases hk0 : k = 0
  · have hm := chkF_may (l := l) (by rw [← hk]; exact hk0)
    have HCk := Lib.hid (show (chkF l).2 = 0 by rw [← hk]; exact hk0)
    have hst := may_sumTD hm
    have HL := Lib.hid (show n ≤ 16 by rw [← HN.out]; exact mayLs_len hm)
    have HSz := Lib.hid (psizes_any l A n c lo hi HN.out HMx.out (Nat.le_trans hst.1 (by decide)) (Nat.le_trans hst.2 (by decide)) w1 (HA.out.below HH.out HB1.out) (Nat.le_trans HH.out HB1.out.size))
    have HSt := Lib.hid hst
    obtain ⟨a, ha⟩ : ∃ a, sumT l l.length = a := ⟨_, rfl⟩
    obtain ⟨b, hb⟩ : ∃ b, sumD l l.length = b := ⟨_, rfl⟩
    have HE := Lib.hid (And.intro ha hb)
    have hab : a ≤ 65536 ∧ b ≤ 65536 := by omega
    have ea : sumT l n = a := by rw [← HN.out]; exact ha
    have eb : sumD l n = b := by rw [← HN.out]; exact hb
    rw [ea, eb] at HSz
    have HR := Lib.hid (show spC l t d = if a > 4096 ∨ b > 1024 then 4 else if baseB t = true ∧ baseB d = true then 0 else 10 from by
      unfold spC; rw [if_neg (by rw [HCk.out]; omega), ha, hb])
    obtain ⟨hab0, hab1⟩ := hab
    clear hm hk hst ha hb ea eb
    subst hk0
    go_wp2_with fail
    refine HSz.out.mono ?_
    rintro e w2 ⟨rfl, hb⟩
    have HB2 := Lib.hid (HB1.out.trans (hb.mono HB1.out.size))
    clear hb
    by_cases hbig : a > 4096 ∨ b > 1024
    · have HR2 := Lib.hid (show spC l t d = 4 by rw [HR.out, if_pos hbig])
      by_cases hA4 : (a : Int) > 4096
      · clear hbig
        go_wp2
        go_ret2
        exact SpotP.no HR2.out (by omega) HB2.out
      · have hB4 : (b : Int) > 1024 := by omega
        clear hbig
        go_wp2
        go_ret2
        exact SpotP.no HR2.out (by omega) HB2.out
    · have hA4 : ¬ (a : Int) > 4096 := by omega
      have hB4 : ¬ (b : Int) > 1024 := by omega
      have HR2 := Lib.hid (show spC l t d = if baseB t = true ∧ baseB d = true then 0 else 10 by rw [HR.out, if_neg hbig])
      clear hbig
      cases hbt : baseB t with
      | false =>
        have HR3 := Lib.hid (show spC l t d = 10 by rw [HR2.out, hbt]; rfl)
        go_wp2_with fail
        refine (isBase_any t HU.out.1 _).mono ?_
        rintro e w3 ⟨rfl, rfl⟩
        rw [show (decide (t % 8 = 0) && decide (t ≤ 1073741824)) = false from hbt]
        go_wp2
        go_ret2
        exact SpotP.no HR3.out (by omega) HB2.out
      | true =>
        go_wp2_with fail
        refine (isBase_any t HU.out.1 _).mono ?_
        rintro e w3 ⟨rfl, rfl⟩
        rw [show (decide (t % 8 = 0) && decide (t ≤ 1073741824)) = true from hbt]
        go_wp2_with fail
        refine (isBase_any d HU.out.2 _).mono ?_
        rintro e w3 ⟨rfl, rfl⟩
        cases hbd : baseB d with
        | false =>
          have HR3 := Lib.hid (show spC l t d = 10 by rw [HR2.out, hbt, hbd]; rfl)
          rw [show (decide (d % 8 = 0) && decide (d ≤ 1073741824)) = false from hbd]
          go_wp2
          go_ret2
          exact SpotP.no HR3.out (by omega) HB2.out
        | true =>
          have HR3 := Lib.hid (show spC l t d = 0 by rw [HR2.out, hbt, hbd]; rfl)
          rw [show (decide (d % 8 = 0) && decide (d ≤ 1073741824)) = true from hbd]
          have HLy := Lib.hid (lay_any l A n c lo hi HN.out HL.out HSt.out.1 (Nat.le_trans HSt.out.2 (by decide)) t d ht0 (base_lt hbt) hd0 (base_lt hbd) w2 (HA.out.below HH.out HB2.out) (Nat.le_trans HH.out HB2.out.size))
          clear hbt hbd
          go_wp2_with fail
          refine HLy.out.mono ?_
          rintro e w4 ⟨v, rfl, hv, hb⟩
          have HB3 := Lib.hid (HB2.out.trans (hb.mono HB2.out.size))
          have HV := Lib.hid (hv.low HB2.out.size)
          obtain ⟨Av, cv, rfl, -⟩ := hv
          clear hb
          go_wp2
          go_ret2
          exact SpotP.yes HR3.out HV.out HB3.out
  · have HR := Lib.hid (show spC l t d = k by unfold spC; rw [if_pos (by rw [← hk]; exact hk0), ← hk])
    have hk1 : (k == (0 : Int)) = false := by simpa using hk0
    have HK := Lib.hid hk0
    clear hk
    go_wp2
    go_ret2
    exact SpotP.no HR.out HK.out HB1.out
end Go.Proofs.YtjngkifoaljmaaaDoor
