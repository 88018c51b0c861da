/- Layer 7: Check. Condition: the tables of package ins read as they should. -/
import Derived.Test.YthoehbmbmjmpbaaDoorSymJ
namespace Go.Proofs.YthoehbmbmjmpbaaDoor
set_option maxRecDepth 100000
open Go.RowKit
set_option linter.unusedVariables false
theorem putK_dom {M : Kn → Option Int} {t u : Kn} {i : Int} (h : (putK M t i u).isSome = true) : u = t ∨ (M u).isSome = true := by
  unfold putK at h
  by_cases e : u = t
  · exact .inl e
  · rw [if_neg e] at h; exact .inr h
theorem putS_dom {p : ByteArray → Bool} {i : Int} {M : Kn → Option Int} {j : Nat} {s : SymD} {u : Kn} (h : (putS p i M j s u).isSome = true) : u.2.1 = i ∨ (M u).isSome = true := by
  unfold putS at h
  split at h
  · split at h
    · rcases putK_dom h with rfl | h
      · exact .inl rfl
      · rcases putK_dom h with rfl | h
        · exact .inl rfl
        · exact .inr h
    · rcases putK_dom h with rfl | h
      · exact .inl rfl
      · exact .inr h
  · exact .inr h
theorem wrS_dom {p : ByteArray → Bool} {i : Int} {ss : List SymD} {M : Kn → Option Int} {u : Kn} : ∀ {j : Nat}, (wrS p i ss M j u).isSome = true → u.2.1 = i ∨ (M u).isSome = true
  | 0, h => .inr h
  | j + 1, h => by
    rcases putS_dom h with h | h
    · exact .inl h
    · exact wrS_dom h
theorem wrL_dom {p : ByteArray → Bool} {l : List ObjD} {u : Kn} : ∀ {k : Nat}, (wrL p l k u).isSome = true → ∃ q : Nat, q < k ∧ u.2.1 = q
  | 0, h => by cases h
  | k + 1, h => by
    rcases wrS_dom h with h | h
    · exact ⟨k, by omega, h⟩
    · obtain ⟨q, hq, e⟩ := wrL_dom h
      exact ⟨q, by omega, e⟩
theorem sum_le {l : List ObjD} {f : ObjD → Nat} {m : Nat} (h : ∀ d ∈ l, f d ≤ m) : (l.map f).sum ≤ l.length * m := by
  induction l with
  | nil => simp
  | cons d l ih =>
    have h1 := ih (fun x hx => h x (List.mem_cons_of_mem _ hx))
    have h2 := h d (List.mem_cons_self ..)
    rw [List.map_cons, List.sum_cons, List.length_cons, Nat.succ_mul]
    omega
theorem may_sums {l : List ObjD} (h : mayLs l = true) : l.length ≤ 16 ∧ sumS l l.length ≤ 4096 ∧ sumR l l.length ≤ 16384 := by
  unfold mayLs at h
  simp only [Bool.and_eq_true, decide_eq_true_eq] at h
  have hm : ∀ d ∈ l, d.syms.length ≤ 256 ∧ d.rels.length ≤ 1024 := fun d hd => by
    have h1 := List.all_eq_true.1 h.2 d hd
    rw [mayO_eq] at h1
    simp only [Bool.and_eq_true] at h1
    have := few_of h1.1.1
    exact ⟨this.2.2.1, this.2.2.2.1⟩
  have h1 := sum_le (f := fun d => d.syms.length) (m := 256) (fun d hd => (hm d hd).1)
  have h2 := sum_le (f := fun d => d.rels.length) (m := 1024) (fun d hd => (hm d hd).2)
  unfold sumS sumR
  rw [List.take_length]
  omega
abbrev bookM (l : List ObjD) : Kn → Option Int := wrL (fun _ => true) l l.length
/-- what Check tells of a list -/
def ChkP (l : List ObjD) (s : ByteArray) (c : Int) : Prop :=
  (mayLs l = false ∧ s = ⟨#[]⟩ ∧ c = 1) ∨
  (mayLs l = true ∧ (∃ names, (∀ x, x ∈ names ↔ clashP (bookM l) x) ∧ LeastN names s) ∧ c = 6) ∨
  (mayLs l = true ∧ (∀ x, ¬ clashP (bookM l) x) ∧ (∃ names, (∀ x, x ∈ names ↔ voidsP (bookM l) l.length (usL l l.length) x) ∧ LeastN names s) ∧ c = 7) ∨
  (mayLs l = true ∧ (∀ x, ¬ clashP (bookM l) x) ∧ (∀ x, ¬ voidsP (bookM l) l.length (usL l l.length) x) ∧ s = ⟨#[]⟩ ∧ c = 0)
theorem calls_uses (args : Array Value) (w : World) : (callFunc 35 args).run Tryd.prog w = .ok (.enter 35 args) w := by kernel_rfl
theorem calls_meaningless (args : Array Value) (w : World) : (callFunc 34 args).run Tryd.prog w = .ok (.enter 34 args) w := by kernel_rfl
theorem NamesAt.low {w : World} {b b' : Nat} {names : List ByteArray} {v : Value} (h : NamesAt w b names v) (hb : b' ≤ b) : NamesAt w b' names v := by
  obtain ⟨A, c, e, ho⟩ := h
  exact ⟨A, c, e, kn_base ho hb⟩
set_option maxHeartbeats 4000000 in
theorem check_any (l : List ObjD) (hW : ∀ d ∈ l, ObjW d) (A : Option Addr) (n c lo hi : Nat) (hn : l.length = n) (hmx : n ≤ maxLen) (w : World) (hT : Tabs w) (hA : ObjsAt w lo hi l A) (hh : hi ≤ w.heap.size) :
    Calls Tryd.prog 12 #[.slice A n c] w fun e w' => ∃ s k, e = .returned (.tuple #[.string s, .int .i64 k]) ∧ ChkP l s k ∧ Below w.heap.size w w' := by
  have HW := Lib.hid hW
  have HN := Lib.hid hn
  have HA := Lib.hid hA
  have HH := Lib.hid hh
  have HC := Lib.hid (mayBe_any l hW A n c lo hi hn hmx w hT hA hh)
  clear hW hn hA hh hT
  go_enter Tryd.func12, Tryd.ntmps12
  go_wp2_with fail
  refine HC.out.mono ?_
  rintro e w1 ⟨rfl, hb⟩
  have HB1 := Lib.hid hb
  clear hb HC
  cases hm : mayLs l
  case false =>
    have HR := Lib.hid (show ChkP l ⟨#[]⟩ 1 from .inl ⟨hm, rfl, rfl⟩)
    clear hm
    go_wp2
    go_ret2
    exact ⟨⟨#[]⟩, 1, rfl, HR.out, HB1.out⟩
  obtain ⟨h16, hss, hsr⟩ := may_sums hm
  have HM := Lib.hid hm
  have HSr := Lib.hid hsr
  have hn16 : n ≤ 16 := by rw [← HN.out]; exact h16
  have HC := Lib.hid (write_every l HW.out A n c lo hi HN.out (by omega) (by omega) w1 (HA.out.below HH.out HB1.out) (Nat.le_trans HH.out HB1.out.size))
  clear hm h16 hss hsr
  go_wp2_with fail
  refine HC.out.mono ?_
  rintro e w2 ⟨b, N, rfl, hb0, hk, hN, hb⟩
  have hMe : wrL (fun _ => true) l n = bookM l := by unfold bookM; rw [HN.out]
  rw [hMe] at hk
  have HBx := Lib.hid ((Below.refl w2.heap.size w2).alloc (Nat.le_refl _) (.cells #[.int .i64 n, .map (some b)] 78))
  have HB2 := Lib.hid ((HB1.out.trans (hb.mono HB1.out.size)).trans (HBx.out.mono (HB1.out.trans (hb.mono HB1.out.size)).size))
  have HK2 := Lib.hid (hk.below HBx.out)
  have HX2 := Lib.hid (heap_alloc_new w2 (.cells #[.int .i64 n, .map (some b)] 78))
  have HNb := Lib.hid hN
  have HC := Lib.hid (clashing_any n b N hN (bookM l) (fun t ht => by
    obtain ⟨q, hq, e⟩ := wrL_dom ht
    rw [HN.out] at hq
    rw [e]; omega) _ HK2.out)
  obtain ⟨x0, x1, xf⟩ := row2 HX2.out
  clear hk hN hb hb0 hMe HBx
  go_wp2_with fail
  generalize (w2.alloc (.cells #[.int .i64 n, .map (some b)] 78)) = w3 at *
  generalize w2.heap.size = kb at *
  refine HC.out.mono ?_
  rintro e w4 ⟨names, v, rfl, hna, hln, hcl, hb⟩
  have HNa := Lib.hid hna
  have HCl := Lib.hid hcl
  have HLn := Lib.hid hln
  have HB4 := Lib.hid (HB2.out.trans (hb.mono HB2.out.size))
  have HK4 := Lib.hid (HK2.out.below hb)
  have HX4 := Lib.hid ((hb.block _ (Array.getElem?_eq_some_iff.1 HX2.out).1).trans HX2.out)
  obtain ⟨An, cn, rfl, hown⟩ := hna
  clear hcl hln hb hown x0 x1 xf HC HK2 HX2
  by_cases h0 : 0 < names.length
  · have h0' : (names.length : Int) > 0 := by omega
    have HC := Lib.hid (min_any names _ names.length _ w4 rfl h0 (by have := HLn.out; have := HNb.out; omega) HNa.out)
    clear h0
    go_wp2_with fail
    refine HC.out.mono ?_
    rintro e w5 ⟨x, rfl, hlx, rfl⟩
    have HR := Lib.hid (show ChkP l x 6 from .inr (.inl ⟨HM.out, ⟨names, HCl.out, hlx⟩, rfl⟩))
    clear hlx
    go_wp2
    go_ret2
    exact ⟨x, 6, rfl, HR.out, HB4.out⟩
  · have h0' : ¬ (names.length : Int) > 0 := by omega
    have HNo := Lib.hid (show ∀ x, ¬ clashP (bookM l) x from fun x hx => by
      have := (HCl.out x).2 hx
      have := List.length_pos_of_mem this
      omega)
    have HC := Lib.hid (uses_any l HW.out A n c lo hi HN.out (by omega) (by have := HSr.out; omega) w4.drew ((HA.out.below HH.out HB4.out).below (Nat.le_trans HH.out HB4.out.size) (Below.drew (Below.refl _ _))) (Nat.le_trans HH.out HB4.out.size))
    obtain ⟨x0, x1, xf⟩ := row2 HX4.out
    clear h0
    go_upto_region 7 with fail
    go_region_law (first
      | (refine step_call6 rfl 35 _ _ rfl #[.slice A n c] ?hv calls_uses HC.out ?_; (case hv => simp [go_sem]); rintro e w5 ⟨rfl, hu, hb5⟩; refine ⟨_, rfl, ?_⟩; have hbb := ((Below.refl w4.heap.size w4).drew.trans hb5); have HB5 := Lib.hid (HB4.out.trans (hbb.mono HB4.out.size)); have HX5 := Lib.hid ((hbb.block _ (Array.getElem?_eq_some_iff.1 HX4.out).1).trans HX4.out); have HCm := Lib.hid (meaningless_any n b N (by omega) (bookM l) w4.drew.heap.size (sumR l l.length) (by have := HSr.out; omega) (usL l n) w5 (HK4.out.below hbb) hu); obtain ⟨p0, p1, pf⟩ := row2 HX5.out; clear hu hb5 hbb)
      | (refine step_call6 rfl 34 _ _ rfl #[.agg #[.int .i64 n, .map (some b)], .map (some w4.heap.size)] ?hv calls_meaningless HCm.out ?_; (case hv => simp [go_sem]); rintro e w6 ⟨nm2, v2, rfl, hna, hln, hcl, hb6⟩; have HB6 := Lib.hid (HB5.out.trans (hb6.mono HB5.out.size)); have HN2 := Lib.hid hna; have HCl2 := Lib.hid hcl; have HLn2 := Lib.hid hln; obtain ⟨A2, c2, rfl, _⟩ := hna; refine ⟨_, rfl, ?_⟩; clear hln hcl hb6))
    all_goals
      have HV := Lib.hid (show ∀ x, x ∈ nm2 ↔ voidsP (bookM l) l.length (usL l l.length) x from by rw [HN.out]; exact HCl2.out)
      by_cases h1 : 0 < nm2.length
      · have h1' : (nm2.length : Int) > 0 := by omega
        have HCq := Lib.hid (min_any nm2 _ nm2.length _ w6 rfl h1 (by have := HLn2.out; have := HSr.out; omega) HN2.out)
        clear h1
        go_wp2_with fail
        refine HCq.out.mono ?_
        rintro e w7 ⟨x, rfl, hlx, rfl⟩
        have HR := Lib.hid (show ChkP l x 7 from .inr (.inr (.inl ⟨HM.out, HNo.out, ⟨nm2, HV.out, hlx⟩, rfl⟩)))
        clear hlx
        go_wp2
        go_ret2
        exact ⟨x, 7, rfl, HR.out, HB6.out⟩
      · have h1' : ¬ (nm2.length : Int) > 0 := by omega
        have HR := Lib.hid (show ChkP l ⟨#[]⟩ 0 from .inr (.inr (.inr ⟨HM.out, HNo.out, fun x hx => by
          have := (HV.out x).2 hx
          have := List.length_pos_of_mem this
          omega, rfl, rfl⟩)))
        clear h1
        go_wp2
        go_ret2
        exact ⟨⟨#[]⟩, 0, rfl, HR.out, HB6.out⟩
end Go.Proofs.YthoehbmbmjmpbaaDoor
