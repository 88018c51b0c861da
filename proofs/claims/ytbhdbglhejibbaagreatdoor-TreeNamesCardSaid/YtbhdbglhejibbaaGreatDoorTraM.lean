/- Layer 10: statements, written: lists. Condition: the tables read as they should.
   Layer 10: a statement, written. Condition: the tables read as they should.
   Layer 10: a secret array and a parameter, written. Condition: the tables read as they should.
   Layer 10: a function, written. Condition: the tables read as they should.
   Layer 10: a source, written. Condition: the tables read as they should.
   Layer 10: what leaves by a lack; Print. Condition: the tables read as they should. -/
import Derived.Test.YtbhdbglhejibbaaGreatDoorTraE
namespace Go.Proofs.YtbhdbglhejibbaaGreatDoor
set_option maxRecDepth 100000
open Go.RowKit
set_option linter.unusedVariables false
def OkE (C : PrC) (V : List VKey) : Prop := ∀ x ∈ V, KeyE C x
theorem OkE.small {C : PrC} {V : List VKey} (h : OkE C V) (m : Nat) : SmallE C V m := fun x hx l h1 h2 _ => h x hx l h1 h2
theorem OkE.grow {C : PrC} {V V' : List VKey} (h : OkE C V) (hG : GrowE C V V') : OkE C V' := fun x hx => (hG x hx).elim (fun h1 => h x h1) id
def stV (k : Int) (s : ByteArray) (n : Int) (A1 : Option Addr) (m1 c1 : Nat) (A2 : Option Addr) (m2 c2 : Nat) (A3 : Option Addr) (m3 c3 : Nat) : Value := .agg #[.int .i64 k, .string s, .int .i64 n, .slice A1 m1 c1, .slice A2 m2 c2, .slice A3 m3 c3]
/-- what writing a statement does -/
def StC (C : PrC) : StmtD → Prop
  | .mk k s n args one two => StmtW (.mk k s n args one two) → ∀ (F : Nat → Prop) (t : List Int) (o : Nat) (V1 V2 : List VKey) (w : World) (A1 : Option Addr) (c1 : Nat) (A2 : Option Addr) (c2 : Nat) (A3 : Option Addr) (c3 : Nat), o ≤ 24 → TwIs C F w t o V1 V2 →
      ExprsAt C.w0 C.S args A1 → args.length ≤ c1 → StmtsAt C.w0 C.S one A2 → one.length ≤ c2 → StmtsAt C.w0 C.S two A3 → two.length ≤ c3 → SmallS C V1 (stsZ one + stsZ two) → OkE C V2 →
      Calls Tryz.prog 102 #[.pointer (some ⟨C.p, 0, none⟩), stV k s n A1 args.length c1 A2 one.length c2 A3 two.length c3] w fun e w' => ∃ V1' V2', GrowS C V1 V1' ∧ OkE C V2' ∧ TwX C F w (stK (.mk k s n args one two) o) (stT (.mk k s n args one two) o t) o V1' V2' e w'
theorem againS_nil (m : Option Nat) (A : Option Addr) (c : Nat) (o : Int) (w : World) :
    Calls Tryz.prog 118 #[.map m, .slice A 0 c, .int .i64 o] w fun e w' => e = .returned (.bool false) ∧ w = w' := by
  go_enter Tryz.func118, Tryz.ntmps118
  go_wp2
  go_ret
  exact ⟨rfl, rfl⟩
set_option maxHeartbeats 4000000 in
theorem eachS_of (C : PrC) (l : List StmtD) (hl : ∀ e ∈ l, StC C e) (F : Nat → Prop) (t : List Int) (o : Nat) (V1 V2 : List VKey) (w : World) (A : Option Addr) (c : Nat) (ho : o ≤ 24) (h : TwIs C F w t o V1 V2) (hA : StmtsAt C.w0 C.S l A) (hc : l.length ≤ c) (hW : StmtsW l) (hm : l.length ≤ maxLen) (hS : SmallS C V1 (stsZ l)) (hOk : OkE C V2) :
    Calls Tryz.prog 101 #[.pointer (some ⟨C.p, 0, none⟩), .map (some C.m1), .slice A l.length c, .func (.func 102) #[.pointer (some ⟨C.p, 0, none⟩)] #[]] w fun e w' => ∃ V1' V2', GrowS C V1 V1' ∧ OkE C V2' ∧ TwX C F w (stsK l o) (stsT l o t) o V1' V2' e w' := by
  have HOk := Lib.hid hOk
  obtain ⟨v, hV⟩ := h
  have HLo := Lib.hid (long_any C F t o V1 V2 v w hV)
  have hc1 := hV.cell1
  have hcf : ∀ (args : Array Value) (w : World), (callFunc 102 args).run Tryz.prog w = .ok (.enter 102 args) w := fun args w => by kernel_rfl
  unfold maxLen at hm
  by_cases hl0 : l = []
  · subst hl0
    have HR := Lib.hid (show ∃ V1' V2', GrowS C V1 V1' ∧ OkE C V2' ∧ TwX C F w (stsK [] o) (stsT [] o t) o V1' V2' (.returned (.tuple #[])) w from ⟨V1, V2, GrowS.refl, hOk, TwX.yes rfl ⟨rfl, ⟨v, hV⟩, OutO.of_below (Below.refl _ _)⟩⟩)
    rw [show ([] : List StmtD).length = 0 from rfl]
    clear hV hA hc hW hm hS hl
    by_cases hlg : 20000 < t.length
    all_goals
      first | rw [decide_eq_true hlg] at HLo | rw [decide_eq_false hlg] at HLo
      clear hlg
      go_enter Tryz.func101, Tryz.ntmps101
      go_wp2_with fail
      refine HLo.out.mono ?_
      rintro e w2 ⟨rfl, rfl⟩
    · go_wp2_with fail
      refine (againS_nil _ _ _ _ _).mono ?_
      rintro e w2 ⟨rfl, rfl⟩
      go_wp2
      go_loopw [23] (fun i wr => i = .int .i64 0 ∧ wr = w) (fun i _ => 0)
      case atStart => exact ⟨rfl, rfl⟩
      case round =>
        obtain ⟨rfl, rfl⟩ := hrel
        go_wp2
        go_end0
        exact HR.out
    · go_wp2
      go_loopw [23] (fun i wr => i = .int .i64 0 ∧ wr = w) (fun i _ => 0)
      case atStart => exact ⟨rfl, rfl⟩
      case round =>
        obtain ⟨rfl, rfl⟩ := hrel
        go_wp2
        go_end0
        exact HR.out
  obtain ⟨b, q, rfl, hb, hin⟩ : ∃ b q, A = some ⟨b, q, none⟩ ∧ C.S b ∧ StmtsIn C.w0 C.S l b q := by
    rcases hA with e | h
    · exact absurd e hl0
    · exact h
  have hpos : 0 < l.length := List.length_pos_iff.2 hl0
  have HL := Lib.hid (And.intro hl (And.intro hW ho))
  have HI := Lib.hid hin
  have HB := Lib.hid (hV.ok.lt hb)
  by_cases hlg : 20000 < t.length
  · rw [decide_eq_true hlg] at HLo
    have HA := Lib.hid (againS_any C F t o V1 V2 b q l.length c hb hpos w ⟨v, hV⟩)
    cases hmem : memG V1 (b, q, l.length, o) with
    | true =>
      have HR := Lib.hid (show stsK l o = true ∧ stsT l o t = t from ⟨hS _ (memG_iff.1 hmem) l hin rfl (Nat.le_refl _), stsT_long hlg l o⟩)
      rw [hmem, addG_mem hmem] at HA
      clear hV hA hW hS hl hlg hmem hin hb
      go_enter Tryz.func101, Tryz.ntmps101
      go_wp2_with fail
      refine HLo.out.mono ?_
      rintro e w2 ⟨rfl, rfl⟩
      go_wp2_with fail
      refine HA.out.mono ?_
      rintro e w3 ⟨rfl, hW3, hO3⟩
      have HW3 := Lib.hid (And.intro hW3 hO3)
      clear hW3 hO3
      go_wp2
      (try simp only [Exit.inBlock, Exit.then])
      refine bodyPost_ret (results_none rfl _ _ _) rfl ?_
      exact ⟨V1, V2, GrowS.refl, HOk.out, TwX.yes HR.out.1 ⟨rfl, by rw [HR.out.2]; exact HW3.out.1, HW3.out.2⟩⟩
    | false =>
    rw [hmem, addG_new hmem] at HA
    have hzp : 0 < stsZ l := by
      cases l with
      | nil => exact absurd rfl hl0
      | cons e es => obtain ⟨a1, a2, a3, a4, a5, a6⟩ := e; unfold stsZ stZ; omega
    obtain ⟨Va, hVa⟩ : ∃ Va, Va = V1 ++ [(b, q, l.length, o)] := ⟨_, rfl⟩
    have HSm := Lib.hid (show SmallS C Va (stsZ l - 1) from by rw [hVa]; exact (hS.mono (by omega)).put hin (by omega))
    have HFin := Lib.hid (show stsK l o = true → ∀ V', GrowS C Va V' → GrowS C V1 V' from fun hk V' h => by rw [hVa] at h; exact GrowS.put hin hk h)
    have HLt := Lib.hid (show stsZ l - 1 + 1 = stsZ l from by omega)
    rw [← hVa] at HA
    clear hV hA hW hS hl hlg hmem hin hb hVa hzp
    go_enter Tryz.func101, Tryz.ntmps101
    go_wp2_with fail
    refine HLo.out.mono ?_
    rintro e w2 ⟨rfl, rfl⟩
    go_wp2_with fail
    refine HA.out.mono ?_
    rintro e w3 ⟨rfl, hW3, hO3⟩
    have HW0 := Lib.hid hW3
    have HO0 := Lib.hid hO3
    clear hW3 hO3
    go_wp2
    go_loopw [23] (fun i wr => ∃ k : Nat, k ≤ l.length ∧ i = .int .i64 k ∧ Hid (∃ V' V2', TwIs C F wr (stsT (l.take k) o t) o V' V2' ∧ GrowS C Va V' ∧ OkE C V2') ∧ Hid (OutO F w wr) ∧ Hid (∀ (j : Nat) (hj : j < l.length), j < k → stK l[j] o = true)) (fun i _ => l.length - (intOf i).toNat)
    case atStart => exact ⟨0, by omega, rfl, Lib.hid ⟨Va, V2, HW0.out, GrowS.refl, HOk.out⟩, HO0, Lib.hid (fun j _ hj => by omega)⟩
    case round =>
      obtain ⟨k, hk, rfl, HW, HO, HY⟩ := hrel
      by_cases hlt : k < l.length
      · obtain ⟨V', U', hW', hG', hU'⟩ := HW.out
        obtain ⟨v', hV'⟩ := hW'
        have hE := HL.out.1 _ (List.getElem_mem hlt)
        have hEw := (stmtsW_iff.1 HL.out.2.1) _ (List.getElem_mem hlt)
        have hAt := StmtsIn.get HI.out hlt
        have hZ := stZ_mem (List.getElem_mem hlt)
        have HK1 := Lib.hid (stsT_snoc (o := o) (t := t) hlt)
        have HKl := Lib.hid (show ∀ (j : Nat) (hj : j < l.length), j < k + 1 → stK l[k] o = true → stK l[j] o = true from fun j hj h1 h2 => by
          by_cases e : j = k
          · subst e; exact h2
          · exact HY.out j hj (by omega))
        have HKn := Lib.hid (show stK l[k] o = false → stsK l o = false from fun h => by
          rw [stsK_all, List.all_eq_false]; exact ⟨l[k], List.getElem_mem hlt, by rw [h]; simp⟩)
        generalize l[k] = e at *
        obtain ⟨kd, s, nm, args, one, two⟩ := e
        unfold StmtAt at hAt
        obtain ⟨g0, g1, g2, ⟨Ar, cr, g3, g4, g5⟩, ⟨As, cs, g6, g7, g8⟩, Au, cu, g9, g10, g11⟩ := hAt
        have x0 := tcell_at hV'.base HB.out g0
        have x1 := tcell_at hV'.base HB.out g1
        have x2 := tcell_at hV'.base HB.out g2
        have x3 := tcell_at hV'.base HB.out g3
        have x4 := tcell_at hV'.base HB.out g6
        have x5 := tcell_at hV'.base HB.out g9
        have hbx := (Below.refl wr.heap.size wr).alloc (Nat.le_refl _) (.cells #[.int .i64 kd, .string s, .int .i64 nm, .slice Ar args.length cr, .slice As one.length cs, .slice Au two.length cu] 45)
        have HC := Lib.hid (hE hEw F (stsT (l.take k) o t) o V' U' _ Ar cr As cs Au cu HL.out.2.2 ⟨v', hV'.below hbx⟩ g5 g4 g8 g7 g11 g10 ((HSm.out.grow hG').mono (by unfold stZ at hZ; have := HLt.out; omega)) hU')
        have HO2 := Lib.hid (HO.out.trans (OutO.of_below (F := F) hbx))
        have HG := Lib.hid hG'
        have k0 : (0 : Int) ≤ k := by omega
        have k1 : (k : Int) < l.length := by omega
        clear hV' hE hEw hZ g0 g1 g2 g3 g4 g5 g6 g7 g8 g9 g10 g11 hbx hG' HW hU'
        unfold stV at HC
        go_wp2_with fail
        refine HC.out.mono ?_
        rintro e w2 ⟨V'', U'', hG2, hU2, hX⟩
        rcases hX.get with ⟨hy, rfl, hW2, hO2⟩ | ⟨hy, rfl, hO2⟩
        · have HW2 := Lib.hid (show ∃ V' V2', TwIs C F w2 (stsT (l.take (k + 1)) o t) o V' V2' ∧ GrowS C Va V' ∧ OkE C V2' from ⟨V'', U'', by rw [HK1.out]; exact hW2, HG.out.trans hG2, hU2⟩)
          have HO3 := Lib.hid (HO2.out.trans hO2)
          have HY2 := Lib.hid (fun (j : Nat) (hj : j < l.length) (h : j < k + 1) => HKl.out j hj h hy)
          clear hG2 hU2 hX hW2 hO2 hy
          go_wp2
          go_roundw
          case rel => exact ⟨k + 1, by omega, by go_num, HW2, HO3, HY2⟩
          case measure => simp [intOf]; omega
        · have HO3 := Lib.hid (HO2.out.trans hO2)
          have HN := Lib.hid (HKn.out hy)
          clear hG2 hU2 hX hO2 hy
          exact ⟨rfl, V1, V2, GrowS.refl, HOk.out, TwX.no HN.out rfl HO3.out⟩
      · have hkn : k = l.length := by omega
        subst hkn
        have HT := Lib.hid (show stsK l o = true from by
          rw [stsK_all, List.all_eq_true]; intro e he; obtain ⟨j, hj, rfl⟩ := List.mem_iff_getElem.1 he; exact HY.out j hj hj)
        have k1 : ¬ (l.length : Int) < l.length := by omega
        have HW3 := Lib.hid (show ∃ V' V2', TwIs C F wr (stsT l o t) o V' V2' ∧ GrowS C V1 V' ∧ OkE C V2' from by
          obtain ⟨V', U', h1, h2, h3⟩ := HW.out
          rw [List.take_length] at h1
          exact ⟨V', U', h1, HFin.out HT.out V' h2, h3⟩)
        clear hlt HW
        go_wp2
        go_end0
        obtain ⟨V', U', h1, h2, h3⟩ := HW3.out
        exact ⟨V', h2, U', h3, TwX.yes HT.out ⟨rfl, h1, HO.out⟩⟩
  · rw [decide_eq_false hlg] at HLo
    obtain ⟨Va, hVa⟩ : ∃ Va, Va = V1 := ⟨_, rfl⟩
    have HSm := Lib.hid (show SmallS C Va (stsZ l) from by rw [hVa]; exact hS)
    have HFin := Lib.hid (show stsK l o = true → ∀ V', GrowS C Va V' → GrowS C V1 V' from fun hk V' h => by rw [hVa] at h; exact h)
    have HLt := Lib.hid (show stsZ l = stsZ l from rfl)
    have HW0 := Lib.hid (show TwIs C F w t o Va V2 from by rw [hVa]; exact ⟨v, hV⟩)
    have HO0 := Lib.hid (OutO.of_below (F := F) (Below.refl w.heap.size w))
    clear hV hA hW hS hl hlg hin hb hVa
    go_enter Tryz.func101, Tryz.ntmps101
    go_wp2_with fail
    refine HLo.out.mono ?_
    rintro e w2 ⟨rfl, rfl⟩
    go_wp2
    go_loopw [23] (fun i wr => ∃ k : Nat, k ≤ l.length ∧ i = .int .i64 k ∧ Hid (∃ V' V2', TwIs C F wr (stsT (l.take k) o t) o V' V2' ∧ GrowS C Va V' ∧ OkE C V2') ∧ Hid (OutO F w wr) ∧ Hid (∀ (j : Nat) (hj : j < l.length), j < k → stK l[j] o = true)) (fun i _ => l.length - (intOf i).toNat)
    case atStart => exact ⟨0, by omega, rfl, Lib.hid ⟨Va, V2, HW0.out, GrowS.refl, HOk.out⟩, HO0, Lib.hid (fun j _ hj => by omega)⟩
    case round =>
      obtain ⟨k, hk, rfl, HW, HO, HY⟩ := hrel
      by_cases hlt : k < l.length
      · obtain ⟨V', U', hW', hG', hU'⟩ := HW.out
        obtain ⟨v', hV'⟩ := hW'
        have hE := HL.out.1 _ (List.getElem_mem hlt)
        have hEw := (stmtsW_iff.1 HL.out.2.1) _ (List.getElem_mem hlt)
        have hAt := StmtsIn.get HI.out hlt
        have hZ := stZ_mem (List.getElem_mem hlt)
        have HK1 := Lib.hid (stsT_snoc (o := o) (t := t) hlt)
        have HKl := Lib.hid (show ∀ (j : Nat) (hj : j < l.length), j < k + 1 → stK l[k] o = true → stK l[j] o = true from fun j hj h1 h2 => by
          by_cases e : j = k
          · subst e; exact h2
          · exact HY.out j hj (by omega))
        have HKn := Lib.hid (show stK l[k] o = false → stsK l o = false from fun h => by
          rw [stsK_all, List.all_eq_false]; exact ⟨l[k], List.getElem_mem hlt, by rw [h]; simp⟩)
        generalize l[k] = e at *
        obtain ⟨kd, s, nm, args, one, two⟩ := e
        unfold StmtAt at hAt
        obtain ⟨g0, g1, g2, ⟨Ar, cr, g3, g4, g5⟩, ⟨As, cs, g6, g7, g8⟩, Au, cu, g9, g10, g11⟩ := hAt
        have x0 := tcell_at hV'.base HB.out g0
        have x1 := tcell_at hV'.base HB.out g1
        have x2 := tcell_at hV'.base HB.out g2
        have x3 := tcell_at hV'.base HB.out g3
        have x4 := tcell_at hV'.base HB.out g6
        have x5 := tcell_at hV'.base HB.out g9
        have hbx := (Below.refl wr.heap.size wr).alloc (Nat.le_refl _) (.cells #[.int .i64 kd, .string s, .int .i64 nm, .slice Ar args.length cr, .slice As one.length cs, .slice Au two.length cu] 45)
        have HC := Lib.hid (hE hEw F (stsT (l.take k) o t) o V' U' _ Ar cr As cs Au cu HL.out.2.2 ⟨v', hV'.below hbx⟩ g5 g4 g8 g7 g11 g10 ((HSm.out.grow hG').mono (by unfold stZ at hZ; have := HLt.out; omega)) hU')
        have HO2 := Lib.hid (HO.out.trans (OutO.of_below (F := F) hbx))
        have HG := Lib.hid hG'
        have k0 : (0 : Int) ≤ k := by omega
        have k1 : (k : Int) < l.length := by omega
        clear hV' hE hEw hZ g0 g1 g2 g3 g4 g5 g6 g7 g8 g9 g10 g11 hbx hG' HW hU'
        unfold stV at HC
        go_wp2_with fail
        refine HC.out.mono ?_
        rintro e w2 ⟨V'', U'', hG2, hU2, hX⟩
        rcases hX.get with ⟨hy, rfl, hW2, hO2⟩ | ⟨hy, rfl, hO2⟩
        · have HW2 := Lib.hid (show ∃ V' V2', TwIs C F w2 (stsT (l.take (k + 1)) o t) o V' V2' ∧ GrowS C Va V' ∧ OkE C V2' from ⟨V'', U'', by rw [HK1.out]; exact hW2, HG.out.trans hG2, hU2⟩)
          have HO3 := Lib.hid (HO2.out.trans hO2)
          have HY2 := Lib.hid (fun (j : Nat) (hj : j < l.length) (h : j < k + 1) => HKl.out j hj h hy)
          clear hG2 hU2 hX hW2 hO2 hy
          go_wp2
          go_roundw
          case rel => exact ⟨k + 1, by omega, by go_num, HW2, HO3, HY2⟩
          case measure => simp [intOf]; omega
        · have HO3 := Lib.hid (HO2.out.trans hO2)
          have HN := Lib.hid (HKn.out hy)
          clear hG2 hU2 hX hO2 hy
          exact ⟨rfl, V1, V2, GrowS.refl, HOk.out, TwX.no HN.out rfl HO3.out⟩
      · have hkn : k = l.length := by omega
        subst hkn
        have HT := Lib.hid (show stsK l o = true from by
          rw [stsK_all, List.all_eq_true]; intro e he; obtain ⟨j, hj, rfl⟩ := List.mem_iff_getElem.1 he; exact HY.out j hj hj)
        have k1 : ¬ (l.length : Int) < l.length := by omega
        have HW3 := Lib.hid (show ∃ V' V2', TwIs C F wr (stsT l o t) o V' V2' ∧ GrowS C V1 V' ∧ OkE C V2' from by
          obtain ⟨V', U', h1, h2, h3⟩ := HW.out
          rw [List.take_length] at h1
          exact ⟨V', U', h1, HFin.out HT.out V' h2, h3⟩)
        clear hlt HW
        go_wp2
        go_end0
        obtain ⟨V', U', h1, h2, h3⟩ := HW3.out
        exact ⟨V', h2, U', h3, TwX.yes HT.out ⟨rfl, h1, HO.out⟩⟩
theorem stmts_of (C : PrC) (l : List StmtD) (hl : ∀ e ∈ l, StC C e) (F : Nat → Prop) (t : List Int) (o : Nat) (V1 V2 : List VKey) (w : World) (A : Option Addr) (c : Nat) (ho : o ≤ 24) (h : TwIs C F w t o V1 V2) (hA : StmtsAt C.w0 C.S l A) (hc : l.length ≤ c) (hW : StmtsW l) (hm : l.length ≤ maxLen) (hS : SmallS C V1 (stsZ l)) (hOk : OkE C V2) :
    Calls Tryz.prog 75 #[.pointer (some ⟨C.p, 0, none⟩), .slice A l.length c] w fun e w' => ∃ V1' V2', GrowS C V1 V1' ∧ OkE C V2' ∧ TwX C F w (stsK l o) (stsT l o t) o V1' V2' e w' := by
  have hmf : ∀ (fn : Fn) (first cap : Array Value) (w : World), (Instr.makeFunc fn first cap).run Tryz.prog w = .ok (.func fn first cap) w := fun _ _ _ _ => rfl
  have HE := Lib.hid (eachS_of C l hl F t o V1 V2 w A c ho h hA hc hW hm hS hOk)
  obtain ⟨v, hV⟩ := h
  have hc2 := hV.cell2
  have HS := Lib.hid hS
  clear hl hA hc hW hm hS hOk hV
  go_enter Tryz.func75, Tryz.ntmps75
  go_wp2_with fail
  refine HE.out.mono ?_
  rintro e w2 ⟨V', U', hG, hU, hX⟩
  rcases hX.get with ⟨hy, rfl, hW2, hO2⟩ | ⟨hy, rfl, hO2⟩
  · have HR := Lib.hid (show ∃ V1' V2', GrowS C V1 V1' ∧ OkE C V2' ∧ TwX C F w (stsK l o) (stsT l o t) o V1' V2' (.returned (.tuple #[])) w2 from ⟨V', U', hG, hU, hX⟩)
    clear hX hW2 hO2 hy hG hU
    go_wp2
    go_end0
    exact HR.out
  · exact ⟨rfl, V', U', hG, hU, hX⟩
set_option maxHeartbeats 1000000 in
theorem block_of (C : PrC) (l : List StmtD) (hl : ∀ e ∈ l, StC C e) (F : Nat → Prop) (t : List Int) (o : Nat) (V1 V2 : List VKey) (w : World) (A : Option Addr) (c : Nat) (ho : o ≤ 24) (h : TwIs C F w t o V1 V2) (hA : StmtsAt C.w0 C.S l A) (hc : l.length ≤ c) (hW : StmtsW l) (hm : l.length ≤ maxLen) (hS : SmallS C V1 (stsZ l)) (hOk : OkE C V2) :
    Calls Tryz.prog 120 #[.pointer (some ⟨C.p, 0, none⟩), .slice A l.length c] w fun e w' => ∃ V1' V2', GrowS C V1 V1' ∧ OkE C V2' ∧ TwX C F w (decide (o < 24) && stsK l (o + 1)) (endL (stsT l (o + 1) (begL t o)) (o + 1)) o V1' V2' e w' := by
  have HB := Lib.hid (begin_any C F t o ho V1 V2 w h)
  have HOk := Lib.hid hOk
  have HE := Lib.hid (fun (ho2 : o < 24) (w2 : World) (h2 : TwIs C F w2 (begL t o) (o + 1) V1 V2) => stmts_of C l hl F (begL t o) (o + 1) V1 V2 w2 A c (by omega) h2 hA hc hW hm hS hOk)
  have HN := Lib.hid (fun (ho2 : o < 24) (V V' : List VKey) (w5 : World) (h5 : TwIs C F w5 (stsT l (o + 1) (begL t o)) (o + 1) V V') => tend_any C F _ o (by omega) V V' w5 h5)
  clear h hl hA hc hW hm hS hOk
  go_enter Tryz.func120, Tryz.ntmps120
  go_wp2_with fail
  refine HB.out.mono ?_
  intro e w2 hX
  rcases hX.get with ⟨hy, rfl, hW2, hO2⟩ | ⟨hy, rfl, hO2⟩
  case inr =>
    exact ⟨rfl, V1, V2, GrowS.refl, HOk.out, TwX.no (by rw [hy]; rfl) rfl hO2⟩
  have HY := Lib.hid hy
  have HO2 := Lib.hid hO2
  have ho2 : o < 24 := by simpa using hy
  have HX := Lib.hid (HE.out ho2 w2 hW2)
  clear hX hW2 hO2 hy
  go_wp2_with fail
  refine HX.out.mono ?_
  rintro e w3 ⟨V', U', hG, hU, hX⟩
  rcases hX.get with ⟨hy, rfl, hW3, hO3⟩ | ⟨hy, rfl, hO3⟩
  case inr =>
    exact ⟨rfl, V', U', hG, hU, TwX.no (by rw [hy]; simp) rfl (HO2.out.trans hO3)⟩
  have HY3 := Lib.hid hy
  have HO3 := Lib.hid (HO2.out.trans hO3)
  have HG := Lib.hid (And.intro hG hU)
  have HN3 := Lib.hid (HN.out ho2 _ _ _ hW3)
  clear hX hW3 hO3 hy hG hU
  go_wp2_with fail
  refine HN3.out.mono ?_
  rintro e w4 ⟨rfl, hW4, hO4⟩
  have HZ := Lib.hid (And.intro hW4 (HO3.out.trans hO4))
  clear hW4 hO4
  go_wp2
  go_end0
  exact ⟨V', U', HG.out.1, HG.out.2, TwX.yes (by rw [HY.out, HY3.out]; rfl) ⟨rfl, HZ.out.1, HZ.out.2⟩⟩
end Go.Proofs.YtbhdbglhejibbaaGreatDoor
namespace Go.Proofs.YtbhdbglhejibbaaGreatDoor
set_option maxRecDepth 100000
open Go.RowKit
set_option linter.unusedVariables false
theorem two_boxes {F : Nat → Prop} {w2 w' : World} {g : Nat} {x1 x2 : Obj} (hO : OutO (NBo (NBo F g) w2.heap.size) (w2.alloc x2) w') (h1 : w2.heap[g]? = some x1) : w'.heap[g]? = some x1 ∧ w'.heap[w2.heap.size]? = some x2 :=
  ⟨(hO.ofAlloc.block g (Array.getElem?_eq_some_iff.1 h1).1 (fun e => e.2 rfl)).trans h1, hO.boxed⟩
theorem stB_parts {k : Int} {s : ByteArray} {n : Int} {a t e : Nat} (h : stB k s n a t e = true) : (0 ≤ k ∧ k ≤ 4) ∧ nmB (stmR k.toNat).2.1 s = true ∧ cntB (stmR k.toNat).2.2.1 n = true := by
  unfold stB at h
  simp only [Bool.and_eq_true] at h
  obtain ⟨⟨⟨⟨h1, h2⟩, h3⟩, _⟩, _⟩ := h
  unfold betB at h1
  simp only [Bool.and_eq_true, decide_eq_true_eq] at h1
  exact ⟨h1, h2, h3⟩
theorem stK_no {k : Int} {s : ByteArray} {n : Int} {args : List ExprD} {one two : List StmtD} {o : Nat} (h : stB k s n args.length one.length two.length = false) : stK (.mk k s n args one two) o = false := by unfold stK; rw [h]; rfl
theorem stmW_small (k : Int) (h : 0 ≤ k ∧ k ≤ 4) : (stmW k).size ≤ 1000 := by
  have h7 : k = 0 ∨ k = 1 ∨ k = 2 ∨ k = 3 ∨ k = 4 := by omega
  rcases h7 with rfl | rfl | rfl | rfl | rfl <;> decide
theorem stK_two1 {s : ByteArray} {n : Int} {args : List ExprD} {one two : List StmtD} {o : Nat} (h : (decide (o + 1 < 24) && stsK one (o + 1 + 1)) = false) : stK (.mk 2 s n args one two) o = false := by
  unfold stK
  rw [show (stmR (Int.toNat 2)).2.2.2.2 = 2 from rfl, if_neg (by decide), if_pos rfl]
  by_cases h1 : o < 23
  · rw [decide_eq_true (by omega : o + 1 < 24)] at h
    have h2 : stsK one (o + 2) = false := by simpa using h
    rw [h2]; simp
  · rw [decide_eq_false h1]; simp
theorem stK_two2 {s : ByteArray} {n : Int} {args : List ExprD} {one two : List StmtD} {o : Nat} (h : (decide (o + 1 < 24) && stsK two (o + 1 + 1)) = false) : stK (.mk 2 s n args one two) o = false := by
  unfold stK
  rw [show (stmR (Int.toNat 2)).2.2.2.2 = 2 from rfl, if_neg (by decide), if_pos rfl]
  by_cases h1 : o < 23
  · rw [decide_eq_true (by omega : o + 1 < 24)] at h
    have h2 : stsK two (o + 2) = false := by simpa using h
    rw [h2]; simp
  · rw [decide_eq_false h1]; simp
theorem stK_two {s : ByteArray} {n : Int} {args : List ExprD} {one two : List StmtD} {o : Nat} (h0 : stB 2 s n args.length one.length two.length = true) (h1 : decide (o < 24) = true) (h2 : exsK args (o + 1) = true) (h3 : (decide (o + 1 < 24) && stsK one (o + 1 + 1)) = true) (h4 : (decide (o + 1 < 24) && stsK two (o + 1 + 1)) = true) : stK (.mk 2 s n args one two) o = true := by
  unfold stK
  rw [show (stmR (Int.toNat 2)).2.2.2.2 = 2 from rfl, if_neg (by decide), if_pos rfl, h0, h1, h2]
  simp only [Bool.and_eq_true, decide_eq_true_eq] at h3 h4
  rw [show o + 2 = o + 1 + 1 from rfl, h3.2, h4.2, decide_eq_true (by omega : o < 23)]
  rfl
theorem stT_0 {s : ByteArray} {n : Int} {args : List ExprD} {one two : List StmtD} {o : Nat} {t : List Int} : stT (.mk 0 s n args one two) o t = endL (exsT args (o + 1) (wordL (wordL (begL t o) (o + 1) (stmW 0)) (o + 1) s)) (o + 1) := by
  have h1 : (stmR (Int.toNat 0)).2.1 = true := rfl
  have h2 : (stmR (Int.toNat 0)).2.2.1 = false := rfl
  have h3 : (stmR (Int.toNat 0)).2.2.2.2 = 0 := rfl
  unfold stT staL
  simp only [h1, h2, h3, if_true, Bool.false_eq_true, if_false, show ¬ (0 : Int) = 1 by decide, show ¬ (0 : Int) = 2 by decide]
theorem stT_1 {s : ByteArray} {n : Int} {args : List ExprD} {one two : List StmtD} {o : Nat} {t : List Int} : stT (.mk 1 s n args one two) o t = endL (exsT args (o + 1) (wordL (wordL (begL t o) (o + 1) (stmW 1)) (o + 1) s)) (o + 1) := by
  have h1 : (stmR (Int.toNat 1)).2.1 = true := rfl
  have h2 : (stmR (Int.toNat 1)).2.2.1 = false := rfl
  have h3 : (stmR (Int.toNat 1)).2.2.2.2 = 0 := rfl
  unfold stT staL
  simp only [h1, h2, h3, if_true, Bool.false_eq_true, if_false, show ¬ (0 : Int) = 1 by decide, show ¬ (0 : Int) = 2 by decide]
theorem stT_2 {s : ByteArray} {n : Int} {args : List ExprD} {one two : List StmtD} {o : Nat} {t : List Int} : stT (.mk 2 s n args one two) o t = endL (endL (stsT two (o + 1 + 1) (begL (endL (stsT one (o + 1 + 1) (begL (exsT args (o + 1) (wordL (begL t o) (o + 1) (stmW 2))) (o + 1))) (o + 1 + 1)) (o + 1))) (o + 1 + 1)) (o + 1) := by
  have h1 : (stmR (Int.toNat 2)).2.1 = false := rfl
  have h2 : (stmR (Int.toNat 2)).2.2.1 = false := rfl
  have h3 : (stmR (Int.toNat 2)).2.2.2.2 = 2 := rfl
  unfold stT staL
  simp only [h1, h2, h3, if_true, Bool.false_eq_true, if_false, show ¬ (2 : Int) = 1 by decide, show o + 2 = o + 1 + 1 from rfl]
theorem stT_3 {s : ByteArray} {n : Int} {args : List ExprD} {one two : List StmtD} {o : Nat} {t : List Int} : stT (.mk 3 s n args one two) o t = endL (stsT one (o + 1) (exsT args (o + 1) (wordL (wordL (wordL (begL t o) (o + 1) (stmW 3)) (o + 1) s) (o + 1) (dgtB n)))) (o + 1) := by
  have h1 : (stmR (Int.toNat 3)).2.1 = true := rfl
  have h2 : (stmR (Int.toNat 3)).2.2.1 = true := rfl
  have h3 : (stmR (Int.toNat 3)).2.2.2.2 = 1 := rfl
  unfold stT staL
  simp only [h1, h2, h3, if_true]
theorem stT_4 {s : ByteArray} {n : Int} {args : List ExprD} {one two : List StmtD} {o : Nat} {t : List Int} : stT (.mk 4 s n args one two) o t = endL (exsT args (o + 1) (wordL (begL t o) (o + 1) (stmW 4))) (o + 1) := by
  have h1 : (stmR (Int.toNat 4)).2.1 = false := rfl
  have h2 : (stmR (Int.toNat 4)).2.2.1 = false := rfl
  have h3 : (stmR (Int.toNat 4)).2.2.2.2 = 0 := rfl
  unfold stT staL
  simp only [h1, h2, h3, Bool.false_eq_true, if_false, show ¬ (0 : Int) = 1 by decide, show ¬ (0 : Int) = 2 by decide]
/-- behind a statement: what was within comes out of its boxes -/
theorem TwIs.unbox2 {C : PrC} {F : Nat → Prop} {w : World} {t : List Int} {o : Nat} {V1 V2 : List VKey} {g1 g2 : Nat} (h : TwIs C (NBo (NBo F g1) g2) w t o V1 V2) (hf : ∀ b, F b → C.w0.heap.size ≤ b) : TwIs C F w t o V1 V2 := by
  obtain ⟨v, h⟩ := h
  exact ⟨v, { h with fp := h.fp.1.1, f1 := h.f1.1.1, f2 := h.f2.1.1, fv := fun b e => (h.fv b e).1.1, fn := fun b e => (h.fn b e).1.1, fk := hf }⟩
set_option maxHeartbeats 8000000 in
theorem stmt_of (C : PrC) : ∀ e, StC C e := StmtD.ind fun k s n args one two ih1 ih2 => by
  intro hW F t o V1 V2 w A1 c1 A2 c2 A3 c3 ho h hA1 hc1 hA2 hc2 hA3 hc3 hS hOk
  unfold stV
  unfold StmtW at hW
  obtain ⟨hk, hs, hn, ⟨hm1, hW1⟩, ⟨hm2, hW2⟩, hm3, hW3⟩ := hW
  obtain ⟨v, hV⟩ := h
  have hbx := (Below.refl w.heap.size w).alloc (Nat.le_refl _) (.cells #[.int .i64 k, .string s, .int .i64 n, .slice A1 args.length c1, .slice A2 one.length c2, .slice A3 two.length c3] 45)
  have hY := heap_alloc_new w (.cells #[.int .i64 k, .string s, .int .i64 n, .slice A1 args.length c1, .slice A2 one.length c2, .slice A3 two.length c3] 45)
  have hBx := TwIs.box ⟨v, hV⟩ (.cells #[.int .i64 k, .string s, .int .i64 n, .slice A1 args.length c1, .slice A2 one.length c2, .slice A3 two.length c3] 45)
  have HV := Lib.hid (hV.below hbx)
  have HF := Lib.hid hV.fk
  have HO := Lib.hid (OutO.of_below (F := F) hbx)
  have HM := Lib.hid (mayStmt_any k s n A1 A2 A3 args.length c1 one.length c2 two.length c3 _ (hV.ok.tab.below (HV.out.base)))
  have HX := Lib.hid hY
  have HBx := Lib.hid hBx
  have HOk := Lib.hid hOk
  clear hV hbx hY hBx
  go_enter Tryz.func102, Tryz.ntmps102
  go_wp2_with fail
  refine HM.out.mono ?_
  rintro e w2 ⟨rfl, hb⟩
  generalize (w.alloc (.cells #[.int .i64 k, .string s, .int .i64 n, .slice A1 args.length c1, .slice A2 one.length c2, .slice A3 two.length c3] 45)) = W at *
  have HV2 := Lib.hid (HV.out.below hb)
  have HO2 := Lib.hid (HO.out.trans (OutO.of_below hb))
  have HX2 := Lib.hid ((hb.block _ (Array.getElem?_eq_some_iff.1 HX.out).1).trans HX.out)
  have HBw := Lib.hid (HBx.out.below hb)
  clear hb HM
  cases hx : stB k s n args.length one.length two.length with
  | false =>
    have HN := Lib.hid (stK_no (args := args) (one := one) (two := two) (o := o) hx)
    go_wp2_with fail
    refine (twant_no _).mono ?_
    rintro e w3 ⟨rfl, rfl⟩
    exact ⟨rfl, V1, V2, GrowS.refl, HOk.out, TwX.no HN.out rfl HO2.out⟩
  | true =>
    obtain ⟨hk04, hnm, hcn⟩ := stB_parts hx
    have HD := Lib.hid (nmB_size hnm)
    have HT := Lib.hid (show TrT w2 from (HV2.out.ok.tab.below HV2.out.base))
    go_wp2_with fail
    refine (twant_yes _).mono ?_
    rintro e w3 ⟨rfl, rfl⟩
    have HE := Lib.hid (fun (F' : Nat → Prop) (t' : List Int) (o' : Nat) (ho' : o' ≤ 24) (w4 : World) (h4 : TwIs C F' w4 t' o' V1 V2) => exprs_of C args (fun e _ => expr_of C e) F' t' o' V1 V2 w4 A1 c1 ho' h4 hA1 hc1 hW1 hm1 (hOk.small _))
    have HS1 := Lib.hid (fun (F' : Nat → Prop) (t' : List Int) (o' : Nat) (ho' : o' ≤ 24) (U2 : List VKey) (hU2 : OkE C U2) (w4 : World) (h4 : TwIs C F' w4 t' o' V1 U2) => stmts_of C one ih1 F' t' o' V1 U2 w4 A2 c2 ho' h4 hA2 hc2 hW2 hm2 (hS.mono (by omega)) hU2)
    have HS2 := Lib.hid (fun (F' : Nat → Prop) (t' : List Int) (o' : Nat) (ho' : o' ≤ 24) (U2 : List VKey) (hU2 : OkE C U2) (w4 : World) (h4 : TwIs C F' w4 t' o' V1 U2) => block_of C one ih1 F' t' o' V1 U2 w4 A2 c2 ho' h4 hA2 hc2 hW2 hm2 (hS.mono (by omega)) hU2)
    have HS3 := Lib.hid (fun (F' : Nat → Prop) (t' : List Int) (o' : Nat) (ho' : o' ≤ 24) (U1 U2 : List VKey) (hU1 : GrowS C V1 U1) (hU2 : OkE C U2) (w4 : World) (h4 : TwIs C F' w4 t' o' U1 U2) => block_of C two ih2 F' t' o' U1 U2 w4 A3 c3 ho' h4 hA3 hc3 hW3 hm3 ((hS.grow hU1).mono (by omega)) hU2)
    have x0 := cell_of_row w2 w.heap.size 0 _ _ _ HX2.out
    simp only [List.getElem?_toArray, List.getElem?_cons_zero] at x0
    have hkc : k = 0 ∨ k = 1 ∨ k = 2 ∨ k = 3 ∨ k = 4 := by omega
    have HQ := Lib.hid (And.intro hx (And.intro ho hcn))
    clear hx hk hs hn hm1 hW1 hm2 hW2 hm3 hW3 hk04 hnm hcn hA1 hA2 hA3 hc1 hc2 hc3 hS hOk ih1 ih2 ho
    rcases hkc with rfl | rfl | rfl | rfl | rfl
    · have t0 : w2.cell? ⟨1, 0, none⟩ = some (.string (stmW 0)) := HT.out.stm 0 (by decide) 0 (by decide)
      have t1 : w2.cell? ⟨1, 1, none⟩ = some (.bool true) := HT.out.stm 0 (by decide) 1 (by decide)
      have t2 : w2.cell? ⟨1, 2, none⟩ = some (.bool false) := HT.out.stm 0 (by decide) 2 (by decide)
      have t3 : w2.cell? ⟨1, 3, none⟩ = some (.int .i64 1) := HT.out.stm 0 (by decide) 3 (by decide)
      have t4 : w2.cell? ⟨1, 4, none⟩ = some (.int .i64 0) := HT.out.stm 0 (by decide) 4 (by decide)
      have HBg := Lib.hid (begin_any C _ t o HQ.out.2.1 V1 V2 _ (HBw.out.box (.cells #[.string (stmW 0), .bool true, .bool false, .int .i64 1, .int .i64 0] 110)))
      go_wp2_with fail
      refine HBg.out.mono ?_
      clear t0 t1 t2 t3 t4 HBg HT
      intro e w4 hX
      rcases hX.get with ⟨hy, rfl, hW4, hO4⟩ | ⟨hy, rfl, hO4⟩
      case inr =>
        exact ⟨rfl, V1, V2, GrowS.refl, HOk.out, TwX.no (by unfold stK; rw [hy]; simp) rfl (HO2.out.trans hO4.ofAlloc.unbox)⟩
      have ho2 : o < 24 := by simpa using hy
      have HY := Lib.hid hy
      have HO4 := Lib.hid hO4
      have HC4 := Lib.hid (tword_any C _ _ (o + 1) V1 V2 (stmW 0) (stmW_small _ (by omega)) w4 hW4)
      have HNd := Lib.hid (fun (F' : Nat → Prop) (t' : List Int) (U V' : List VKey) (w5 : World) (h5 : TwIs C F' w5 t' (o + 1) U V') => tend_any C F' t' o (by omega) U V' w5 h5)
      clear hX hW4 hO4 hy
      obtain ⟨p1, p2⟩ := two_boxes HO4.out HX2.out
      have y0 := cell_of_row w4 w.heap.size 0 _ _ _ p1
      have y1 := cell_of_row w4 w.heap.size 1 _ _ _ p1
      have y2 := cell_of_row w4 w.heap.size 2 _ _ _ p1
      have y3 := cell_of_row w4 w.heap.size 3 _ _ _ p1
      have y4 := cell_of_row w4 w.heap.size 4 _ _ _ p1
      have y5 := cell_of_row w4 w.heap.size 5 _ _ _ p1
      have z0 := cell_of_row w4 w2.heap.size 0 _ _ _ p2
      have z1 := cell_of_row w4 w2.heap.size 1 _ _ _ p2
      have z2 := cell_of_row w4 w2.heap.size 2 _ _ _ p2
      have z4 := cell_of_row w4 w2.heap.size 4 _ _ _ p2
      simp only [List.getElem?_toArray, List.getElem?_cons_zero, List.getElem?_cons_succ] at y0 y1 y2 y3 y4 y5 z0 z1 z2 z4
      clear p1 p2
      go_wp2_with fail
      refine HC4.out.mono ?_
      clear y0 y1 y2 y3 y4 y5 z0 z1 z2 z4
      rintro e w5 ⟨rfl, hW5, hO5⟩
      have HO5 := Lib.hid (HO4.out.trans hO5)
      have HC5 := Lib.hid (tword_any C _ _ (o + 1) V1 V2 s HD.out w5 hW5)
      clear hW5 hO5
      obtain ⟨p1, p2⟩ := two_boxes HO5.out HX2.out
      have y0 := cell_of_row w5 w.heap.size 0 _ _ _ p1
      have y1 := cell_of_row w5 w.heap.size 1 _ _ _ p1
      have y2 := cell_of_row w5 w.heap.size 2 _ _ _ p1
      have y3 := cell_of_row w5 w.heap.size 3 _ _ _ p1
      have y4 := cell_of_row w5 w.heap.size 4 _ _ _ p1
      have y5 := cell_of_row w5 w.heap.size 5 _ _ _ p1
      have z0 := cell_of_row w5 w2.heap.size 0 _ _ _ p2
      have z1 := cell_of_row w5 w2.heap.size 1 _ _ _ p2
      have z2 := cell_of_row w5 w2.heap.size 2 _ _ _ p2
      have z4 := cell_of_row w5 w2.heap.size 4 _ _ _ p2
      simp only [List.getElem?_toArray, List.getElem?_cons_zero, List.getElem?_cons_succ] at y0 y1 y2 y3 y4 y5 z0 z1 z2 z4
      clear p1 p2
      go_wp2_with fail
      refine HC5.out.mono ?_
      clear y0 y1 y2 y3 y4 y5 z0 z1 z2 z4
      rintro e w6 ⟨rfl, hW6, hO6⟩
      have HO6 := Lib.hid (HO5.out.trans hO6)
      have HC6 := Lib.hid (HE.out _ _ (o + 1) (by omega) w6 hW6)
      clear hW6 hO6
      obtain ⟨p1, p2⟩ := two_boxes HO6.out HX2.out
      have y0 := cell_of_row w6 w.heap.size 0 _ _ _ p1
      have y1 := cell_of_row w6 w.heap.size 1 _ _ _ p1
      have y2 := cell_of_row w6 w.heap.size 2 _ _ _ p1
      have y3 := cell_of_row w6 w.heap.size 3 _ _ _ p1
      have y4 := cell_of_row w6 w.heap.size 4 _ _ _ p1
      have y5 := cell_of_row w6 w.heap.size 5 _ _ _ p1
      have z0 := cell_of_row w6 w2.heap.size 0 _ _ _ p2
      have z1 := cell_of_row w6 w2.heap.size 1 _ _ _ p2
      have z2 := cell_of_row w6 w2.heap.size 2 _ _ _ p2
      have z4 := cell_of_row w6 w2.heap.size 4 _ _ _ p2
      simp only [List.getElem?_toArray, List.getElem?_cons_zero, List.getElem?_cons_succ] at y0 y1 y2 y3 y4 y5 z0 z1 z2 z4
      clear p1 p2
      go_wp2_with fail
      refine HC6.out.mono ?_
      clear y0 y1 y2 y3 y4 y5 z0 z1 z2 z4
      rintro e w7 ⟨U2, hG2, hX⟩
      rcases hX.get with ⟨hy, rfl, hW7, hO7⟩ | ⟨hy, rfl, hO7⟩
      case inr =>
        exact ⟨rfl, V1, U2, GrowS.refl, HOk.out.grow hG2, TwX.no (by unfold stK; rw [hy]; simp) rfl (HO2.out.trans (HO6.out.trans hO7).ofAlloc.unbox)⟩
      have HY2 := Lib.hid hy
      have HU2 := Lib.hid (HOk.out.grow hG2)
      have HO7 := Lib.hid (HO6.out.trans hO7)
      clear hX hO7 hy hG2
      have HC7 := Lib.hid (HNd.out _ _ _ _ w7 hW7)
      clear hW7
      obtain ⟨p1, p2⟩ := two_boxes HO7.out HX2.out
      have y0 := cell_of_row w7 w.heap.size 0 _ _ _ p1
      have y1 := cell_of_row w7 w.heap.size 1 _ _ _ p1
      have y2 := cell_of_row w7 w.heap.size 2 _ _ _ p1
      have y3 := cell_of_row w7 w.heap.size 3 _ _ _ p1
      have y4 := cell_of_row w7 w.heap.size 4 _ _ _ p1
      have y5 := cell_of_row w7 w.heap.size 5 _ _ _ p1
      have z0 := cell_of_row w7 w2.heap.size 0 _ _ _ p2
      have z1 := cell_of_row w7 w2.heap.size 1 _ _ _ p2
      have z2 := cell_of_row w7 w2.heap.size 2 _ _ _ p2
      have z4 := cell_of_row w7 w2.heap.size 4 _ _ _ p2
      simp only [List.getElem?_toArray, List.getElem?_cons_zero, List.getElem?_cons_succ] at y0 y1 y2 y3 y4 y5 z0 z1 z2 z4
      clear p1 p2
      go_wp2_with fail
      refine HC7.out.mono ?_
      clear y0 y1 y2 y3 y4 y5 z0 z1 z2 z4
      rintro e w8 ⟨rfl, hW8, hO8⟩
      have HZ := Lib.hid (show ∃ V1' V2', GrowS C V1 V1' ∧ OkE C V2' ∧ TwX C F w (stK (.mk 0 s n args one two) o) (stT (.mk 0 s n args one two) o t) o V1' V2' (.returned (.tuple #[])) w8 from ⟨V1, U2, GrowS.refl, HU2.out, TwX.yes (by unfold stK; rw [HQ.out.1, HY.out, HY2.out]; rfl) ⟨rfl, by rw [stT_0]; exact hW8.unbox2 HF.out, HO2.out.trans (HO7.out.trans hO8).ofAlloc.unbox⟩⟩)
      clear hW8 hO8
      go_wp2
      go_end0
      first | exact HZ.out | (obtain ⟨a1, a2, a3, a4, a5⟩ := HZ.out; exact ⟨a1, a3, a2, a4, a5⟩)
    · have t0 : w2.cell? ⟨1, 5, none⟩ = some (.string (stmW 1)) := HT.out.stm 1 (by decide) 0 (by decide)
      have t1 : w2.cell? ⟨1, 6, none⟩ = some (.bool true) := HT.out.stm 1 (by decide) 1 (by decide)
      have t2 : w2.cell? ⟨1, 7, none⟩ = some (.bool false) := HT.out.stm 1 (by decide) 2 (by decide)
      have t3 : w2.cell? ⟨1, 8, none⟩ = some (.int .i64 2) := HT.out.stm 1 (by decide) 3 (by decide)
      have t4 : w2.cell? ⟨1, 9, none⟩ = some (.int .i64 0) := HT.out.stm 1 (by decide) 4 (by decide)
      have HBg := Lib.hid (begin_any C _ t o HQ.out.2.1 V1 V2 _ (HBw.out.box (.cells #[.string (stmW 1), .bool true, .bool false, .int .i64 2, .int .i64 0] 110)))
      go_wp2_with fail
      refine HBg.out.mono ?_
      clear t0 t1 t2 t3 t4 HBg HT
      intro e w4 hX
      rcases hX.get with ⟨hy, rfl, hW4, hO4⟩ | ⟨hy, rfl, hO4⟩
      case inr =>
        exact ⟨rfl, V1, V2, GrowS.refl, HOk.out, TwX.no (by unfold stK; rw [hy]; simp) rfl (HO2.out.trans hO4.ofAlloc.unbox)⟩
      have ho2 : o < 24 := by simpa using hy
      have HY := Lib.hid hy
      have HO4 := Lib.hid hO4
      have HC4 := Lib.hid (tword_any C _ _ (o + 1) V1 V2 (stmW 1) (stmW_small _ (by omega)) w4 hW4)
      have HNd := Lib.hid (fun (F' : Nat → Prop) (t' : List Int) (U V' : List VKey) (w5 : World) (h5 : TwIs C F' w5 t' (o + 1) U V') => tend_any C F' t' o (by omega) U V' w5 h5)
      clear hX hW4 hO4 hy
      obtain ⟨p1, p2⟩ := two_boxes HO4.out HX2.out
      have y0 := cell_of_row w4 w.heap.size 0 _ _ _ p1
      have y1 := cell_of_row w4 w.heap.size 1 _ _ _ p1
      have y2 := cell_of_row w4 w.heap.size 2 _ _ _ p1
      have y3 := cell_of_row w4 w.heap.size 3 _ _ _ p1
      have y4 := cell_of_row w4 w.heap.size 4 _ _ _ p1
      have y5 := cell_of_row w4 w.heap.size 5 _ _ _ p1
      have z0 := cell_of_row w4 w2.heap.size 0 _ _ _ p2
      have z1 := cell_of_row w4 w2.heap.size 1 _ _ _ p2
      have z2 := cell_of_row w4 w2.heap.size 2 _ _ _ p2
      have z4 := cell_of_row w4 w2.heap.size 4 _ _ _ p2
      simp only [List.getElem?_toArray, List.getElem?_cons_zero, List.getElem?_cons_succ] at y0 y1 y2 y3 y4 y5 z0 z1 z2 z4
      clear p1 p2
      go_wp2_with fail
      refine HC4.out.mono ?_
      clear y0 y1 y2 y3 y4 y5 z0 z1 z2 z4
      rintro e w5 ⟨rfl, hW5, hO5⟩
      have HO5 := Lib.hid (HO4.out.trans hO5)
      have HC5 := Lib.hid (tword_any C _ _ (o + 1) V1 V2 s HD.out w5 hW5)
      clear hW5 hO5
      obtain ⟨p1, p2⟩ := two_boxes HO5.out HX2.out
      have y0 := cell_of_row w5 w.heap.size 0 _ _ _ p1
      have y1 := cell_of_row w5 w.heap.size 1 _ _ _ p1
      have y2 := cell_of_row w5 w.heap.size 2 _ _ _ p1
      have y3 := cell_of_row w5 w.heap.size 3 _ _ _ p1
      have y4 := cell_of_row w5 w.heap.size 4 _ _ _ p1
      have y5 := cell_of_row w5 w.heap.size 5 _ _ _ p1
      have z0 := cell_of_row w5 w2.heap.size 0 _ _ _ p2
      have z1 := cell_of_row w5 w2.heap.size 1 _ _ _ p2
      have z2 := cell_of_row w5 w2.heap.size 2 _ _ _ p2
      have z4 := cell_of_row w5 w2.heap.size 4 _ _ _ p2
      simp only [List.getElem?_toArray, List.getElem?_cons_zero, List.getElem?_cons_succ] at y0 y1 y2 y3 y4 y5 z0 z1 z2 z4
      clear p1 p2
      go_wp2_with fail
      refine HC5.out.mono ?_
      clear y0 y1 y2 y3 y4 y5 z0 z1 z2 z4
      rintro e w6 ⟨rfl, hW6, hO6⟩
      have HO6 := Lib.hid (HO5.out.trans hO6)
      have HC6 := Lib.hid (HE.out _ _ (o + 1) (by omega) w6 hW6)
      clear hW6 hO6
      obtain ⟨p1, p2⟩ := two_boxes HO6.out HX2.out
      have y0 := cell_of_row w6 w.heap.size 0 _ _ _ p1
      have y1 := cell_of_row w6 w.heap.size 1 _ _ _ p1
      have y2 := cell_of_row w6 w.heap.size 2 _ _ _ p1
      have y3 := cell_of_row w6 w.heap.size 3 _ _ _ p1
      have y4 := cell_of_row w6 w.heap.size 4 _ _ _ p1
      have y5 := cell_of_row w6 w.heap.size 5 _ _ _ p1
      have z0 := cell_of_row w6 w2.heap.size 0 _ _ _ p2
      have z1 := cell_of_row w6 w2.heap.size 1 _ _ _ p2
      have z2 := cell_of_row w6 w2.heap.size 2 _ _ _ p2
      have z4 := cell_of_row w6 w2.heap.size 4 _ _ _ p2
      simp only [List.getElem?_toArray, List.getElem?_cons_zero, List.getElem?_cons_succ] at y0 y1 y2 y3 y4 y5 z0 z1 z2 z4
      clear p1 p2
      go_wp2_with fail
      refine HC6.out.mono ?_
      clear y0 y1 y2 y3 y4 y5 z0 z1 z2 z4
      rintro e w7 ⟨U2, hG2, hX⟩
      rcases hX.get with ⟨hy, rfl, hW7, hO7⟩ | ⟨hy, rfl, hO7⟩
      case inr =>
        exact ⟨rfl, V1, U2, GrowS.refl, HOk.out.grow hG2, TwX.no (by unfold stK; rw [hy]; simp) rfl (HO2.out.trans (HO6.out.trans hO7).ofAlloc.unbox)⟩
      have HY2 := Lib.hid hy
      have HU2 := Lib.hid (HOk.out.grow hG2)
      have HO7 := Lib.hid (HO6.out.trans hO7)
      clear hX hO7 hy hG2
      have HC7 := Lib.hid (HNd.out _ _ _ _ w7 hW7)
      clear hW7
      obtain ⟨p1, p2⟩ := two_boxes HO7.out HX2.out
      have y0 := cell_of_row w7 w.heap.size 0 _ _ _ p1
      have y1 := cell_of_row w7 w.heap.size 1 _ _ _ p1
      have y2 := cell_of_row w7 w.heap.size 2 _ _ _ p1
      have y3 := cell_of_row w7 w.heap.size 3 _ _ _ p1
      have y4 := cell_of_row w7 w.heap.size 4 _ _ _ p1
      have y5 := cell_of_row w7 w.heap.size 5 _ _ _ p1
      have z0 := cell_of_row w7 w2.heap.size 0 _ _ _ p2
      have z1 := cell_of_row w7 w2.heap.size 1 _ _ _ p2
      have z2 := cell_of_row w7 w2.heap.size 2 _ _ _ p2
      have z4 := cell_of_row w7 w2.heap.size 4 _ _ _ p2
      simp only [List.getElem?_toArray, List.getElem?_cons_zero, List.getElem?_cons_succ] at y0 y1 y2 y3 y4 y5 z0 z1 z2 z4
      clear p1 p2
      go_wp2_with fail
      refine HC7.out.mono ?_
      clear y0 y1 y2 y3 y4 y5 z0 z1 z2 z4
      rintro e w8 ⟨rfl, hW8, hO8⟩
      have HZ := Lib.hid (show ∃ V1' V2', GrowS C V1 V1' ∧ OkE C V2' ∧ TwX C F w (stK (.mk 1 s n args one two) o) (stT (.mk 1 s n args one two) o t) o V1' V2' (.returned (.tuple #[])) w8 from ⟨V1, U2, GrowS.refl, HU2.out, TwX.yes (by unfold stK; rw [HQ.out.1, HY.out, HY2.out]; rfl) ⟨rfl, by rw [stT_1]; exact hW8.unbox2 HF.out, HO2.out.trans (HO7.out.trans hO8).ofAlloc.unbox⟩⟩)
      clear hW8 hO8
      go_wp2
      go_end0
      first | exact HZ.out | (obtain ⟨a1, a2, a3, a4, a5⟩ := HZ.out; exact ⟨a1, a3, a2, a4, a5⟩)
    · have t0 : w2.cell? ⟨1, 10, none⟩ = some (.string (stmW 2)) := HT.out.stm 2 (by decide) 0 (by decide)
      have t1 : w2.cell? ⟨1, 11, none⟩ = some (.bool false) := HT.out.stm 2 (by decide) 1 (by decide)
      have t2 : w2.cell? ⟨1, 12, none⟩ = some (.bool false) := HT.out.stm 2 (by decide) 2 (by decide)
      have t3 : w2.cell? ⟨1, 13, none⟩ = some (.int .i64 1) := HT.out.stm 2 (by decide) 3 (by decide)
      have t4 : w2.cell? ⟨1, 14, none⟩ = some (.int .i64 2) := HT.out.stm 2 (by decide) 4 (by decide)
      have HBg := Lib.hid (begin_any C _ t o HQ.out.2.1 V1 V2 _ (HBw.out.box (.cells #[.string (stmW 2), .bool false, .bool false, .int .i64 1, .int .i64 2] 110)))
      go_wp2_with fail
      refine HBg.out.mono ?_
      clear t0 t1 t2 t3 t4 HBg HT
      intro e w4 hX
      rcases hX.get with ⟨hy, rfl, hW4, hO4⟩ | ⟨hy, rfl, hO4⟩
      case inr =>
        exact ⟨rfl, V1, V2, GrowS.refl, HOk.out, TwX.no (by unfold stK; rw [hy]; simp) rfl (HO2.out.trans hO4.ofAlloc.unbox)⟩
      have ho2 : o < 24 := by simpa using hy
      have HY := Lib.hid hy
      have HO4 := Lib.hid hO4
      have HC4 := Lib.hid (tword_any C _ _ (o + 1) V1 V2 (stmW 2) (stmW_small _ (by omega)) w4 hW4)
      have HNd := Lib.hid (fun (F' : Nat → Prop) (t' : List Int) (U V' : List VKey) (w5 : World) (h5 : TwIs C F' w5 t' (o + 1) U V') => tend_any C F' t' o (by omega) U V' w5 h5)
      clear hX hW4 hO4 hy
      obtain ⟨p1, p2⟩ := two_boxes HO4.out HX2.out
      have y0 := cell_of_row w4 w.heap.size 0 _ _ _ p1
      have y1 := cell_of_row w4 w.heap.size 1 _ _ _ p1
      have y2 := cell_of_row w4 w.heap.size 2 _ _ _ p1
      have y3 := cell_of_row w4 w.heap.size 3 _ _ _ p1
      have y4 := cell_of_row w4 w.heap.size 4 _ _ _ p1
      have y5 := cell_of_row w4 w.heap.size 5 _ _ _ p1
      have z0 := cell_of_row w4 w2.heap.size 0 _ _ _ p2
      have z1 := cell_of_row w4 w2.heap.size 1 _ _ _ p2
      have z2 := cell_of_row w4 w2.heap.size 2 _ _ _ p2
      have z4 := cell_of_row w4 w2.heap.size 4 _ _ _ p2
      simp only [List.getElem?_toArray, List.getElem?_cons_zero, List.getElem?_cons_succ] at y0 y1 y2 y3 y4 y5 z0 z1 z2 z4
      clear p1 p2
      go_wp2_with fail
      refine HC4.out.mono ?_
      clear y0 y1 y2 y3 y4 y5 z0 z1 z2 z4
      rintro e w5 ⟨rfl, hW5, hO5⟩
      have HO5 := Lib.hid (HO4.out.trans hO5)
      have HC5 := Lib.hid (HE.out _ _ (o + 1) (by omega) w5 hW5)
      clear hW5 hO5
      obtain ⟨p1, p2⟩ := two_boxes HO5.out HX2.out
      have y0 := cell_of_row w5 w.heap.size 0 _ _ _ p1
      have y1 := cell_of_row w5 w.heap.size 1 _ _ _ p1
      have y2 := cell_of_row w5 w.heap.size 2 _ _ _ p1
      have y3 := cell_of_row w5 w.heap.size 3 _ _ _ p1
      have y4 := cell_of_row w5 w.heap.size 4 _ _ _ p1
      have y5 := cell_of_row w5 w.heap.size 5 _ _ _ p1
      have z0 := cell_of_row w5 w2.heap.size 0 _ _ _ p2
      have z1 := cell_of_row w5 w2.heap.size 1 _ _ _ p2
      have z2 := cell_of_row w5 w2.heap.size 2 _ _ _ p2
      have z4 := cell_of_row w5 w2.heap.size 4 _ _ _ p2
      simp only [List.getElem?_toArray, List.getElem?_cons_zero, List.getElem?_cons_succ] at y0 y1 y2 y3 y4 y5 z0 z1 z2 z4
      clear p1 p2
      go_wp2_with fail
      refine HC5.out.mono ?_
      clear y0 y1 y2 y3 y4 y5 z0 z1 z2 z4
      rintro e w6 ⟨U2, hG2, hX⟩
      rcases hX.get with ⟨hy, rfl, hW6, hO6⟩ | ⟨hy, rfl, hO6⟩
      case inr =>
        exact ⟨rfl, V1, U2, GrowS.refl, HOk.out.grow hG2, TwX.no (by unfold stK; rw [hy]; simp) rfl (HO2.out.trans (HO5.out.trans hO6).ofAlloc.unbox)⟩
      have HY2 := Lib.hid hy
      have HU2 := Lib.hid (HOk.out.grow hG2)
      have HO6 := Lib.hid (HO5.out.trans hO6)
      clear hX hO6 hy hG2
      have HC6 := Lib.hid (HS2.out _ _ (o + 1) (by omega) U2 HU2.out w6 hW6)
      clear hW6
      obtain ⟨p1, p2⟩ := two_boxes HO6.out HX2.out
      have y0 := cell_of_row w6 w.heap.size 0 _ _ _ p1
      have y1 := cell_of_row w6 w.heap.size 1 _ _ _ p1
      have y2 := cell_of_row w6 w.heap.size 2 _ _ _ p1
      have y3 := cell_of_row w6 w.heap.size 3 _ _ _ p1
      have y4 := cell_of_row w6 w.heap.size 4 _ _ _ p1
      have y5 := cell_of_row w6 w.heap.size 5 _ _ _ p1
      have z0 := cell_of_row w6 w2.heap.size 0 _ _ _ p2
      have z1 := cell_of_row w6 w2.heap.size 1 _ _ _ p2
      have z2 := cell_of_row w6 w2.heap.size 2 _ _ _ p2
      have z4 := cell_of_row w6 w2.heap.size 4 _ _ _ p2
      simp only [List.getElem?_toArray, List.getElem?_cons_zero, List.getElem?_cons_succ] at y0 y1 y2 y3 y4 y5 z0 z1 z2 z4
      clear p1 p2
      go_wp2_with fail
      refine HC6.out.mono ?_
      clear y0 y1 y2 y3 y4 y5 z0 z1 z2 z4
      rintro e w7 ⟨U1, U3, hG1, hU3, hX⟩
      rcases hX.get with ⟨hy, rfl, hW7, hO7⟩ | ⟨hy, rfl, hO7⟩
      case inr =>
        exact ⟨rfl, U1, U3, hG1, hU3, TwX.no (stK_two1 hy) rfl (HO2.out.trans (HO6.out.trans hO7).ofAlloc.unbox)⟩
      have HY3 := Lib.hid hy
      have HG1 := Lib.hid (And.intro hG1 hU3)
      have HO7 := Lib.hid (HO6.out.trans hO7)
      have HC7 := Lib.hid (HS3.out _ _ (o + 1) (by omega) U1 U3 hG1 hU3 w7 hW7)
      clear hX hO7 hy hG1 hU3 hW7
      obtain ⟨p1, p2⟩ := two_boxes HO7.out HX2.out
      have y0 := cell_of_row w7 w.heap.size 0 _ _ _ p1
      have y1 := cell_of_row w7 w.heap.size 1 _ _ _ p1
      have y2 := cell_of_row w7 w.heap.size 2 _ _ _ p1
      have y3 := cell_of_row w7 w.heap.size 3 _ _ _ p1
      have y4 := cell_of_row w7 w.heap.size 4 _ _ _ p1
      have y5 := cell_of_row w7 w.heap.size 5 _ _ _ p1
      have z0 := cell_of_row w7 w2.heap.size 0 _ _ _ p2
      have z1 := cell_of_row w7 w2.heap.size 1 _ _ _ p2
      have z2 := cell_of_row w7 w2.heap.size 2 _ _ _ p2
      have z4 := cell_of_row w7 w2.heap.size 4 _ _ _ p2
      simp only [List.getElem?_toArray, List.getElem?_cons_zero, List.getElem?_cons_succ] at y0 y1 y2 y3 y4 y5 z0 z1 z2 z4
      clear p1 p2
      go_wp2_with fail
      refine HC7.out.mono ?_
      clear y0 y1 y2 y3 y4 y5 z0 z1 z2 z4
      rintro e w8 ⟨U4, U5, hG4, hU5, hX⟩
      rcases hX.get with ⟨hy, rfl, hW8, hO8⟩ | ⟨hy, rfl, hO8⟩
      case inr =>
        exact ⟨rfl, U4, U5, HG1.out.1.trans hG4, hU5, TwX.no (stK_two2 hy) rfl (HO2.out.trans (HO7.out.trans hO8).ofAlloc.unbox)⟩
      have HY4 := Lib.hid hy
      have HG4 := Lib.hid (And.intro (HG1.out.1.trans hG4) hU5)
      have HO8 := Lib.hid (HO7.out.trans hO8)
      clear hX hO8 hy hG4 hU5
      have HC8 := Lib.hid (HNd.out _ _ _ _ w8 hW8)
      clear hW8
      obtain ⟨p1, p2⟩ := two_boxes HO8.out HX2.out
      have y0 := cell_of_row w8 w.heap.size 0 _ _ _ p1
      have y1 := cell_of_row w8 w.heap.size 1 _ _ _ p1
      have y2 := cell_of_row w8 w.heap.size 2 _ _ _ p1
      have y3 := cell_of_row w8 w.heap.size 3 _ _ _ p1
      have y4 := cell_of_row w8 w.heap.size 4 _ _ _ p1
      have y5 := cell_of_row w8 w.heap.size 5 _ _ _ p1
      have z0 := cell_of_row w8 w2.heap.size 0 _ _ _ p2
      have z1 := cell_of_row w8 w2.heap.size 1 _ _ _ p2
      have z2 := cell_of_row w8 w2.heap.size 2 _ _ _ p2
      have z4 := cell_of_row w8 w2.heap.size 4 _ _ _ p2
      simp only [List.getElem?_toArray, List.getElem?_cons_zero, List.getElem?_cons_succ] at y0 y1 y2 y3 y4 y5 z0 z1 z2 z4
      clear p1 p2
      go_wp2_with fail
      refine HC8.out.mono ?_
      clear y0 y1 y2 y3 y4 y5 z0 z1 z2 z4
      rintro e w9 ⟨rfl, hW9, hO9⟩
      have HZ := Lib.hid (show ∃ V1' V2', GrowS C V1 V1' ∧ OkE C V2' ∧ TwX C F w (stK (.mk 2 s n args one two) o) (stT (.mk 2 s n args one two) o t) o V1' V2' (.returned (.tuple #[])) w9 from ⟨U4, U5, HG4.out.1, HG4.out.2, TwX.yes (stK_two HQ.out.1 HY.out HY2.out HY3.out HY4.out) ⟨rfl, by rw [stT_2]; exact hW9.unbox2 HF.out, HO2.out.trans (HO8.out.trans hO9).ofAlloc.unbox⟩⟩)
      clear hW9 hO9
      go_wp2
      go_end0
      first | exact HZ.out | (obtain ⟨a1, a2, a3, a4, a5⟩ := HZ.out; exact ⟨a1, a3, a2, a4, a5⟩)
    · have t0 : w2.cell? ⟨1, 15, none⟩ = some (.string (stmW 3)) := HT.out.stm 3 (by decide) 0 (by decide)
      have t1 : w2.cell? ⟨1, 16, none⟩ = some (.bool true) := HT.out.stm 3 (by decide) 1 (by decide)
      have t2 : w2.cell? ⟨1, 17, none⟩ = some (.bool true) := HT.out.stm 3 (by decide) 2 (by decide)
      have t3 : w2.cell? ⟨1, 18, none⟩ = some (.int .i64 0) := HT.out.stm 3 (by decide) 3 (by decide)
      have t4 : w2.cell? ⟨1, 19, none⟩ = some (.int .i64 1) := HT.out.stm 3 (by decide) 4 (by decide)
      have HBg := Lib.hid (begin_any C _ t o HQ.out.2.1 V1 V2 _ (HBw.out.box (.cells #[.string (stmW 3), .bool true, .bool true, .int .i64 0, .int .i64 1] 110)))
      go_wp2_with fail
      refine HBg.out.mono ?_
      clear t0 t1 t2 t3 t4 HBg HT
      intro e w4 hX
      rcases hX.get with ⟨hy, rfl, hW4, hO4⟩ | ⟨hy, rfl, hO4⟩
      case inr =>
        exact ⟨rfl, V1, V2, GrowS.refl, HOk.out, TwX.no (by unfold stK; rw [hy]; simp) rfl (HO2.out.trans hO4.ofAlloc.unbox)⟩
      have ho2 : o < 24 := by simpa using hy
      have HY := Lib.hid hy
      have HO4 := Lib.hid hO4
      have HC4 := Lib.hid (tword_any C _ _ (o + 1) V1 V2 (stmW 3) (stmW_small _ (by omega)) w4 hW4)
      have HNd := Lib.hid (fun (F' : Nat → Prop) (t' : List Int) (U V' : List VKey) (w5 : World) (h5 : TwIs C F' w5 t' (o + 1) U V') => tend_any C F' t' o (by omega) U V' w5 h5)
      clear hX hW4 hO4 hy
      obtain ⟨p1, p2⟩ := two_boxes HO4.out HX2.out
      have y0 := cell_of_row w4 w.heap.size 0 _ _ _ p1
      have y1 := cell_of_row w4 w.heap.size 1 _ _ _ p1
      have y2 := cell_of_row w4 w.heap.size 2 _ _ _ p1
      have y3 := cell_of_row w4 w.heap.size 3 _ _ _ p1
      have y4 := cell_of_row w4 w.heap.size 4 _ _ _ p1
      have y5 := cell_of_row w4 w.heap.size 5 _ _ _ p1
      have z0 := cell_of_row w4 w2.heap.size 0 _ _ _ p2
      have z1 := cell_of_row w4 w2.heap.size 1 _ _ _ p2
      have z2 := cell_of_row w4 w2.heap.size 2 _ _ _ p2
      have z4 := cell_of_row w4 w2.heap.size 4 _ _ _ p2
      simp only [List.getElem?_toArray, List.getElem?_cons_zero, List.getElem?_cons_succ] at y0 y1 y2 y3 y4 y5 z0 z1 z2 z4
      clear p1 p2
      go_wp2_with fail
      refine HC4.out.mono ?_
      clear y0 y1 y2 y3 y4 y5 z0 z1 z2 z4
      rintro e w5 ⟨rfl, hW5, hO5⟩
      have HO5 := Lib.hid (HO4.out.trans hO5)
      have HC5 := Lib.hid (tword_any C _ _ (o + 1) V1 V2 s HD.out w5 hW5)
      clear hW5 hO5
      obtain ⟨p1, p2⟩ := two_boxes HO5.out HX2.out
      have y0 := cell_of_row w5 w.heap.size 0 _ _ _ p1
      have y1 := cell_of_row w5 w.heap.size 1 _ _ _ p1
      have y2 := cell_of_row w5 w.heap.size 2 _ _ _ p1
      have y3 := cell_of_row w5 w.heap.size 3 _ _ _ p1
      have y4 := cell_of_row w5 w.heap.size 4 _ _ _ p1
      have y5 := cell_of_row w5 w.heap.size 5 _ _ _ p1
      have z0 := cell_of_row w5 w2.heap.size 0 _ _ _ p2
      have z1 := cell_of_row w5 w2.heap.size 1 _ _ _ p2
      have z2 := cell_of_row w5 w2.heap.size 2 _ _ _ p2
      have z4 := cell_of_row w5 w2.heap.size 4 _ _ _ p2
      simp only [List.getElem?_toArray, List.getElem?_cons_zero, List.getElem?_cons_succ] at y0 y1 y2 y3 y4 y5 z0 z1 z2 z4
      clear p1 p2
      go_wp2_with fail
      refine HC5.out.mono ?_
      clear y0 y1 y2 y3 y4 y5 z0 z1 z2 z4
      rintro e w6 ⟨rfl, hW6, hO6⟩
      have HO6 := Lib.hid (HO5.out.trans hO6)
      have hcb : 0 ≤ n ∧ n ≤ 1000000 := by
        have := HQ.out.2.2
        have h1 : betB n 1 64 = true := this
        unfold betB at h1
        simp only [Bool.and_eq_true, decide_eq_true_eq] at h1
        omega
      have HC6 := Lib.hid (tcount_any C _ _ (o + 1) V1 V2 n hcb.1 hcb.2 w6 hW6)
      clear hW6 hO6 hcb
      obtain ⟨p1, p2⟩ := two_boxes HO6.out HX2.out
      have y0 := cell_of_row w6 w.heap.size 0 _ _ _ p1
      have y1 := cell_of_row w6 w.heap.size 1 _ _ _ p1
      have y2 := cell_of_row w6 w.heap.size 2 _ _ _ p1
      have y3 := cell_of_row w6 w.heap.size 3 _ _ _ p1
      have y4 := cell_of_row w6 w.heap.size 4 _ _ _ p1
      have y5 := cell_of_row w6 w.heap.size 5 _ _ _ p1
      have z0 := cell_of_row w6 w2.heap.size 0 _ _ _ p2
      have z1 := cell_of_row w6 w2.heap.size 1 _ _ _ p2
      have z2 := cell_of_row w6 w2.heap.size 2 _ _ _ p2
      have z4 := cell_of_row w6 w2.heap.size 4 _ _ _ p2
      simp only [List.getElem?_toArray, List.getElem?_cons_zero, List.getElem?_cons_succ] at y0 y1 y2 y3 y4 y5 z0 z1 z2 z4
      clear p1 p2
      go_wp2_with fail
      refine HC6.out.mono ?_
      clear y0 y1 y2 y3 y4 y5 z0 z1 z2 z4
      rintro e w7 ⟨rfl, hW7, hO7⟩
      have HO7 := Lib.hid (HO6.out.trans hO7)
      have HC7 := Lib.hid (HE.out _ _ (o + 1) (by omega) w7 hW7)
      clear hW7 hO7
      obtain ⟨p1, p2⟩ := two_boxes HO7.out HX2.out
      have y0 := cell_of_row w7 w.heap.size 0 _ _ _ p1
      have y1 := cell_of_row w7 w.heap.size 1 _ _ _ p1
      have y2 := cell_of_row w7 w.heap.size 2 _ _ _ p1
      have y3 := cell_of_row w7 w.heap.size 3 _ _ _ p1
      have y4 := cell_of_row w7 w.heap.size 4 _ _ _ p1
      have y5 := cell_of_row w7 w.heap.size 5 _ _ _ p1
      have z0 := cell_of_row w7 w2.heap.size 0 _ _ _ p2
      have z1 := cell_of_row w7 w2.heap.size 1 _ _ _ p2
      have z2 := cell_of_row w7 w2.heap.size 2 _ _ _ p2
      have z4 := cell_of_row w7 w2.heap.size 4 _ _ _ p2
      simp only [List.getElem?_toArray, List.getElem?_cons_zero, List.getElem?_cons_succ] at y0 y1 y2 y3 y4 y5 z0 z1 z2 z4
      clear p1 p2
      go_wp2_with fail
      refine HC7.out.mono ?_
      clear y0 y1 y2 y3 y4 y5 z0 z1 z2 z4
      rintro e w8 ⟨U2, hG2, hX⟩
      rcases hX.get with ⟨hy, rfl, hW8, hO8⟩ | ⟨hy, rfl, hO8⟩
      case inr =>
        exact ⟨rfl, V1, U2, GrowS.refl, HOk.out.grow hG2, TwX.no (by unfold stK; rw [hy]; simp) rfl (HO2.out.trans (HO7.out.trans hO8).ofAlloc.unbox)⟩
      have HY2 := Lib.hid hy
      have HU2 := Lib.hid (HOk.out.grow hG2)
      have HO8 := Lib.hid (HO7.out.trans hO8)
      clear hX hO8 hy hG2
      have HC8 := Lib.hid (HS1.out _ _ (o + 1) (by omega) U2 HU2.out w8 hW8)
      clear hW8
      obtain ⟨p1, p2⟩ := two_boxes HO8.out HX2.out
      have y0 := cell_of_row w8 w.heap.size 0 _ _ _ p1
      have y1 := cell_of_row w8 w.heap.size 1 _ _ _ p1
      have y2 := cell_of_row w8 w.heap.size 2 _ _ _ p1
      have y3 := cell_of_row w8 w.heap.size 3 _ _ _ p1
      have y4 := cell_of_row w8 w.heap.size 4 _ _ _ p1
      have y5 := cell_of_row w8 w.heap.size 5 _ _ _ p1
      have z0 := cell_of_row w8 w2.heap.size 0 _ _ _ p2
      have z1 := cell_of_row w8 w2.heap.size 1 _ _ _ p2
      have z2 := cell_of_row w8 w2.heap.size 2 _ _ _ p2
      have z4 := cell_of_row w8 w2.heap.size 4 _ _ _ p2
      simp only [List.getElem?_toArray, List.getElem?_cons_zero, List.getElem?_cons_succ] at y0 y1 y2 y3 y4 y5 z0 z1 z2 z4
      clear p1 p2
      go_wp2_with fail
      refine HC8.out.mono ?_
      clear y0 y1 y2 y3 y4 y5 z0 z1 z2 z4
      rintro e w9 ⟨U1, U3, hG1, hU3, hX⟩
      rcases hX.get with ⟨hy, rfl, hW9, hO9⟩ | ⟨hy, rfl, hO9⟩
      case inr =>
        exact ⟨rfl, U1, U3, hG1, hU3, TwX.no (by unfold stK; rw [show (stmR (Int.toNat 3)).2.2.2.2 = 1 from rfl, if_pos rfl, hy]; simp) rfl (HO2.out.trans (HO8.out.trans hO9).ofAlloc.unbox)⟩
      have HY3 := Lib.hid hy
      have HG1 := Lib.hid (And.intro hG1 hU3)
      have HO9 := Lib.hid (HO8.out.trans hO9)
      clear hX hO9 hy hG1 hU3
      have HC9 := Lib.hid (HNd.out _ _ _ _ w9 hW9)
      clear hW9
      obtain ⟨p1, p2⟩ := two_boxes HO9.out HX2.out
      have y0 := cell_of_row w9 w.heap.size 0 _ _ _ p1
      have y1 := cell_of_row w9 w.heap.size 1 _ _ _ p1
      have y2 := cell_of_row w9 w.heap.size 2 _ _ _ p1
      have y3 := cell_of_row w9 w.heap.size 3 _ _ _ p1
      have y4 := cell_of_row w9 w.heap.size 4 _ _ _ p1
      have y5 := cell_of_row w9 w.heap.size 5 _ _ _ p1
      have z0 := cell_of_row w9 w2.heap.size 0 _ _ _ p2
      have z1 := cell_of_row w9 w2.heap.size 1 _ _ _ p2
      have z2 := cell_of_row w9 w2.heap.size 2 _ _ _ p2
      have z4 := cell_of_row w9 w2.heap.size 4 _ _ _ p2
      simp only [List.getElem?_toArray, List.getElem?_cons_zero, List.getElem?_cons_succ] at y0 y1 y2 y3 y4 y5 z0 z1 z2 z4
      clear p1 p2
      go_wp2_with fail
      refine HC9.out.mono ?_
      clear y0 y1 y2 y3 y4 y5 z0 z1 z2 z4
      rintro e w10 ⟨rfl, hW10, hO10⟩
      have HZ := Lib.hid (show ∃ V1' V2', GrowS C V1 V1' ∧ OkE C V2' ∧ TwX C F w (stK (.mk 3 s n args one two) o) (stT (.mk 3 s n args one two) o t) o V1' V2' (.returned (.tuple #[])) w10 from ⟨U1, U3, HG1.out.1, HG1.out.2, TwX.yes (by unfold stK; rw [HQ.out.1, HY.out, HY2.out, show (stmR (Int.toNat 3)).2.2.2.2 = 1 from rfl, if_pos rfl, HY3.out]; rfl) ⟨rfl, by rw [stT_3]; exact hW10.unbox2 HF.out, HO2.out.trans (HO9.out.trans hO10).ofAlloc.unbox⟩⟩)
      clear hW10 hO10
      go_wp2
      go_end0
      first | exact HZ.out | (obtain ⟨a1, a2, a3, a4, a5⟩ := HZ.out; exact ⟨a1, a3, a2, a4, a5⟩)
    · have t0 : w2.cell? ⟨1, 20, none⟩ = some (.string (stmW 4)) := HT.out.stm 4 (by decide) 0 (by decide)
      have t1 : w2.cell? ⟨1, 21, none⟩ = some (.bool false) := HT.out.stm 4 (by decide) 1 (by decide)
      have t2 : w2.cell? ⟨1, 22, none⟩ = some (.bool false) := HT.out.stm 4 (by decide) 2 (by decide)
      have t3 : w2.cell? ⟨1, 23, none⟩ = some (.int .i64 1) := HT.out.stm 4 (by decide) 3 (by decide)
      have t4 : w2.cell? ⟨1, 24, none⟩ = some (.int .i64 0) := HT.out.stm 4 (by decide) 4 (by decide)
      have HBg := Lib.hid (begin_any C _ t o HQ.out.2.1 V1 V2 _ (HBw.out.box (.cells #[.string (stmW 4), .bool false, .bool false, .int .i64 1, .int .i64 0] 110)))
      go_wp2_with fail
      refine HBg.out.mono ?_
      clear t0 t1 t2 t3 t4 HBg HT
      intro e w4 hX
      rcases hX.get with ⟨hy, rfl, hW4, hO4⟩ | ⟨hy, rfl, hO4⟩
      case inr =>
        exact ⟨rfl, V1, V2, GrowS.refl, HOk.out, TwX.no (by unfold stK; rw [hy]; simp) rfl (HO2.out.trans hO4.ofAlloc.unbox)⟩
      have ho2 : o < 24 := by simpa using hy
      have HY := Lib.hid hy
      have HO4 := Lib.hid hO4
      have HC4 := Lib.hid (tword_any C _ _ (o + 1) V1 V2 (stmW 4) (stmW_small _ (by omega)) w4 hW4)
      have HNd := Lib.hid (fun (F' : Nat → Prop) (t' : List Int) (U V' : List VKey) (w5 : World) (h5 : TwIs C F' w5 t' (o + 1) U V') => tend_any C F' t' o (by omega) U V' w5 h5)
      clear hX hW4 hO4 hy
      obtain ⟨p1, p2⟩ := two_boxes HO4.out HX2.out
      have y0 := cell_of_row w4 w.heap.size 0 _ _ _ p1
      have y1 := cell_of_row w4 w.heap.size 1 _ _ _ p1
      have y2 := cell_of_row w4 w.heap.size 2 _ _ _ p1
      have y3 := cell_of_row w4 w.heap.size 3 _ _ _ p1
      have y4 := cell_of_row w4 w.heap.size 4 _ _ _ p1
      have y5 := cell_of_row w4 w.heap.size 5 _ _ _ p1
      have z0 := cell_of_row w4 w2.heap.size 0 _ _ _ p2
      have z1 := cell_of_row w4 w2.heap.size 1 _ _ _ p2
      have z2 := cell_of_row w4 w2.heap.size 2 _ _ _ p2
      have z4 := cell_of_row w4 w2.heap.size 4 _ _ _ p2
      simp only [List.getElem?_toArray, List.getElem?_cons_zero, List.getElem?_cons_succ] at y0 y1 y2 y3 y4 y5 z0 z1 z2 z4
      clear p1 p2
      go_wp2_with fail
      refine HC4.out.mono ?_
      clear y0 y1 y2 y3 y4 y5 z0 z1 z2 z4
      rintro e w5 ⟨rfl, hW5, hO5⟩
      have HO5 := Lib.hid (HO4.out.trans hO5)
      have HC5 := Lib.hid (HE.out _ _ (o + 1) (by omega) w5 hW5)
      clear hW5 hO5
      obtain ⟨p1, p2⟩ := two_boxes HO5.out HX2.out
      have y0 := cell_of_row w5 w.heap.size 0 _ _ _ p1
      have y1 := cell_of_row w5 w.heap.size 1 _ _ _ p1
      have y2 := cell_of_row w5 w.heap.size 2 _ _ _ p1
      have y3 := cell_of_row w5 w.heap.size 3 _ _ _ p1
      have y4 := cell_of_row w5 w.heap.size 4 _ _ _ p1
      have y5 := cell_of_row w5 w.heap.size 5 _ _ _ p1
      have z0 := cell_of_row w5 w2.heap.size 0 _ _ _ p2
      have z1 := cell_of_row w5 w2.heap.size 1 _ _ _ p2
      have z2 := cell_of_row w5 w2.heap.size 2 _ _ _ p2
      have z4 := cell_of_row w5 w2.heap.size 4 _ _ _ p2
      simp only [List.getElem?_toArray, List.getElem?_cons_zero, List.getElem?_cons_succ] at y0 y1 y2 y3 y4 y5 z0 z1 z2 z4
      clear p1 p2
      go_wp2_with fail
      refine HC5.out.mono ?_
      clear y0 y1 y2 y3 y4 y5 z0 z1 z2 z4
      rintro e w6 ⟨U2, hG2, hX⟩
      rcases hX.get with ⟨hy, rfl, hW6, hO6⟩ | ⟨hy, rfl, hO6⟩
      case inr =>
        exact ⟨rfl, V1, U2, GrowS.refl, HOk.out.grow hG2, TwX.no (by unfold stK; rw [hy]; simp) rfl (HO2.out.trans (HO5.out.trans hO6).ofAlloc.unbox)⟩
      have HY2 := Lib.hid hy
      have HU2 := Lib.hid (HOk.out.grow hG2)
      have HO6 := Lib.hid (HO5.out.trans hO6)
      clear hX hO6 hy hG2
      have HC6 := Lib.hid (HNd.out _ _ _ _ w6 hW6)
      clear hW6
      obtain ⟨p1, p2⟩ := two_boxes HO6.out HX2.out
      have y0 := cell_of_row w6 w.heap.size 0 _ _ _ p1
      have y1 := cell_of_row w6 w.heap.size 1 _ _ _ p1
      have y2 := cell_of_row w6 w.heap.size 2 _ _ _ p1
      have y3 := cell_of_row w6 w.heap.size 3 _ _ _ p1
      have y4 := cell_of_row w6 w.heap.size 4 _ _ _ p1
      have y5 := cell_of_row w6 w.heap.size 5 _ _ _ p1
      have z0 := cell_of_row w6 w2.heap.size 0 _ _ _ p2
      have z1 := cell_of_row w6 w2.heap.size 1 _ _ _ p2
      have z2 := cell_of_row w6 w2.heap.size 2 _ _ _ p2
      have z4 := cell_of_row w6 w2.heap.size 4 _ _ _ p2
      simp only [List.getElem?_toArray, List.getElem?_cons_zero, List.getElem?_cons_succ] at y0 y1 y2 y3 y4 y5 z0 z1 z2 z4
      clear p1 p2
      go_wp2_with fail
      refine HC6.out.mono ?_
      clear y0 y1 y2 y3 y4 y5 z0 z1 z2 z4
      rintro e w7 ⟨rfl, hW7, hO7⟩
      have HZ := Lib.hid (show ∃ V1' V2', GrowS C V1 V1' ∧ OkE C V2' ∧ TwX C F w (stK (.mk 4 s n args one two) o) (stT (.mk 4 s n args one two) o t) o V1' V2' (.returned (.tuple #[])) w7 from ⟨V1, U2, GrowS.refl, HU2.out, TwX.yes (by unfold stK; rw [HQ.out.1, HY.out, HY2.out]; rfl) ⟨rfl, by rw [stT_4]; exact hW7.unbox2 HF.out, HO2.out.trans (HO6.out.trans hO7).ofAlloc.unbox⟩⟩)
      clear hW7 hO7
      go_wp2
      go_end0
      first | exact HZ.out | (obtain ⟨a1, a2, a3, a4, a5⟩ := HZ.out; exact ⟨a1, a3, a2, a4, a5⟩)
end Go.Proofs.YtbhdbglhejibbaaGreatDoor
namespace Go.Proofs.YtbhdbglhejibbaaGreatDoor
set_option maxRecDepth 100000
open Go.RowKit
set_option linter.unusedVariables false
def wSecret : ByteArray := ⟨#[115, 101, 99, 114, 101, 116]⟩
def wFun : ByteArray := ⟨#[102, 117, 110]⟩
def wExport : ByteArray := ⟨#[101, 120, 112, 111, 114, 116]⟩
def wSec : ByteArray := ⟨#[115, 101, 99]⟩
def wPtr : ByteArray := ⟨#[112, 116, 114]⟩
/-- the text behind a secret array, a parameter, a function, a source -/
def secT (a : ArrD) (t : List Int) : List Int := endL (wordL (wordL (wordL (begL t 0) (0 + 1) wSecret) (0 + 1) a.1) (0 + 1) (dgtB a.2)) (0 + 1)
def parT (x : ParD) (o : Nat) (t : List Int) : List Int :=
  if x.2.1 = 0 then wordL t o x.1
  else if x.2.1 = 1 then endL (wordL (wordL (begL t o) (o + 1) wSec) (o + 1) x.1) (o + 1)
  else endL (wordL (wordL (wordL (begL t o) (o + 1) wPtr) (o + 1) x.1) (o + 1) (dgtB x.2.2)) (o + 1)
def funH (f : FunD) (t : List Int) : List Int := begL (wordL (wordL (begL t 0) (0 + 1) (if f.2.1 then wExport else wFun)) (0 + 1) f.1) (0 + 1)
def parsT (l : List ParD) (o : Nat) (t : List Int) : List Int := l.foldl (fun t x => parT x o t) t
def funT (f : FunD) (t : List Int) : List Int := endL (stsT f.2.2.2 (0 + 1) (endL (parsT f.2.2.1 (0 + 1 + 1) (funH f t)) (0 + 1 + 1))) (0 + 1)
def funK (f : FunD) : Bool := funB f.1 f.2.2.1.length && (f.2.2.1.all mparB && stsK f.2.2.2 (0 + 1))
def proT (p : ProD) : List Int := p.2.foldl (fun t f => funT f t) (p.1.foldl (fun t a => secT a t) [])
def proK (p : ProD) : Bool := progB p.1.length p.2.length && (p.1.all arrB && p.2.all funK)
theorem arrB_parts {a : ArrD} (h : arrB a = true) : a.1.size ≤ 1000 ∧ 0 ≤ a.2 ∧ a.2 ≤ 1000000 := by
  unfold arrB at h
  simp only [Bool.and_eq_true] at h
  refine ⟨nmB_size (c := true) h.1, ?_⟩
  have h1 : betB a.2 1 64 = true := h.2
  unfold betB at h1
  simp only [Bool.and_eq_true, decide_eq_true_eq] at h1
  omega
theorem mparB_parts {x : ParD} (h : mparB x = true) : (0 ≤ x.2.1 ∧ x.2.1 ≤ 2) ∧ x.1.size ≤ 1000 ∧ (x.2.1 = 2 → 0 ≤ x.2.2 ∧ x.2.2 ≤ 1000000) := by
  unfold mparB at h
  simp only [Bool.and_eq_true] at h
  obtain ⟨⟨h0, h1⟩, h2⟩ := h
  unfold betB at h0
  simp only [Bool.and_eq_true, decide_eq_true_eq] at h0
  refine ⟨h0, nmB_size (c := true) h1, fun e => ?_⟩
  rw [e] at h2
  have h3 : betB x.2.2 1 64 = true := h2
  unfold betB at h3
  simp only [Bool.and_eq_true, decide_eq_true_eq] at h3
  omega
set_option maxHeartbeats 2000000 in
theorem tsecret_any (C : PrC) (a : ArrD) (F : Nat → Prop) (t : List Int) (V1 V2 : List VKey) (w : World) (h : TwIs C F w t 0 V1 V2) :
    Calls Tryz.prog 44 #[.pointer (some ⟨C.p, 0, none⟩), .agg #[.string a.1, .int .i64 a.2]] w (TwX C F w (arrB a) (secT a t) 0 V1 V2) := by
  obtain ⟨nm, ln⟩ := a
  obtain ⟨v, hV⟩ := h
  have hbx := (Below.refl w.heap.size w).alloc (Nat.le_refl _) (.cells #[.string nm, .int .i64 ln] 55)
  have HF := Lib.hid hV.fk
  have HG := Lib.hid hV.big
  have HO := Lib.hid (OutO.of_below (F := F) hbx)
  have HM := Lib.hid (mayArray_any (nm, ln) (w.alloc (.cells #[.string nm, .int .i64 ln] 55)))
  have HBx := Lib.hid (TwIs.box ⟨v, hV⟩ (.cells #[.string nm, .int .i64 ln] 55))
  have HOn := Lib.hid (OutO.of_below (F := NBo F w.heap.size) (Below.refl (w.alloc (.cells #[.string nm, .int .i64 ln] 55)).heap.size _))
  clear hV hbx
  go_enter Tryz.func44, Tryz.ntmps44
  go_wp2_with fail
  refine HM.out.mono ?_
  rintro e w2 ⟨rfl, hb⟩
  have HO2 := Lib.hid (HOn.out.trans (OutO.of_below hb))
  have HW2 := Lib.hid (HBx.out.below hb)
  clear hb HM HBx HOn
  cases hx : arrB (nm, ln) with
  | false =>
    go_wp2_with fail
    refine (twant_no _).mono ?_
    rintro e w3 ⟨rfl, rfl⟩
    exact ⟨rfl, TwX.no rfl rfl HO2.out.ofAlloc⟩
  | true =>
    obtain ⟨hd1, hd2, hd3⟩ := arrB_parts hx
    have HD := Lib.hid (And.intro hd1 (And.intro hd2 hd3))
    have HK := Lib.hid hx
    go_wp2_with fail
    refine (twant_yes _).mono ?_
    rintro e w3 ⟨rfl, rfl⟩
    have HC := Lib.hid (begin_any C _ t 0 (by omega) V1 V2 w2 HW2.out)
    clear hx hd1 hd2 hd3 HW2
    go_wp2_with fail
    refine HC.out.mono ?_
    intro e w4 hX
    rcases hX.get with ⟨hy, rfl, hW4, hO4⟩ | ⟨hy, rfl, hO4⟩
    case inr => simp at hy
    have HO4 := Lib.hid (HO2.out.trans hO4)
    have HC4 := Lib.hid (tword_any C _ _ (0 + 1) V1 V2 wSecret (by decide) w4 hW4)
    clear hX hW4 hO4 hy
    go_wp2_with fail
    refine HC4.out.mono ?_
    rintro e w5 ⟨rfl, hW5, hO5⟩
    have HO5 := Lib.hid (HO4.out.trans hO5)
    have HC5 := Lib.hid (tword_any C _ _ (0 + 1) V1 V2 nm HD.out.1 w5 hW5)
    have x0 := cell_of_row w5 w.heap.size 0 _ _ _ HO5.out.boxed
    simp only [List.getElem?_toArray, List.getElem?_cons_zero] at x0
    clear hW5 hO5
    go_wp2_with fail
    refine HC5.out.mono ?_
    rintro e w6 ⟨rfl, hW6, hO6⟩
    have HO6 := Lib.hid (HO5.out.trans hO6)
    have HC6 := Lib.hid (tcount_any C _ _ (0 + 1) V1 V2 ln HD.out.2.1 HD.out.2.2 w6 hW6)
    have x1 := cell_of_row w6 w.heap.size 1 _ _ _ HO6.out.boxed
    simp only [List.getElem?_toArray, List.getElem?_cons_zero, List.getElem?_cons_succ] at x1
    clear hW6 hO6 x0
    go_wp2_with fail
    refine HC6.out.mono ?_
    rintro e w7 ⟨rfl, hW7, hO7⟩
    have HO7 := Lib.hid (HO6.out.trans hO7)
    have HC7 := Lib.hid (tend_any C _ _ 0 (by omega) V1 V2 w7 hW7)
    clear hW7 hO7 x1
    go_wp2_with fail
    refine HC7.out.mono ?_
    rintro e w8 ⟨rfl, hW8, hO8⟩
    have HZ := Lib.hid (And.intro (hW8.unbox HG.out HF.out) (HO7.out.trans hO8).ofAlloc)
    clear hW8 hO8
    go_wp2
    go_end0
    exact TwX.yes HK.out ⟨rfl, HZ.out.1, HZ.out.2⟩
set_option maxHeartbeats 4000000 in
theorem tparam_any (C : PrC) (a : ParD) (F : Nat → Prop) (t : List Int) (o : Nat) (ho : o ≤ 23) (V1 V2 : List VKey) (w : World) (h : TwIs C F w t o V1 V2) :
    Calls Tryz.prog 74 #[.pointer (some ⟨C.p, 0, none⟩), .agg #[.string a.1, .int .i64 a.2.1, .int .i64 a.2.2]] w (TwX C F w (mparB a) (parT a o t) o V1 V2) := by
  obtain ⟨nm, kd, ln⟩ := a
  obtain ⟨v, hV⟩ := h
  have hbx := (Below.refl w.heap.size w).alloc (Nat.le_refl _) (.cells #[.string nm, .int .i64 kd, .int .i64 ln] 58)
  have HF := Lib.hid hV.fk
  have HG := Lib.hid hV.big
  have HM := Lib.hid (mayParam_any (nm, kd, ln) (w.alloc (.cells #[.string nm, .int .i64 kd, .int .i64 ln] 58)))
  have HBx := Lib.hid (TwIs.box ⟨v, hV⟩ (.cells #[.string nm, .int .i64 kd, .int .i64 ln] 58))
  have HOn := Lib.hid (OutO.of_below (F := NBo F w.heap.size) (Below.refl (w.alloc (.cells #[.string nm, .int .i64 kd, .int .i64 ln] 58)).heap.size _))
  clear hV hbx
  go_enter Tryz.func74, Tryz.ntmps74
  go_wp2_with fail
  refine HM.out.mono ?_
  rintro e w2 ⟨rfl, hb⟩
  have HO2 := Lib.hid (HOn.out.trans (OutO.of_below hb))
  have HW2 := Lib.hid (HBx.out.below hb)
  clear hb HM HBx HOn
  cases hx : mparB (nm, kd, ln) with
  | false =>
    go_wp2_with fail
    refine (twant_no _).mono ?_
    rintro e w3 ⟨rfl, rfl⟩
    exact ⟨rfl, TwX.no rfl rfl HO2.out.ofAlloc⟩
  | true =>
    obtain ⟨hd1, hd2, hd3⟩ := mparB_parts hx
    have HD := Lib.hid (And.intro hd2 hd3)
    have HK := Lib.hid hx
    go_wp2_with fail
    refine (twant_yes _).mono ?_
    rintro e w3 ⟨rfl, rfl⟩
    have x0 := cell_of_row w2 w.heap.size 0 _ _ _ HO2.out.boxed
    have x1 := cell_of_row w2 w.heap.size 1 _ _ _ HO2.out.boxed
    simp only [List.getElem?_toArray, List.getElem?_cons_zero, List.getElem?_cons_succ] at x0 x1
    have hkc : kd = 0 ∨ kd = 1 ∨ kd = 2 := by omega
    have HOo := Lib.hid ho
    clear hx hd1 hd2 hd3 ho
    rcases hkc with rfl | rfl | rfl
    · have HC := Lib.hid (tword_any C _ t o V1 V2 nm HD.out.1 w2 HW2.out)
      clear HW2
      go_wp2_with fail
      refine HC.out.mono ?_
      rintro e w8 ⟨rfl, hW8, hO8⟩
      have HZ := Lib.hid (And.intro (hW8.unbox HG.out HF.out) (HO2.out.trans hO8).ofAlloc)
      clear hW8 hO8
      go_wp2
      go_end0
      exact TwX.yes HK.out ⟨rfl, HZ.out.1, HZ.out.2⟩
    · have HC := Lib.hid (begin_any C _ t o (by have := HOo.out; omega) V1 V2 w2 HW2.out)
      clear HW2
      go_wp2_with fail
      refine HC.out.mono ?_
      intro e w4 hX
      rcases hX.get with ⟨hy, rfl, hW4, hO4⟩ | ⟨hy, rfl, hO4⟩
      case inr => exfalso; have := HOo.out; simp at hy; omega
      have HO4 := Lib.hid (HO2.out.trans hO4)
      have HC4 := Lib.hid (tword_any C _ _ (o + 1) V1 V2 wSec (by decide) w4 hW4)
      clear hX hW4 hO4 hy x0 x1
      go_wp2_with fail
      refine HC4.out.mono ?_
      rintro e w5 ⟨rfl, hW5, hO5⟩
      have HO5 := Lib.hid (HO4.out.trans hO5)
      have HC5 := Lib.hid (tword_any C _ _ (o + 1) V1 V2 nm HD.out.1 w5 hW5)
      have x0 := cell_of_row w5 w.heap.size 0 _ _ _ HO5.out.boxed
      simp only [List.getElem?_toArray, List.getElem?_cons_zero] at x0
      clear hW5 hO5
      go_wp2_with fail
      refine HC5.out.mono ?_
      rintro e w6 ⟨rfl, hW6, hO6⟩
      have HO6 := Lib.hid (HO5.out.trans hO6)
      have HC7 := Lib.hid (tend_any C _ _ o HOo.out V1 V2 w6 hW6)
      clear hW6 hO6 x0
      go_wp2_with fail
      refine HC7.out.mono ?_
      rintro e w8 ⟨rfl, hW8, hO8⟩
      have HZ := Lib.hid (And.intro (hW8.unbox HG.out HF.out) (HO6.out.trans hO8).ofAlloc)
      clear hW8 hO8
      go_wp2
      go_end0
      exact TwX.yes HK.out ⟨rfl, HZ.out.1, HZ.out.2⟩
    · have HC := Lib.hid (begin_any C _ t o (by have := HOo.out; omega) V1 V2 w2 HW2.out)
      clear HW2
      go_wp2_with fail
      refine HC.out.mono ?_
      intro e w4 hX
      rcases hX.get with ⟨hy, rfl, hW4, hO4⟩ | ⟨hy, rfl, hO4⟩
      case inr => exfalso; have := HOo.out; simp at hy; omega
      have HO4 := Lib.hid (HO2.out.trans hO4)
      have HC4 := Lib.hid (tword_any C _ _ (o + 1) V1 V2 wPtr (by decide) w4 hW4)
      clear hX hW4 hO4 hy x0 x1
      go_wp2_with fail
      refine HC4.out.mono ?_
      rintro e w5 ⟨rfl, hW5, hO5⟩
      have HO5 := Lib.hid (HO4.out.trans hO5)
      have HC5 := Lib.hid (tword_any C _ _ (o + 1) V1 V2 nm HD.out.1 w5 hW5)
      have x0 := cell_of_row w5 w.heap.size 0 _ _ _ HO5.out.boxed
      simp only [List.getElem?_toArray, List.getElem?_cons_zero] at x0
      clear hW5 hO5
      go_wp2_with fail
      refine HC5.out.mono ?_
      rintro e w6 ⟨rfl, hW6, hO6⟩
      have HO6 := Lib.hid (HO5.out.trans hO6)
      have HC6 := Lib.hid (tcount_any C _ _ (o + 1) V1 V2 ln (HD.out.2 (by trivial)).1 (HD.out.2 (by trivial)).2 w6 hW6)
      have x2 := cell_of_row w6 w.heap.size 2 _ _ _ HO6.out.boxed
      simp only [List.getElem?_toArray, List.getElem?_cons_zero, List.getElem?_cons_succ] at x2
      clear hW6 hO6 x0
      go_wp2_with fail
      refine HC6.out.mono ?_
      rintro e w7 ⟨rfl, hW7, hO7⟩
      have HO7 := Lib.hid (HO6.out.trans hO7)
      have HC7 := Lib.hid (tend_any C _ _ o HOo.out V1 V2 w7 hW7)
      clear hW7 hO7 x2
      go_wp2_with fail
      refine HC7.out.mono ?_
      rintro e w8 ⟨rfl, hW8, hO8⟩
      have HZ := Lib.hid (And.intro (hW8.unbox HG.out HF.out) (HO7.out.trans hO8).ofAlloc)
      clear hW8 hO8
      go_wp2
      go_end0
      exact TwX.yes HK.out ⟨rfl, HZ.out.1, HZ.out.2⟩
end Go.Proofs.YtbhdbglhejibbaaGreatDoor
namespace Go.Proofs.YtbhdbglhejibbaaGreatDoor
set_option maxRecDepth 100000
open Go.RowKit
set_option linter.unusedVariables false
def OkS (C : PrC) (V : List VKey) : Prop := ∀ x ∈ V, KeyS C x
theorem OkS.small {C : PrC} {V : List VKey} (h : OkS C V) (m : Nat) : SmallS C V m := fun x hx l h1 h2 _ => h x hx l h1 h2
theorem OkS.grow {C : PrC} {V V' : List VKey} (h : OkS C V) (hG : GrowS C V V') : OkS C V' := fun x hx => (hG x hx).elim (fun h1 => h x h1) id
theorem parsT_snoc {l : List ParD} {o : Nat} {t : List Int} {i : Nat} (h : i < l.length) : parsT (l.take (i + 1)) o t = parT l[i] o (parsT (l.take i) o t) := by
  unfold parsT
  rw [List.take_succ_eq_append_getElem h, List.foldl_append]; rfl
theorem funB_size {s : ByteArray} {n : Nat} (h : funB s n = true) : s.size ≤ 1000 := by
  unfold funB at h
  simp only [Bool.and_eq_true] at h
  exact nmB_size (c := true) h.1
set_option maxHeartbeats 4000000 in
theorem tfunction_any (C : PrC) (nm : ByteArray) (out : Bool) (ps : List ParD) (body : List StmtD) (hW : FunW (nm, out, ps, body)) (F : Nat → Prop) (t : List Int) (V1 V2 : List VKey) (w : World) (A1 A2 : Option Addr) (c1 c2 : Nat) (h : TwIs C F w t 0 V1 V2) (hA1 : ParsAt C.w0 C.S ps A1) (hc1 : ps.length ≤ c1) (hA2 : StmtsAt C.w0 C.S body A2) (hc2 : body.length ≤ c2) (hO1 : OkS C V1) (hO2 : OkE C V2) :
    Calls Tryz.prog 45 #[.pointer (some ⟨C.p, 0, none⟩), .agg #[.string nm, .bool out, .slice A1 ps.length c1, .slice A2 body.length c2]] w fun e w' => ∃ V1' V2', OkS C V1' ∧ OkE C V2' ∧ TwX C F w (funK (nm, out, ps, body)) (funT (nm, out, ps, body) t) 0 V1' V2' e w' := by
  obtain ⟨v, hV⟩ := h
  have hbx := (Below.refl w.heap.size w).alloc (Nat.le_refl _) (.cells #[.string nm, .bool out, .slice A1 ps.length c1, .slice A2 body.length c2] 48)
  have HF := Lib.hid hV.fk
  have HG := Lib.hid hV.big
  have HM := Lib.hid (mayFunc_any nm out A1 A2 ps.length c1 body.length c2 (w.alloc (.cells #[.string nm, .bool out, .slice A1 ps.length c1, .slice A2 body.length c2] 48)))
  have HBx := Lib.hid (TwIs.box ⟨v, hV⟩ (.cells #[.string nm, .bool out, .slice A1 ps.length c1, .slice A2 body.length c2] 48))
  have HOn := Lib.hid (OutO.of_below (F := NBo F w.heap.size) (Below.refl (w.alloc (.cells #[.string nm, .bool out, .slice A1 ps.length c1, .slice A2 body.length c2] 48)).heap.size _))
  obtain ⟨hw1, ⟨hw2, hw3⟩, hw4, hw5⟩ := hW
  have HOk := Lib.hid (And.intro hO1 hO2)
  have HS := Lib.hid (fun (F' : Nat → Prop) (t' : List Int) (w4 : World) (h4 : TwIs C F' w4 t' (0 + 1) V1 V2) => stmts_of C body (fun e _ => stmt_of C e) F' t' (0 + 1) V1 V2 w4 A2 c2 (by omega) h4 hA2 hc2 hw5 hw4 (hO1.small _) hO2)
  have HP := Lib.hid hA1
  have hpl : ps.length ≤ maxLen := hw2
  unfold maxLen at hpl
  clear hV hbx hA1 hA2 hc2 hw1 hw2 hw3 hw4 hw5 hO1 hO2
  go_enter Tryz.func45, Tryz.ntmps45
  go_wp2_with fail
  refine HM.out.mono ?_
  rintro e w2 ⟨rfl, hb⟩
  have HO2 := Lib.hid (HOn.out.trans (OutO.of_below hb))
  have HW2 := Lib.hid (HBx.out.below hb)
  clear hb HM HBx HOn
  cases hx : funB nm ps.length with
  | false =>
    have HK := Lib.hid (show funK (nm, out, ps, body) = false from by unfold funK; rw [show funB (nm, out, ps, body).1 (nm, out, ps, body).2.2.1.length = false from hx]; rfl)
    go_wp2_with fail
    refine (twant_no _).mono ?_
    rintro e w3 ⟨rfl, rfl⟩
    exact ⟨rfl, V1, V2, HOk.out.1, HOk.out.2, TwX.no HK.out rfl HO2.out.ofAlloc⟩
  | true =>
    have HD := Lib.hid (funB_size hx)
    have HK := Lib.hid (show funK (nm, out, ps, body) = (ps.all mparB && stsK body (0 + 1)) from by unfold funK; rw [show funB (nm, out, ps, body).1 (nm, out, ps, body).2.2.1.length = true from hx]; rfl)
    go_wp2_with fail
    refine (twant_yes _).mono ?_
    rintro e w3 ⟨rfl, rfl⟩
    have HC := Lib.hid (begin_any C _ t 0 (by omega) V1 V2 w2 HW2.out)
    clear hx HW2
    go_wp2_with fail
    refine HC.out.mono ?_
    intro e w4 hX
    rcases hX.get with ⟨hy, rfl, hW4, hO4⟩ | ⟨hy, rfl, hO4⟩
    case inr => simp at hy
    have HO4 := Lib.hid (HO2.out.trans hO4)
    have HC4 := Lib.hid (tword_any C _ _ (0 + 1) V1 V2 (if out then wExport else wFun) (by cases out <;> decide) w4 hW4)
    have x1 := cell_of_row w4 w.heap.size 1 _ _ _ HO4.out.boxed
    simp only [List.getElem?_toArray, List.getElem?_cons_zero, List.getElem?_cons_succ] at x1
    clear hX hW4 hO4 hy
    obtain ⟨T0, hT0⟩ : ∃ T0, T0 = funH (nm, out, ps, body) t := ⟨_, rfl⟩
    have HT0 := Lib.hid hT0
    have HZ : Hid (funT (nm, out, ps, body) t = endL (stsT body (0 + 1) (endL (parsT ps (0 + 1 + 1) T0) (0 + 1 + 1))) (0 + 1)) := Lib.hid (by rw [hT0]; rfl)
    clear hT0
    have HBX := Lib.hid (fun (w' : World) (h : OutO (NBo F w.heap.size) (w.alloc (.cells #[.string nm, .bool out, .slice A1 ps.length c1, .slice A2 body.length c2] 48)) w') => h.boxed)
    have HOA := Lib.hid (fun (w' : World) (h : OutO (NBo F w.heap.size) (w.alloc (.cells #[.string nm, .bool out, .slice A1 ps.length c1, .slice A2 body.length c2] 48)) w') => h.ofAlloc)
    generalize (w.alloc (.cells #[.string nm, .bool out, .slice A1 ps.length c1, .slice A2 body.length c2] 48)) = W1 at *
    cases out
    all_goals
      first | simp only [Bool.false_eq_true, if_false] at HC4 | simp only [if_true] at HC4
      go_wp2_with fail
      refine HC4.out.mono ?_
      rintro e w5 ⟨rfl, hW5, hO5⟩
      have HO5 := Lib.hid (HO4.out.trans hO5)
      have HC5 := Lib.hid (tword_any C _ _ (0 + 1) V1 V2 nm HD.out w5 hW5)
      have x0 := cell_of_row w5 w.heap.size 0 _ _ _ (HBX.out _ HO5.out)
      simp only [List.getElem?_toArray, List.getElem?_cons_zero] at x0
      clear hW5 hO5 x1
      go_wp2_with fail
      refine HC5.out.mono ?_
      rintro e w6 ⟨rfl, hW6, hO6⟩
      have HO6 := Lib.hid (HO5.out.trans hO6)
      have HC6 := Lib.hid (begin_any C _ _ (0 + 1) (by omega) V1 V2 w6 hW6)
      clear hW6 hO6 x0
      go_wp2_with fail
      refine HC6.out.mono ?_
      intro e w7 hX
      rcases hX.get with ⟨hy, rfl, hW7, hO7⟩ | ⟨hy, rfl, hO7⟩
      case inr => simp at hy
      have HO7 := Lib.hid (HO6.out.trans hO7)
      have HW7 := Lib.hid (show TwIs C (NBo F w.heap.size) w7 T0 (0 + 1 + 1) V1 V2 from by rw [HT0.out]; exact hW7)
      have x2 := cell_of_row w7 w.heap.size 2 _ _ _ (HBX.out _ HO7.out)
      simp only [List.getElem?_toArray, List.getElem?_cons_zero, List.getElem?_cons_succ] at x2
      clear hX hW7 hO7 hy
      go_wp2
      go_loopw [26] (fun i wr => ∃ k : Nat, k ≤ ps.length ∧ i = .int .i64 k ∧ Hid (TwIs C (NBo F w.heap.size) wr (parsT (ps.take k) (0 + 1 + 1) T0) (0 + 1 + 1) V1 V2) ∧ Hid (OutO (NBo F w.heap.size) W1 wr) ∧ Hid (∀ (j : Nat) (hj : j < ps.length), j < k → mparB ps[j] = true)) (fun i _ => ps.length - (intOf i).toNat)
      case atStart => exact ⟨0, by omega, rfl, HW7, HO7, Lib.hid (fun j _ hj => by omega)⟩
      case round =>
        obtain ⟨k, hk, rfl, HW, HO, HY⟩ := hrel
        by_cases hlt : k < ps.length
        · rcases HP.out with e0 | ⟨b, q, rfl, hb, hcs⟩
          · rw [e0] at hlt; simp at hlt
          obtain ⟨g0, g1, g2⟩ := hcs k hlt
          obtain ⟨v', hV'⟩ := HW.out
          have y0 := tcell_at hV'.base (hV'.ok.lt hb) g0
          have y1 := tcell_at hV'.base (hV'.ok.lt hb) g1
          have y2 := tcell_at hV'.base (hV'.ok.lt hb) g2
          have HK1 := Lib.hid (parsT_snoc (o := 0 + 1 + 1) (t := T0) hlt)
          have HKl := Lib.hid (show ∀ (j : Nat) (hj : j < ps.length), j < k + 1 → mparB ps[k] = true → mparB ps[j] = true from fun j hj h1 h2 => by
            by_cases e : j = k
            · subst e; exact h2
            · exact HY.out j hj (by omega))
          have HKn := Lib.hid (show mparB ps[k] = false → ps.all mparB = false from fun h => by
            rw [List.all_eq_false]; exact ⟨ps[k], List.getElem_mem hlt, by rw [h]; simp⟩)
          generalize ps[k] = x at *
          obtain ⟨xn, xk, xl⟩ := x
          have hbx := (Below.refl wr.heap.size wr).alloc (Nat.le_refl _) (.cells #[.string xn, .int .i64 xk, .int .i64 xl] 58)
          have HCp := Lib.hid (tparam_any C (xn, xk, xl) _ _ (0 + 1 + 1) (by omega) V1 V2 _ ⟨v', hV'.below hbx⟩)
          have HOp := Lib.hid (HO.out.trans (OutO.of_below hbx))
          have k0 : (0 : Int) ≤ k := by omega
          have k1 : (k : Int) < ps.length := by omega
          clear hV' hbx g0 g1 g2 hcs HW
          simp only at y0 y1 y2
          go_wp2_with fail
          refine HCp.out.mono ?_
          intro e w8 hX
          rcases hX.get with ⟨hy, rfl, hW8, hO8⟩ | ⟨hy, rfl, hO8⟩
          · have HW8 := Lib.hid (show TwIs C (NBo F w.heap.size) w8 (parsT (ps.take (k + 1)) (0 + 1 + 1) T0) (0 + 1 + 1) V1 V2 from by rw [HK1.out]; exact hW8)
            have HO8 := Lib.hid (HOp.out.trans hO8)
            have HY8 := Lib.hid (fun (j : Nat) (hj : j < ps.length) (h : j < k + 1) => HKl.out j hj h hy)
            clear hX hW8 hO8 hy
            go_wp2
            go_roundw
            case rel => exact ⟨k + 1, by omega, by go_num, HW8, HO8, HY8⟩
            case measure => simp [intOf]; omega
          · have HN := Lib.hid (show funK (nm, _, ps, body) = false from HK.out.trans (by rw [HKn.out hy]; rfl))
            exact ⟨rfl, V1, V2, HOk.out.1, HOk.out.2, TwX.no HN.out rfl (HOA.out _ (HOp.out.trans hO8))⟩
        · have hkn : k = ps.length := by omega
          subst hkn
          have HA := Lib.hid (show ps.all mparB = true from by
            rw [List.all_eq_true]; intro e he; obtain ⟨j, hj, rfl⟩ := List.mem_iff_getElem.1 he; exact HY.out j hj hj)
          have k1 : ¬ (ps.length : Int) < ps.length := by omega
          have hW9 := HW.out
          rw [List.take_length] at hW9
          have HC9 := Lib.hid (tend_any C _ _ (0 + 1) (by omega) V1 V2 wr hW9)
          clear hW9 HW hlt
          go_wp2_with fail
          refine HC9.out.mono ?_
          rintro e w9 ⟨rfl, hW9, hO9⟩
          have HO9 := Lib.hid (HO.out.trans hO9)
          have x3 := cell_of_row w9 w.heap.size 3 _ _ _ (HBX.out _ HO9.out)
          simp only [List.getElem?_toArray, List.getElem?_cons_zero, List.getElem?_cons_succ] at x3
          have HC10 := Lib.hid (HS.out _ _ w9 hW9)
          clear hW9 hO9
          go_wp2_with fail
          refine HC10.out.mono ?_
          rintro e w10 ⟨U1, U2, hG1, hU2, hX⟩
          rcases hX.get with ⟨hy, rfl, hW10, hO10⟩ | ⟨hy, rfl, hO10⟩
          case inr =>
            exact ⟨rfl, U1, U2, HOk.out.1.grow hG1, hU2, TwX.no (HK.out.trans (by rw [hy]; simp)) rfl (HOA.out _ (HO9.out.trans hO10))⟩
          have HO10 := Lib.hid (HO9.out.trans hO10)
          have HU := Lib.hid (And.intro (HOk.out.1.grow hG1) hU2)
          have HKy := Lib.hid (HK.out.trans (show (ps.all mparB && stsK body (0 + 1)) = true by rw [HA.out, hy]; rfl))
          have HC11 := Lib.hid (tend_any C _ _ 0 (by omega) U1 U2 w10 hW10)
          clear hX hW10 hO10 hy hG1 hU2
          go_wp2_with fail
          refine HC11.out.mono ?_
          rintro e w11 ⟨rfl, hW11, hO11⟩
          have HF1 := Lib.hid (show ∃ V1' V2', OkS C V1' ∧ OkE C V2' ∧ TwX C F w (funK (nm, _, ps, body)) (funT (nm, _, ps, body) t) 0 V1' V2' (.returned (.tuple #[])) w11 from ⟨U1, U2, HU.out.1, HU.out.2, TwX.yes HKy.out ⟨rfl, by rw [HZ.out]; exact hW11.unbox HG.out HF.out, (HOA.out _ (HO10.out.trans hO11))⟩⟩)
          clear hW11 hO11
          go_wp2
          go_end0
          first | exact HF1.out | (obtain ⟨a1, a2, a3, a4, a5⟩ := HF1.out; exact ⟨a1, a3, a2, a4, a5⟩)
end Go.Proofs.YtbhdbglhejibbaaGreatDoor
namespace Go.Proofs.YtbhdbglhejibbaaGreatDoor
set_option maxRecDepth 100000
open Go.RowKit
set_option linter.unusedVariables false
def txB (l : List Int) : ByteArray := ⟨(l.map (fun x => UInt8.ofNat x.toNat)).toArray⟩
theorem sB_bytes (s : ByteArray) : AllB (sB s) := fun x hx => by
  unfold sB at hx
  obtain ⟨b, _, rfl⟩ := List.mem_map.1 hx
  have := b.toNat_lt
  omega
theorem AllB.put {t : List Int} (h : AllB t) (s : ByteArray) : AllB (putL t s) := by
  unfold putL
  split
  · exact h
  · intro x hx
    rcases List.mem_append.1 hx with hx | hx
    · exact h x hx
    · exact sB_bytes s x hx
theorem AllB.gap {t : List Int} (h : AllB t) (o : Nat) : AllB (gapL t o) := by
  unfold gapL
  split
  · exact h.put _
  · exact h
theorem AllB.word {t : List Int} (h : AllB t) (o : Nat) (s : ByteArray) : AllB (wordL t o s) := (h.gap o).put s
theorem AllB.beg {t : List Int} (h : AllB t) (o : Nat) : AllB (begL t o) := (h.gap o).put _
theorem AllB.fin {t : List Int} (h : AllB t) (o : Nat) : AllB (endL t o) := by
  unfold endL
  split
  · exact (h.put _).put _
  · exact h.put _
theorem AllB.nes {t : List Int} (h : AllB t) (k n : Int) (s : ByteArray) (o : Nat) : AllB (nesL k n s t o) := by
  unfold nesL
  split
  · exact (h.beg o).word _ _
  · exact ((h.beg o).word _ _).word _ _
theorem AllB.sta {t : List Int} (h : AllB t) (k : Int) (s : ByteArray) (n : Int) (o : Nat) : AllB (staL k s n t o) := by
  unfold staL
  have h1 := (h.beg o).word (o + 1) (stmW k)
  simp only
  split
  · split
    · exact (h1.word _ _).word _ _
    · exact h1.word _ _
  · split
    · exact h1.word _ _
    · exact h1
mutual
theorem exT_all : ∀ (e : ExprD) (o : Nat) (t : List Int), AllB t → AllB (exT e o t)
  | .mk k n s args, o, t, h => by
    unfold exT
    split
    · exact h.word _ _
    · split
      · exact h.word _ _
      · exact (exsT_all args _ _ (h.nes _ _ _ _)).fin _
theorem exsT_all : ∀ (l : List ExprD) (o : Nat) (t : List Int), AllB t → AllB (exsT l o t)
  | [], _, _, h => h
  | e :: es, o, t, h => by unfold exsT; exact exsT_all es _ _ (exT_all e _ _ h)
end
mutual
theorem stT_all : ∀ (e : StmtD) (o : Nat) (t : List Int), AllB t → AllB (stT e o t)
  | .mk k s n args one two, o, t, h => by
    unfold stT
    have h1 := exsT_all args (o + 1) _ (h.sta k s n o)
    simp only
    refine AllB.fin ?_ _
    split
    · exact stsT_all one _ _ h1
    · split
      · exact (stsT_all two _ _ (((stsT_all one _ _ (h1.beg _)).fin _).beg _)).fin _
      · exact h1
theorem stsT_all : ∀ (l : List StmtD) (o : Nat) (t : List Int), AllB t → AllB (stsT l o t)
  | [], _, _, h => h
  | e :: es, o, t, h => by unfold stsT; exact stsT_all es _ _ (stT_all e _ _ h)
end
theorem foldl_all {α : Type} {f : List Int → α → List Int} (hf : ∀ t x, AllB t → AllB (f t x)) : ∀ (l : List α) (t : List Int), AllB t → AllB (l.foldl f t)
  | [], _, h => h
  | x :: xs, t, h => foldl_all hf xs _ (hf t x h)
theorem parT_all (x : ParD) (o : Nat) (t : List Int) (h : AllB t) : AllB (parT x o t) := by
  unfold parT
  split
  · exact h.word _ _
  · split
    · exact (((h.beg _).word _ _).word _ _).fin _
    · exact ((((h.beg _).word _ _).word _ _).word _ _).fin _
theorem funT_all (f : FunD) (t : List Int) (h : AllB t) : AllB (funT f t) := by
  unfold funT
  refine AllB.fin (stsT_all _ _ _ (AllB.fin (foldl_all (fun t x h => parT_all x _ t h) _ _ ?_) _)) _
  unfold funH
  exact (((h.beg _).word _ _).word _ _).beg _
theorem secT_all (a : ArrD) (t : List Int) (h : AllB t) : AllB (secT a t) := ((((h.beg _).word _ _).word _ _).word _ _).fin _
theorem proT_all (p : ProD) : AllB (proT p) := foldl_all (fun t f h => funT_all f t h) _ _ (foldl_all (fun t a h => secT_all a t h) _ _ (fun x hx => by cases hx))
theorem txt_sl {w : World} {A : Option Addr} {x : List Int} {k c : Nat} (hs : Sl w A x) (hl : x.length = k) (ha : AllB x) : (convert 91 9 (.slice A k c)).run Tryz.prog w = .ok (.string (txB x)) w := by
  subst hl
  rcases hs with e | ⟨b, o, e, hc⟩
  · subst e
    rcases A with _ | a
    · rw [run_convert_bytes_string w 91 9 5 none _ c Tryz.underlying91 Tryz.underlying5 Tryz.underlying9]
      simp [Conv.bytesToString, txB]
      rfl
    · exact run_convert_bytes_back (P := Tryz.prog) w 91 9 5 a c [] Tryz.underlying91 Tryz.underlying5 Tryz.underlying9 (fun j hj => by simp at hj)
  · subst e
    have h := run_convert_bytes_back (P := Tryz.prog) w 91 9 5 ⟨b, o, none⟩ c (x.map (fun x => UInt8.ofNat x.toNat)) Tryz.underlying91 Tryz.underlying5 Tryz.underlying9 (fun j hj => by
      have hj' : j < x.length := by simpa using hj
      rw [addO, hc j hj', List.getElem_map, nth_get hj']
      have := ha _ (List.getElem_mem hj')
      congr 2
      simp
      omega)
    rw [List.length_map] at h
    exact h
theorem TwV.conv {C : PrC} {F : Nat → Prop} {w : World} {t : List Int} {o : Nat} {V1 V2 : List VKey} {v : Value} (h : TwV C F w t o V1 V2 v) (ha : AllB t) : (convert 91 9 v).run Tryz.prog w = .ok (.string (txB t)) w := by
  rcases h.row.2 with ⟨rfl, h0⟩ | ⟨g, cap, cur, rfl, h1, h2, h3⟩
  · have : t = [] := List.length_eq_zero_iff.1 h0
    subst this
    exact txt_sl (k := 0) (.inl rfl) rfl ha
  · refine txt_sl (.inr ⟨g, 0, rfl, fun k hk => ?_⟩) rfl ha
    have hc := h.row.cells (g := g) rfl k (.int .u8 (nth t k)) (by rw [List.getElem?_map, List.getElem?_eq_getElem hk, nth_get hk]; rfl)
    rw [addO] at hc
    exact hc
def SrcP (C : PrC) (F : Nat → Prop) (w : World) (p : ProD) (e : Ending) (w' : World) : Prop := (if proK p = true then e = .returned (.string (txB (proT p))) else e = tlackP) ∧ OutO F w w'
theorem SrcP.no {C : PrC} {F : Nat → Prop} {w w' : World} {p : ProD} (h : proK p = false) (hO : OutO F w w') : SrcP C F w p tlackP w' := ⟨by rw [if_neg (by rw [h]; simp)], hO⟩
theorem SrcP.yes {C : PrC} {F : Nat → Prop} {w w' : World} {p : ProD} (h : proK p = true) (hO : OutO F w w') : SrcP C F w p (.returned (.string (txB (proT p)))) w' := ⟨by rw [if_pos h], hO⟩
set_option maxHeartbeats 4000000 in
theorem tsource_any (C : PrC) (ss : List ArrD) (fs : List FunD) (hW : ProW (ss, fs)) (F : Nat → Prop) (w : World) (A1 A2 : Option Addr) (c1 c2 : Nat) (h : TwIs C F w [] 0 [] []) (hA1 : ArrsAt C.w0 C.S ss A1) (hc1 : ss.length ≤ c1) (hA2 : FunsAt C.w0 C.S fs A2) (hc2 : fs.length ≤ c2) :
    Calls Tryz.prog 24 #[.pointer (some ⟨C.p, 0, none⟩), .agg #[.slice A1 ss.length c1, .slice A2 fs.length c2]] w (SrcP C F w (ss, fs)) := by
  obtain ⟨v, hV⟩ := h
  have hbx := (Below.refl w.heap.size w).alloc (Nat.le_refl _) (.cells #[.slice A1 ss.length c1, .slice A2 fs.length c2] 25)
  have HF := Lib.hid hV.fk
  have HG := Lib.hid hV.big
  have HM := Lib.hid (mayProg_any A1 A2 ss.length c1 fs.length c2 (w.alloc (.cells #[.slice A1 ss.length c1, .slice A2 fs.length c2] 25)))
  have HBx := Lib.hid (TwIs.box ⟨v, hV⟩ (.cells #[.slice A1 ss.length c1, .slice A2 fs.length c2] 25))
  have HOn := Lib.hid (OutO.of_below (F := NBo F w.heap.size) (Below.refl (w.alloc (.cells #[.slice A1 ss.length c1, .slice A2 fs.length c2] 25)).heap.size _))
  obtain ⟨⟨hw1, hw2⟩, hw3, hw4⟩ := hW
  have HP1 := Lib.hid hA1
  have HP2 := Lib.hid hA2
  have HWf := Lib.hid hw4
  have hpl1 : ss.length ≤ maxLen := hw1
  have hpl2 : fs.length ≤ maxLen := hw3
  unfold maxLen at hpl1 hpl2
  clear hV hbx hA1 hA2 hw1 hw2 hw3 hw4
  go_enter Tryz.func24, Tryz.ntmps24
  go_wp2_with fail
  refine HM.out.mono ?_
  rintro e w2 ⟨rfl, hb⟩
  have HO2 := Lib.hid (HOn.out.trans (OutO.of_below hb))
  have HW2 := Lib.hid (HBx.out.below hb)
  have HBX := Lib.hid (fun (w' : World) (h : OutO (NBo F w.heap.size) (w.alloc (.cells #[.slice A1 ss.length c1, .slice A2 fs.length c2] 25)) w') => h.boxed)
  have HOA := Lib.hid (fun (w' : World) (h : OutO (NBo F w.heap.size) (w.alloc (.cells #[.slice A1 ss.length c1, .slice A2 fs.length c2] 25)) w') => h.ofAlloc)
  clear hb HM HBx HOn
  generalize (w.alloc (.cells #[.slice A1 ss.length c1, .slice A2 fs.length c2] 25)) = W1 at *
  cases hx : progB ss.length fs.length with
  | false =>
    have HK := Lib.hid (show proK (ss, fs) = false from by unfold proK; rw [show progB (ss, fs).1.length (ss, fs).2.length = false from hx]; rfl)
    go_wp2_with fail
    refine (twant_no _).mono ?_
    rintro e w3 ⟨rfl, rfl⟩
    exact ⟨rfl, SrcP.no HK.out (HOA.out _ HO2.out)⟩
  | true =>
    have HK := Lib.hid (show proK (ss, fs) = (ss.all arrB && fs.all funK) from by unfold proK; rw [show progB (ss, fs).1.length (ss, fs).2.length = true from hx]; rfl)
    go_wp2_with fail
    refine (twant_yes _).mono ?_
    rintro e w3 ⟨rfl, rfl⟩
    have x0 := cell_of_row w2 w.heap.size 0 _ _ _ (HBX.out _ HO2.out)
    simp only [List.getElem?_toArray, List.getElem?_cons_zero] at x0
    clear hx
    go_wp2
    go_loopw [15] (fun i wr => ∃ k : Nat, k ≤ ss.length ∧ i = .int .i64 k ∧ Hid (TwIs C (NBo F w.heap.size) wr ((ss.take k).foldl (fun t a => secT a t) []) 0 [] []) ∧ Hid (OutO (NBo F w.heap.size) W1 wr) ∧ Hid (∀ (j : Nat) (hj : j < ss.length), j < k → arrB ss[j] = true)) (fun i _ => ss.length - (intOf i).toNat)
    case atStart => exact ⟨0, by omega, rfl, HW2, HO2, Lib.hid (fun j _ hj => by omega)⟩
    case round =>
      obtain ⟨k, hk, rfl, HW, HO, HY⟩ := hrel
      by_cases hlt : k < ss.length
      · rcases HP1.out with e0 | ⟨b, q, rfl, hb, hcs⟩
        · rw [e0] at hlt; simp at hlt
        obtain ⟨g0, g1⟩ := hcs k hlt
        obtain ⟨v', hV'⟩ := HW.out
        have y0 := tcell_at hV'.base (hV'.ok.lt hb) g0
        have y1 := tcell_at hV'.base (hV'.ok.lt hb) g1
        have HK1 := Lib.hid (show (ss.take (k + 1)).foldl (fun t a => secT a t) [] = secT ss[k] ((ss.take k).foldl (fun t a => secT a t) []) from by rw [List.take_succ_eq_append_getElem hlt, List.foldl_append]; simp only [List.foldl_cons, List.foldl_nil])
        have HKl := Lib.hid (show ∀ (j : Nat) (hj : j < ss.length), j < k + 1 → arrB ss[k] = true → arrB ss[j] = true from fun j hj h1 h2 => by
          by_cases e : j = k
          · subst e; exact h2
          · exact HY.out j hj (by omega))
        have HKn := Lib.hid (show arrB ss[k] = false → ss.all arrB = false from fun h => by
          rw [List.all_eq_false]; exact ⟨ss[k], List.getElem_mem hlt, by rw [h]; simp⟩)
        generalize ss[k] = x at *
        obtain ⟨xn, xl⟩ := x
        have hbx := (Below.refl wr.heap.size wr).alloc (Nat.le_refl _) (.cells #[.string xn, .int .i64 xl] 55)
        have HCp := Lib.hid (tsecret_any C (xn, xl) _ _ [] [] _ ⟨v', hV'.below hbx⟩)
        have HOp := Lib.hid (HO.out.trans (OutO.of_below hbx))
        have k0 : (0 : Int) ≤ k := by omega
        have k1 : (k : Int) < ss.length := by omega
        clear hV' hbx g0 g1 hcs HW x0
        simp only at y0 y1
        go_wp2_with fail
        refine HCp.out.mono ?_
        intro e w8 hX
        rcases hX.get with ⟨hy, rfl, hW8, hO8⟩ | ⟨hy, rfl, hO8⟩
        · have HW8 := Lib.hid (show TwIs C (NBo F w.heap.size) w8 ((ss.take (k + 1)).foldl (fun t a => secT a t) []) 0 [] [] from by rw [HK1.out]; exact hW8)
          have HO8 := Lib.hid (HOp.out.trans hO8)
          have HY8 := Lib.hid (fun (j : Nat) (hj : j < ss.length) (h : j < k + 1) => HKl.out j hj h hy)
          clear hX hW8 hO8 hy
          go_wp2
          go_roundw
          case rel => exact ⟨k + 1, by omega, by go_num, HW8, HO8, HY8⟩
          case measure => simp [intOf]; omega
        · have HN := Lib.hid (show proK (ss, fs) = false from HK.out.trans (by rw [HKn.out hy]; rfl))
          exact ⟨rfl, SrcP.no HN.out (HOA.out _ (HOp.out.trans hO8))⟩
      · have hkn : k = ss.length := by omega
        subst hkn
        have HA := Lib.hid (show ss.all arrB = true from by
          rw [List.all_eq_true]; intro e he; obtain ⟨j, hj, rfl⟩ := List.mem_iff_getElem.1 he; exact HY.out j hj hj)
        have k1 : ¬ (ss.length : Int) < ss.length := by omega
        have hW9 := HW.out
        rw [List.take_length] at hW9
        have HT9 := Lib.hid hW9
        have z1 := cell_of_row wr w.heap.size 1 _ _ _ (HBX.out _ HO.out)
        simp only [List.getElem?_toArray, List.getElem?_cons_zero, List.getElem?_cons_succ] at z1
        obtain ⟨T0, hT0⟩ : ∃ T0, T0 = ss.foldl (fun t a => secT a t) [] := ⟨_, rfl⟩
        have HZ := Lib.hid (show proT (ss, fs) = fs.foldl (fun t f => funT f t) T0 from by subst hT0; unfold proT; simp only)
        rw [← hT0] at HT9
        have HO9 := HO
        clear hW9 HW hlt hT0 x0 HO
        go_wp2
        go_loopw [26] (fun i wr => ∃ k : Nat, k ≤ fs.length ∧ i = .int .i64 k ∧ Hid (∃ U1 U2, TwIs C (NBo F w.heap.size) wr ((fs.take k).foldl (fun t f => funT f t) T0) 0 U1 U2 ∧ OkS C U1 ∧ OkE C U2) ∧ Hid (OutO (NBo F w.heap.size) W1 wr) ∧ Hid (∀ (j : Nat) (hj : j < fs.length), j < k → funK fs[j] = true)) (fun i _ => fs.length - (intOf i).toNat)
        case atStart => exact ⟨0, by omega, rfl, Lib.hid ⟨[], [], HT9.out, (fun x hx => by cases hx), (fun x hx => by cases hx)⟩, HO9, Lib.hid (fun j _ hj => by omega)⟩
        case round =>
          obtain ⟨k, hk, rfl, HW, HO, HY⟩ := hrel
          by_cases hlt : k < fs.length
          · rcases HP2.out with e0 | ⟨b, q, rfl, hb, hcs⟩
            · rw [e0] at hlt; simp at hlt
            have hf := hcs k hlt
            have hfw := HWf.out _ (List.getElem_mem hlt)
            obtain ⟨U1, U2, ⟨v', hV'⟩, hU1, hU2⟩ := HW.out
            have HK1 := Lib.hid (show (fs.take (k + 1)).foldl (fun t f => funT f t) T0 = funT fs[k] ((fs.take k).foldl (fun t f => funT f t) T0) from by rw [List.take_succ_eq_append_getElem hlt, List.foldl_append]; simp only [List.foldl_cons, List.foldl_nil])
            have HKl := Lib.hid (show ∀ (j : Nat) (hj : j < fs.length), j < k + 1 → funK fs[k] = true → funK fs[j] = true from fun j hj h1 h2 => by
              by_cases e : j = k
              · subst e; exact h2
              · exact HY.out j hj (by omega))
            have HKn := Lib.hid (show funK fs[k] = false → fs.all funK = false from fun h => by
              rw [List.all_eq_false]; exact ⟨fs[k], List.getElem_mem hlt, by rw [h]; simp⟩)
            generalize fs[k] = x at *
            obtain ⟨xn, xo, xp, xb⟩ := x
            obtain ⟨g0, g1, ⟨Ap, cp, g2, g3, g4⟩, Ab, cb, g5, g6, g7⟩ := hf
            simp only at g0 g1 g2 g3 g4 g5 g6 g7
            have y0 := tcell_at hV'.base (hV'.ok.lt hb) g0
            have y1 := tcell_at hV'.base (hV'.ok.lt hb) g1
            have y2 := tcell_at hV'.base (hV'.ok.lt hb) g2
            have y3 := tcell_at hV'.base (hV'.ok.lt hb) g5
            have hbx := (Below.refl wr.heap.size wr).alloc (Nat.le_refl _) (.cells #[.string xn, .bool xo, .slice Ap xp.length cp, .slice Ab xb.length cb] 48)
            have HCp := Lib.hid (tfunction_any C xn xo xp xb hfw _ _ U1 U2 _ Ap Ab cp cb ⟨v', hV'.below hbx⟩ g4 g3 g7 g6 hU1 hU2)
            have HOp := Lib.hid (HO.out.trans (OutO.of_below hbx))
            have k0 : (0 : Int) ≤ k := by omega
            have k1 : (k : Int) < fs.length := by omega
            clear hV' hbx g0 g1 g2 g3 g4 g5 g6 g7 hcs HW hU1 hU2 hfw
            go_wp2_with fail
            refine HCp.out.mono ?_
            rintro e w8 ⟨U3, U4, hU3, hU4, hX⟩
            rcases hX.get with ⟨hy, rfl, hW8, hO8⟩ | ⟨hy, rfl, hO8⟩
            · have HW8 := Lib.hid (show ∃ U1 U2, TwIs C (NBo F w.heap.size) w8 ((fs.take (k + 1)).foldl (fun t f => funT f t) T0) 0 U1 U2 ∧ OkS C U1 ∧ OkE C U2 from ⟨U3, U4, by rw [HK1.out]; exact hW8, hU3, hU4⟩)
              have HO8 := Lib.hid (HOp.out.trans hO8)
              have HY8 := Lib.hid (fun (j : Nat) (hj : j < fs.length) (h : j < k + 1) => HKl.out j hj h hy)
              clear hX hW8 hO8 hy hU3 hU4
              go_wp2
              go_roundw
              case rel => exact ⟨k + 1, by omega, by go_num, HW8, HO8, HY8⟩
              case measure => simp [intOf]; omega
            · have HN := Lib.hid (show proK (ss, fs) = false from HK.out.trans (by rw [HKn.out hy]; simp))
              exact ⟨rfl, SrcP.no HN.out (HOA.out _ (HOp.out.trans hO8))⟩
          · have hkn : k = fs.length := by omega
            subst hkn
            have HB := Lib.hid (show fs.all funK = true from by
              rw [List.all_eq_true]; intro e he; obtain ⟨j, hj, rfl⟩ := List.mem_iff_getElem.1 he; exact HY.out j hj hj)
            have HKy := Lib.hid (HK.out.trans (show (ss.all arrB && fs.all funK) = true by rw [HA.out, HB.out]; rfl))
            have k1 : ¬ (fs.length : Int) < fs.length := by omega
            obtain ⟨U1, U2, ⟨v', hV'⟩, _, _⟩ := HW.out
            rw [List.take_length] at hV'
            have hc0 := hV'.cell0
            have hcv := hV'.conv (by rw [← HZ.out]; exact proT_all _)
            rw [← HZ.out] at hcv
            have HR := Lib.hid (SrcP.yes (C := C) HKy.out (HOA.out _ HO.out))
            clear hV' HW hlt
            go_wp2
            go_ret
            exact HR.out
end Go.Proofs.YtbhdbglhejibbaaGreatDoor
namespace Go.Proofs.YtbhdbglhejibbaaGreatDoor
set_option maxRecDepth 100000
open Go.RowKit
set_option linter.unusedVariables false
theorem tbelow_set {w w1 : World} {b o : Nat} {v : Value} (h : Below w.heap.size w w1) (hb : w.heap.size ≤ b) : Below w.heap.size w (w1.setCell ⟨b, o, none⟩ v) :=
  h.setCell (p := ⟨b, o, none⟩) hb v
theorem lack_idle (p q : Addr) (w : World) :
    CallsD Tryz.prog 41 #[.pointer (some p), .pointer (some q)] .returning w fun e u' w' => e = .returned (.tuple #[]) ∧ u' = .returning ∧ w' = w := by
  refine callsD_of_wpS Tryz.func41 rfl fun c₀ cs hu => ?_
  apply wpS_seq
  apply wpS_region
  simp [wpOpsS, go_sem, recoverD, hu, Tryz.ntmps41, Exit.thenS]
  refine wpS_of_wp ?_
  go_wp2
  cases c₀
  simp_all [bodyPostS, results, Tryz.results41]
theorem lack_mis (a b : Nat) (c : Int) (v0 : Value) (T : TypeId) (w : World) (ha : w.cell? ⟨a, 0, none⟩ = some (.int .i64 c)) (h : w.heap[b]? = some (.cells #[v0] T (0, 0))) :
    CallsD Tryz.prog 41 #[.pointer (some ⟨a, 0, none⟩), .pointer (some ⟨b, 0, none⟩)] (.panicking ({ v := tlackV, recovered := false } :: [])) w fun e u' w' =>
      e = .returned (.tuple #[]) ∧ u' = .panicking ({ v := tlackV, recovered := true } :: []) ∧ w'.heap[b]? = some (.cells #[.int .i64 c] T (0, 0)) ∧ (∀ n, n ≤ b → Below n w w') := by
  have y0 := cell_of_row w b 0 _ _ _ h
  simp only [List.getElem?_toArray, List.getElem?_cons_zero] at y0
  have yr := frozen_of_row w b 0 _ _ h
  have h' := (heap_alloc_old w (.cells #[] 86) (Array.getElem?_eq_some_iff.1 h).1).trans h
  have y0' := cell_of_row _ b 0 _ _ _ h'
  simp only [List.getElem?_toArray, List.getElem?_cons_zero] at y0'
  have yr' := frozen_of_row _ b 0 _ _ h'
  have hlt := (Array.getElem?_eq_some_iff.1 h).1
  have ha' : (w.alloc (.cells #[] 86)).cell? ⟨a, 0, none⟩ = some (.int .i64 c) := cell_belowT ha ((Below.refl _ w).alloc (Nat.le_refl _) _)
  refine callsD_of_wpS Tryz.func41 rfl fun c₀ cs hu => ?_
  apply wpS_seq
  apply wpS_region
  simp [wpOpsS, go_sem, recoverD, hu, Tryz.ntmps41, Exit.thenS]
  refine wpS_of_wp ?_
  have hta : ∀ w : World, (Instr.typeAssert (.iface 86 (.agg #[])) 20 86 true).run Tryz.prog w = .ok (.tuple #[.agg #[], .bool true]) w := fun w => by kernel_rfl
  unfold tlackV
  go_wp2
  refine ⟨rfl, .panicking [{ v := .iface 86 (.agg #[]), recovered := true }], by cases c₀; rfl, .tuple #[], ?hres, rfl, rfl, ?h1, ?h2⟩
  case hres => simp [results, Tryz.results41]
  case h1 =>
    have hs := heap_setCell_same w b 0 _ _ (.int .i64 c) h
    exact (heap_alloc_old _ _ (Array.getElem?_eq_some_iff.1 hs).1).trans hs
  case h2 => exact fun n hn => ((Below.refl n w).setCell (p := ⟨b, 0, none⟩) hn _).alloc (Nat.le_trans hn (by simp; exact Nat.le_of_lt hlt)) _
def LackP (r : Option ByteArray) (c : Int) (w : World) (e : Ending) (w' : World) : Prop := Below w.heap.size w w' ∧ e = .returned (.tuple #[.string (r.getD ⟨#[]⟩), .int .i64 (if r.isSome then 0 else c)])
/-- what is done -/
def DoP (r : Option ByteArray) (w : World) (e : Ending) (w' : World) : Prop := Below w.heap.size w w' ∧ match r with
  | some s => e = .returned (.string s)
  | none => e = tlackP
theorem res_lack {T : Array Value} {b : Nat} {x : ByteArray} {W : World} {v0 : Value} {ty : TypeId} (h2 : T[4]? = some (.string x)) (h3 : T[5]? = some (.pointer (some ⟨b, 0, none⟩))) (hr : W.heap[b]? = some (.cells #[v0] ty (0, 0))) :
    (results Tryz.f21 T).run Tryz.prog W = .ok (.tuple #[.string x, v0]) W := by
  have y0 := cell_of_row W b 0 _ _ _ hr
  simp only [List.getElem?_toArray, List.getElem?_cons_zero] at y0
  simp [results, Tryz.results21, go_sem, h2, h3, y0]
theorem door_lack {P : Program} {fn : Func} {R : Ending → World → Prop} {w : World} {a b : Nat} {T : Array Value} (h : Leaves P fn T R [{ target := Target.fn (Fn.func 41) #[.pointer (some ⟨a, 0, none⟩), .pointer (some ⟨b, 0, none⟩)], args := #[] }] (.panicking [{ v := tlackV, recovered := false }]) w) :
    bodyPostD P fn R (.panic [{ v := tlackV, recovered := false }]) { tmps := T, defers := [{ target := Target.fn (Fn.func 41) #[.pointer (some ⟨a, 0, none⟩), .pointer (some ⟨b, 0, none⟩)], args := #[] }] } w := h
set_option maxHeartbeats 2000000 in
theorem lacking_any (p0 : Value) (c : Int) (r : Option ByteArray) (w : World) (hC : Calls Tryz.prog 22 #[p0] ((w.alloc (.cells #[.int .i64 c] 28)).alloc (.cells #[.int .i64 0] 28)) (DoP r ((w.alloc (.cells #[.int .i64 c] 28)).alloc (.cells #[.int .i64 0] 28)))) :
    Calls Tryz.prog 21 #[.int .i64 c, .func (.func 22) #[] #[p0]] w (LackP r c w) := by
  have hmf : ∀ (fn : Fn) (first cap : Array Value) (w : World), (Instr.makeFunc fn first cap).run Tryz.prog w = .ok (.func fn first cap) w := fun _ _ _ _ => rfl
  have HB := Lib.hid (((Below.refl w.heap.size w).alloc (Nat.le_refl _) (.cells #[.int .i64 c] 28)).alloc (by simp) (.cells #[.int .i64 0] 28))
  have hx1 := heap_alloc_new w (.cells #[.int .i64 c] 28)
  have hx2 := heap_alloc_new (w.alloc (.cells #[.int .i64 c] 28)) (.cells #[.int .i64 0] 28)
  rw [show (w.alloc (.cells #[.int .i64 c] 28)).heap.size = w.heap.size + 1 by simp] at hx2
  have HX1 := Lib.hid ((heap_alloc_old (w.alloc (.cells #[.int .i64 c] 28)) (.cells #[.int .i64 0] 28) (Array.getElem?_eq_some_iff.1 hx1).1).trans hx1)
  have HX := Lib.hid hx2
  have HC := Lib.hid hC
  clear hC hx1 hx2
  go_enter_defers Tryz.func21, Tryz.ntmps21
  go_wp2_with fail
  refine HC.out.mono ?_
  intro e w1 h1
  cases r with
  | none =>
    obtain ⟨hb, rfl⟩ := h1
    have HB1 := Lib.hid (HB.out.trans (hb.mono HB.out.size))
    have HY := Lib.hid ((hb.block _ (Array.getElem?_eq_some_iff.1 HX.out).1).trans HX.out)
    have hy1 := (hb.block _ (Array.getElem?_eq_some_iff.1 HX1.out).1).trans HX1.out
    have x1 := cell_of_row w1 w.heap.size 0 _ _ _ hy1
    simp only [List.getElem?_toArray, List.getElem?_cons_zero] at x1
    clear hb
    refine door_lack ?_
    refine leaves_cons (f := 41) (args := #[.pointer (some ⟨w.heap.size, 0, none⟩), .pointer (some ⟨w.heap.size + 1, 0, none⟩)]) (by simp) (by simp [go_sem]) ?_
    refine (lack_mis w.heap.size (w.heap.size + 1) c _ _ _ x1 HY.out).mono ?_
    rintro e u' w2 ⟨rfl, rfl, h1, h2⟩
    exact ⟨_, res_lack (b := w.heap.size + 1) rfl rfl h1, HB1.out.trans (h2 _ (by omega)), rfl⟩
  | some x =>
    obtain ⟨hb, rfl⟩ := h1
    have HB1 := Lib.hid (HB.out.trans (hb.mono HB.out.size))
    have HX2 := Lib.hid ((hb.block _ (Array.getElem?_eq_some_iff.1 HX.out).1).trans HX.out)
    clear hb
    have y0 := cell_of_row w1 (w.heap.size + 1) 0 _ _ _ HX2.out
    simp only [List.getElem?_toArray, List.getElem?_cons_zero] at y0
    have yr := frozen_of_row w1 (w.heap.size + 1) 0 _ _ HX2.out
    go_wp2
    refine leaves_cons (f := 41) (args := #[.pointer (some ⟨w.heap.size, 0, none⟩), .pointer (some ⟨w.heap.size + 1, 0, none⟩)]) (by simp) (by simp [go_sem]) ?_
    refine (lack_idle ⟨w.heap.size, 0, none⟩ ⟨w.heap.size + 1, 0, none⟩ _).mono ?_
    rintro e u' w4 ⟨rfl, rfl, rfl⟩
    exact ⟨_, res_lack (b := w.heap.size + 1) rfl rfl (heap_setCell_same _ _ _ _ _ _ HX2.out), tbelow_set HB1.out (by omega), rfl⟩
/-- a writer that has written nothing -/
theorem newWriter_any (S : Nat → Prop) (w : World) (hT : TrT w) (hL : LxT w) (hS : ∀ b, S b → ∃ cs T, w.heap[b]? = some (.cells cs T (0, 0))) :
    Calls Tryz.prog 23 #[] w fun e w' => e = .returned (.pointer (some ⟨w.heap.size + 2, 0, none⟩)) ∧ TwIs ⟨w, S, w.heap.size + 2, w.heap.size, w.heap.size + 1, w.heap.size + 3⟩ (fun b => w.heap.size ≤ b) w' [] 0 [] [] := by
  have hb := (((Below.refl w.heap.size w).alloc (Nat.le_refl _) (.map #[] 0)).alloc (by simp) (.map #[] 0)).alloc (by simp; omega) (.cells #[.slice none 0 0, .int .i64 0, .map (some w.heap.size), .map (some (w.heap.size + 1))] 93)
  have h1 := heap_alloc_new w (.map #[] 0)
  have h2 := heap_alloc_new (w.alloc (.map #[] 0)) (.map #[] 0)
  have h3 := heap_alloc_new ((w.alloc (.map #[] 0)).alloc (.map #[] 0)) (.cells #[.slice none 0 0, .int .i64 0, .map (some w.heap.size), .map (some (w.heap.size + 1))] 93)
  have s1 : (w.alloc (.map #[] 0)).heap.size = w.heap.size + 1 := by simp
  have s2 : ((w.alloc (.map #[] 0)).alloc (.map #[] 0)).heap.size = w.heap.size + 2 := by simp
  rw [s1] at h2
  rw [s2] at h3
  have h1' := (heap_alloc_old (w.alloc (.map #[] 0)) (.map #[] 0) (Array.getElem?_eq_some_iff.1 h1).1).trans h1
  have h1'' := (heap_alloc_old ((w.alloc (.map #[] 0)).alloc (.map #[] 0)) (.cells #[.slice none 0 0, .int .i64 0, .map (some w.heap.size), .map (some (w.heap.size + 1))] 93) (Array.getElem?_eq_some_iff.1 h1').1).trans h1'
  have h2' := (heap_alloc_old ((w.alloc (.map #[] 0)).alloc (.map #[] 0)) (.cells #[.slice none 0 0, .int .i64 0, .map (some w.heap.size), .map (some (w.heap.size + 1))] 93) (Array.getElem?_eq_some_iff.1 h2).1).trans h2
  have HW := Lib.hid (show TwIs ⟨w, S, w.heap.size + 2, w.heap.size, w.heap.size + 1, w.heap.size + 3⟩ (fun b => w.heap.size ≤ b) (((w.alloc (.map #[] 0)).alloc (.map #[] 0)).alloc (.cells #[.slice none 0 0, .int .i64 0, .map (some w.heap.size), .map (some (w.heap.size + 1))] 93)) [] 0 [] [] from
    ⟨.slice none 0 0, { ok := ⟨hT, hL, hS, by simp only; omega⟩, blk := h3, row := World.ownsRow_nil _ _ _ _, vis1 := ⟨#[], 0, h1'', rfl, by simp⟩, vis2 := ⟨#[], 0, h2', rfl, by simp⟩, key1 := (fun x hx => by cases hx), key2 := (fun x hx => by cases hx), fp := by simp only; omega, f1 := Nat.le_refl _, f2 := by simp only; omega, fv := (fun b hb => by cases hb), fn := (fun b hb' => by have := hb.size; omega), fk := (fun b hb => hb), base := hb, bound := by simp, len := by simp, some_ := (fun h => absurd h (by omega)) }⟩)
  clear hb h1 h2 h3 s1 s2 h1' h1'' h2' hT hL hS
  have hmm := @run_makeMap Tryz.prog
  have hbd : ∀ (a b : Nat) (w : World), (Instr.build 93 #[(2, .map (some a)), (3, .map (some b))]).run Tryz.prog w = .ok (.agg #[.slice none 0 0, .int .i64 0, .map (some a), .map (some b)]) w := fun a b w => run_build w 93 _ _ (by kernel_rfl)
  go_enter Tryz.func23, Tryz.ntmps23
  go_wp2
  go_ret
  exact ⟨rfl, HW.out⟩
theorem SrcP.ret {C : PrC} {F : Nat → Prop} {w w' : World} {p : ProD} {e : Ending} (h : SrcP C F w p e w') (hk : proK p = true) : e = .returned (.string (txB (proT p))) := by
  have := h.1
  rw [if_pos hk] at this
  exact this
theorem SrcP.lack {C : PrC} {F : Nat → Prop} {w w' : World} {p : ProD} {e : Ending} (h : SrcP C F w p e w') (hk : proK p = false) : e = tlackP := by
  have := h.1
  rw [if_neg (by rw [hk]; simp)] at this
  exact this
/-- what is printed, if it isn't too long for that -/
def prtP (p : ProD) : Option ByteArray := if proK p = true then some (txB (proT p)) else none
def ProV (w : World) (S : Nat → Prop) (p : ProD) (A1 : Option Addr) (c1 : Nat) (A2 : Option Addr) (c2 : Nat) : Prop := p.1.length ≤ c1 ∧ p.2.length ≤ c2 ∧ ArrsAt w S p.1 A1 ∧ FunsAt w S p.2 A2
theorem ProV.move {w w' : World} {S S' : Nat → Prop} {p : ProD} {A1 A2 : Option Addr} {c1 c2 : Nat} (h : ProV w S p A1 c1 A2 c2) (hl : ∀ b, S b → S' b) (hk : ∀ b, S b → w'.heap[b]? = w.heap[b]?) : ProV w' S' p A1 c1 A2 c2 :=
  ⟨h.1, h.2.1, h.2.2.1.move hl hk, h.2.2.2.move hl hk⟩
theorem ProV.below {w w' : World} {S : Nat → Prop} {p : ProD} {A1 A2 : Option Addr} {c1 c2 : Nat} (h : ProV w S p A1 c1 A2 c2) (hS : ∀ b, S b → PlB w b) (hb : Below w.heap.size w w') : ProV w' S p A1 c1 A2 c2 ∧ ∀ b, S b → PlB w' b :=
  have hlt : ∀ b, S b → b < w.heap.size := fun b h => by obtain ⟨cs, T, e⟩ := hS b h; exact (Array.getElem?_eq_some_iff.1 e).1
  ⟨h.move (fun _ h => h) (fun b h => hb.block b (hlt b h)), fun b h => by obtain ⟨cs, T, e⟩ := hS b h; exact ⟨cs, T, (hb.block b (hlt b h)).trans e⟩⟩
/-- a call by its contract, as a step of a region that draws, whether it returns or not -/
theorem step_call8 {P : Program} {ops : Array Oper} {o : Oper} {a : Act} {w : World} {K : Act → World → Prop} {Q : Exit → Act → World → Prop} {E : Prop} (hgd : o.guard = none) (f : FuncId) (args : Array Operand) (tys : Array TypeId)
    (ho : o.op = .call { callee := .value (.func f), args := args, argTypes := tys }) (vals : Array Value) (hv : args.map a.eval = vals) (hf : ∀ (args : Array Value) (w : World), (callFunc f args).run P w = .ok (.enter f args) w) {post : Ending → World → Prop} (hc : Calls P f vals w post)
    (h : ∀ e w', post e w' → (∃ v, e = .returned v ∧ K (a.put o.dst v) w') ∨ ∃ ch, e = .panicked ch ∧ Q (.panic ch) a w') : if Region.wanted o (yielded ops a.tmps) = true then Oper.wp P o a w K Q else E := by
  have hw : Region.wanted o (yielded ops a.tmps) = true := by simp [Region.wanted, hgd]
  rw [if_pos hw]
  subst hv
  unfold Oper.wp
  have hr : (execOp a.eval o).run P w = .ok (.enter f (args.map a.eval)) w := by
    simp [execOp, ho, resolve, Act.eval, Deferred.ofValue, invoke, hf]
  rw [hr, Oper.upon_enter]
  refine hc.mono ?_
  intro e w' hp
  rcases h e w' hp with ⟨v, rfl, hk⟩ | ⟨ch, rfl, hk⟩
  · exact hk
  · exact hk
set_option maxHeartbeats 1000000 in
theorem printDo_any (p : ProD) (hW : ProW p) (S : Nat → Prop) (A1 A2 : Option Addr) (c1 c2 g : Nat) (w : World) (hT : TrT w) (hL : LxT w) (hS : ∀ b, S b → PlB w b) (hV : ProV w S p A1 c1 A2 c2) (hg : w.heap[g]? = some (.cells #[.slice A1 p.1.length c1, .slice A2 p.2.length c2] 25 (0, 0))) :
    Calls Tryz.prog 22 #[.pointer (some ⟨g, 0, none⟩)] w (DoP (prtP p) w) := by
  have hcf : ∀ (args : Array Value) (w : World), (callFunc 23 args).run Tryz.prog w = .ok (.enter 23 args) w := fun args w => by kernel_rfl
  have hcs : ∀ (args : Array Value) (w : World), (callFunc 24 args).run Tryz.prog w = .ok (.enter 24 args) w := fun args w => by kernel_rfl
  have hbd := (Below.refl w.heap.size w).drew
  have HN := Lib.hid (newWriter_any S w.drew (hT.below hbd) (hL.below hbd) (hV.below hS hbd).2)
  have HS := Lib.hid (fun (w2 : World) (h2 : TwIs ⟨w.drew, S, w.heap.size + 2, w.heap.size, w.heap.size + 1, w.heap.size + 3⟩ (fun b => w.heap.size ≤ b) w2 [] 0 [] []) => tsource_any ⟨w.drew, S, w.heap.size + 2, w.heap.size, w.heap.size + 1, w.heap.size + 3⟩ p.1 p.2 hW _ w2 A1 A2 c1 c2 h2 (hV.below hS hbd).1.2.2.1 hV.1 (hV.below hS hbd).1.2.2.2 hV.2.1)
  have x0 : w.drew.cell? ⟨g, 0, none⟩ = some (.slice A1 p.1.length c1) := by rw [cell_of_row w.drew g 0 _ _ _ hg]; rfl
  have x1 : w.drew.cell? ⟨g, 1, none⟩ = some (.slice A2 p.2.length c2) := by rw [cell_of_row w.drew g 1 _ _ _ hg]; rfl
  have HX := Lib.hid (show w.cell? ⟨g, 0, none⟩ = some (.slice A1 p.1.length c1) ∧ w.cell? ⟨g, 1, none⟩ = some (.slice A2 p.2.length c2) from ⟨x0, x1⟩)
  clear hT hL hS hV hbd
  cases hk : proK p with
  | true =>
    have HP := Lib.hid (show prtP p = some (txB (proT p)) from by unfold prtP; rw [if_pos hk])
    have HK := Lib.hid hk
    clear hk
    go_enter Tryz.func22, Tryz.ntmps22
    go_wp2
    go_region_law (first
      | (refine step_call6 rfl 23 _ _ rfl #[] ?hv hcf HN.out ?_; (case hv => simp [go_sem]); rintro e w2 ⟨rfl, h2⟩; refine ⟨_, rfl, ?_⟩; have H2 := Lib.hid (HS.out _ h2); have hbl : Below w.heap.size w w2 := (by obtain ⟨v, hv⟩ := h2; exact (Below.refl w.heap.size w).drew.trans hv.base); have HB := Lib.hid hbl; have z0 : w2.cell? ⟨g, 0, none⟩ = some (.slice A1 p.1.length c1) := cell_belowT HX.out.1 hbl; have z1 : w2.cell? ⟨g, 1, none⟩ = some (.slice A2 p.2.length c2) := cell_belowT HX.out.2 hbl; clear h2 hbl)
      | (refine step_call6 rfl 24 _ _ rfl #[.pointer (some ⟨w.heap.size + 2, 0, none⟩), .agg #[.slice A1 p.1.length c1, .slice A2 p.2.length c2]] ?hv hcs H2.out ?_; (case hv => simp [go_sem]); intro e w3 h3; refine ⟨_, h3.ret HK.out, ?_⟩; have HB3 := Lib.hid (h3.2.low (fun _ h => h) HB.out HB.out.size); clear h3))
    all_goals
      go_wp2
      go_ret
      exact ⟨HB3.out, by rw [HP.out]; rfl⟩
  | false =>
    have HP := Lib.hid (show prtP p = none from by unfold prtP; rw [if_neg (by rw [hk]; simp)])
    have HK := Lib.hid hk
    clear hk
    go_enter Tryz.func22, Tryz.ntmps22
    go_wp2
    refine wp_region_any (by kernel_rfl) ?_
    change wpAny _ _ _ _ _ _ _ (World.drew _)
    refine wpAny_ready (rs := [0, 1]) (by kernel_rfl) (by simp) ?_
    refine AllReady.cons rfl (fun K hK => ?_) (AllReady.cons rfl (fun K hK => ?_) AllReady.nil)
    · (refine step_call6 rfl 23 _ _ rfl #[] ?hv hcf HN.out ?_; (case hv => simp [go_sem]); rintro e w2 ⟨rfl, h2⟩; refine ⟨_, rfl, ?_⟩; have H2 := Lib.hid (HS.out _ h2); have hbl : Below w.heap.size w w2 := (by obtain ⟨v, hv⟩ := h2; exact (Below.refl w.heap.size w).drew.trans hv.base); have HB := Lib.hid hbl; have z0 : w2.cell? ⟨g, 0, none⟩ = some (.slice A1 p.1.length c1) := cell_belowT HX.out.1 hbl; have z1 : w2.cell? ⟨g, 1, none⟩ = some (.slice A2 p.2.length c2) := cell_belowT HX.out.2 hbl; clear h2 hbl)
      refine hK _ _ ?_
      clear hK K
      refine wpAny_ready (rs := [1]) (by kernel_rfl) (by simp) ?_
      refine AllReady.cons rfl (fun K hK => ?_) AllReady.nil
      go_simp
      refine hK _ _ ?_
      clear hK K
      refine wpAny_ready (rs := [2]) (by kernel_rfl) (by simp) ?_
      refine AllReady.cons rfl (fun K hK => ?_) AllReady.nil
      refine step_call8 rfl 24 _ _ rfl #[.pointer (some ⟨w.heap.size + 2, 0, none⟩), .agg #[.slice A1 p.1.length c1, .slice A2 p.2.length c2]] ?hv hcs H2.out ?_
      (case hv => simp [go_sem])
      intro e w3 h3
      exact .inr ⟨_, h3.lack HK.out, And.intro rfl (And.intro (h3.2.low (fun _ h => h) HB.out HB.out.size) (by rw [HP.out]; rfl))⟩
    · go_simp
      refine hK _ _ ?_
      clear hK K
      refine wpAny_ready (rs := [0]) (by kernel_rfl) (by simp) ?_
      refine AllReady.cons rfl (fun K hK => ?_) AllReady.nil
      (refine step_call6 rfl 23 _ _ rfl #[] ?hv hcf HN.out ?_; (case hv => simp [go_sem]); rintro e w2 ⟨rfl, h2⟩; refine ⟨_, rfl, ?_⟩; have H2 := Lib.hid (HS.out _ h2); have hbl : Below w.heap.size w w2 := (by obtain ⟨v, hv⟩ := h2; exact (Below.refl w.heap.size w).drew.trans hv.base); have HB := Lib.hid hbl; have z0 : w2.cell? ⟨g, 0, none⟩ = some (.slice A1 p.1.length c1) := cell_belowT HX.out.1 hbl; have z1 : w2.cell? ⟨g, 1, none⟩ = some (.slice A2 p.2.length c2) := cell_belowT HX.out.2 hbl; clear h2 hbl)
      refine hK _ _ ?_
      clear hK K
      refine wpAny_ready (rs := [2]) (by kernel_rfl) (by simp) ?_
      refine AllReady.cons rfl (fun K hK => ?_) AllReady.nil
      refine step_call8 rfl 24 _ _ rfl #[.pointer (some ⟨w.heap.size + 2, 0, none⟩), .agg #[.slice A1 p.1.length c1, .slice A2 p.2.length c2]] ?hv hcs H2.out ?_
      (case hv => simp [go_sem])
      intro e w3 h3
      exact .inr ⟨_, h3.lack HK.out, And.intro rfl (And.intro (h3.2.low (fun _ h => h) HB.out HB.out.size) (by rw [HP.out]; rfl))⟩
/-- what Print answers -/
def prtE (p : ProD) : ByteArray × Int := match prtP p with
  | none => (⟨#[]⟩, 1)
  | some s => if 20000 < s.size then (⟨#[]⟩, 4) else (s, 0)
def PrtE (p : ProD) (w : World) (e : Ending) (w' : World) : Prop := Below w.heap.size w w' ∧ e = .returned (.tuple #[.string (prtE p).1, .int .i64 (prtE p).2])
set_option maxHeartbeats 1000000 in
theorem print_any (p : ProD) (hW : ProW p) (S : Nat → Prop) (A1 A2 : Option Addr) (c1 c2 : Nat) (w : World) (hT : TrT w) (hL : LxT w) (hS : ∀ b, S b → PlB w b) (hV : ProV w S p A1 c1 A2 c2) :
    Calls Tryz.prog 11 #[.agg #[.slice A1 p.1.length c1, .slice A2 p.2.length c2]] w (PrtE p w) := by
  have hmf : ∀ (fn : Fn) (first cap : Array Value) (w : World), (Instr.makeFunc fn first cap).run Tryz.prog w = .ok (.func fn first cap) w := fun _ _ _ _ => rfl
  have hb := (Below.refl w.heap.size w).alloc (Nat.le_refl _) (.cells #[.slice A1 p.1.length c1, .slice A2 p.2.length c2] 25)
  have h0 := heap_alloc_new w (.cells #[.slice A1 p.1.length c1, .slice A2 p.2.length c2] 25)
  have HB := Lib.hid hb
  have hb2 : ∀ c : Int, Below (w.alloc (.cells #[.slice A1 p.1.length c1, .slice A2 p.2.length c2] 25)).heap.size (w.alloc (.cells #[.slice A1 p.1.length c1, .slice A2 p.2.length c2] 25)) (((w.alloc (.cells #[.slice A1 p.1.length c1, .slice A2 p.2.length c2] 25)).alloc (.cells #[.int .i64 c] 28)).alloc (.cells #[.int .i64 0] 28)) := fun c => ((Below.refl _ _).alloc (Nat.le_refl _) _).alloc (by simp) _
  have HL := Lib.hid (lacking_any (.pointer (some ⟨w.heap.size, 0, none⟩)) 1 (prtP p) (w.alloc (.cells #[.slice A1 p.1.length c1, .slice A2 p.2.length c2] 25))
    (printDo_any p hW S A1 A2 c1 c2 w.heap.size _ ((hT.below hb).below (hb2 1)) ((hL.below hb).below (hb2 1)) ((hV.below hS hb).1.below (hV.below hS hb).2 (hb2 1)).2 ((hV.below hS hb).1.below (hV.below hS hb).2 (hb2 1)).1 (((hb2 1).block _ (Array.getElem?_eq_some_iff.1 h0).1).trans h0)))
  clear hb h0 hb2 hT hL hS hV
  cases hr : prtP p with
  | none =>
    have HR := Lib.hid (show prtE p = (⟨#[]⟩, 1) from by unfold prtE; rw [hr])
    rw [hr] at HL
    clear hr
    go_enter Tryz.func11, Tryz.ntmps11
    go_wp2_with fail
    refine HL.out.mono ?_
    rintro e w2 ⟨hb, rfl⟩
    have HB2 := Lib.hid (HB.out.trans (hb.mono HB.out.size))
    clear hb
    simp only [Option.getD_none, Option.isSome_none, Bool.false_eq_true, if_false]
    go_wp2
    go_ret2
    exact ⟨HB2.out, by rw [HR.out]; rfl⟩
  | some s =>
    rw [hr] at HL
    by_cases hs : 20000 < s.size
    · have HR := Lib.hid (show prtE p = (⟨#[]⟩, 4) from by unfold prtE; rw [hr]; simp only; rw [if_pos hs])
      have h1 : (s.size : Int) > 20000 := by omega
      clear hr hs
      go_enter Tryz.func11, Tryz.ntmps11
      go_wp2_with fail
      refine HL.out.mono ?_
      rintro e w2 ⟨hb, rfl⟩
      have HB2 := Lib.hid (HB.out.trans (hb.mono HB.out.size))
      clear hb
      simp only [Option.getD_some, Option.isSome_some, if_true]
      go_wp2
      go_ret2
      exact ⟨HB2.out, by rw [HR.out]; rfl⟩
    · have HR := Lib.hid (show prtE p = (s, 0) from by unfold prtE; rw [hr]; simp only; rw [if_neg hs])
      have h1 : ¬ (s.size : Int) > 20000 := by omega
      clear hr hs
      go_enter Tryz.func11, Tryz.ntmps11
      go_wp2_with fail
      refine HL.out.mono ?_
      rintro e w2 ⟨hb, rfl⟩
      have HB2 := Lib.hid (HB.out.trans (hb.mono HB.out.size))
      clear hb
      simp only [Option.getD_some, Option.isSome_some, if_true]
      go_wp2
      go_ret2
      exact ⟨HB2.out, by rw [HR.out]; rfl⟩
end Go.Proofs.YtbhdbglhejibbaaGreatDoor
