/- Layer 6: the reader of package obj: numbers of so many bytes, names. -/
import Derived.Test.YtfdpbogbnfkilaaDoorObjRdA
namespace Go.Proofs.YtfdpbogbnfkilaaDoor
set_option maxRecDepth 100000
open Go.RowKit
set_option linter.unusedVariables false
def IntV (x : Int) (v : Value) (w : World) : Prop := v = .int .i64 x
def W32V (x : Int) (v : Value) (w : World) : Prop := v = .int .u32 x
def StrV (s : ByteArray) (v : Value) (w : World) : Prop := v = .string s
theorem rdN_bd {n : Nat} {l l' : List Int} {x : Int} (hn : n ≤ 8) (ha : AllB l) (h : rdN n l = some (x, l')) : 0 ≤ x ∧ x < 256 ^ n := by
  have := rdN_back hn ha h
  exact ⟨this.2.2.1.1, this.2.2.2.1⟩
theorem count_any (p B : Nat) (l : List Int) (w : World) (hR : RdIs w p B l) :
    Calls Tryd.prog 99 #[.pointer (some ⟨p, 0, none⟩)] w (RdP p B (rdN 2 l) IntV w) := by
  have HR := Lib.hid hR
  have HA := Lib.hid hR.all
  have HC := Lib.hid (fun w (h : RdIs w p B l) => rdnum_any 2 (by omega) p B l w h)
  clear hR
  cases hr : rdN 2 l with
  | none =>
    have E := Lib.hid hr
    clear hr
    go_enter Tryd.func99, Tryd.ntmps99
    go_wp2_with fail
    refine (HC.out _ HR.out).mono ?_
    intro e w1 h1
    obtain ⟨rfl, h3⟩ := h1.no E.out
    exact ⟨rfl, h3, rfl⟩
  | some xl =>
    obtain ⟨x, l'⟩ := xl
    have hb := rdN_bd (by omega) HA.out hr
    have hb1 : x < 65536 := hb.2
    have hb0 := hb.1
    have E := Lib.hid hr
    clear hr hb
    go_enter Tryd.func99, Tryd.ntmps99
    go_wp2_with fail
    refine (HC.out _ HR.out).mono ?_
    intro e w1 h1
    obtain ⟨v, rfl, rfl, h2, h3⟩ := h1.yes E.out
    have H2 := Lib.hid h2
    have H3 := Lib.hid h3
    clear h1 h2 h3
    go_wp2
    go_ret
    exact ⟨H3.out, _, rfl, rfl, H2.out⟩
theorem small_any (p B : Nat) (l : List Int) (w : World) (hR : RdIs w p B l) :
    Calls Tryd.prog 142 #[.pointer (some ⟨p, 0, none⟩)] w (RdP p B (rdN 1 l) IntV w) := by
  have HR := Lib.hid hR
  have HA := Lib.hid hR.all
  have HC := Lib.hid (fun w (h : RdIs w p B l) => rdnum_any 1 (by omega) p B l w h)
  clear hR
  cases hr : rdN 1 l with
  | none =>
    have E := Lib.hid hr
    clear hr
    go_enter Tryd.func142, Tryd.ntmps142
    go_wp2_with fail
    refine (HC.out _ HR.out).mono ?_
    intro e w1 h1
    obtain ⟨rfl, h3⟩ := h1.no E.out
    exact ⟨rfl, h3, rfl⟩
  | some xl =>
    obtain ⟨x, l'⟩ := xl
    have hb := rdN_bd (by omega) HA.out hr
    have hb1 : x < 256 := hb.2
    have hb0 := hb.1
    have E := Lib.hid hr
    clear hr hb
    go_enter Tryd.func142, Tryd.ntmps142
    go_wp2_with fail
    refine (HC.out _ HR.out).mono ?_
    intro e w1 h1
    obtain ⟨v, rfl, rfl, h2, h3⟩ := h1.yes E.out
    have H2 := Lib.hid h2
    have H3 := Lib.hid h3
    clear h1 h2 h3
    go_wp2
    go_ret
    exact ⟨H3.out, _, rfl, rfl, H2.out⟩
theorem offset_any (p B : Nat) (l : List Int) (w : World) (hR : RdIs w p B l) :
    Calls Tryd.prog 143 #[.pointer (some ⟨p, 0, none⟩)] w (RdP p B (rdN 4 l) IntV w) := by
  have HR := Lib.hid hR
  have HA := Lib.hid hR.all
  have HC := Lib.hid (fun w (h : RdIs w p B l) => rdnum_any 4 (by omega) p B l w h)
  clear hR
  cases hr : rdN 4 l with
  | none =>
    have E := Lib.hid hr
    clear hr
    go_enter Tryd.func143, Tryd.ntmps143
    go_wp2_with fail
    refine (HC.out _ HR.out).mono ?_
    intro e w1 h1
    obtain ⟨rfl, h3⟩ := h1.no E.out
    exact ⟨rfl, h3, rfl⟩
  | some xl =>
    obtain ⟨x, l'⟩ := xl
    have hb := rdN_bd (by omega) HA.out hr
    have hb1 : x < 4294967296 := hb.2
    have hb0 := hb.1
    have E := Lib.hid hr
    clear hr hb
    go_enter Tryd.func143, Tryd.ntmps143
    go_wp2_with fail
    refine (HC.out _ HR.out).mono ?_
    intro e w1 h1
    obtain ⟨v, rfl, rfl, h2, h3⟩ := h1.yes E.out
    have H2 := Lib.hid h2
    have H3 := Lib.hid h3
    clear h1 h2 h3
    go_wp2
    go_ret
    exact ⟨H3.out, _, rfl, rfl, H2.out⟩
theorem instr_any (p B : Nat) (l : List Int) (w : World) (hR : RdIs w p B l) :
    Calls Tryd.prog 101 #[.pointer (some ⟨p, 0, none⟩)] w (RdP p B (rdN 4 l) W32V w) := by
  have HR := Lib.hid hR
  have HA := Lib.hid hR.all
  have HC := Lib.hid (fun w (h : RdIs w p B l) => rdnum_any 4 (by omega) p B l w h)
  clear hR
  cases hr : rdN 4 l with
  | none =>
    have E := Lib.hid hr
    clear hr
    go_enter Tryd.func101, Tryd.ntmps101
    go_wp2_with fail
    refine (HC.out _ HR.out).mono ?_
    intro e w1 h1
    obtain ⟨rfl, h3⟩ := h1.no E.out
    exact ⟨rfl, h3, rfl⟩
  | some xl =>
    obtain ⟨x, l'⟩ := xl
    have hb := rdN_bd (by omega) HA.out hr
    have hb1 : x < 4294967296 := hb.2
    have hb0 := hb.1
    have E := Lib.hid hr
    clear hr hb
    go_enter Tryd.func101, Tryd.ntmps101
    go_wp2_with fail
    refine (HC.out _ HR.out).mono ?_
    intro e w1 h1
    obtain ⟨v, rfl, rfl, h2, h3⟩ := h1.yes E.out
    have H2 := Lib.hid h2
    have H3 := Lib.hid h3
    clear h1 h2 h3
    go_wp2
    go_ret
    exact ⟨H3.out, _, rfl, rfl, H2.out⟩
theorem rdword_any (p B : Nat) (l : List Int) (w : World) (hR : RdIs w p B l) :
    Calls Tryd.prog 103 #[.pointer (some ⟨p, 0, none⟩)] w (RdP p B (rdN 8 l) NumV w) := by
  have HR := Lib.hid hR
  have HA := Lib.hid hR.all
  have HC := Lib.hid (fun w (h : RdIs w p B l) => rdnum_any 8 (by omega) p B l w h)
  clear hR
  cases hr : rdN 8 l with
  | none =>
    have E := Lib.hid hr
    clear hr
    go_enter Tryd.func103, Tryd.ntmps103
    go_wp2_with fail
    refine (HC.out _ HR.out).mono ?_
    intro e w1 h1
    obtain ⟨rfl, h3⟩ := h1.no E.out
    exact ⟨rfl, h3, rfl⟩
  | some xl =>
    obtain ⟨x, l'⟩ := xl
    have hb := rdN_bd (by omega) HA.out hr
    have hb1 : x < 18446744073709551616 := hb.2
    have hb0 := hb.1
    have E := Lib.hid hr
    clear hr hb
    go_enter Tryd.func103, Tryd.ntmps103
    go_wp2_with fail
    refine (HC.out _ HR.out).mono ?_
    intro e w1 h1
    obtain ⟨v, rfl, rfl, h2, h3⟩ := h1.yes E.out
    have H2 := Lib.hid h2
    have H3 := Lib.hid h3
    clear h1 h2 h3
    go_wp2
    go_ret
    exact ⟨H3.out, _, rfl, rfl, H2.out⟩
theorem str_sl {w : World} {A : Option Addr} {x : List Int} {k c : Nat} (hs : Sl w A x) (hl : x.length = k) (ha : AllB x) : (convert 35 9 (.slice A k c)).run Tryd.prog w = .ok (.string (toBA x)) w := by
  subst hl
  rcases hs with e | ⟨b, o, e, hc⟩
  · subst e
    rcases A with _ | a
    · rw [run_convert_bytes_string w 35 9 5 none _ c Tryd.underlying35 Tryd.underlying5 Tryd.underlying9]
      simp [Conv.bytesToString, toBA]
      rfl
    · exact run_convert_bytes_back (P := Tryd.prog) w 35 9 5 a c [] Tryd.underlying35 Tryd.underlying5 Tryd.underlying9 (fun j hj => by simp at hj)
  · subst e
    have h := run_convert_bytes_back (P := Tryd.prog) w 35 9 5 ⟨b, o, none⟩ c (x.map (fun x => UInt8.ofNat x.toNat)) Tryd.underlying35 Tryd.underlying5 Tryd.underlying9 (fun j hj => by
      have hj' : j < x.length := by simpa using hj
      rw [addO, hc j hj', List.getElem_map, nth_get hj']
      have := ha _ (List.getElem_mem hj')
      congr 2
      simp
      omega)
    rw [List.length_map] at h
    exact h
set_option maxHeartbeats 1000000 in
theorem rdname_any (p B : Nat) (l : List Int) (w : World) (hR : RdIs w p B l) :
    Calls Tryd.prog 141 #[.pointer (some ⟨p, 0, none⟩)] w (RdP p B (rdName l) StrV w) := by
  have HR := Lib.hid hR
  have HA := Lib.hid hR.all
  clear hR
  cases hr : rdN 1 l with
  | none =>
    have HN := Lib.hid (show rdName l = none from rdBind_no hr)
    have E := Lib.hid hr
    clear hr
    go_enter Tryd.func141, Tryd.ntmps141
    go_wp2_with fail
    refine (small_any p B l _ HR.out).mono ?_
    intro e w1 h1
    obtain ⟨rfl, h3⟩ := h1.no E.out
    exact ⟨rfl, RdP.mkNo HN.out h3⟩
  | some xl =>
    obtain ⟨x, l1⟩ := xl
    have hb := rdN_back (by omega) HA.out hr
    have hx := hb.2.2.1.1
    obtain ⟨k, rfl⟩ := Int.eq_ofNat_of_zero_le hx
    have HA1 := Lib.hid hb.2.1
    have hnm : rdName l = rdBind (rdB k) (fun l => rdRet (toBA l)) l1 := by unfold rdName; rw [rdBind_at hr]; rfl
    have E := Lib.hid hr
    clear hb hx
    cases hr2 : rdB k l1 with
    | none =>
      have HN := Lib.hid (hnm.trans (rdBind_no hr2))
      have E2 := Lib.hid hr2
      clear hr hr2 hnm
      go_enter Tryd.func141, Tryd.ntmps141
      go_wp2_with fail
      refine (small_any p B l _ HR.out).mono ?_
      intro e w1 h1
      obtain ⟨v, rfl, rfl, h2, h3⟩ := h1.yes E.out
      have H2 := Lib.hid h2
      have H3 := Lib.hid h3
      clear h1 h2 h3
      go_wp2_with fail
      refine (take_any k p B l1 _ H2.out).mono ?_
      intro e w2 h1
      obtain ⟨rfl, h3⟩ := h1.no E2.out
      exact ⟨rfl, RdP.mkNo HN.out (H3.out.trans h3)⟩
    | some xl2 =>
      obtain ⟨x, l2⟩ := xl2
      have HN := Lib.hid (hnm.trans (rdBind_at hr2))
      have hax : AllB x := by
        unfold rdB at hr2
        split at hr2
        · simp only [Option.some.injEq, Prod.mk.injEq] at hr2
          rw [← hr2.1]; exact HA1.out.take k
        · cases hr2
      have HX := Lib.hid hax
      have E2 := Lib.hid hr2
      clear hr hr2 hnm hax
      go_enter Tryd.func141, Tryd.ntmps141
      go_wp2_with fail
      refine (small_any p B l _ HR.out).mono ?_
      intro e w1 h1
      obtain ⟨v, rfl, rfl, h2, h3⟩ := h1.yes E.out
      have H2 := Lib.hid h2
      have H3 := Lib.hid h3
      clear h1 h2 h3
      go_wp2_with fail
      refine (take_any k p B l1 _ H2.out).mono ?_
      intro e w2 h1
      obtain ⟨v, rfl, ⟨A, c, rfl, hs, hl⟩, h2, h3⟩ := h1.yes E2.out
      have H4 := Lib.hid h2
      have H5 := Lib.hid (H3.out.trans h3)
      have hcv := str_sl (c := c) hs.sl hl HX.out
      clear h1 h2 h3 hs hl
      go_wp2
      go_ret
      exact RdP.mkYes HN.out H5.out rfl H4.out
end Go.Proofs.YtfdpbogbnfkilaaDoor
